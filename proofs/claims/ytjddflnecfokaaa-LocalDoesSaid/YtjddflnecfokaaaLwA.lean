/- The walk of LocalDoes. -/
import Derived.Test.YtjddflnecfokaaaLwR
import Derived.Test.YtjddflnecfokaaaLoAl
import Derived.Test.YtjddflnecfokaaaFrM7
import Derived.Test.YtjddflnecfokaaaStp8
namespace Go.Proofs.Ytjddflnecfokaaa
open Go.ChangeShapes Go.WideShapes Go.ChangeAt Go.RowKit
open Gen

theorem apT_len (t : Thr) (self : Int) (i : In4) : (apT t self i).fs.length ≤ 6 := by
  by_cases h : apE t self i = 0
  · exact (rightT_len (right_do h).1).1
  · rw [apT_no h]; exact Nat.zero_le _
set_option maxRecDepth 100000 in
set_option maxHeartbeats 16000000 in
theorem LocalDoes_walk (t : Thr) (self : Int) (i : In4) (fa la : Option Addr) (fn fc ln lc : Nat) (w : World) (F : ThF w fa fn fc la ln lc t) :
    Calls Try.prog 3 #[.agg #[.int .i64 t.pc, .int .i64 (t.r 0), .int .i64 (t.r 1), .int .i64 (t.r 2), .int .i64 (t.r 3), .int .i64 (t.r 4), .int .i64 (t.r 5), .int .i64 (t.r 6), .int .i64 (t.r 7), .slice fa fn fc, .int .i64 t.st, .int .i64 t.ft, .slice la ln lc], .int .i64 self, .agg #[.int .i64 i.1, .int .i64 i.2.1, .int .i64 i.2.2.1, .int .i64 i.2.2.2]] w (BoolPost true w) := by
  have FU := few_F F
  have C1 := F.fcap
  have C2 := F.lcap
  obtain ⟨u, hu⟩ : ∃ u : Thr, cutT t (min fn 8) (min ln 10) = u := ⟨_, rfl⟩
  obtain ⟨m9, hm9⟩ : ∃ m, min fn 8 = m := ⟨_, rfl⟩
  obtain ⟨m12, hm12⟩ : ∃ m, min ln 10 = m := ⟨_, rfl⟩
  have hfew : ∀ w', Calls Try.prog 8 #[.agg #[.int .i64 t.pc, .int .i64 (t.r 0), .int .i64 (t.r 1), .int .i64 (t.r 2), .int .i64 (t.r 3), .int .i64 (t.r 4), .int .i64 (t.r 5), .int .i64 (t.r 6), .int .i64 (t.r 7), .slice fa fn fc, .int .i64 t.st, .int .i64 t.ft, .slice la ln lc]] w' (fun e w2 => e = .returned (.agg #[.int .i64 u.pc, .int .i64 (u.r 0), .int .i64 (u.r 1), .int .i64 (u.r 2), .int .i64 (u.r 3), .int .i64 (u.r 4), .int .i64 (u.r 5), .int .i64 (u.r 6), .int .i64 (u.r 7), .slice fa m9 fc, .int .i64 u.st, .int .i64 u.ft, .slice la m12 lc]) ∧ Below w'.heap.size w' w2) := fun w' => by
    have h := few7_any t fa la fn fc ln lc w' C1 C2
    rw [hm9, hm12] at h
    rw [← hu]; exact h
  rw [hu, hm9, hm12] at FU
  have HFEW := Lib.hid hfew
  have HM := Lib.hid (show m9 ≤ 8 ∧ m12 ≤ 10 by omega)
  have HFU := Lib.hid FU
  clear hu hm9 hm12 hfew C1 C2 FU F
  obtain ⟨W, hW⟩ : ∃ W, W = (w.alloc (Obj.cells #[.int .i64 t.pc, .int .i64 (t.r 0), .int .i64 (t.r 1), .int .i64 (t.r 2), .int .i64 (t.r 3), .int .i64 (t.r 4), .int .i64 (t.r 5), .int .i64 (t.r 6), .int .i64 (t.r 7), .slice fa fn fc, .int .i64 t.st, .int .i64 t.ft, .slice la ln lc] 27)).alloc (Obj.cells #[.int .i64 i.1, .int .i64 i.2.1, .int .i64 i.2.2.1, .int .i64 i.2.2.2] 29) := ⟨_, rfl⟩
  have X : VarN W w.heap.size [.int .i64 t.pc, .int .i64 (t.r 0), .int .i64 (t.r 1), .int .i64 (t.r 2), .int .i64 (t.r 3), .int .i64 (t.r 4), .int .i64 (t.r 5), .int .i64 (t.r 6), .int .i64 (t.r 7), .slice fa fn fc, .int .i64 t.st, .int .i64 t.ft, .slice la ln lc] := by rw [hW]; exact varN_A _ (varN_new [.int .i64 t.pc, .int .i64 (t.r 0), .int .i64 (t.r 1), .int .i64 (t.r 2), .int .i64 (t.r 3), .int .i64 (t.r 4), .int .i64 (t.r 5), .int .i64 (t.r 6), .int .i64 (t.r 7), .slice fa fn fc, .int .i64 t.st, .int .i64 t.ft, .slice la ln lc] _ rfl)
  have IV : VarN W (w.heap.size + 1) [.int .i64 i.1, .int .i64 i.2.1, .int .i64 i.2.2.1, .int .i64 i.2.2.2] := by rw [hW]; exact varN_new [.int .i64 i.1, .int .i64 i.2.1, .int .i64 i.2.2.1, .int .i64 i.2.2.2] _ (by simp)
  have hB : Below w.heap.size w W := by rw [hW]; go_grown
  have X3 := Lib.hid X
  have I5 := Lib.hid IV
  have HB0 := Lib.hid hB
  have HW := Lib.hid hW
  clear hW X IV hB
  go_enter Try.func3, Try.ntmps3
  go_upto_region 1 with fail
  rw [← HW.out]
  go_wp2_with (first | (refine wpList_load_mid rfl 27 _ rfl w.heap.size 0 rfl [.int .i64 t.pc, .int .i64 (t.r 0), .int .i64 (t.r 1), .int .i64 (t.r 2), .int .i64 (t.r 3), .int .i64 (t.r 4), .int .i64 (t.r 5), .int .i64 (t.r 6), .int .i64 (t.r 7), .slice fa fn fc, .int .i64 t.st, .int .i64 t.ft, .slice la ln lc] _ (varN_range X3.out) Try.underlying27 rfl (by kernel_rfl) ?_) | (refine wpList_load_mid rfl 29 _ rfl (w.heap.size + 1) 0 rfl [.int .i64 i.1, .int .i64 i.2.1, .int .i64 i.2.2.1, .int .i64 i.2.2.2] _ (varN_range I5.out) Try.underlying29 rfl (by kernel_rfl) ?_))
  have h0 := HFEW.out W
  refine h0.mono ?_
  clear h0
  rintro e v1 ⟨rfl, hb⟩
  have HB1 := Lib.hid (below_from HB0.out hb)
  have X1 := Lib.hid (varN_B hb X3.out)
  have I1 := Lib.hid (varN_B hb I5.out)
  clear hb X3 I5
  go_upto_region 2 with (refine wpList_store_var rfl 27 _ _ rfl w.heap.size #[.int .i64 u.pc, .int .i64 (u.r 0), .int .i64 (u.r 1), .int .i64 (u.r 2), .int .i64 (u.r 3), .int .i64 (u.r 4), .int .i64 (u.r 5), .int .i64 (u.r 6), .int .i64 (u.r 7), .slice fa m9 fc, .int .i64 u.st, .int .i64 u.ft, .slice la m12 lc] rfl rfl _ X1.out rfl (by kernel_rfl) (one_thr _ _ _ _ _ _ _) ?_; intro U HU)
  obtain ⟨U1, hUU⟩ : ∃ Z, Z = U := ⟨_, rfl⟩
  rw [← hUU] at HU ⊢
  clear hUU U
  have HB8 := Lib.hid (show Below w.heap.size w U1 from below_set HU (Nat.le_refl _) HB1.out)
  have X8 := Lib.hid (show VarN U1 w.heap.size [.int .i64 u.pc, .int .i64 (u.r 0), .int .i64 (u.r 1), .int .i64 (u.r 2), .int .i64 (u.r 3), .int .i64 (u.r 4), .int .i64 (u.r 5), .int .i64 (u.r 6), .int .i64 (u.r 7), .slice fa m9 fc, .int .i64 u.st, .int .i64 u.ft, .slice la m12 lc] by rw [HU.out]; exact varN_all (xs := [.int .i64 u.pc, .int .i64 (u.r 0), .int .i64 (u.r 1), .int .i64 (u.r 2), .int .i64 (u.r 3), .int .i64 (u.r 4), .int .i64 (u.r 5), .int .i64 (u.r 6), .int .i64 (u.r 7), .slice fa m9 fc, .int .i64 u.st, .int .i64 u.ft, .slice la m12 lc]) X1.out rfl)
  have I8 := Lib.hid (show VarN U1 (w.heap.size + 1) [.int .i64 i.1, .int .i64 i.2.1, .int .i64 i.2.2.1, .int .i64 i.2.2.2] by rw [HU.out]; exact varN_others (by omega) I1.out)
  have T8 := Lib.hid (thF_low HB8.out HFU.out)
  clear HU HB1 X1 I1 HFEW HFU
  obtain ⟨z, hz⟩ : ∃ z, apT u self i = z := ⟨_, rfl⟩
  obtain ⟨x, hx⟩ : ∃ x, apE u self i = x := ⟨_, rfl⟩
  have HZ := Lib.hid hz
  have HXE := Lib.hid hx
  have HZL := Lib.hid (show z.fs.length ≤ 6 by rw [← hz]; exact apT_len u self i)
  clear hz hx
  go_wp2_with (first | (refine wpList_load_mid rfl 27 _ rfl w.heap.size 0 rfl [.int .i64 u.pc, .int .i64 (u.r 0), .int .i64 (u.r 1), .int .i64 (u.r 2), .int .i64 (u.r 3), .int .i64 (u.r 4), .int .i64 (u.r 5), .int .i64 (u.r 6), .int .i64 (u.r 7), .slice fa m9 fc, .int .i64 u.st, .int .i64 u.ft, .slice la m12 lc] _ (varN_range X8.out) Try.underlying27 rfl (by kernel_rfl) ?_) | (refine wpList_load_mid rfl 29 _ rfl (w.heap.size + 1) 0 rfl [.int .i64 i.1, .int .i64 i.2.1, .int .i64 i.2.2.1, .int .i64 i.2.2.2] _ (varN_range I8.out) Try.underlying29 rfl (by kernel_rfl) ?_))
  have h0 := apply_any u self i fa la m9 fc m12 lc U1 T8.out
  rw [HZ.out, HXE.out] at h0
  refine h0.mono ?_
  clear h0
  rintro e v2 ⟨fb, gc, lb, hc, rfl, Q1, hb⟩
  have HB2 := Lib.hid (below_from HB8.out hb)
  have X2 := Lib.hid (varN_B hb X8.out)
  have I2 := Lib.hid (varN_B hb I8.out)
  have T2 := Lib.hid (thF_B hb T8.out)
  clear hb X8 I8 T8
  obtain ⟨bn, hbn⟩ : ∃ n, z.fs.length = n := ⟨_, rfl⟩
  obtain ⟨dn, hdn⟩ : ∃ n, z.lf.length = n := ⟨_, rfl⟩
  rw [hbn, hdn] at Q1 ⊢
  have Z1 := Lib.hid Q1.f
  have HBN := Lib.hid (And.intro hbn hdn)
  clear Q1 hbn hdn
  go_upto_region 3 with (refine wpList_store_var rfl 27 _ _ rfl v2.heap.size #[.int .i64 z.pc, .int .i64 (z.r 0), .int .i64 (z.r 1), .int .i64 (z.r 2), .int .i64 (z.r 3), .int .i64 (z.r 4), .int .i64 (z.r 5), .int .i64 (z.r 6), .int .i64 (z.r 7), .slice fb bn gc, .int .i64 z.st, .int .i64 z.ft, .slice lb dn hc] rfl rfl _ (varN_new [.int .i64 0, .int .i64 0, .int .i64 0, .int .i64 0, .int .i64 0, .int .i64 0, .int .i64 0, .int .i64 0, .int .i64 0, .slice none 0 0, .int .i64 0, .int .i64 0, .slice none 0 0] v2.heap.size rfl) rfl (by kernel_rfl) (one_thr _ _ _ _ _ _ _) ?_; intro U HU)
  obtain ⟨U3, hUU⟩ : ∃ Z, Z = U := ⟨_, rfl⟩
  rw [← hUU] at HU ⊢
  clear hUU U
  have hb : Below v2.heap.size v2 U3 := by rw [HU.out]; exact below_setN (Nat.le_refl _) ((Below.refl _ _).alloc (Nat.le_refl _) _)
  have A0 := Lib.hid (show VarN U3 v2.heap.size [.int .i64 z.pc, .int .i64 (z.r 0), .int .i64 (z.r 1), .int .i64 (z.r 2), .int .i64 (z.r 3), .int .i64 (z.r 4), .int .i64 (z.r 5), .int .i64 (z.r 6), .int .i64 (z.r 7), .slice fb bn gc, .int .i64 z.st, .int .i64 z.ft, .slice lb dn hc] by rw [HU.out]; exact varN_all (xs := [.int .i64 z.pc, .int .i64 (z.r 0), .int .i64 (z.r 1), .int .i64 (z.r 2), .int .i64 (z.r 3), .int .i64 (z.r 4), .int .i64 (z.r 5), .int .i64 (z.r 6), .int .i64 (z.r 7), .slice fb bn gc, .int .i64 z.st, .int .i64 z.ft, .slice lb dn hc]) (varN_new [.int .i64 0, .int .i64 0, .int .i64 0, .int .i64 0, .int .i64 0, .int .i64 0, .int .i64 0, .int .i64 0, .int .i64 0, .slice none 0 0, .int .i64 0, .int .i64 0, .slice none 0 0] v2.heap.size rfl) rfl)
  have HB3 := Lib.hid (below_from HB2.out hb)
  have X3 := Lib.hid (varN_B hb X2.out)
  have I3 := Lib.hid (varN_B hb I2.out)
  have T3 := Lib.hid (thF_B hb T2.out)
  have Z3 := Lib.hid (thF_B hb Z1.out)
  clear hb HU X2 I2 T2 Z1
  cases hr : rightT u with
  | false =>
    have HR := Lib.hid hr
    clear hr
    obtain rfl : x = 1 := by rw [← HXE.out]; exact (by rw [apE, if_pos (.inl (by rw [mayT7, HR.out]; rfl))])
    obtain rfl : z = zThr := by rw [← HZ.out]; exact apT_no (by rw [HXE.out]; decide)
    have HBZ := Lib.hid (show bn ≤ 0 by have h := HBN.out.1; rw [← h]; exact Nat.le_refl _)
    go_wp2_with (first | (refine wpList_load_mid rfl 27 _ rfl w.heap.size 0 rfl [.int .i64 u.pc, .int .i64 (u.r 0), .int .i64 (u.r 1), .int .i64 (u.r 2), .int .i64 (u.r 3), .int .i64 (u.r 4), .int .i64 (u.r 5), .int .i64 (u.r 6), .int .i64 (u.r 7), .slice fa m9 fc, .int .i64 u.st, .int .i64 u.ft, .slice la m12 lc] _ (varN_range X3.out) Try.underlying27 rfl (by kernel_rfl) ?_) | (refine wpList_load_mid rfl 29 _ rfl (w.heap.size + 1) 0 rfl [.int .i64 i.1, .int .i64 i.2.1, .int .i64 i.2.2.1, .int .i64 i.2.2.2] _ (varN_range I3.out) Try.underlying29 rfl (by kernel_rfl) ?_) | (refine wpList_load_mid rfl 27 _ rfl v2.heap.size 0 rfl [.int .i64 z.pc, .int .i64 (z.r 0), .int .i64 (z.r 1), .int .i64 (z.r 2), .int .i64 (z.r 3), .int .i64 (z.r 4), .int .i64 (z.r 5), .int .i64 (z.r 6), .int .i64 (z.r 7), .slice fb bn gc, .int .i64 z.st, .int .i64 z.ft, .slice lb dn hc] _ (varN_range A0.out) Try.underlying27 rfl (by kernel_rfl) ?_))
    have h0 := refRight6_any u fa la m9 fc m12 lc U3 T3.out
    rw [HR.out] at h0
    refine h0.mono ?_
    clear h0
    rintro e v4 ⟨rfl, hb⟩
    have HB4 := Lib.hid (below_from HB3.out hb)
    have X4 := Lib.hid (varN_B hb X3.out)
    have I4 := Lib.hid (varN_B hb I3.out)
    have A4 := Lib.hid (varN_B hb A0.out)
    have T4 := Lib.hid (thF_B hb T3.out)
    have Z4 := Lib.hid (thF_B hb Z3.out)
    clear hb X3 I3 A0 T3 Z3
    go_upto_region 13 with (first | (refine wpList_load_mid rfl 27 _ rfl w.heap.size 0 rfl [.int .i64 u.pc, .int .i64 (u.r 0), .int .i64 (u.r 1), .int .i64 (u.r 2), .int .i64 (u.r 3), .int .i64 (u.r 4), .int .i64 (u.r 5), .int .i64 (u.r 6), .int .i64 (u.r 7), .slice fa m9 fc, .int .i64 u.st, .int .i64 u.ft, .slice la m12 lc] _ (varN_range X4.out) Try.underlying27 rfl (by kernel_rfl) ?_) | (refine wpList_load_mid rfl 29 _ rfl (w.heap.size + 1) 0 rfl [.int .i64 i.1, .int .i64 i.2.1, .int .i64 i.2.2.1, .int .i64 i.2.2.2] _ (varN_range I4.out) Try.underlying29 rfl (by kernel_rfl) ?_) | (refine wpList_load_mid rfl 27 _ rfl v2.heap.size 0 rfl [.int .i64 z.pc, .int .i64 (z.r 0), .int .i64 (z.r 1), .int .i64 (z.r 2), .int .i64 (z.r 3), .int .i64 (z.r 4), .int .i64 (z.r 5), .int .i64 (z.r 6), .int .i64 (z.r 7), .slice fb bn gc, .int .i64 z.st, .int .i64 z.ft, .slice lb dn hc] _ (varN_range A4.out) Try.underlying27 rfl (by kernel_rfl) ?_))
    go_wp2_with (first | (refine wpList_load_mid rfl 27 _ rfl w.heap.size 0 rfl [.int .i64 u.pc, .int .i64 (u.r 0), .int .i64 (u.r 1), .int .i64 (u.r 2), .int .i64 (u.r 3), .int .i64 (u.r 4), .int .i64 (u.r 5), .int .i64 (u.r 6), .int .i64 (u.r 7), .slice fa m9 fc, .int .i64 u.st, .int .i64 u.ft, .slice la m12 lc] _ (varN_range X4.out) Try.underlying27 rfl (by kernel_rfl) ?_) | (refine wpList_load_mid rfl 29 _ rfl (w.heap.size + 1) 0 rfl [.int .i64 i.1, .int .i64 i.2.1, .int .i64 i.2.2.1, .int .i64 i.2.2.2] _ (varN_range I4.out) Try.underlying29 rfl (by kernel_rfl) ?_) | (refine wpList_load_mid rfl 27 _ rfl v2.heap.size 0 rfl [.int .i64 z.pc, .int .i64 (z.r 0), .int .i64 (z.r 1), .int .i64 (z.r 2), .int .i64 (z.r 3), .int .i64 (z.r 4), .int .i64 (z.r 5), .int .i64 (z.r 6), .int .i64 (z.r 7), .slice fb bn gc, .int .i64 z.st, .int .i64 z.ft, .slice lb dn hc] _ (varN_range A4.out) Try.underlying27 rfl (by kernel_rfl) ?_))
    have h0 := alive7_any v4
    refine h0.mono ?_
    clear h0
    rintro e v5 ⟨rfl, hb⟩
    have HB5 := Lib.hid (below_from HB4.out hb)
    have X5 := Lib.hid (varN_B hb X4.out)
    have I5 := Lib.hid (varN_B hb I4.out)
    have A5 := Lib.hid (varN_B hb A4.out)
    have T5 := Lib.hid (thF_B hb T4.out)
    have Z5 := Lib.hid (thF_B hb Z4.out)
    clear hb X4 I4 A4 T4 Z4
    have ka0 := (A5.out 0 _ rfl).1
    have ka1 := (A5.out 1 _ rfl).1
    have ka2 := (A5.out 2 _ rfl).1
    have ka3 := (A5.out 3 _ rfl).1
    have ka4 := (A5.out 4 _ rfl).1
    have ka5 := (A5.out 5 _ rfl).1
    have ka6 := (A5.out 6 _ rfl).1
    have ka7 := (A5.out 7 _ rfl).1
    have ka8 := (A5.out 8 _ rfl).1
    have ka9 := (A5.out 9 _ rfl).1
    have ka10 := (A5.out 10 _ rfl).1
    have ka11 := (A5.out 11 _ rfl).1
    have ka12 := (A5.out 12 _ rfl).1
    go_wp2_with (first | (refine wpList_load_mid rfl 27 _ rfl w.heap.size 0 rfl [.int .i64 u.pc, .int .i64 (u.r 0), .int .i64 (u.r 1), .int .i64 (u.r 2), .int .i64 (u.r 3), .int .i64 (u.r 4), .int .i64 (u.r 5), .int .i64 (u.r 6), .int .i64 (u.r 7), .slice fa m9 fc, .int .i64 u.st, .int .i64 u.ft, .slice la m12 lc] _ (varN_range X5.out) Try.underlying27 rfl (by kernel_rfl) ?_) | (refine wpList_load_mid rfl 29 _ rfl (w.heap.size + 1) 0 rfl [.int .i64 i.1, .int .i64 i.2.1, .int .i64 i.2.2.1, .int .i64 i.2.2.2] _ (varN_range I5.out) Try.underlying29 rfl (by kernel_rfl) ?_) | (refine wpList_load_mid rfl 27 _ rfl v2.heap.size 0 rfl [.int .i64 z.pc, .int .i64 (z.r 0), .int .i64 (z.r 1), .int .i64 (z.r 2), .int .i64 (z.r 3), .int .i64 (z.r 4), .int .i64 (z.r 5), .int .i64 (z.r 6), .int .i64 (z.r 7), .slice fb bn gc, .int .i64 z.st, .int .i64 z.ft, .slice lb dn hc] _ (varN_range A5.out) Try.underlying27 rfl (by kernel_rfl) ?_))
    have h0 := refSame6_any zThr zThr fb lb bn gc dn hc none none 0 0 0 0 v5 Z5.out (thF_zero _) (by have := HBZ.out; omega)
    rw [sameT_self] at h0
    refine h0.mono ?_
    clear h0
    rintro e v6 ⟨rfl, hb⟩
    have HB6 := Lib.hid (below_from HB5.out hb)
    have X6 := Lib.hid (varN_B hb X5.out)
    have I6 := Lib.hid (varN_B hb I5.out)
    have A6 := Lib.hid (varN_B hb A5.out)
    have T6 := Lib.hid (thF_B hb T5.out)
    have Z6 := Lib.hid (thF_B hb Z5.out)
    clear hb X5 I5 A5 T5 Z5 ka0 ka1 ka2 ka3 ka4 ka5 ka6 ka7 ka8 ka9 ka10 ka11 ka12
    go_wp2_with (first | (refine wpList_load_mid rfl 27 _ rfl w.heap.size 0 rfl [.int .i64 u.pc, .int .i64 (u.r 0), .int .i64 (u.r 1), .int .i64 (u.r 2), .int .i64 (u.r 3), .int .i64 (u.r 4), .int .i64 (u.r 5), .int .i64 (u.r 6), .int .i64 (u.r 7), .slice fa m9 fc, .int .i64 u.st, .int .i64 u.ft, .slice la m12 lc] _ (varN_range X6.out) Try.underlying27 rfl (by kernel_rfl) ?_) | (refine wpList_load_mid rfl 29 _ rfl (w.heap.size + 1) 0 rfl [.int .i64 i.1, .int .i64 i.2.1, .int .i64 i.2.2.1, .int .i64 i.2.2.2] _ (varN_range I6.out) Try.underlying29 rfl (by kernel_rfl) ?_) | (refine wpList_load_mid rfl 27 _ rfl v2.heap.size 0 rfl [.int .i64 z.pc, .int .i64 (z.r 0), .int .i64 (z.r 1), .int .i64 (z.r 2), .int .i64 (z.r 3), .int .i64 (z.r 4), .int .i64 (z.r 5), .int .i64 (z.r 6), .int .i64 (z.r 7), .slice fb bn gc, .int .i64 z.st, .int .i64 z.ft, .slice lb dn hc] _ (varN_range A6.out) Try.underlying27 rfl (by kernel_rfl) ?_))
    go_ret
    exact boolPost_mk rfl HB6.out
  | true =>
    have HR := Lib.hid hr
    clear hr
    go_wp2_with (first | (refine wpList_load_mid rfl 27 _ rfl w.heap.size 0 rfl [.int .i64 u.pc, .int .i64 (u.r 0), .int .i64 (u.r 1), .int .i64 (u.r 2), .int .i64 (u.r 3), .int .i64 (u.r 4), .int .i64 (u.r 5), .int .i64 (u.r 6), .int .i64 (u.r 7), .slice fa m9 fc, .int .i64 u.st, .int .i64 u.ft, .slice la m12 lc] _ (varN_range X3.out) Try.underlying27 rfl (by kernel_rfl) ?_) | (refine wpList_load_mid rfl 29 _ rfl (w.heap.size + 1) 0 rfl [.int .i64 i.1, .int .i64 i.2.1, .int .i64 i.2.2.1, .int .i64 i.2.2.2] _ (varN_range I3.out) Try.underlying29 rfl (by kernel_rfl) ?_) | (refine wpList_load_mid rfl 27 _ rfl v2.heap.size 0 rfl [.int .i64 z.pc, .int .i64 (z.r 0), .int .i64 (z.r 1), .int .i64 (z.r 2), .int .i64 (z.r 3), .int .i64 (z.r 4), .int .i64 (z.r 5), .int .i64 (z.r 6), .int .i64 (z.r 7), .slice fb bn gc, .int .i64 z.st, .int .i64 z.ft, .slice lb dn hc] _ (varN_range A0.out) Try.underlying27 rfl (by kernel_rfl) ?_))
    have h0 := refRight6_any u fa la m9 fc m12 lc U3 T3.out
    rw [HR.out] at h0
    refine h0.mono ?_
    clear h0
    rintro e v4 ⟨rfl, hb⟩
    have HB4 := Lib.hid (below_from HB3.out hb)
    have X4 := Lib.hid (varN_B hb X3.out)
    have I4 := Lib.hid (varN_B hb I3.out)
    have A4 := Lib.hid (varN_B hb A0.out)
    have T4 := Lib.hid (thF_B hb T3.out)
    have Z4 := Lib.hid (thF_B hb Z3.out)
    clear hb X3 I3 A0 T3 Z3
    have kpc := (X4.out 0 _ rfl).1
    by_cases hp : u.pc = 1000
    · skip
      have HP := Lib.hid hp
      rw [hp] at kpc
      clear hp
      obtain rfl : x = 1 := by rw [← HXE.out]; exact (by rw [apE, if_pos (.inr HP.out)])
      obtain rfl : z = zThr := by rw [← HZ.out]; exact apT_no (by rw [HXE.out]; decide)
      have HBZ := Lib.hid (show bn ≤ 0 by have h := HBN.out.1; rw [← h]; exact Nat.le_refl _)
      go_upto_region 13 with (first | (refine wpList_load_mid rfl 27 _ rfl w.heap.size 0 rfl [.int .i64 u.pc, .int .i64 (u.r 0), .int .i64 (u.r 1), .int .i64 (u.r 2), .int .i64 (u.r 3), .int .i64 (u.r 4), .int .i64 (u.r 5), .int .i64 (u.r 6), .int .i64 (u.r 7), .slice fa m9 fc, .int .i64 u.st, .int .i64 u.ft, .slice la m12 lc] _ (varN_range X4.out) Try.underlying27 rfl (by kernel_rfl) ?_) | (refine wpList_load_mid rfl 29 _ rfl (w.heap.size + 1) 0 rfl [.int .i64 i.1, .int .i64 i.2.1, .int .i64 i.2.2.1, .int .i64 i.2.2.2] _ (varN_range I4.out) Try.underlying29 rfl (by kernel_rfl) ?_) | (refine wpList_load_mid rfl 27 _ rfl v2.heap.size 0 rfl [.int .i64 z.pc, .int .i64 (z.r 0), .int .i64 (z.r 1), .int .i64 (z.r 2), .int .i64 (z.r 3), .int .i64 (z.r 4), .int .i64 (z.r 5), .int .i64 (z.r 6), .int .i64 (z.r 7), .slice fb bn gc, .int .i64 z.st, .int .i64 z.ft, .slice lb dn hc] _ (varN_range A4.out) Try.underlying27 rfl (by kernel_rfl) ?_))
      go_wp2_with (first | (refine wpList_load_mid rfl 27 _ rfl w.heap.size 0 rfl [.int .i64 u.pc, .int .i64 (u.r 0), .int .i64 (u.r 1), .int .i64 (u.r 2), .int .i64 (u.r 3), .int .i64 (u.r 4), .int .i64 (u.r 5), .int .i64 (u.r 6), .int .i64 (u.r 7), .slice fa m9 fc, .int .i64 u.st, .int .i64 u.ft, .slice la m12 lc] _ (varN_range X4.out) Try.underlying27 rfl (by kernel_rfl) ?_) | (refine wpList_load_mid rfl 29 _ rfl (w.heap.size + 1) 0 rfl [.int .i64 i.1, .int .i64 i.2.1, .int .i64 i.2.2.1, .int .i64 i.2.2.2] _ (varN_range I4.out) Try.underlying29 rfl (by kernel_rfl) ?_) | (refine wpList_load_mid rfl 27 _ rfl v2.heap.size 0 rfl [.int .i64 z.pc, .int .i64 (z.r 0), .int .i64 (z.r 1), .int .i64 (z.r 2), .int .i64 (z.r 3), .int .i64 (z.r 4), .int .i64 (z.r 5), .int .i64 (z.r 6), .int .i64 (z.r 7), .slice fb bn gc, .int .i64 z.st, .int .i64 z.ft, .slice lb dn hc] _ (varN_range A4.out) Try.underlying27 rfl (by kernel_rfl) ?_))
      have h0 := alive7_any v4
      refine h0.mono ?_
      clear h0
      rintro e v5 ⟨rfl, hb⟩
      have HB5 := Lib.hid (below_from HB4.out hb)
      have X5 := Lib.hid (varN_B hb X4.out)
      have I5 := Lib.hid (varN_B hb I4.out)
      have A5 := Lib.hid (varN_B hb A4.out)
      have T5 := Lib.hid (thF_B hb T4.out)
      have Z5 := Lib.hid (thF_B hb Z4.out)
      clear hb X4 I4 A4 T4 Z4
      have ka0 := (A5.out 0 _ rfl).1
      have ka1 := (A5.out 1 _ rfl).1
      have ka2 := (A5.out 2 _ rfl).1
      have ka3 := (A5.out 3 _ rfl).1
      have ka4 := (A5.out 4 _ rfl).1
      have ka5 := (A5.out 5 _ rfl).1
      have ka6 := (A5.out 6 _ rfl).1
      have ka7 := (A5.out 7 _ rfl).1
      have ka8 := (A5.out 8 _ rfl).1
      have ka9 := (A5.out 9 _ rfl).1
      have ka10 := (A5.out 10 _ rfl).1
      have ka11 := (A5.out 11 _ rfl).1
      have ka12 := (A5.out 12 _ rfl).1
      go_wp2_with (first | (refine wpList_load_mid rfl 27 _ rfl w.heap.size 0 rfl [.int .i64 u.pc, .int .i64 (u.r 0), .int .i64 (u.r 1), .int .i64 (u.r 2), .int .i64 (u.r 3), .int .i64 (u.r 4), .int .i64 (u.r 5), .int .i64 (u.r 6), .int .i64 (u.r 7), .slice fa m9 fc, .int .i64 u.st, .int .i64 u.ft, .slice la m12 lc] _ (varN_range X5.out) Try.underlying27 rfl (by kernel_rfl) ?_) | (refine wpList_load_mid rfl 29 _ rfl (w.heap.size + 1) 0 rfl [.int .i64 i.1, .int .i64 i.2.1, .int .i64 i.2.2.1, .int .i64 i.2.2.2] _ (varN_range I5.out) Try.underlying29 rfl (by kernel_rfl) ?_) | (refine wpList_load_mid rfl 27 _ rfl v2.heap.size 0 rfl [.int .i64 z.pc, .int .i64 (z.r 0), .int .i64 (z.r 1), .int .i64 (z.r 2), .int .i64 (z.r 3), .int .i64 (z.r 4), .int .i64 (z.r 5), .int .i64 (z.r 6), .int .i64 (z.r 7), .slice fb bn gc, .int .i64 z.st, .int .i64 z.ft, .slice lb dn hc] _ (varN_range A5.out) Try.underlying27 rfl (by kernel_rfl) ?_))
      have h0 := refSame6_any zThr zThr fb lb bn gc dn hc none none 0 0 0 0 v5 Z5.out (thF_zero _) (by have := HBZ.out; omega)
      rw [sameT_self] at h0
      refine h0.mono ?_
      clear h0
      rintro e v6 ⟨rfl, hb⟩
      have HB6 := Lib.hid (below_from HB5.out hb)
      have X6 := Lib.hid (varN_B hb X5.out)
      have I6 := Lib.hid (varN_B hb I5.out)
      have A6 := Lib.hid (varN_B hb A5.out)
      have T6 := Lib.hid (thF_B hb T5.out)
      have Z6 := Lib.hid (thF_B hb Z5.out)
      clear hb X5 I5 A5 T5 Z5 ka0 ka1 ka2 ka3 ka4 ka5 ka6 ka7 ka8 ka9 ka10 ka11 ka12
      go_wp2_with (first | (refine wpList_load_mid rfl 27 _ rfl w.heap.size 0 rfl [.int .i64 u.pc, .int .i64 (u.r 0), .int .i64 (u.r 1), .int .i64 (u.r 2), .int .i64 (u.r 3), .int .i64 (u.r 4), .int .i64 (u.r 5), .int .i64 (u.r 6), .int .i64 (u.r 7), .slice fa m9 fc, .int .i64 u.st, .int .i64 u.ft, .slice la m12 lc] _ (varN_range X6.out) Try.underlying27 rfl (by kernel_rfl) ?_) | (refine wpList_load_mid rfl 29 _ rfl (w.heap.size + 1) 0 rfl [.int .i64 i.1, .int .i64 i.2.1, .int .i64 i.2.2.1, .int .i64 i.2.2.2] _ (varN_range I6.out) Try.underlying29 rfl (by kernel_rfl) ?_) | (refine wpList_load_mid rfl 27 _ rfl v2.heap.size 0 rfl [.int .i64 z.pc, .int .i64 (z.r 0), .int .i64 (z.r 1), .int .i64 (z.r 2), .int .i64 (z.r 3), .int .i64 (z.r 4), .int .i64 (z.r 5), .int .i64 (z.r 6), .int .i64 (z.r 7), .slice fb bn gc, .int .i64 z.st, .int .i64 z.ft, .slice lb dn hc] _ (varN_range A6.out) Try.underlying27 rfl (by kernel_rfl) ?_))
      go_ret
      exact boolPost_mk rfl HB6.out
    · have hpb : (u.pc == 1000) = false := by simpa using hp
      have HP := Lib.hid hp
      clear hp
      by_cases hs1 : self < 0
      · skip
        have HS := Lib.hid hs1
        obtain rfl : x = 1 := by rw [← HXE.out]; exact (by rw [apE, if_pos (.inl (by rw [mayT7, HR.out, Bool.true_and, decide_eq_false]; have := HS.out; omega))])
        obtain rfl : z = zThr := by rw [← HZ.out]; exact apT_no (by rw [HXE.out]; decide)
        have HBZ := Lib.hid (show bn ≤ 0 by have h := HBN.out.1; rw [← h]; exact Nat.le_refl _)
        go_upto_region 13 with (first | (refine wpList_load_mid rfl 27 _ rfl w.heap.size 0 rfl [.int .i64 u.pc, .int .i64 (u.r 0), .int .i64 (u.r 1), .int .i64 (u.r 2), .int .i64 (u.r 3), .int .i64 (u.r 4), .int .i64 (u.r 5), .int .i64 (u.r 6), .int .i64 (u.r 7), .slice fa m9 fc, .int .i64 u.st, .int .i64 u.ft, .slice la m12 lc] _ (varN_range X4.out) Try.underlying27 rfl (by kernel_rfl) ?_) | (refine wpList_load_mid rfl 29 _ rfl (w.heap.size + 1) 0 rfl [.int .i64 i.1, .int .i64 i.2.1, .int .i64 i.2.2.1, .int .i64 i.2.2.2] _ (varN_range I4.out) Try.underlying29 rfl (by kernel_rfl) ?_) | (refine wpList_load_mid rfl 27 _ rfl v2.heap.size 0 rfl [.int .i64 z.pc, .int .i64 (z.r 0), .int .i64 (z.r 1), .int .i64 (z.r 2), .int .i64 (z.r 3), .int .i64 (z.r 4), .int .i64 (z.r 5), .int .i64 (z.r 6), .int .i64 (z.r 7), .slice fb bn gc, .int .i64 z.st, .int .i64 z.ft, .slice lb dn hc] _ (varN_range A4.out) Try.underlying27 rfl (by kernel_rfl) ?_))
        go_wp2_with (first | (refine wpList_load_mid rfl 27 _ rfl w.heap.size 0 rfl [.int .i64 u.pc, .int .i64 (u.r 0), .int .i64 (u.r 1), .int .i64 (u.r 2), .int .i64 (u.r 3), .int .i64 (u.r 4), .int .i64 (u.r 5), .int .i64 (u.r 6), .int .i64 (u.r 7), .slice fa m9 fc, .int .i64 u.st, .int .i64 u.ft, .slice la m12 lc] _ (varN_range X4.out) Try.underlying27 rfl (by kernel_rfl) ?_) | (refine wpList_load_mid rfl 29 _ rfl (w.heap.size + 1) 0 rfl [.int .i64 i.1, .int .i64 i.2.1, .int .i64 i.2.2.1, .int .i64 i.2.2.2] _ (varN_range I4.out) Try.underlying29 rfl (by kernel_rfl) ?_) | (refine wpList_load_mid rfl 27 _ rfl v2.heap.size 0 rfl [.int .i64 z.pc, .int .i64 (z.r 0), .int .i64 (z.r 1), .int .i64 (z.r 2), .int .i64 (z.r 3), .int .i64 (z.r 4), .int .i64 (z.r 5), .int .i64 (z.r 6), .int .i64 (z.r 7), .slice fb bn gc, .int .i64 z.st, .int .i64 z.ft, .slice lb dn hc] _ (varN_range A4.out) Try.underlying27 rfl (by kernel_rfl) ?_))
        have h0 := alive7_any v4
        refine h0.mono ?_
        clear h0
        rintro e v5 ⟨rfl, hb⟩
        have HB5 := Lib.hid (below_from HB4.out hb)
        have X5 := Lib.hid (varN_B hb X4.out)
        have I5 := Lib.hid (varN_B hb I4.out)
        have A5 := Lib.hid (varN_B hb A4.out)
        have T5 := Lib.hid (thF_B hb T4.out)
        have Z5 := Lib.hid (thF_B hb Z4.out)
        clear hb X4 I4 A4 T4 Z4
        have ka0 := (A5.out 0 _ rfl).1
        have ka1 := (A5.out 1 _ rfl).1
        have ka2 := (A5.out 2 _ rfl).1
        have ka3 := (A5.out 3 _ rfl).1
        have ka4 := (A5.out 4 _ rfl).1
        have ka5 := (A5.out 5 _ rfl).1
        have ka6 := (A5.out 6 _ rfl).1
        have ka7 := (A5.out 7 _ rfl).1
        have ka8 := (A5.out 8 _ rfl).1
        have ka9 := (A5.out 9 _ rfl).1
        have ka10 := (A5.out 10 _ rfl).1
        have ka11 := (A5.out 11 _ rfl).1
        have ka12 := (A5.out 12 _ rfl).1
        go_wp2_with (first | (refine wpList_load_mid rfl 27 _ rfl w.heap.size 0 rfl [.int .i64 u.pc, .int .i64 (u.r 0), .int .i64 (u.r 1), .int .i64 (u.r 2), .int .i64 (u.r 3), .int .i64 (u.r 4), .int .i64 (u.r 5), .int .i64 (u.r 6), .int .i64 (u.r 7), .slice fa m9 fc, .int .i64 u.st, .int .i64 u.ft, .slice la m12 lc] _ (varN_range X5.out) Try.underlying27 rfl (by kernel_rfl) ?_) | (refine wpList_load_mid rfl 29 _ rfl (w.heap.size + 1) 0 rfl [.int .i64 i.1, .int .i64 i.2.1, .int .i64 i.2.2.1, .int .i64 i.2.2.2] _ (varN_range I5.out) Try.underlying29 rfl (by kernel_rfl) ?_) | (refine wpList_load_mid rfl 27 _ rfl v2.heap.size 0 rfl [.int .i64 z.pc, .int .i64 (z.r 0), .int .i64 (z.r 1), .int .i64 (z.r 2), .int .i64 (z.r 3), .int .i64 (z.r 4), .int .i64 (z.r 5), .int .i64 (z.r 6), .int .i64 (z.r 7), .slice fb bn gc, .int .i64 z.st, .int .i64 z.ft, .slice lb dn hc] _ (varN_range A5.out) Try.underlying27 rfl (by kernel_rfl) ?_))
        have h0 := refSame6_any zThr zThr fb lb bn gc dn hc none none 0 0 0 0 v5 Z5.out (thF_zero _) (by have := HBZ.out; omega)
        rw [sameT_self] at h0
        refine h0.mono ?_
        clear h0
        rintro e v6 ⟨rfl, hb⟩
        have HB6 := Lib.hid (below_from HB5.out hb)
        have X6 := Lib.hid (varN_B hb X5.out)
        have I6 := Lib.hid (varN_B hb I5.out)
        have A6 := Lib.hid (varN_B hb A5.out)
        have T6 := Lib.hid (thF_B hb T5.out)
        have Z6 := Lib.hid (thF_B hb Z5.out)
        clear hb X5 I5 A5 T5 Z5 ka0 ka1 ka2 ka3 ka4 ka5 ka6 ka7 ka8 ka9 ka10 ka11 ka12
        go_wp2_with (first | (refine wpList_load_mid rfl 27 _ rfl w.heap.size 0 rfl [.int .i64 u.pc, .int .i64 (u.r 0), .int .i64 (u.r 1), .int .i64 (u.r 2), .int .i64 (u.r 3), .int .i64 (u.r 4), .int .i64 (u.r 5), .int .i64 (u.r 6), .int .i64 (u.r 7), .slice fa m9 fc, .int .i64 u.st, .int .i64 u.ft, .slice la m12 lc] _ (varN_range X6.out) Try.underlying27 rfl (by kernel_rfl) ?_) | (refine wpList_load_mid rfl 29 _ rfl (w.heap.size + 1) 0 rfl [.int .i64 i.1, .int .i64 i.2.1, .int .i64 i.2.2.1, .int .i64 i.2.2.2] _ (varN_range I6.out) Try.underlying29 rfl (by kernel_rfl) ?_) | (refine wpList_load_mid rfl 27 _ rfl v2.heap.size 0 rfl [.int .i64 z.pc, .int .i64 (z.r 0), .int .i64 (z.r 1), .int .i64 (z.r 2), .int .i64 (z.r 3), .int .i64 (z.r 4), .int .i64 (z.r 5), .int .i64 (z.r 6), .int .i64 (z.r 7), .slice fb bn gc, .int .i64 z.st, .int .i64 z.ft, .slice lb dn hc] _ (varN_range A6.out) Try.underlying27 rfl (by kernel_rfl) ?_))
        go_ret
        exact boolPost_mk rfl HB6.out
      · by_cases hs2 : 7 < self
        · skip
          have HS := Lib.hid hs2
          obtain rfl : x = 1 := by rw [← HXE.out]; exact (by rw [apE, if_pos (.inl (by rw [mayT7, HR.out, Bool.true_and, decide_eq_false]; have := HS.out; omega))])
          obtain rfl : z = zThr := by rw [← HZ.out]; exact apT_no (by rw [HXE.out]; decide)
          have HBZ := Lib.hid (show bn ≤ 0 by have h := HBN.out.1; rw [← h]; exact Nat.le_refl _)
          go_upto_region 13 with (first | (refine wpList_load_mid rfl 27 _ rfl w.heap.size 0 rfl [.int .i64 u.pc, .int .i64 (u.r 0), .int .i64 (u.r 1), .int .i64 (u.r 2), .int .i64 (u.r 3), .int .i64 (u.r 4), .int .i64 (u.r 5), .int .i64 (u.r 6), .int .i64 (u.r 7), .slice fa m9 fc, .int .i64 u.st, .int .i64 u.ft, .slice la m12 lc] _ (varN_range X4.out) Try.underlying27 rfl (by kernel_rfl) ?_) | (refine wpList_load_mid rfl 29 _ rfl (w.heap.size + 1) 0 rfl [.int .i64 i.1, .int .i64 i.2.1, .int .i64 i.2.2.1, .int .i64 i.2.2.2] _ (varN_range I4.out) Try.underlying29 rfl (by kernel_rfl) ?_) | (refine wpList_load_mid rfl 27 _ rfl v2.heap.size 0 rfl [.int .i64 z.pc, .int .i64 (z.r 0), .int .i64 (z.r 1), .int .i64 (z.r 2), .int .i64 (z.r 3), .int .i64 (z.r 4), .int .i64 (z.r 5), .int .i64 (z.r 6), .int .i64 (z.r 7), .slice fb bn gc, .int .i64 z.st, .int .i64 z.ft, .slice lb dn hc] _ (varN_range A4.out) Try.underlying27 rfl (by kernel_rfl) ?_))
          go_wp2_with (first | (refine wpList_load_mid rfl 27 _ rfl w.heap.size 0 rfl [.int .i64 u.pc, .int .i64 (u.r 0), .int .i64 (u.r 1), .int .i64 (u.r 2), .int .i64 (u.r 3), .int .i64 (u.r 4), .int .i64 (u.r 5), .int .i64 (u.r 6), .int .i64 (u.r 7), .slice fa m9 fc, .int .i64 u.st, .int .i64 u.ft, .slice la m12 lc] _ (varN_range X4.out) Try.underlying27 rfl (by kernel_rfl) ?_) | (refine wpList_load_mid rfl 29 _ rfl (w.heap.size + 1) 0 rfl [.int .i64 i.1, .int .i64 i.2.1, .int .i64 i.2.2.1, .int .i64 i.2.2.2] _ (varN_range I4.out) Try.underlying29 rfl (by kernel_rfl) ?_) | (refine wpList_load_mid rfl 27 _ rfl v2.heap.size 0 rfl [.int .i64 z.pc, .int .i64 (z.r 0), .int .i64 (z.r 1), .int .i64 (z.r 2), .int .i64 (z.r 3), .int .i64 (z.r 4), .int .i64 (z.r 5), .int .i64 (z.r 6), .int .i64 (z.r 7), .slice fb bn gc, .int .i64 z.st, .int .i64 z.ft, .slice lb dn hc] _ (varN_range A4.out) Try.underlying27 rfl (by kernel_rfl) ?_))
          have h0 := alive7_any v4
          refine h0.mono ?_
          clear h0
          rintro e v5 ⟨rfl, hb⟩
          have HB5 := Lib.hid (below_from HB4.out hb)
          have X5 := Lib.hid (varN_B hb X4.out)
          have I5 := Lib.hid (varN_B hb I4.out)
          have A5 := Lib.hid (varN_B hb A4.out)
          have T5 := Lib.hid (thF_B hb T4.out)
          have Z5 := Lib.hid (thF_B hb Z4.out)
          clear hb X4 I4 A4 T4 Z4
          have ka0 := (A5.out 0 _ rfl).1
          have ka1 := (A5.out 1 _ rfl).1
          have ka2 := (A5.out 2 _ rfl).1
          have ka3 := (A5.out 3 _ rfl).1
          have ka4 := (A5.out 4 _ rfl).1
          have ka5 := (A5.out 5 _ rfl).1
          have ka6 := (A5.out 6 _ rfl).1
          have ka7 := (A5.out 7 _ rfl).1
          have ka8 := (A5.out 8 _ rfl).1
          have ka9 := (A5.out 9 _ rfl).1
          have ka10 := (A5.out 10 _ rfl).1
          have ka11 := (A5.out 11 _ rfl).1
          have ka12 := (A5.out 12 _ rfl).1
          go_wp2_with (first | (refine wpList_load_mid rfl 27 _ rfl w.heap.size 0 rfl [.int .i64 u.pc, .int .i64 (u.r 0), .int .i64 (u.r 1), .int .i64 (u.r 2), .int .i64 (u.r 3), .int .i64 (u.r 4), .int .i64 (u.r 5), .int .i64 (u.r 6), .int .i64 (u.r 7), .slice fa m9 fc, .int .i64 u.st, .int .i64 u.ft, .slice la m12 lc] _ (varN_range X5.out) Try.underlying27 rfl (by kernel_rfl) ?_) | (refine wpList_load_mid rfl 29 _ rfl (w.heap.size + 1) 0 rfl [.int .i64 i.1, .int .i64 i.2.1, .int .i64 i.2.2.1, .int .i64 i.2.2.2] _ (varN_range I5.out) Try.underlying29 rfl (by kernel_rfl) ?_) | (refine wpList_load_mid rfl 27 _ rfl v2.heap.size 0 rfl [.int .i64 z.pc, .int .i64 (z.r 0), .int .i64 (z.r 1), .int .i64 (z.r 2), .int .i64 (z.r 3), .int .i64 (z.r 4), .int .i64 (z.r 5), .int .i64 (z.r 6), .int .i64 (z.r 7), .slice fb bn gc, .int .i64 z.st, .int .i64 z.ft, .slice lb dn hc] _ (varN_range A5.out) Try.underlying27 rfl (by kernel_rfl) ?_))
          have h0 := refSame6_any zThr zThr fb lb bn gc dn hc none none 0 0 0 0 v5 Z5.out (thF_zero _) (by have := HBZ.out; omega)
          rw [sameT_self] at h0
          refine h0.mono ?_
          clear h0
          rintro e v6 ⟨rfl, hb⟩
          have HB6 := Lib.hid (below_from HB5.out hb)
          have X6 := Lib.hid (varN_B hb X5.out)
          have I6 := Lib.hid (varN_B hb I5.out)
          have A6 := Lib.hid (varN_B hb A5.out)
          have T6 := Lib.hid (thF_B hb T5.out)
          have Z6 := Lib.hid (thF_B hb Z5.out)
          clear hb X5 I5 A5 T5 Z5 ka0 ka1 ka2 ka3 ka4 ka5 ka6 ka7 ka8 ka9 ka10 ka11 ka12
          go_wp2_with (first | (refine wpList_load_mid rfl 27 _ rfl w.heap.size 0 rfl [.int .i64 u.pc, .int .i64 (u.r 0), .int .i64 (u.r 1), .int .i64 (u.r 2), .int .i64 (u.r 3), .int .i64 (u.r 4), .int .i64 (u.r 5), .int .i64 (u.r 6), .int .i64 (u.r 7), .slice fa m9 fc, .int .i64 u.st, .int .i64 u.ft, .slice la m12 lc] _ (varN_range X6.out) Try.underlying27 rfl (by kernel_rfl) ?_) | (refine wpList_load_mid rfl 29 _ rfl (w.heap.size + 1) 0 rfl [.int .i64 i.1, .int .i64 i.2.1, .int .i64 i.2.2.1, .int .i64 i.2.2.2] _ (varN_range I6.out) Try.underlying29 rfl (by kernel_rfl) ?_) | (refine wpList_load_mid rfl 27 _ rfl v2.heap.size 0 rfl [.int .i64 z.pc, .int .i64 (z.r 0), .int .i64 (z.r 1), .int .i64 (z.r 2), .int .i64 (z.r 3), .int .i64 (z.r 4), .int .i64 (z.r 5), .int .i64 (z.r 6), .int .i64 (z.r 7), .slice fb bn gc, .int .i64 z.st, .int .i64 z.ft, .slice lb dn hc] _ (varN_range A6.out) Try.underlying27 rfl (by kernel_rfl) ?_))
          go_ret
          exact boolPost_mk rfl HB6.out
        · skip
          have HM7 := Lib.hid (show mayT7 u self = true by rw [mayT7, HR.out, Bool.true_and, decide_eq_true]; omega)
          have HAP := Lib.hid (show apE u self i = if readyT u = false then 9 else if i.1 < 1 ∨ 15 < i.1 then 10 else if fitsI i = false then 3 else doE u i by
            conv => lhs; rw [apE]
            rw [if_neg (fun h => h.elim (fun h => by rw [HM7.out] at h; cases h) HP.out)])
          cases hy : readyT u with
          | false =>
            have HY := Lib.hid hy
            clear hy
            obtain rfl : x = 9 := by rw [← HXE.out]; exact (by rw [HAP.out, if_pos HY.out])
            obtain rfl : z = zThr := by rw [← HZ.out]; exact apT_no (by rw [HXE.out]; decide)
            have HBZ := Lib.hid (show bn ≤ 0 by have h := HBN.out.1; rw [← h]; exact Nat.le_refl _)
            go_wp2_with (first | (refine wpList_load_mid rfl 27 _ rfl w.heap.size 0 rfl [.int .i64 u.pc, .int .i64 (u.r 0), .int .i64 (u.r 1), .int .i64 (u.r 2), .int .i64 (u.r 3), .int .i64 (u.r 4), .int .i64 (u.r 5), .int .i64 (u.r 6), .int .i64 (u.r 7), .slice fa m9 fc, .int .i64 u.st, .int .i64 u.ft, .slice la m12 lc] _ (varN_range X4.out) Try.underlying27 rfl (by kernel_rfl) ?_) | (refine wpList_load_mid rfl 29 _ rfl (w.heap.size + 1) 0 rfl [.int .i64 i.1, .int .i64 i.2.1, .int .i64 i.2.2.1, .int .i64 i.2.2.2] _ (varN_range I4.out) Try.underlying29 rfl (by kernel_rfl) ?_) | (refine wpList_load_mid rfl 27 _ rfl v2.heap.size 0 rfl [.int .i64 z.pc, .int .i64 (z.r 0), .int .i64 (z.r 1), .int .i64 (z.r 2), .int .i64 (z.r 3), .int .i64 (z.r 4), .int .i64 (z.r 5), .int .i64 (z.r 6), .int .i64 (z.r 7), .slice fb bn gc, .int .i64 z.st, .int .i64 z.ft, .slice lb dn hc] _ (varN_range A4.out) Try.underlying27 rfl (by kernel_rfl) ?_))
            have h0 := refReady_any u fa la m9 fc m12 lc v4 T4.out.lf.1
            rw [HY.out] at h0
            refine h0.mono ?_
            clear h0
            rintro e v5 ⟨rfl, hb⟩
            have HB5 := Lib.hid (below_from HB4.out hb)
            have X5 := Lib.hid (varN_B hb X4.out)
            have I5 := Lib.hid (varN_B hb I4.out)
            have A5 := Lib.hid (varN_B hb A4.out)
            have T5 := Lib.hid (thF_B hb T4.out)
            have Z5 := Lib.hid (thF_B hb Z4.out)
            clear hb X4 I4 A4 T4 Z4
            go_upto_region 13 with (first | (refine wpList_load_mid rfl 27 _ rfl w.heap.size 0 rfl [.int .i64 u.pc, .int .i64 (u.r 0), .int .i64 (u.r 1), .int .i64 (u.r 2), .int .i64 (u.r 3), .int .i64 (u.r 4), .int .i64 (u.r 5), .int .i64 (u.r 6), .int .i64 (u.r 7), .slice fa m9 fc, .int .i64 u.st, .int .i64 u.ft, .slice la m12 lc] _ (varN_range X5.out) Try.underlying27 rfl (by kernel_rfl) ?_) | (refine wpList_load_mid rfl 29 _ rfl (w.heap.size + 1) 0 rfl [.int .i64 i.1, .int .i64 i.2.1, .int .i64 i.2.2.1, .int .i64 i.2.2.2] _ (varN_range I5.out) Try.underlying29 rfl (by kernel_rfl) ?_) | (refine wpList_load_mid rfl 27 _ rfl v2.heap.size 0 rfl [.int .i64 z.pc, .int .i64 (z.r 0), .int .i64 (z.r 1), .int .i64 (z.r 2), .int .i64 (z.r 3), .int .i64 (z.r 4), .int .i64 (z.r 5), .int .i64 (z.r 6), .int .i64 (z.r 7), .slice fb bn gc, .int .i64 z.st, .int .i64 z.ft, .slice lb dn hc] _ (varN_range A5.out) Try.underlying27 rfl (by kernel_rfl) ?_))
            go_wp2_with (first | (refine wpList_load_mid rfl 27 _ rfl w.heap.size 0 rfl [.int .i64 u.pc, .int .i64 (u.r 0), .int .i64 (u.r 1), .int .i64 (u.r 2), .int .i64 (u.r 3), .int .i64 (u.r 4), .int .i64 (u.r 5), .int .i64 (u.r 6), .int .i64 (u.r 7), .slice fa m9 fc, .int .i64 u.st, .int .i64 u.ft, .slice la m12 lc] _ (varN_range X5.out) Try.underlying27 rfl (by kernel_rfl) ?_) | (refine wpList_load_mid rfl 29 _ rfl (w.heap.size + 1) 0 rfl [.int .i64 i.1, .int .i64 i.2.1, .int .i64 i.2.2.1, .int .i64 i.2.2.2] _ (varN_range I5.out) Try.underlying29 rfl (by kernel_rfl) ?_) | (refine wpList_load_mid rfl 27 _ rfl v2.heap.size 0 rfl [.int .i64 z.pc, .int .i64 (z.r 0), .int .i64 (z.r 1), .int .i64 (z.r 2), .int .i64 (z.r 3), .int .i64 (z.r 4), .int .i64 (z.r 5), .int .i64 (z.r 6), .int .i64 (z.r 7), .slice fb bn gc, .int .i64 z.st, .int .i64 z.ft, .slice lb dn hc] _ (varN_range A5.out) Try.underlying27 rfl (by kernel_rfl) ?_))
            have h0 := alive7_any v5
            refine h0.mono ?_
            clear h0
            rintro e v6 ⟨rfl, hb⟩
            have HB6 := Lib.hid (below_from HB5.out hb)
            have X6 := Lib.hid (varN_B hb X5.out)
            have I6 := Lib.hid (varN_B hb I5.out)
            have A6 := Lib.hid (varN_B hb A5.out)
            have T6 := Lib.hid (thF_B hb T5.out)
            have Z6 := Lib.hid (thF_B hb Z5.out)
            clear hb X5 I5 A5 T5 Z5
            have ka0 := (A6.out 0 _ rfl).1
            have ka1 := (A6.out 1 _ rfl).1
            have ka2 := (A6.out 2 _ rfl).1
            have ka3 := (A6.out 3 _ rfl).1
            have ka4 := (A6.out 4 _ rfl).1
            have ka5 := (A6.out 5 _ rfl).1
            have ka6 := (A6.out 6 _ rfl).1
            have ka7 := (A6.out 7 _ rfl).1
            have ka8 := (A6.out 8 _ rfl).1
            have ka9 := (A6.out 9 _ rfl).1
            have ka10 := (A6.out 10 _ rfl).1
            have ka11 := (A6.out 11 _ rfl).1
            have ka12 := (A6.out 12 _ rfl).1
            go_wp2_with (first | (refine wpList_load_mid rfl 27 _ rfl w.heap.size 0 rfl [.int .i64 u.pc, .int .i64 (u.r 0), .int .i64 (u.r 1), .int .i64 (u.r 2), .int .i64 (u.r 3), .int .i64 (u.r 4), .int .i64 (u.r 5), .int .i64 (u.r 6), .int .i64 (u.r 7), .slice fa m9 fc, .int .i64 u.st, .int .i64 u.ft, .slice la m12 lc] _ (varN_range X6.out) Try.underlying27 rfl (by kernel_rfl) ?_) | (refine wpList_load_mid rfl 29 _ rfl (w.heap.size + 1) 0 rfl [.int .i64 i.1, .int .i64 i.2.1, .int .i64 i.2.2.1, .int .i64 i.2.2.2] _ (varN_range I6.out) Try.underlying29 rfl (by kernel_rfl) ?_) | (refine wpList_load_mid rfl 27 _ rfl v2.heap.size 0 rfl [.int .i64 z.pc, .int .i64 (z.r 0), .int .i64 (z.r 1), .int .i64 (z.r 2), .int .i64 (z.r 3), .int .i64 (z.r 4), .int .i64 (z.r 5), .int .i64 (z.r 6), .int .i64 (z.r 7), .slice fb bn gc, .int .i64 z.st, .int .i64 z.ft, .slice lb dn hc] _ (varN_range A6.out) Try.underlying27 rfl (by kernel_rfl) ?_))
            have h0 := refSame6_any zThr zThr fb lb bn gc dn hc none none 0 0 0 0 v6 Z6.out (thF_zero _) (by have := HBZ.out; omega)
            rw [sameT_self] at h0
            refine h0.mono ?_
            clear h0
            rintro e v7 ⟨rfl, hb⟩
            have HB7 := Lib.hid (below_from HB6.out hb)
            have X7 := Lib.hid (varN_B hb X6.out)
            have I7 := Lib.hid (varN_B hb I6.out)
            have A7 := Lib.hid (varN_B hb A6.out)
            have T7 := Lib.hid (thF_B hb T6.out)
            have Z7 := Lib.hid (thF_B hb Z6.out)
            clear hb X6 I6 A6 T6 Z6 ka0 ka1 ka2 ka3 ka4 ka5 ka6 ka7 ka8 ka9 ka10 ka11 ka12
            go_wp2_with (first | (refine wpList_load_mid rfl 27 _ rfl w.heap.size 0 rfl [.int .i64 u.pc, .int .i64 (u.r 0), .int .i64 (u.r 1), .int .i64 (u.r 2), .int .i64 (u.r 3), .int .i64 (u.r 4), .int .i64 (u.r 5), .int .i64 (u.r 6), .int .i64 (u.r 7), .slice fa m9 fc, .int .i64 u.st, .int .i64 u.ft, .slice la m12 lc] _ (varN_range X7.out) Try.underlying27 rfl (by kernel_rfl) ?_) | (refine wpList_load_mid rfl 29 _ rfl (w.heap.size + 1) 0 rfl [.int .i64 i.1, .int .i64 i.2.1, .int .i64 i.2.2.1, .int .i64 i.2.2.2] _ (varN_range I7.out) Try.underlying29 rfl (by kernel_rfl) ?_) | (refine wpList_load_mid rfl 27 _ rfl v2.heap.size 0 rfl [.int .i64 z.pc, .int .i64 (z.r 0), .int .i64 (z.r 1), .int .i64 (z.r 2), .int .i64 (z.r 3), .int .i64 (z.r 4), .int .i64 (z.r 5), .int .i64 (z.r 6), .int .i64 (z.r 7), .slice fb bn gc, .int .i64 z.st, .int .i64 z.ft, .slice lb dn hc] _ (varN_range A7.out) Try.underlying27 rfl (by kernel_rfl) ?_))
            go_ret
            exact boolPost_mk rfl HB7.out
          | true =>
            have HY := Lib.hid hy
            clear hy
            go_wp2_with (first | (refine wpList_load_mid rfl 27 _ rfl w.heap.size 0 rfl [.int .i64 u.pc, .int .i64 (u.r 0), .int .i64 (u.r 1), .int .i64 (u.r 2), .int .i64 (u.r 3), .int .i64 (u.r 4), .int .i64 (u.r 5), .int .i64 (u.r 6), .int .i64 (u.r 7), .slice fa m9 fc, .int .i64 u.st, .int .i64 u.ft, .slice la m12 lc] _ (varN_range X4.out) Try.underlying27 rfl (by kernel_rfl) ?_) | (refine wpList_load_mid rfl 29 _ rfl (w.heap.size + 1) 0 rfl [.int .i64 i.1, .int .i64 i.2.1, .int .i64 i.2.2.1, .int .i64 i.2.2.2] _ (varN_range I4.out) Try.underlying29 rfl (by kernel_rfl) ?_) | (refine wpList_load_mid rfl 27 _ rfl v2.heap.size 0 rfl [.int .i64 z.pc, .int .i64 (z.r 0), .int .i64 (z.r 1), .int .i64 (z.r 2), .int .i64 (z.r 3), .int .i64 (z.r 4), .int .i64 (z.r 5), .int .i64 (z.r 6), .int .i64 (z.r 7), .slice fb bn gc, .int .i64 z.st, .int .i64 z.ft, .slice lb dn hc] _ (varN_range A4.out) Try.underlying27 rfl (by kernel_rfl) ?_))
            have h0 := refReady_any u fa la m9 fc m12 lc v4 T4.out.lf.1
            rw [HY.out] at h0
            refine h0.mono ?_
            clear h0
            rintro e v5 ⟨rfl, hb⟩
            have HB5 := Lib.hid (below_from HB4.out hb)
            have X5 := Lib.hid (varN_B hb X4.out)
            have I5 := Lib.hid (varN_B hb I4.out)
            have A5 := Lib.hid (varN_B hb A4.out)
            have T5 := Lib.hid (thF_B hb T4.out)
            have Z5 := Lib.hid (thF_B hb Z4.out)
            clear hb X4 I4 A4 T4 Z4
            clear hs1 hs2 hpb kpc
            have ko := (I5.out 0 _ rfl).1
            by_cases ho : 1 ≤ i.1 ∧ i.1 ≤ 15
            · skip
              have HO := Lib.hid ho
              clear ho
              go_wp2_with (first | (refine wpList_load_mid rfl 27 _ rfl w.heap.size 0 rfl [.int .i64 u.pc, .int .i64 (u.r 0), .int .i64 (u.r 1), .int .i64 (u.r 2), .int .i64 (u.r 3), .int .i64 (u.r 4), .int .i64 (u.r 5), .int .i64 (u.r 6), .int .i64 (u.r 7), .slice fa m9 fc, .int .i64 u.st, .int .i64 u.ft, .slice la m12 lc] _ (varN_range X5.out) Try.underlying27 rfl (by kernel_rfl) ?_) | (refine wpList_load_mid rfl 29 _ rfl (w.heap.size + 1) 0 rfl [.int .i64 i.1, .int .i64 i.2.1, .int .i64 i.2.2.1, .int .i64 i.2.2.2] _ (varN_range I5.out) Try.underlying29 rfl (by kernel_rfl) ?_) | (refine wpList_load_mid rfl 27 _ rfl v2.heap.size 0 rfl [.int .i64 z.pc, .int .i64 (z.r 0), .int .i64 (z.r 1), .int .i64 (z.r 2), .int .i64 (z.r 3), .int .i64 (z.r 4), .int .i64 (z.r 5), .int .i64 (z.r 6), .int .i64 (z.r 7), .slice fb bn gc, .int .i64 z.st, .int .i64 z.ft, .slice lb dn hc] _ (varN_range A5.out) Try.underlying27 rfl (by kernel_rfl) ?_))
              have h0 := refLocal_any i.1 v5
              rw [decide_eq_true HO.out] at h0
              refine h0.mono ?_
              clear h0
              rintro e wx ⟨rfl, hx⟩
              cases hx
              clear ko
              cases hf : fitsI i with
              | false =>
                have HF := Lib.hid hf
                clear hf
                obtain rfl : x = 3 := by rw [← HXE.out]; exact (by rw [HAP.out, if_neg (by rw [HY.out]; decide), if_neg (show ¬ (i.1 < 1 ∨ 15 < i.1) by have := HO.out; omega), if_pos HF.out])
                obtain rfl : z = zThr := by rw [← HZ.out]; exact apT_no (by rw [HXE.out]; decide)
                have HBZ := Lib.hid (show bn ≤ 0 by have h := HBN.out.1; rw [← h]; exact Nat.le_refl _)
                go_wp2_with (first | (refine wpList_load_mid rfl 27 _ rfl w.heap.size 0 rfl [.int .i64 u.pc, .int .i64 (u.r 0), .int .i64 (u.r 1), .int .i64 (u.r 2), .int .i64 (u.r 3), .int .i64 (u.r 4), .int .i64 (u.r 5), .int .i64 (u.r 6), .int .i64 (u.r 7), .slice fa m9 fc, .int .i64 u.st, .int .i64 u.ft, .slice la m12 lc] _ (varN_range X5.out) Try.underlying27 rfl (by kernel_rfl) ?_) | (refine wpList_load_mid rfl 29 _ rfl (w.heap.size + 1) 0 rfl [.int .i64 i.1, .int .i64 i.2.1, .int .i64 i.2.2.1, .int .i64 i.2.2.2] _ (varN_range I5.out) Try.underlying29 rfl (by kernel_rfl) ?_) | (refine wpList_load_mid rfl 27 _ rfl v2.heap.size 0 rfl [.int .i64 z.pc, .int .i64 (z.r 0), .int .i64 (z.r 1), .int .i64 (z.r 2), .int .i64 (z.r 3), .int .i64 (z.r 4), .int .i64 (z.r 5), .int .i64 (z.r 6), .int .i64 (z.r 7), .slice fb bn gc, .int .i64 z.st, .int .i64 z.ft, .slice lb dn hc] _ (varN_range A5.out) Try.underlying27 rfl (by kernel_rfl) ?_))
                have h0 := refMay_any i v5 HO.out.1 HO.out.2
                rw [HF.out] at h0
                refine h0.mono ?_
                clear h0
                rintro e v6 ⟨rfl, hb⟩
                have HB6 := Lib.hid (below_from HB5.out hb)
                have X6 := Lib.hid (varN_B hb X5.out)
                have I6 := Lib.hid (varN_B hb I5.out)
                have A6 := Lib.hid (varN_B hb A5.out)
                have T6 := Lib.hid (thF_B hb T5.out)
                have Z6 := Lib.hid (thF_B hb Z5.out)
                clear hb X5 I5 A5 T5 Z5
                go_upto_region 13 with (first | (refine wpList_load_mid rfl 27 _ rfl w.heap.size 0 rfl [.int .i64 u.pc, .int .i64 (u.r 0), .int .i64 (u.r 1), .int .i64 (u.r 2), .int .i64 (u.r 3), .int .i64 (u.r 4), .int .i64 (u.r 5), .int .i64 (u.r 6), .int .i64 (u.r 7), .slice fa m9 fc, .int .i64 u.st, .int .i64 u.ft, .slice la m12 lc] _ (varN_range X6.out) Try.underlying27 rfl (by kernel_rfl) ?_) | (refine wpList_load_mid rfl 29 _ rfl (w.heap.size + 1) 0 rfl [.int .i64 i.1, .int .i64 i.2.1, .int .i64 i.2.2.1, .int .i64 i.2.2.2] _ (varN_range I6.out) Try.underlying29 rfl (by kernel_rfl) ?_) | (refine wpList_load_mid rfl 27 _ rfl v2.heap.size 0 rfl [.int .i64 z.pc, .int .i64 (z.r 0), .int .i64 (z.r 1), .int .i64 (z.r 2), .int .i64 (z.r 3), .int .i64 (z.r 4), .int .i64 (z.r 5), .int .i64 (z.r 6), .int .i64 (z.r 7), .slice fb bn gc, .int .i64 z.st, .int .i64 z.ft, .slice lb dn hc] _ (varN_range A6.out) Try.underlying27 rfl (by kernel_rfl) ?_))
                go_wp2_with (first | (refine wpList_load_mid rfl 27 _ rfl w.heap.size 0 rfl [.int .i64 u.pc, .int .i64 (u.r 0), .int .i64 (u.r 1), .int .i64 (u.r 2), .int .i64 (u.r 3), .int .i64 (u.r 4), .int .i64 (u.r 5), .int .i64 (u.r 6), .int .i64 (u.r 7), .slice fa m9 fc, .int .i64 u.st, .int .i64 u.ft, .slice la m12 lc] _ (varN_range X6.out) Try.underlying27 rfl (by kernel_rfl) ?_) | (refine wpList_load_mid rfl 29 _ rfl (w.heap.size + 1) 0 rfl [.int .i64 i.1, .int .i64 i.2.1, .int .i64 i.2.2.1, .int .i64 i.2.2.2] _ (varN_range I6.out) Try.underlying29 rfl (by kernel_rfl) ?_) | (refine wpList_load_mid rfl 27 _ rfl v2.heap.size 0 rfl [.int .i64 z.pc, .int .i64 (z.r 0), .int .i64 (z.r 1), .int .i64 (z.r 2), .int .i64 (z.r 3), .int .i64 (z.r 4), .int .i64 (z.r 5), .int .i64 (z.r 6), .int .i64 (z.r 7), .slice fb bn gc, .int .i64 z.st, .int .i64 z.ft, .slice lb dn hc] _ (varN_range A6.out) Try.underlying27 rfl (by kernel_rfl) ?_))
                have h0 := alive7_any v6
                refine h0.mono ?_
                clear h0
                rintro e v7 ⟨rfl, hb⟩
                have HB7 := Lib.hid (below_from HB6.out hb)
                have X7 := Lib.hid (varN_B hb X6.out)
                have I7 := Lib.hid (varN_B hb I6.out)
                have A7 := Lib.hid (varN_B hb A6.out)
                have T7 := Lib.hid (thF_B hb T6.out)
                have Z7 := Lib.hid (thF_B hb Z6.out)
                clear hb X6 I6 A6 T6 Z6
                have ka0 := (A7.out 0 _ rfl).1
                have ka1 := (A7.out 1 _ rfl).1
                have ka2 := (A7.out 2 _ rfl).1
                have ka3 := (A7.out 3 _ rfl).1
                have ka4 := (A7.out 4 _ rfl).1
                have ka5 := (A7.out 5 _ rfl).1
                have ka6 := (A7.out 6 _ rfl).1
                have ka7 := (A7.out 7 _ rfl).1
                have ka8 := (A7.out 8 _ rfl).1
                have ka9 := (A7.out 9 _ rfl).1
                have ka10 := (A7.out 10 _ rfl).1
                have ka11 := (A7.out 11 _ rfl).1
                have ka12 := (A7.out 12 _ rfl).1
                go_wp2_with (first | (refine wpList_load_mid rfl 27 _ rfl w.heap.size 0 rfl [.int .i64 u.pc, .int .i64 (u.r 0), .int .i64 (u.r 1), .int .i64 (u.r 2), .int .i64 (u.r 3), .int .i64 (u.r 4), .int .i64 (u.r 5), .int .i64 (u.r 6), .int .i64 (u.r 7), .slice fa m9 fc, .int .i64 u.st, .int .i64 u.ft, .slice la m12 lc] _ (varN_range X7.out) Try.underlying27 rfl (by kernel_rfl) ?_) | (refine wpList_load_mid rfl 29 _ rfl (w.heap.size + 1) 0 rfl [.int .i64 i.1, .int .i64 i.2.1, .int .i64 i.2.2.1, .int .i64 i.2.2.2] _ (varN_range I7.out) Try.underlying29 rfl (by kernel_rfl) ?_) | (refine wpList_load_mid rfl 27 _ rfl v2.heap.size 0 rfl [.int .i64 z.pc, .int .i64 (z.r 0), .int .i64 (z.r 1), .int .i64 (z.r 2), .int .i64 (z.r 3), .int .i64 (z.r 4), .int .i64 (z.r 5), .int .i64 (z.r 6), .int .i64 (z.r 7), .slice fb bn gc, .int .i64 z.st, .int .i64 z.ft, .slice lb dn hc] _ (varN_range A7.out) Try.underlying27 rfl (by kernel_rfl) ?_))
                have h0 := refSame6_any zThr zThr fb lb bn gc dn hc none none 0 0 0 0 v7 Z7.out (thF_zero _) (by have := HBZ.out; omega)
                rw [sameT_self] at h0
                refine h0.mono ?_
                clear h0
                rintro e v8 ⟨rfl, hb⟩
                have HB8 := Lib.hid (below_from HB7.out hb)
                have X8 := Lib.hid (varN_B hb X7.out)
                have I8 := Lib.hid (varN_B hb I7.out)
                have A8 := Lib.hid (varN_B hb A7.out)
                have T8 := Lib.hid (thF_B hb T7.out)
                have Z8 := Lib.hid (thF_B hb Z7.out)
                clear hb X7 I7 A7 T7 Z7 ka0 ka1 ka2 ka3 ka4 ka5 ka6 ka7 ka8 ka9 ka10 ka11 ka12
                go_wp2_with (first | (refine wpList_load_mid rfl 27 _ rfl w.heap.size 0 rfl [.int .i64 u.pc, .int .i64 (u.r 0), .int .i64 (u.r 1), .int .i64 (u.r 2), .int .i64 (u.r 3), .int .i64 (u.r 4), .int .i64 (u.r 5), .int .i64 (u.r 6), .int .i64 (u.r 7), .slice fa m9 fc, .int .i64 u.st, .int .i64 u.ft, .slice la m12 lc] _ (varN_range X8.out) Try.underlying27 rfl (by kernel_rfl) ?_) | (refine wpList_load_mid rfl 29 _ rfl (w.heap.size + 1) 0 rfl [.int .i64 i.1, .int .i64 i.2.1, .int .i64 i.2.2.1, .int .i64 i.2.2.2] _ (varN_range I8.out) Try.underlying29 rfl (by kernel_rfl) ?_) | (refine wpList_load_mid rfl 27 _ rfl v2.heap.size 0 rfl [.int .i64 z.pc, .int .i64 (z.r 0), .int .i64 (z.r 1), .int .i64 (z.r 2), .int .i64 (z.r 3), .int .i64 (z.r 4), .int .i64 (z.r 5), .int .i64 (z.r 6), .int .i64 (z.r 7), .slice fb bn gc, .int .i64 z.st, .int .i64 z.ft, .slice lb dn hc] _ (varN_range A8.out) Try.underlying27 rfl (by kernel_rfl) ?_))
                go_ret
                exact boolPost_mk rfl HB8.out
              | true =>
                have HF := Lib.hid hf
                clear hf
                go_wp2_with (first | (refine wpList_load_mid rfl 27 _ rfl w.heap.size 0 rfl [.int .i64 u.pc, .int .i64 (u.r 0), .int .i64 (u.r 1), .int .i64 (u.r 2), .int .i64 (u.r 3), .int .i64 (u.r 4), .int .i64 (u.r 5), .int .i64 (u.r 6), .int .i64 (u.r 7), .slice fa m9 fc, .int .i64 u.st, .int .i64 u.ft, .slice la m12 lc] _ (varN_range X5.out) Try.underlying27 rfl (by kernel_rfl) ?_) | (refine wpList_load_mid rfl 29 _ rfl (w.heap.size + 1) 0 rfl [.int .i64 i.1, .int .i64 i.2.1, .int .i64 i.2.2.1, .int .i64 i.2.2.2] _ (varN_range I5.out) Try.underlying29 rfl (by kernel_rfl) ?_) | (refine wpList_load_mid rfl 27 _ rfl v2.heap.size 0 rfl [.int .i64 z.pc, .int .i64 (z.r 0), .int .i64 (z.r 1), .int .i64 (z.r 2), .int .i64 (z.r 3), .int .i64 (z.r 4), .int .i64 (z.r 5), .int .i64 (z.r 6), .int .i64 (z.r 7), .slice fb bn gc, .int .i64 z.st, .int .i64 z.ft, .slice lb dn hc] _ (varN_range A5.out) Try.underlying27 rfl (by kernel_rfl) ?_))
                have h0 := refMay_any i v5 HO.out.1 HO.out.2
                rw [HF.out] at h0
                refine h0.mono ?_
                clear h0
                rintro e v6 ⟨rfl, hb⟩
                have HB6 := Lib.hid (below_from HB5.out hb)
                have X6 := Lib.hid (varN_B hb X5.out)
                have I6 := Lib.hid (varN_B hb I5.out)
                have A6 := Lib.hid (varN_B hb A5.out)
                have T6 := Lib.hid (thF_B hb T5.out)
                have Z6 := Lib.hid (thF_B hb Z5.out)
                clear hb X5 I5 A5 T5 Z5
                have hx9 : doE u i = x := by rw [← HXE.out, HAP.out, if_neg (by rw [HY.out]; decide), if_neg (show ¬ (i.1 < 1 ∨ 15 < i.1) by have := HO.out; omega), if_neg (by rw [HF.out]; decide)]
                have hz9 : doT u self i = z := by
                  rw [← HZ.out, apT, HXE.out]
                  by_cases h0 : x = 0
                  · rw [if_pos h0]
                  · rw [if_neg h0]; exact doT_no (by rw [hx9]; exact h0)
                have HX9 := Lib.hid (And.intro hz9 hx9)
                clear hx9 hz9
                go_wp2_with (first | (refine wpList_load_mid rfl 27 _ rfl w.heap.size 0 rfl [.int .i64 u.pc, .int .i64 (u.r 0), .int .i64 (u.r 1), .int .i64 (u.r 2), .int .i64 (u.r 3), .int .i64 (u.r 4), .int .i64 (u.r 5), .int .i64 (u.r 6), .int .i64 (u.r 7), .slice fa m9 fc, .int .i64 u.st, .int .i64 u.ft, .slice la m12 lc] _ (varN_range X6.out) Try.underlying27 rfl (by kernel_rfl) ?_) | (refine wpList_load_mid rfl 29 _ rfl (w.heap.size + 1) 0 rfl [.int .i64 i.1, .int .i64 i.2.1, .int .i64 i.2.2.1, .int .i64 i.2.2.2] _ (varN_range I6.out) Try.underlying29 rfl (by kernel_rfl) ?_) | (refine wpList_load_mid rfl 27 _ rfl v2.heap.size 0 rfl [.int .i64 z.pc, .int .i64 (z.r 0), .int .i64 (z.r 1), .int .i64 (z.r 2), .int .i64 (z.r 3), .int .i64 (z.r 4), .int .i64 (z.r 5), .int .i64 (z.r 6), .int .i64 (z.r 7), .slice fb bn gc, .int .i64 z.st, .int .i64 z.ft, .slice lb dn hc] _ (varN_range A6.out) Try.underlying27 rfl (by kernel_rfl) ?_))
                have h0 := refApply_any u self i fa la m9 fc m12 lc v6 T6.out HF.out HR.out HP.out HO.out
                rw [HX9.out.1, HX9.out.2] at h0
                refine h0.mono ?_
                clear h0
                rintro e v7 ⟨fd, ge, ld, he, rfl, Q1, hb⟩
                have HB7 := Lib.hid (below_from HB6.out hb)
                have X7 := Lib.hid (varN_B hb X6.out)
                have I7 := Lib.hid (varN_B hb I6.out)
                have A7 := Lib.hid (varN_B hb A6.out)
                have T7 := Lib.hid (thF_B hb T6.out)
                have Z7 := Lib.hid (thF_B hb Z6.out)
                clear hb X6 I6 A6 T6 Z6
                obtain ⟨bn2, hbn⟩ : ∃ n, z.fs.length = n := ⟨_, rfl⟩
                obtain ⟨dn2, hdn⟩ : ∃ n, z.lf.length = n := ⟨_, rfl⟩
                rw [hbn, hdn] at Q1 ⊢
                have Y1 := Lib.hid Q1
                clear Q1 hbn hdn
                go_upto_region 15 with (refine wpList_store_var rfl 27 _ _ rfl v7.heap.size #[.int .i64 z.pc, .int .i64 (z.r 0), .int .i64 (z.r 1), .int .i64 (z.r 2), .int .i64 (z.r 3), .int .i64 (z.r 4), .int .i64 (z.r 5), .int .i64 (z.r 6), .int .i64 (z.r 7), .slice fd bn2 ge, .int .i64 z.st, .int .i64 z.ft, .slice ld dn2 he] rfl rfl _ (varN_new [.int .i64 0, .int .i64 0, .int .i64 0, .int .i64 0, .int .i64 0, .int .i64 0, .int .i64 0, .int .i64 0, .int .i64 0, .slice none 0 0, .int .i64 0, .int .i64 0, .slice none 0 0] v7.heap.size rfl) rfl (by kernel_rfl) (one_thr _ _ _ _ _ _ _) ?_; intro U HU)
                obtain ⟨U8, hUU⟩ : ∃ Z, Z = U := ⟨_, rfl⟩
                rw [← hUU] at HU ⊢
                clear hUU U
                have hb : Below v7.heap.size v7 U8 := by rw [HU.out]; exact below_setN (Nat.le_refl _) ((Below.refl _ _).alloc (Nat.le_refl _) _)
                have D0 := Lib.hid (show VarN U8 v7.heap.size [.int .i64 z.pc, .int .i64 (z.r 0), .int .i64 (z.r 1), .int .i64 (z.r 2), .int .i64 (z.r 3), .int .i64 (z.r 4), .int .i64 (z.r 5), .int .i64 (z.r 6), .int .i64 (z.r 7), .slice fd bn2 ge, .int .i64 z.st, .int .i64 z.ft, .slice ld dn2 he] by rw [HU.out]; exact varN_all (xs := [.int .i64 z.pc, .int .i64 (z.r 0), .int .i64 (z.r 1), .int .i64 (z.r 2), .int .i64 (z.r 3), .int .i64 (z.r 4), .int .i64 (z.r 5), .int .i64 (z.r 6), .int .i64 (z.r 7), .slice fd bn2 ge, .int .i64 z.st, .int .i64 z.ft, .slice ld dn2 he]) (varN_new [.int .i64 0, .int .i64 0, .int .i64 0, .int .i64 0, .int .i64 0, .int .i64 0, .int .i64 0, .int .i64 0, .int .i64 0, .slice none 0 0, .int .i64 0, .int .i64 0, .slice none 0 0] v7.heap.size rfl) rfl)
                have HB8 := Lib.hid (below_from HB7.out hb)
                have X8 := Lib.hid (varN_B hb X7.out)
                have I8 := Lib.hid (varN_B hb I7.out)
                have A8 := Lib.hid (varN_B hb A7.out)
                have T8 := Lib.hid (thF_B hb T7.out)
                have Z8 := Lib.hid (thF_B hb Z7.out)
                have Y8 := Lib.hid (thF_B hb Y1.out)
                clear hb HU X7 I7 A7 T7 Z7 Y1
                go_wp2_with (first | (refine wpList_load_mid rfl 27 _ rfl w.heap.size 0 rfl [.int .i64 u.pc, .int .i64 (u.r 0), .int .i64 (u.r 1), .int .i64 (u.r 2), .int .i64 (u.r 3), .int .i64 (u.r 4), .int .i64 (u.r 5), .int .i64 (u.r 6), .int .i64 (u.r 7), .slice fa m9 fc, .int .i64 u.st, .int .i64 u.ft, .slice la m12 lc] _ (varN_range X8.out) Try.underlying27 rfl (by kernel_rfl) ?_) | (refine wpList_load_mid rfl 29 _ rfl (w.heap.size + 1) 0 rfl [.int .i64 i.1, .int .i64 i.2.1, .int .i64 i.2.2.1, .int .i64 i.2.2.2] _ (varN_range I8.out) Try.underlying29 rfl (by kernel_rfl) ?_) | (refine wpList_load_mid rfl 27 _ rfl v2.heap.size 0 rfl [.int .i64 z.pc, .int .i64 (z.r 0), .int .i64 (z.r 1), .int .i64 (z.r 2), .int .i64 (z.r 3), .int .i64 (z.r 4), .int .i64 (z.r 5), .int .i64 (z.r 6), .int .i64 (z.r 7), .slice fb bn gc, .int .i64 z.st, .int .i64 z.ft, .slice lb dn hc] _ (varN_range A8.out) Try.underlying27 rfl (by kernel_rfl) ?_) | (refine wpList_load_mid rfl 27 _ rfl v7.heap.size 0 rfl [.int .i64 z.pc, .int .i64 (z.r 0), .int .i64 (z.r 1), .int .i64 (z.r 2), .int .i64 (z.r 3), .int .i64 (z.r 4), .int .i64 (z.r 5), .int .i64 (z.r 6), .int .i64 (z.r 7), .slice fd bn2 ge, .int .i64 z.st, .int .i64 z.ft, .slice ld dn2 he] _ (varN_range D0.out) Try.underlying27 rfl (by kernel_rfl) ?_))
                have h0 := alive7_any U8
                refine h0.mono ?_
                clear h0
                rintro e v9 ⟨rfl, hb⟩
                have HB9 := Lib.hid (below_from HB8.out hb)
                have X9 := Lib.hid (varN_B hb X8.out)
                have I9 := Lib.hid (varN_B hb I8.out)
                have A9 := Lib.hid (varN_B hb A8.out)
                have D9 := Lib.hid (varN_B hb D0.out)
                have T9 := Lib.hid (thF_B hb T8.out)
                have Z9 := Lib.hid (thF_B hb Z8.out)
                have Y9 := Lib.hid (thF_B hb Y8.out)
                clear hb X8 I8 A8 D0 T8 Z8 Y8
                have ka0 := (A9.out 0 _ rfl).1
                have ka1 := (A9.out 1 _ rfl).1
                have ka2 := (A9.out 2 _ rfl).1
                have ka3 := (A9.out 3 _ rfl).1
                have ka4 := (A9.out 4 _ rfl).1
                have ka5 := (A9.out 5 _ rfl).1
                have ka6 := (A9.out 6 _ rfl).1
                have ka7 := (A9.out 7 _ rfl).1
                have ka8 := (A9.out 8 _ rfl).1
                have ka9 := (A9.out 9 _ rfl).1
                have ka10 := (A9.out 10 _ rfl).1
                have ka11 := (A9.out 11 _ rfl).1
                have ka12 := (A9.out 12 _ rfl).1
                have kb0 := (D9.out 0 _ rfl).1
                have kb1 := (D9.out 1 _ rfl).1
                have kb2 := (D9.out 2 _ rfl).1
                have kb3 := (D9.out 3 _ rfl).1
                have kb4 := (D9.out 4 _ rfl).1
                have kb5 := (D9.out 5 _ rfl).1
                have kb6 := (D9.out 6 _ rfl).1
                have kb7 := (D9.out 7 _ rfl).1
                have kb8 := (D9.out 8 _ rfl).1
                have kb9 := (D9.out 9 _ rfl).1
                have kb10 := (D9.out 10 _ rfl).1
                have kb11 := (D9.out 11 _ rfl).1
                have kb12 := (D9.out 12 _ rfl).1
                go_wp2_with (first | (refine wpList_load_mid rfl 27 _ rfl w.heap.size 0 rfl [.int .i64 u.pc, .int .i64 (u.r 0), .int .i64 (u.r 1), .int .i64 (u.r 2), .int .i64 (u.r 3), .int .i64 (u.r 4), .int .i64 (u.r 5), .int .i64 (u.r 6), .int .i64 (u.r 7), .slice fa m9 fc, .int .i64 u.st, .int .i64 u.ft, .slice la m12 lc] _ (varN_range X9.out) Try.underlying27 rfl (by kernel_rfl) ?_) | (refine wpList_load_mid rfl 29 _ rfl (w.heap.size + 1) 0 rfl [.int .i64 i.1, .int .i64 i.2.1, .int .i64 i.2.2.1, .int .i64 i.2.2.2] _ (varN_range I9.out) Try.underlying29 rfl (by kernel_rfl) ?_) | (refine wpList_load_mid rfl 27 _ rfl v2.heap.size 0 rfl [.int .i64 z.pc, .int .i64 (z.r 0), .int .i64 (z.r 1), .int .i64 (z.r 2), .int .i64 (z.r 3), .int .i64 (z.r 4), .int .i64 (z.r 5), .int .i64 (z.r 6), .int .i64 (z.r 7), .slice fb bn gc, .int .i64 z.st, .int .i64 z.ft, .slice lb dn hc] _ (varN_range A9.out) Try.underlying27 rfl (by kernel_rfl) ?_) | (refine wpList_load_mid rfl 27 _ rfl v7.heap.size 0 rfl [.int .i64 z.pc, .int .i64 (z.r 0), .int .i64 (z.r 1), .int .i64 (z.r 2), .int .i64 (z.r 3), .int .i64 (z.r 4), .int .i64 (z.r 5), .int .i64 (z.r 6), .int .i64 (z.r 7), .slice fd bn2 ge, .int .i64 z.st, .int .i64 z.ft, .slice ld dn2 he] _ (varN_range D9.out) Try.underlying27 rfl (by kernel_rfl) ?_))
                have h0 := refSame6_any z z fb lb bn gc dn hc fd ld bn2 ge dn2 he v9 Z9.out Y9.out (by have := HBN.out.1; have := HZL.out; omega)
                rw [sameT_self] at h0
                refine h0.mono ?_
                clear h0
                rintro e v10 ⟨rfl, hb⟩
                have HB10 := Lib.hid (below_from HB9.out hb)
                have X10 := Lib.hid (varN_B hb X9.out)
                have I10 := Lib.hid (varN_B hb I9.out)
                have A10 := Lib.hid (varN_B hb A9.out)
                have D10 := Lib.hid (varN_B hb D9.out)
                have T10 := Lib.hid (thF_B hb T9.out)
                have Z10 := Lib.hid (thF_B hb Z9.out)
                have Y10 := Lib.hid (thF_B hb Y9.out)
                clear hb X9 I9 A9 D9 T9 Z9 Y9 ka0 ka1 ka2 ka3 ka4 ka5 ka6 ka7 ka8 ka9 ka10 ka11 ka12 kb0 kb1 kb2 kb3 kb4 kb5 kb6 kb7 kb8 kb9 kb10 kb11 kb12
                go_wp2_with (first | (refine wpList_load_mid rfl 27 _ rfl w.heap.size 0 rfl [.int .i64 u.pc, .int .i64 (u.r 0), .int .i64 (u.r 1), .int .i64 (u.r 2), .int .i64 (u.r 3), .int .i64 (u.r 4), .int .i64 (u.r 5), .int .i64 (u.r 6), .int .i64 (u.r 7), .slice fa m9 fc, .int .i64 u.st, .int .i64 u.ft, .slice la m12 lc] _ (varN_range X10.out) Try.underlying27 rfl (by kernel_rfl) ?_) | (refine wpList_load_mid rfl 29 _ rfl (w.heap.size + 1) 0 rfl [.int .i64 i.1, .int .i64 i.2.1, .int .i64 i.2.2.1, .int .i64 i.2.2.2] _ (varN_range I10.out) Try.underlying29 rfl (by kernel_rfl) ?_) | (refine wpList_load_mid rfl 27 _ rfl v2.heap.size 0 rfl [.int .i64 z.pc, .int .i64 (z.r 0), .int .i64 (z.r 1), .int .i64 (z.r 2), .int .i64 (z.r 3), .int .i64 (z.r 4), .int .i64 (z.r 5), .int .i64 (z.r 6), .int .i64 (z.r 7), .slice fb bn gc, .int .i64 z.st, .int .i64 z.ft, .slice lb dn hc] _ (varN_range A10.out) Try.underlying27 rfl (by kernel_rfl) ?_) | (refine wpList_load_mid rfl 27 _ rfl v7.heap.size 0 rfl [.int .i64 z.pc, .int .i64 (z.r 0), .int .i64 (z.r 1), .int .i64 (z.r 2), .int .i64 (z.r 3), .int .i64 (z.r 4), .int .i64 (z.r 5), .int .i64 (z.r 6), .int .i64 (z.r 7), .slice fd bn2 ge, .int .i64 z.st, .int .i64 z.ft, .slice ld dn2 he] _ (varN_range D10.out) Try.underlying27 rfl (by kernel_rfl) ?_))
                go_ret
                exact boolPost_mk rfl HB10.out
            · skip
              have HO := Lib.hid (show i.1 < 1 ∨ 15 < i.1 by omega)
              have HO2 := Lib.hid ho
              clear ho
              obtain rfl : x = 10 := by rw [← HXE.out]; exact (by rw [HAP.out, if_neg (by rw [HY.out]; decide), if_pos HO.out])
              obtain rfl : z = zThr := by rw [← HZ.out]; exact apT_no (by rw [HXE.out]; decide)
              have HBZ := Lib.hid (show bn ≤ 0 by have h := HBN.out.1; rw [← h]; exact Nat.le_refl _)
              go_wp2_with (first | (refine wpList_load_mid rfl 27 _ rfl w.heap.size 0 rfl [.int .i64 u.pc, .int .i64 (u.r 0), .int .i64 (u.r 1), .int .i64 (u.r 2), .int .i64 (u.r 3), .int .i64 (u.r 4), .int .i64 (u.r 5), .int .i64 (u.r 6), .int .i64 (u.r 7), .slice fa m9 fc, .int .i64 u.st, .int .i64 u.ft, .slice la m12 lc] _ (varN_range X5.out) Try.underlying27 rfl (by kernel_rfl) ?_) | (refine wpList_load_mid rfl 29 _ rfl (w.heap.size + 1) 0 rfl [.int .i64 i.1, .int .i64 i.2.1, .int .i64 i.2.2.1, .int .i64 i.2.2.2] _ (varN_range I5.out) Try.underlying29 rfl (by kernel_rfl) ?_) | (refine wpList_load_mid rfl 27 _ rfl v2.heap.size 0 rfl [.int .i64 z.pc, .int .i64 (z.r 0), .int .i64 (z.r 1), .int .i64 (z.r 2), .int .i64 (z.r 3), .int .i64 (z.r 4), .int .i64 (z.r 5), .int .i64 (z.r 6), .int .i64 (z.r 7), .slice fb bn gc, .int .i64 z.st, .int .i64 z.ft, .slice lb dn hc] _ (varN_range A5.out) Try.underlying27 rfl (by kernel_rfl) ?_))
              have h0 := refLocal_any i.1 v5
              rw [decide_eq_false HO2.out] at h0
              refine h0.mono ?_
              clear h0
              rintro e wx ⟨rfl, hx⟩
              cases hx
              clear ko
              go_upto_region 13 with (first | (refine wpList_load_mid rfl 27 _ rfl w.heap.size 0 rfl [.int .i64 u.pc, .int .i64 (u.r 0), .int .i64 (u.r 1), .int .i64 (u.r 2), .int .i64 (u.r 3), .int .i64 (u.r 4), .int .i64 (u.r 5), .int .i64 (u.r 6), .int .i64 (u.r 7), .slice fa m9 fc, .int .i64 u.st, .int .i64 u.ft, .slice la m12 lc] _ (varN_range X5.out) Try.underlying27 rfl (by kernel_rfl) ?_) | (refine wpList_load_mid rfl 29 _ rfl (w.heap.size + 1) 0 rfl [.int .i64 i.1, .int .i64 i.2.1, .int .i64 i.2.2.1, .int .i64 i.2.2.2] _ (varN_range I5.out) Try.underlying29 rfl (by kernel_rfl) ?_) | (refine wpList_load_mid rfl 27 _ rfl v2.heap.size 0 rfl [.int .i64 z.pc, .int .i64 (z.r 0), .int .i64 (z.r 1), .int .i64 (z.r 2), .int .i64 (z.r 3), .int .i64 (z.r 4), .int .i64 (z.r 5), .int .i64 (z.r 6), .int .i64 (z.r 7), .slice fb bn gc, .int .i64 z.st, .int .i64 z.ft, .slice lb dn hc] _ (varN_range A5.out) Try.underlying27 rfl (by kernel_rfl) ?_))
              go_wp2_with (first | (refine wpList_load_mid rfl 27 _ rfl w.heap.size 0 rfl [.int .i64 u.pc, .int .i64 (u.r 0), .int .i64 (u.r 1), .int .i64 (u.r 2), .int .i64 (u.r 3), .int .i64 (u.r 4), .int .i64 (u.r 5), .int .i64 (u.r 6), .int .i64 (u.r 7), .slice fa m9 fc, .int .i64 u.st, .int .i64 u.ft, .slice la m12 lc] _ (varN_range X5.out) Try.underlying27 rfl (by kernel_rfl) ?_) | (refine wpList_load_mid rfl 29 _ rfl (w.heap.size + 1) 0 rfl [.int .i64 i.1, .int .i64 i.2.1, .int .i64 i.2.2.1, .int .i64 i.2.2.2] _ (varN_range I5.out) Try.underlying29 rfl (by kernel_rfl) ?_) | (refine wpList_load_mid rfl 27 _ rfl v2.heap.size 0 rfl [.int .i64 z.pc, .int .i64 (z.r 0), .int .i64 (z.r 1), .int .i64 (z.r 2), .int .i64 (z.r 3), .int .i64 (z.r 4), .int .i64 (z.r 5), .int .i64 (z.r 6), .int .i64 (z.r 7), .slice fb bn gc, .int .i64 z.st, .int .i64 z.ft, .slice lb dn hc] _ (varN_range A5.out) Try.underlying27 rfl (by kernel_rfl) ?_))
              have h0 := alive7_any v5
              refine h0.mono ?_
              clear h0
              rintro e v6 ⟨rfl, hb⟩
              have HB6 := Lib.hid (below_from HB5.out hb)
              have X6 := Lib.hid (varN_B hb X5.out)
              have I6 := Lib.hid (varN_B hb I5.out)
              have A6 := Lib.hid (varN_B hb A5.out)
              have T6 := Lib.hid (thF_B hb T5.out)
              have Z6 := Lib.hid (thF_B hb Z5.out)
              clear hb X5 I5 A5 T5 Z5
              have ka0 := (A6.out 0 _ rfl).1
              have ka1 := (A6.out 1 _ rfl).1
              have ka2 := (A6.out 2 _ rfl).1
              have ka3 := (A6.out 3 _ rfl).1
              have ka4 := (A6.out 4 _ rfl).1
              have ka5 := (A6.out 5 _ rfl).1
              have ka6 := (A6.out 6 _ rfl).1
              have ka7 := (A6.out 7 _ rfl).1
              have ka8 := (A6.out 8 _ rfl).1
              have ka9 := (A6.out 9 _ rfl).1
              have ka10 := (A6.out 10 _ rfl).1
              have ka11 := (A6.out 11 _ rfl).1
              have ka12 := (A6.out 12 _ rfl).1
              go_wp2_with (first | (refine wpList_load_mid rfl 27 _ rfl w.heap.size 0 rfl [.int .i64 u.pc, .int .i64 (u.r 0), .int .i64 (u.r 1), .int .i64 (u.r 2), .int .i64 (u.r 3), .int .i64 (u.r 4), .int .i64 (u.r 5), .int .i64 (u.r 6), .int .i64 (u.r 7), .slice fa m9 fc, .int .i64 u.st, .int .i64 u.ft, .slice la m12 lc] _ (varN_range X6.out) Try.underlying27 rfl (by kernel_rfl) ?_) | (refine wpList_load_mid rfl 29 _ rfl (w.heap.size + 1) 0 rfl [.int .i64 i.1, .int .i64 i.2.1, .int .i64 i.2.2.1, .int .i64 i.2.2.2] _ (varN_range I6.out) Try.underlying29 rfl (by kernel_rfl) ?_) | (refine wpList_load_mid rfl 27 _ rfl v2.heap.size 0 rfl [.int .i64 z.pc, .int .i64 (z.r 0), .int .i64 (z.r 1), .int .i64 (z.r 2), .int .i64 (z.r 3), .int .i64 (z.r 4), .int .i64 (z.r 5), .int .i64 (z.r 6), .int .i64 (z.r 7), .slice fb bn gc, .int .i64 z.st, .int .i64 z.ft, .slice lb dn hc] _ (varN_range A6.out) Try.underlying27 rfl (by kernel_rfl) ?_))
              have h0 := refSame6_any zThr zThr fb lb bn gc dn hc none none 0 0 0 0 v6 Z6.out (thF_zero _) (by have := HBZ.out; omega)
              rw [sameT_self] at h0
              refine h0.mono ?_
              clear h0
              rintro e v7 ⟨rfl, hb⟩
              have HB7 := Lib.hid (below_from HB6.out hb)
              have X7 := Lib.hid (varN_B hb X6.out)
              have I7 := Lib.hid (varN_B hb I6.out)
              have A7 := Lib.hid (varN_B hb A6.out)
              have T7 := Lib.hid (thF_B hb T6.out)
              have Z7 := Lib.hid (thF_B hb Z6.out)
              clear hb X6 I6 A6 T6 Z6 ka0 ka1 ka2 ka3 ka4 ka5 ka6 ka7 ka8 ka9 ka10 ka11 ka12
              go_wp2_with (first | (refine wpList_load_mid rfl 27 _ rfl w.heap.size 0 rfl [.int .i64 u.pc, .int .i64 (u.r 0), .int .i64 (u.r 1), .int .i64 (u.r 2), .int .i64 (u.r 3), .int .i64 (u.r 4), .int .i64 (u.r 5), .int .i64 (u.r 6), .int .i64 (u.r 7), .slice fa m9 fc, .int .i64 u.st, .int .i64 u.ft, .slice la m12 lc] _ (varN_range X7.out) Try.underlying27 rfl (by kernel_rfl) ?_) | (refine wpList_load_mid rfl 29 _ rfl (w.heap.size + 1) 0 rfl [.int .i64 i.1, .int .i64 i.2.1, .int .i64 i.2.2.1, .int .i64 i.2.2.2] _ (varN_range I7.out) Try.underlying29 rfl (by kernel_rfl) ?_) | (refine wpList_load_mid rfl 27 _ rfl v2.heap.size 0 rfl [.int .i64 z.pc, .int .i64 (z.r 0), .int .i64 (z.r 1), .int .i64 (z.r 2), .int .i64 (z.r 3), .int .i64 (z.r 4), .int .i64 (z.r 5), .int .i64 (z.r 6), .int .i64 (z.r 7), .slice fb bn gc, .int .i64 z.st, .int .i64 z.ft, .slice lb dn hc] _ (varN_range A7.out) Try.underlying27 rfl (by kernel_rfl) ?_))
              go_ret
              exact boolPost_mk rfl HB7.out
end Go.Proofs.Ytjddflnecfokaaa
