/- The walk of LocalKeeps. -/
import Derived.Test.YtjddflnecfokaaaLwR
import Derived.Test.YtjddflnecfokaaaLoAl
import Derived.Test.YtjddflnecfokaaaFrM7
import Derived.Test.YtjddflnecfokaaaStp8
import Derived.Deep.QuietTactic
import Derived.BigQuiet
namespace Go.Proofs.Ytjddflnecfokaaa
open Go.ChangeShapes Go.WideShapes Go.ChangeAt Go.RowKit
open Gen

theorem wp_store_off9 {P : Program} {o : Oper} {a : Act} {w : World} {K : Act → World → Prop} {Q : Exit → Act → World → Prop} (ty : TypeId) (x y : Operand) (ho : o.op = .store ty x y) (g f : Nat) (cells : Array Value) (hx : a.eval x = .pointer (some ⟨g, f, none⟩)) (hy : a.eval y = .agg cells)
    (vs : List Value) (hv : VarN w g vs) (hl : f + cells.size ≤ vs.length) (hi : (P.info? ty).map (·.size) = some cells.size) (h1 : cells.all (·.oneCell') = true)
    (h : ∀ U, Hid (U = setN w g f cells.toList) → K (a.put o.dst undef) U) : Oper.wp P o a w K Q :=
  wp_store_mid ty x y ho g f cells hx hy (fun j hj => by
    have hv' : vs[f + j]? = some (vs[f + j]'(by omega)) := by simp [show f + j < vs.length by omega]
    obtain ⟨h1, h2⟩ := hv _ _ hv'
    exact ⟨by rw [h1]; rfl, h2⟩) hi h1 (h _ (Lib.hid (setN_cells _ _ _ _)))
theorem keeps_math {u : Thr} {self : Int} {i : In4} (h : apE u self i = 0) (h1 : i.1 ≠ 13) (h2 : i.1 ≠ 14) : (apT u self i).fs = u.fs ∧ (apT u self i).st = u.st ∧ (apT u self i).ft = u.ft ∧ (apT u self i).lf = u.lf ∧ ∀ k : Nat, (k : Int) ≠ i.2.1 → (apT u self i).r k = u.r k := by
  obtain ⟨-, -, -, -, -, -, -, -, -, e⟩ := apE_ok h
  rw [e]
  unfold doT
  have hb : ∀ b pc, (brT u b pc).fs = u.fs ∧ (brT u b pc).st = u.st ∧ (brT u b pc).ft = u.ft ∧ (brT u b pc).lf = u.lf ∧ ∀ k : Nat, (k : Int) ≠ i.2.1 → (brT u b pc).r k = u.r k := by
    intro b pc; unfold brT; split <;> exact ⟨rfl, rfl, rfl, rfl, fun _ _ => rfl⟩
  split
  · exact ⟨rfl, rfl, rfl, rfl, fun _ _ => rfl⟩
  · split
    · exact hb _ _
    · split
      · exact hb _ _
      · first | rw [if_neg h1, if_neg h2] | skip
        exact ⟨rfl, rfl, rfl, rfl, fun k hk => by show setR u.r i.2.1 _ k = u.r k; rw [setR, if_neg hk]⟩
theorem calls_math {u : Thr} {self : Int} {i : In4} (h : apE u self i = 0) (h1 : i.1 = 13) : (apT u self i).fs.length = u.fs.length + 1 ∧ (apT u self i).r = u.r := by
  obtain ⟨-, -, -, -, -, -, -, -, e0, e⟩ := apE_ok h
  rw [doE, if_pos h1] at e0
  obtain ⟨-, -, -, -, -, c6⟩ := callE_ok e0
  rw [e, doT, if_neg (by omega), if_neg (by omega), if_neg (by omega), if_pos h1, c6]
  exact ⟨by simp, rfl⟩
theorem backs_math {u : Thr} {self : Int} {i : In4} (h : apE u self i = 0) (h1 : i.1 = 14) : (apT u self i).fs.length + 1 = u.fs.length := by
  obtain ⟨hr, -, -, -, -, -, -, -, e0, e⟩ := apE_ok h
  rw [doE, if_neg (by omega), if_pos h1] at e0
  have hl : u.fs.length ≠ 0 := fun q => by rw [backE, if_pos hr, if_pos q] at e0; omega
  rw [e, doT, if_neg (by omega), if_neg (by omega), if_neg (by omega), if_neg (by omega), if_pos h1, backT, if_pos e0]
  simp only [List.length_take]
  omega
inductive KeepR (u z : Thr) (g v : Nat) (fa la fb lb : Option Addr) (m9 fc m12 lc bn gc dn hc : Nat) (a0 : Act) (w0 : World) (listed : Array Bool) (act' : Act) (w' : World) : Prop
  | mk (p88 p89 p90 p91 p92 p93 : Value) (rr : Nat → Int) (pp : Int) (ea : act' = ((((((a0.put (some 88) p88).put (some 89) p89).put (some 90) p90).put (some 91) p91).put (some 92) p92).put (some 93) p93)) (hb : Below v w0 w' ∧ VarN w' g [.int .i64 u.pc, .int .i64 (u.r 0), .int .i64 (u.r 1), .int .i64 (u.r 2), .int .i64 (u.r 3), .int .i64 (u.r 4), .int .i64 (u.r 5), .int .i64 (u.r 6), .int .i64 (u.r 7), .slice fa m9 fc, .int .i64 u.st, .int .i64 u.ft, .slice la m12 lc] ∧ VarN w' v [.int .i64 pp, .int .i64 (rr 0), .int .i64 (rr 1), .int .i64 (rr 2), .int .i64 (rr 3), .int .i64 (rr 4), .int .i64 (rr 5), .int .i64 (rr 6), .int .i64 (rr 7), .slice fb bn gc, .int .i64 z.st, .int .i64 z.ft, .slice lb dn hc]) (hf0 : Up listed 0 → p88 = .pointer (some ⟨g, 1, none⟩)) (hf1 : Up listed 1 → p89 = .agg #[.int .i64 (u.r 0), .int .i64 (u.r 1), .int .i64 (u.r 2), .int .i64 (u.r 3), .int .i64 (u.r 4), .int .i64 (u.r 5), .int .i64 (u.r 6), .int .i64 (u.r 7)]) (hf2 : Up listed 2 → p90 = .pointer (some ⟨g, 0, none⟩)) (hf3 : Up listed 3 → p91 = .int .i64 u.pc) (hf4 : Up listed 4 → p92 = .pointer (some ⟨v, 1, none⟩)) (hS : Up listed 5 → rr = u.r) (hf6 : Up listed 6 → p93 = .pointer (some ⟨v, 0, none⟩)) (hU : Up listed 7 → pp = u.pc) : KeepR u z g v fa la fb lb m9 fc m12 lc bn gc dn hc a0 w0 listed act' w'
theorem apT_len8 (t : Thr) (self : Int) (i : In4) : (apT t self i).fs.length ≤ 6 := by
  by_cases h : apE t self i = 0
  · exact (rightT_len (right_do h).1).1
  · rw [apT_no h]; exact Nat.zero_le _
set_option maxRecDepth 100000 in
set_option maxHeartbeats 16000000 in
theorem LocalKeeps_walk (t : Thr) (self : Int) (i : In4) (fa la : Option Addr) (fn fc ln lc : Nat) (w : World) (F : ThF w fa fn fc la ln lc t) :
    Calls Try.prog 5 #[.agg #[.int .i64 t.pc, .int .i64 (t.r 0), .int .i64 (t.r 1), .int .i64 (t.r 2), .int .i64 (t.r 3), .int .i64 (t.r 4), .int .i64 (t.r 5), .int .i64 (t.r 6), .int .i64 (t.r 7), .slice fa fn fc, .int .i64 t.st, .int .i64 t.ft, .slice la ln lc], .int .i64 self, .agg #[.int .i64 i.1, .int .i64 i.2.1, .int .i64 i.2.2.1, .int .i64 i.2.2.2]] w (BoolPost true w) := by
  have FU := few_F F
  have C1 := F.fcap
  have C2 := F.lcap
  obtain ⟨u, hu⟩ : ∃ u : Thr, cutT t (min fn 8) (min ln 10) = u := ⟨_, rfl⟩
  obtain ⟨m9, hm9⟩ : ∃ m, min fn 8 = m := ⟨_, rfl⟩
  obtain ⟨m12, hm12⟩ : ∃ m, min ln 10 = m := ⟨_, rfl⟩
  have hfew : ∀ w', Calls Try.prog 8 #[.agg #[.int .i64 t.pc, .int .i64 (t.r 0), .int .i64 (t.r 1), .int .i64 (t.r 2), .int .i64 (t.r 3), .int .i64 (t.r 4), .int .i64 (t.r 5), .int .i64 (t.r 6), .int .i64 (t.r 7), .slice fa fn fc, .int .i64 t.st, .int .i64 t.ft, .slice la ln lc]] w' (fun e w2 => e = .returned (.agg #[.int .i64 u.pc, .int .i64 (u.r 0), .int .i64 (u.r 1), .int .i64 (u.r 2), .int .i64 (u.r 3), .int .i64 (u.r 4), .int .i64 (u.r 5), .int .i64 (u.r 6), .int .i64 (u.r 7), .slice fa m9 fc, .int .i64 u.st, .int .i64 u.ft, .slice la m12 lc]) ∧ Below w'.heap.size w' w2) := fun w' => by
    have h := few7_any t fa la fn fc ln lc w' C1 C2
    rw [hm9, hm12] at h
    rw [← hu]; exact h
  rw [hu, hm9, hm12] at FU
  have HFEW := Lib.hid hfew
  have HM := Lib.hid (show m9 ≤ 8 ∧ m12 ≤ 10 by omega)
  have HFU := Lib.hid FU
  clear hu hm9 hm12 hfew C1 C2 FU F
  obtain ⟨W, hW⟩ : ∃ W, W = (w.alloc (Obj.cells #[.int .i64 t.pc, .int .i64 (t.r 0), .int .i64 (t.r 1), .int .i64 (t.r 2), .int .i64 (t.r 3), .int .i64 (t.r 4), .int .i64 (t.r 5), .int .i64 (t.r 6), .int .i64 (t.r 7), .slice fa fn fc, .int .i64 t.st, .int .i64 t.ft, .slice la ln lc] 27)).alloc (Obj.cells #[.int .i64 i.1, .int .i64 i.2.1, .int .i64 i.2.2.1, .int .i64 i.2.2.2] 29) := ⟨_, rfl⟩
  have X : VarN W w.heap.size [.int .i64 t.pc, .int .i64 (t.r 0), .int .i64 (t.r 1), .int .i64 (t.r 2), .int .i64 (t.r 3), .int .i64 (t.r 4), .int .i64 (t.r 5), .int .i64 (t.r 6), .int .i64 (t.r 7), .slice fa fn fc, .int .i64 t.st, .int .i64 t.ft, .slice la ln lc] := by rw [hW]; exact varN_A _ (varN_new [.int .i64 t.pc, .int .i64 (t.r 0), .int .i64 (t.r 1), .int .i64 (t.r 2), .int .i64 (t.r 3), .int .i64 (t.r 4), .int .i64 (t.r 5), .int .i64 (t.r 6), .int .i64 (t.r 7), .slice fa fn fc, .int .i64 t.st, .int .i64 t.ft, .slice la ln lc] _ rfl)
  have IV : VarN W (w.heap.size + 1) [.int .i64 i.1, .int .i64 i.2.1, .int .i64 i.2.2.1, .int .i64 i.2.2.2] := by rw [hW]; exact varN_new [.int .i64 i.1, .int .i64 i.2.1, .int .i64 i.2.2.1, .int .i64 i.2.2.2] _ (by simp)
  have hB : Below w.heap.size w W := by rw [hW]; go_grown
  have X3 := Lib.hid X
  have I5 := Lib.hid IV
  have HB0 := Lib.hid hB
  have HW := Lib.hid hW
  clear hW X IV hB
  go_enter Try.func5, Try.ntmps5
  go_upto_region 1 with fail
  rw [← HW.out]
  go_wp2_with (first | (refine wpList_load_mid rfl 27 _ rfl w.heap.size 0 rfl [.int .i64 t.pc, .int .i64 (t.r 0), .int .i64 (t.r 1), .int .i64 (t.r 2), .int .i64 (t.r 3), .int .i64 (t.r 4), .int .i64 (t.r 5), .int .i64 (t.r 6), .int .i64 (t.r 7), .slice fa fn fc, .int .i64 t.st, .int .i64 t.ft, .slice la ln lc] _ (varN_range X3.out) Try.underlying27 rfl (by kernel_rfl) ?_) | (refine wpList_load_mid rfl 29 _ rfl (w.heap.size + 1) 0 rfl [.int .i64 i.1, .int .i64 i.2.1, .int .i64 i.2.2.1, .int .i64 i.2.2.2] _ (varN_range I5.out) Try.underlying29 rfl (by kernel_rfl) ?_))
  have h0 := HFEW.out W
  refine h0.mono ?_
  clear h0
  rintro e v1 ⟨rfl, hb⟩
  have HB1 := Lib.hid (below_from HB0.out hb)
  have X1 := Lib.hid (varN_B hb X3.out)
  have I1 := Lib.hid (varN_B hb I5.out)
  clear hb X3 I5
  go_upto_region 2 with (refine wpList_store_var rfl 27 _ _ rfl w.heap.size #[.int .i64 u.pc, .int .i64 (u.r 0), .int .i64 (u.r 1), .int .i64 (u.r 2), .int .i64 (u.r 3), .int .i64 (u.r 4), .int .i64 (u.r 5), .int .i64 (u.r 6), .int .i64 (u.r 7), .slice fa m9 fc, .int .i64 u.st, .int .i64 u.ft, .slice la m12 lc] rfl rfl _ X1.out rfl (by kernel_rfl) (one_thr _ _ _ _ _ _ _) ?_; intro U HU)
  obtain ⟨U1, hUU⟩ : ∃ Z, Z = U := ⟨_, rfl⟩
  rw [← hUU] at HU ⊢
  clear hUU U
  have HB8 := Lib.hid (show Below w.heap.size w U1 from below_set HU (Nat.le_refl _) HB1.out)
  have X8 := Lib.hid (show VarN U1 w.heap.size [.int .i64 u.pc, .int .i64 (u.r 0), .int .i64 (u.r 1), .int .i64 (u.r 2), .int .i64 (u.r 3), .int .i64 (u.r 4), .int .i64 (u.r 5), .int .i64 (u.r 6), .int .i64 (u.r 7), .slice fa m9 fc, .int .i64 u.st, .int .i64 u.ft, .slice la m12 lc] by rw [HU.out]; exact varN_all (xs := [.int .i64 u.pc, .int .i64 (u.r 0), .int .i64 (u.r 1), .int .i64 (u.r 2), .int .i64 (u.r 3), .int .i64 (u.r 4), .int .i64 (u.r 5), .int .i64 (u.r 6), .int .i64 (u.r 7), .slice fa m9 fc, .int .i64 u.st, .int .i64 u.ft, .slice la m12 lc]) X1.out rfl)
  have I8 := Lib.hid (show VarN U1 (w.heap.size + 1) [.int .i64 i.1, .int .i64 i.2.1, .int .i64 i.2.2.1, .int .i64 i.2.2.2] by rw [HU.out]; exact varN_others (by omega) I1.out)
  have T8 := Lib.hid (thF_low HB8.out HFU.out)
  clear HU HB1 X1 I1 HFEW HFU
  obtain ⟨z, hz⟩ : ∃ z, apT u self i = z := ⟨_, rfl⟩
  obtain ⟨x, hx⟩ : ∃ x, apE u self i = x := ⟨_, rfl⟩
  have HZ := Lib.hid hz
  have HXE := Lib.hid hx
  have HZL := Lib.hid (show z.fs.length ≤ 6 by rw [← hz]; exact apT_len8 u self i)
  clear hz hx
  go_wp2_with (first | (refine wpList_load_mid rfl 27 _ rfl w.heap.size 0 rfl [.int .i64 u.pc, .int .i64 (u.r 0), .int .i64 (u.r 1), .int .i64 (u.r 2), .int .i64 (u.r 3), .int .i64 (u.r 4), .int .i64 (u.r 5), .int .i64 (u.r 6), .int .i64 (u.r 7), .slice fa m9 fc, .int .i64 u.st, .int .i64 u.ft, .slice la m12 lc] _ (varN_range X8.out) Try.underlying27 rfl (by kernel_rfl) ?_) | (refine wpList_load_mid rfl 29 _ rfl (w.heap.size + 1) 0 rfl [.int .i64 i.1, .int .i64 i.2.1, .int .i64 i.2.2.1, .int .i64 i.2.2.2] _ (varN_range I8.out) Try.underlying29 rfl (by kernel_rfl) ?_))
  have h0 := apply_any u self i fa la m9 fc m12 lc U1 T8.out
  rw [HZ.out, HXE.out] at h0
  refine h0.mono ?_
  clear h0
  rintro e v2 ⟨fb, gc, lb, hc, rfl, Q1, hb⟩
  have HB2 := Lib.hid (below_from HB8.out hb)
  have X2 := Lib.hid (varN_B hb X8.out)
  have I2 := Lib.hid (varN_B hb I8.out)
  have T2 := Lib.hid (thF_B hb T8.out)
  clear hb X8 I8 T8
  obtain ⟨bn, hbn⟩ : ∃ n, z.fs.length = n := ⟨_, rfl⟩
  obtain ⟨dn, hdn⟩ : ∃ n, z.lf.length = n := ⟨_, rfl⟩
  rw [hbn, hdn] at Q1 ⊢
  have Z1 := Lib.hid Q1.f
  have HBN := Lib.hid (And.intro hbn hdn)
  clear Q1 hbn hdn
  have ZQ0 := Lib.hid (thQ_old Z1.out)
  have TQ0 := Lib.hid (thQ_old T2.out)
  go_upto_region 3 with (refine wpList_store_var rfl 27 _ _ rfl v2.heap.size #[.int .i64 z.pc, .int .i64 (z.r 0), .int .i64 (z.r 1), .int .i64 (z.r 2), .int .i64 (z.r 3), .int .i64 (z.r 4), .int .i64 (z.r 5), .int .i64 (z.r 6), .int .i64 (z.r 7), .slice fb bn gc, .int .i64 z.st, .int .i64 z.ft, .slice lb dn hc] rfl rfl _ (varN_new [.int .i64 0, .int .i64 0, .int .i64 0, .int .i64 0, .int .i64 0, .int .i64 0, .int .i64 0, .int .i64 0, .int .i64 0, .slice none 0 0, .int .i64 0, .int .i64 0, .slice none 0 0] v2.heap.size rfl) rfl (by kernel_rfl) (one_thr _ _ _ _ _ _ _) ?_; intro U HU)
  obtain ⟨U3, hUU⟩ : ∃ Z, Z = U := ⟨_, rfl⟩
  rw [← hUU] at HU ⊢
  clear hUU U
  have hb : Below v2.heap.size v2 U3 := by rw [HU.out]; exact below_setN (Nat.le_refl _) ((Below.refl _ _).alloc (Nat.le_refl _) _)
  have HSZ := Lib.hid (show w.heap.size + 2 ≤ v2.heap.size from varN_lt X2.out (by simp) |> fun _ => by have := varN_lt I2.out (by simp); omega)
  have A0 := Lib.hid (show VarN U3 v2.heap.size [.int .i64 z.pc, .int .i64 (z.r 0), .int .i64 (z.r 1), .int .i64 (z.r 2), .int .i64 (z.r 3), .int .i64 (z.r 4), .int .i64 (z.r 5), .int .i64 (z.r 6), .int .i64 (z.r 7), .slice fb bn gc, .int .i64 z.st, .int .i64 z.ft, .slice lb dn hc] by rw [HU.out]; exact varN_all (xs := [.int .i64 z.pc, .int .i64 (z.r 0), .int .i64 (z.r 1), .int .i64 (z.r 2), .int .i64 (z.r 3), .int .i64 (z.r 4), .int .i64 (z.r 5), .int .i64 (z.r 6), .int .i64 (z.r 7), .slice fb bn gc, .int .i64 z.st, .int .i64 z.ft, .slice lb dn hc]) (varN_new [.int .i64 0, .int .i64 0, .int .i64 0, .int .i64 0, .int .i64 0, .int .i64 0, .int .i64 0, .int .i64 0, .int .i64 0, .slice none 0 0, .int .i64 0, .int .i64 0, .slice none 0 0] v2.heap.size rfl) rfl)
  have HB3 := Lib.hid (below_from HB2.out hb)
  have X3 := Lib.hid (varN_B hb X2.out)
  have I3 := Lib.hid (varN_B hb I2.out)
  have T3 := Lib.hid (thF_B hb T2.out)
  have Z3 := Lib.hid (thF_B hb Z1.out)
  have ZQ3 := Lib.hid (thQ_keep (kept_B hb) ZQ0.out)
  have TQ3 := Lib.hid (thQ_keep (kept_B hb) TQ0.out)
  clear hb HU X2 I2 T2 Z1 ZQ0 TQ0
  by_cases hx0 : x = 0
  · skip
    subst hx0
    have RD := right_do HXE.out
    rw [HZ.out] at RD
    have HRD := Lib.hid RD
    clear RD
    go_wp2_with (first | (refine wpList_load_mid rfl 27 _ rfl w.heap.size 0 rfl [.int .i64 u.pc, .int .i64 (u.r 0), .int .i64 (u.r 1), .int .i64 (u.r 2), .int .i64 (u.r 3), .int .i64 (u.r 4), .int .i64 (u.r 5), .int .i64 (u.r 6), .int .i64 (u.r 7), .slice fa m9 fc, .int .i64 u.st, .int .i64 u.ft, .slice la m12 lc] _ (varN_range X3.out) Try.underlying27 rfl (by kernel_rfl) ?_) | (refine wpList_load_mid rfl 29 _ rfl (w.heap.size + 1) 0 rfl [.int .i64 i.1, .int .i64 i.2.1, .int .i64 i.2.2.1, .int .i64 i.2.2.2] _ (varN_range I3.out) Try.underlying29 rfl (by kernel_rfl) ?_) | (refine wpList_load_mid rfl 27 _ rfl v2.heap.size 0 rfl [.int .i64 z.pc, .int .i64 (z.r 0), .int .i64 (z.r 1), .int .i64 (z.r 2), .int .i64 (z.r 3), .int .i64 (z.r 4), .int .i64 (z.r 5), .int .i64 (z.r 6), .int .i64 (z.r 7), .slice fb bn gc, .int .i64 z.st, .int .i64 z.ft, .slice lb dn hc] _ (varN_range A0.out) Try.underlying27 rfl (by kernel_rfl) ?_))
    have h0 := refRight6_any z fb lb bn gc dn hc U3 Z3.out
    rw [HRD.out.1] at h0
    refine h0.mono ?_
    clear h0
    rintro e v4 ⟨rfl, hb⟩
    have HB4 := Lib.hid (below_from HB3.out hb)
    have X4 := Lib.hid (varN_B hb X3.out)
    have I4 := Lib.hid (varN_B hb I3.out)
    have A4 := Lib.hid (varN_B hb A0.out)
    have T4 := Lib.hid (thF_B hb T3.out)
    have Z4 := Lib.hid (thF_B hb Z3.out)
    have ZQ4 := Lib.hid (thQ_keep (kept_B hb) ZQ3.out)
    have TQ4 := Lib.hid (thQ_keep (kept_B hb) TQ3.out)
    clear hb X3 I3 A0 T3 Z3 ZQ3 TQ3
    have kst := (A4.out 10 _ rfl).1
    rw [HRD.out.2.1] at kst
    go_wp2_with (first | (refine wpList_load_mid rfl 27 _ rfl w.heap.size 0 rfl [.int .i64 u.pc, .int .i64 (u.r 0), .int .i64 (u.r 1), .int .i64 (u.r 2), .int .i64 (u.r 3), .int .i64 (u.r 4), .int .i64 (u.r 5), .int .i64 (u.r 6), .int .i64 (u.r 7), .slice fa m9 fc, .int .i64 u.st, .int .i64 u.ft, .slice la m12 lc] _ (varN_range X4.out) Try.underlying27 rfl (by kernel_rfl) ?_) | (refine wpList_load_mid rfl 29 _ rfl (w.heap.size + 1) 0 rfl [.int .i64 i.1, .int .i64 i.2.1, .int .i64 i.2.2.1, .int .i64 i.2.2.2] _ (varN_range I4.out) Try.underlying29 rfl (by kernel_rfl) ?_) | (refine wpList_load_mid rfl 27 _ rfl v2.heap.size 0 rfl [.int .i64 z.pc, .int .i64 (z.r 0), .int .i64 (z.r 1), .int .i64 (z.r 2), .int .i64 (z.r 3), .int .i64 (z.r 4), .int .i64 (z.r 5), .int .i64 (z.r 6), .int .i64 (z.r 7), .slice fb bn gc, .int .i64 z.st, .int .i64 z.ft, .slice lb dn hc] _ (varN_range A4.out) Try.underlying27 rfl (by kernel_rfl) ?_))
    have h0 := alive7_any v4
    refine h0.mono ?_
    clear h0
    rintro e v5 ⟨rfl, hb⟩
    have HB5 := Lib.hid (below_from HB4.out hb)
    have X5 := Lib.hid (varN_B hb X4.out)
    have I5 := Lib.hid (varN_B hb I4.out)
    have A5 := Lib.hid (varN_B hb A4.out)
    have T5 := Lib.hid (thF_B hb T4.out)
    have Z5 := Lib.hid (thF_B hb Z4.out)
    have ZQ5 := Lib.hid (thQ_keep (kept_B hb) ZQ4.out)
    have TQ5 := Lib.hid (thQ_keep (kept_B hb) TQ4.out)
    clear hb X4 I4 A4 T4 Z4 ZQ4 TQ4
    clear kst
    have ko := (I5.out 0 _ rfl).1
    by_cases h13 : i.1 = 13
    · skip
      have HC := Lib.hid (calls_math HXE.out h13)
      rw [HZ.out] at HC
      rw [h13] at ko
      clear h13
      have e1 : bn = m9 + 1 := by have := HC.out.1; have := Z5.out.fs.1; have := T5.out.fs.1; omega
      subst e1
      have qe := fun w => eq_regs z.r u.r w
      have he : eqR z.r u.r = true := by rw [HC.out.2]; simp [eqR]
      rw [he] at qe
      clear he
      have i8 : (m9 : Int) ≤ 8 := by have := HM.out; omega
      have ka0 := (A5.out 0 _ rfl).1
      have ka1 := (A5.out 1 _ rfl).1
      have ka2 := (A5.out 2 _ rfl).1
      have ka3 := (A5.out 3 _ rfl).1
      have ka4 := (A5.out 4 _ rfl).1
      have ka5 := (A5.out 5 _ rfl).1
      have ka6 := (A5.out 6 _ rfl).1
      have ka7 := (A5.out 7 _ rfl).1
      have ka8 := (A5.out 8 _ rfl).1
      have ka9 := (A5.out 9 _ rfl).1
      have ka10 := (A5.out 10 _ rfl).1
      have ka11 := (A5.out 11 _ rfl).1
      have ka12 := (A5.out 12 _ rfl).1
      have kx0 := (X5.out 0 _ rfl).1
      have kx1 := (X5.out 1 _ rfl).1
      have kx2 := (X5.out 2 _ rfl).1
      have kx3 := (X5.out 3 _ rfl).1
      have kx4 := (X5.out 4 _ rfl).1
      have kx5 := (X5.out 5 _ rfl).1
      have kx6 := (X5.out 6 _ rfl).1
      have kx7 := (X5.out 7 _ rfl).1
      have kx8 := (X5.out 8 _ rfl).1
      have kx9 := (X5.out 9 _ rfl).1
      have kx10 := (X5.out 10 _ rfl).1
      have kx11 := (X5.out 11 _ rfl).1
      have kx12 := (X5.out 12 _ rfl).1
      go_wp2
      go_ret
      exact boolPost_mk rfl HB5.out
    · have n13 : (i.1 == 13) = false := by simpa using h13
      have H13 := Lib.hid h13
      clear h13
      by_cases h14 : i.1 = 14
      · skip
        have HC := Lib.hid (backs_math HXE.out h14)
        rw [HZ.out] at HC
        rw [h14] at ko
        clear h14 n13
        have e1 : m9 = bn + 1 := by have := HC.out; have := Z5.out.fs.1; have := T5.out.fs.1; omega
        subst e1
        have i8 : (bn : Int) ≤ 8 := by have := HM.out; omega
        have ka9 := (A5.out 9 _ rfl).1
        have kx9 := (X5.out 9 _ rfl).1
        go_wp2
        go_ret
        exact boolPost_mk rfl HB5.out
      · have n14 : (i.1 == 14) = false := by simpa using h14
        have H14 := Lib.hid h14
        clear h14
        have HK := Lib.hid (keeps_math HXE.out H13.out H14.out)
        rw [HZ.out] at HK
        have ki := (I5.out 1 _ rfl).1
        have HGV := Lib.hid (show w.heap.size + 2 ≤ v2.heap.size from by have := HSZ.out; omega)
        go_wp2
        clear ko n13 n14
        go_loopw [69] (fun y wr => ∃ k : Nat, k ≤ 8 ∧ y = .int .i64 k ∧ Below v5.heap.size v5 wr) (fun y _ => 8 - (intOf y).toNat)
        case atStart => exact ⟨0, by omega, rfl, Below.refl _ _⟩
        case round =>
          obtain ⟨k, hk, rfl, hb⟩ := hrel
          have HXX := Lib.hid (varN_B hb X5.out)
          have HAA := Lib.hid (varN_B hb A5.out)
          have ki := ((varN_B hb I5.out) 1 _ rfl).1
          have HBB := Lib.hid hb
          clear hb
          by_cases hlt : k < 8
          · have i1 : (0 : Int) ≤ k := by omega
            have i2 : (k : Int) < 8 := by omega
            have ka := (HAA.out (1 + k) _ (get_reg z.r k hlt _ _)).1
            have kx := (HXX.out (1 + k) _ (get_reg u.r k hlt _ _)).1
            by_cases hA : (k : Int) = i.2.1
            · have q1 : ((k : Int) != i.2.1) = false := by simp [hA]
              clear hA
              go_wp2
              go_quiet (fail)
              go_wp2
              go_roundw
              case rel => exact ⟨k + 1, by omega, by go_num, below_drews HBB.out _⟩
              case measure => simp [intOf]; omega
            · have q1 : ((k : Int) != i.2.1) = true := by simpa using hA
              have e := HK.out.2.2.2.2 k hA
              rw [e] at ka
              clear hA e
              go_wp2
              go_quiet (fail)
              go_wp2
              go_roundw
              case rel => exact ⟨k + 1, by omega, by go_num, below_drews HBB.out _⟩
              case measure => simp [intOf]; omega
          · obtain rfl : k = 8 := by omega
            go_upto_region 17 with fail
            try rw [show ((8 : Nat) : Int) = 8 from rfl]
            refine wp_region_inv (KeepR u z w.heap.size v2.heap.size fa la fb lb m9 fc m12 lc bn gc dn hc) (by kernel_rfl) (by kernel_rfl) ?_ ?_ ?_
            · intro listed hl
              exact .mk undef undef undef undef undef undef z.r z.pc (by simp only [Act.put, List.setIfInBounds_toArray, List.set_cons_zero, List.set_cons_succ]) (⟨(Below.refl _ _).drew, varN_D HXX.out, varN_D HAA.out⟩) (fun h => absurd h (hl 0 (by decide))) (fun h => absurd h (hl 1 (by decide))) (fun h => absurd h (hl 2 (by decide))) (fun h => absurd h (hl 3 (by decide))) (fun h => absurd h (hl 4 (by decide))) (fun h => absurd h (hl 5 (by decide))) (fun h => absurd h (hl 6 (by decide))) (fun h => absurd h (hl 7 (by decide)))
            · show StepsL _ _ _ _ _ _ _
              refine StepsL.cons (k := 0) rfl (fun listed a1 w1 hI hn hw K hK => ?_) ?_
              · cases hI with | mk p88 p89 p90 p91 p92 p93 rr pp ea hb hf0 hf1 hf2 hf3 hf4 hS hf6 hU =>
                  have Hhf0 := Lib.hid hf0
                  have Hhf1 := Lib.hid hf1
                  have Hhf2 := Lib.hid hf2
                  have Hhf3 := Lib.hid hf3
                  have Hhf4 := Lib.hid hf4
                  have HhS := Lib.hid hS
                  have Hhf6 := Lib.hid hf6
                  have HhU := Lib.hid hU
                  have Hhb := Lib.hid hb
                  have Hhw := Lib.hid hw
                  clear hf0 hf1 hf2 hf3 hf4 hS hf6 hU hb hw
                  rw [ea]
                  clear ea
                  simp only [Act.put, List.setIfInBounds_toArray, List.set_cons_zero, List.set_cons_succ]
                  go_simp
                  have hf0 := Hhf0.out
                  have hf1 := Hhf1.out
                  have hf2 := Hhf2.out
                  have hf3 := Hhf3.out
                  have hf4 := Hhf4.out
                  have hS := HhS.out
                  have hf6 := Hhf6.out
                  have hU := HhU.out
                  have hb := Hhb.out
                  have hw := Hhw.out
                  refine hK.out _ _ ?_
                  exact .mk (.pointer (some ⟨w.heap.size, 1, none⟩)) p89 p90 p91 p92 p93 rr pp (by simp only [Act.put, List.setIfInBounds_toArray, List.set_cons_zero, List.set_cons_succ]) (hb) (fun _ => rfl) (fun h => hf1 (up_back h (by decide))) (fun h => hf2 (up_back h (by decide))) (fun h => hf3 (up_back h (by decide))) (fun h => hf4 (up_back h (by decide))) (fun h => hS (up_back h (by decide))) (fun h => hf6 (up_back h (by decide))) (fun h => hU (up_back h (by decide)))
              refine StepsL.cons (k := 1) rfl (fun listed a1 w1 hI hn hw K hK => ?_) ?_
              · cases hI with | mk p88 p89 p90 p91 p92 p93 rr pp ea hb hf0 hf1 hf2 hf3 hf4 hS hf6 hU =>
                  have e_f0 := hf0 (hw 0 (by decide))
                  subst e_f0
                  have Hhf0 := Lib.hid hf0
                  have Hhf1 := Lib.hid hf1
                  have Hhf2 := Lib.hid hf2
                  have Hhf3 := Lib.hid hf3
                  have Hhf4 := Lib.hid hf4
                  have HhS := Lib.hid hS
                  have Hhf6 := Lib.hid hf6
                  have HhU := Lib.hid hU
                  have Hhb := Lib.hid hb
                  have Hhw := Lib.hid hw
                  clear hf0 hf1 hf2 hf3 hf4 hS hf6 hU hb hw
                  rw [ea]
                  clear ea
                  simp only [Act.put, List.setIfInBounds_toArray, List.set_cons_zero, List.set_cons_succ]
                  refine step_pos (by rfl) ?_
                  refine wp_load_mid 22 _ rfl w.heap.size 1 rfl [.int .i64 (u.r 0), .int .i64 (u.r 1), .int .i64 (u.r 2), .int .i64 (u.r 3), .int .i64 (u.r 4), .int .i64 (u.r 5), .int .i64 (u.r 6), .int .i64 (u.r 7)] _ (thr_regs Hhb.out.2.1) Try.underlying22 rfl (by kernel_rfl) ?_
                  have hf0 := Hhf0.out
                  have hf1 := Hhf1.out
                  have hf2 := Hhf2.out
                  have hf3 := Hhf3.out
                  have hf4 := Hhf4.out
                  have hS := HhS.out
                  have hf6 := Hhf6.out
                  have hU := HhU.out
                  have hb := Hhb.out
                  have hw := Hhw.out
                  refine hK.out _ _ ?_
                  exact .mk (.pointer (some ⟨w.heap.size, 1, none⟩)) (.agg #[.int .i64 (u.r 0), .int .i64 (u.r 1), .int .i64 (u.r 2), .int .i64 (u.r 3), .int .i64 (u.r 4), .int .i64 (u.r 5), .int .i64 (u.r 6), .int .i64 (u.r 7)]) p90 p91 p92 p93 rr pp (by simp only [Act.put, List.setIfInBounds_toArray, List.set_cons_zero, List.set_cons_succ]) (hb) (fun _ => rfl) (fun _ => rfl) (fun h => hf2 (up_back h (by decide))) (fun h => hf3 (up_back h (by decide))) (fun h => hf4 (up_back h (by decide))) (fun h => hS (up_back h (by decide))) (fun h => hf6 (up_back h (by decide))) (fun h => hU (up_back h (by decide)))
              refine StepsL.cons (k := 2) rfl (fun listed a1 w1 hI hn hw K hK => ?_) ?_
              · cases hI with | mk p88 p89 p90 p91 p92 p93 rr pp ea hb hf0 hf1 hf2 hf3 hf4 hS hf6 hU =>
                  have Hhf0 := Lib.hid hf0
                  have Hhf1 := Lib.hid hf1
                  have Hhf2 := Lib.hid hf2
                  have Hhf3 := Lib.hid hf3
                  have Hhf4 := Lib.hid hf4
                  have HhS := Lib.hid hS
                  have Hhf6 := Lib.hid hf6
                  have HhU := Lib.hid hU
                  have Hhb := Lib.hid hb
                  have Hhw := Lib.hid hw
                  clear hf0 hf1 hf2 hf3 hf4 hS hf6 hU hb hw
                  rw [ea]
                  clear ea
                  simp only [Act.put, List.setIfInBounds_toArray, List.set_cons_zero, List.set_cons_succ]
                  go_simp
                  have hf0 := Hhf0.out
                  have hf1 := Hhf1.out
                  have hf2 := Hhf2.out
                  have hf3 := Hhf3.out
                  have hf4 := Hhf4.out
                  have hS := HhS.out
                  have hf6 := Hhf6.out
                  have hU := HhU.out
                  have hb := Hhb.out
                  have hw := Hhw.out
                  refine hK.out _ _ ?_
                  exact .mk p88 p89 (.pointer (some ⟨w.heap.size, 0, none⟩)) p91 p92 p93 rr pp (by simp only [Act.put, List.setIfInBounds_toArray, List.set_cons_zero, List.set_cons_succ]) (hb) (fun h => hf0 (up_back h (by decide))) (fun h => hf1 (up_back h (by decide))) (fun _ => rfl) (fun h => hf3 (up_back h (by decide))) (fun h => hf4 (up_back h (by decide))) (fun h => hS (up_back h (by decide))) (fun h => hf6 (up_back h (by decide))) (fun h => hU (up_back h (by decide)))
              refine StepsL.cons (k := 3) rfl (fun listed a1 w1 hI hn hw K hK => ?_) ?_
              · cases hI with | mk p88 p89 p90 p91 p92 p93 rr pp ea hb hf0 hf1 hf2 hf3 hf4 hS hf6 hU =>
                  have e_f2 := hf2 (hw 2 (by decide))
                  subst e_f2
                  have kc := (hb.2.1 0 _ rfl).1
                  have Hhf0 := Lib.hid hf0
                  have Hhf1 := Lib.hid hf1
                  have Hhf2 := Lib.hid hf2
                  have Hhf3 := Lib.hid hf3
                  have Hhf4 := Lib.hid hf4
                  have HhS := Lib.hid hS
                  have Hhf6 := Lib.hid hf6
                  have HhU := Lib.hid hU
                  have Hhb := Lib.hid hb
                  have Hhw := Lib.hid hw
                  clear hf0 hf1 hf2 hf3 hf4 hS hf6 hU hb hw
                  rw [ea]
                  clear ea
                  simp only [Act.put, List.setIfInBounds_toArray, List.set_cons_zero, List.set_cons_succ]
                  go_simp
                  have hf0 := Hhf0.out
                  have hf1 := Hhf1.out
                  have hf2 := Hhf2.out
                  have hf3 := Hhf3.out
                  have hf4 := Hhf4.out
                  have hS := HhS.out
                  have hf6 := Hhf6.out
                  have hU := HhU.out
                  have hb := Hhb.out
                  have hw := Hhw.out
                  refine hK.out _ _ ?_
                  exact .mk p88 p89 (.pointer (some ⟨w.heap.size, 0, none⟩)) (.int .i64 u.pc) p92 p93 rr pp (by simp only [Act.put, List.setIfInBounds_toArray, List.set_cons_zero, List.set_cons_succ]) (hb) (fun h => hf0 (up_back h (by decide))) (fun h => hf1 (up_back h (by decide))) (fun _ => rfl) (fun _ => rfl) (fun h => hf4 (up_back h (by decide))) (fun h => hS (up_back h (by decide))) (fun h => hf6 (up_back h (by decide))) (fun h => hU (up_back h (by decide)))
              refine StepsL.cons (k := 4) rfl (fun listed a1 w1 hI hn hw K hK => ?_) ?_
              · cases hI with | mk p88 p89 p90 p91 p92 p93 rr pp ea hb hf0 hf1 hf2 hf3 hf4 hS hf6 hU =>
                  have Hhf0 := Lib.hid hf0
                  have Hhf1 := Lib.hid hf1
                  have Hhf2 := Lib.hid hf2
                  have Hhf3 := Lib.hid hf3
                  have Hhf4 := Lib.hid hf4
                  have HhS := Lib.hid hS
                  have Hhf6 := Lib.hid hf6
                  have HhU := Lib.hid hU
                  have Hhb := Lib.hid hb
                  have Hhw := Lib.hid hw
                  clear hf0 hf1 hf2 hf3 hf4 hS hf6 hU hb hw
                  rw [ea]
                  clear ea
                  simp only [Act.put, List.setIfInBounds_toArray, List.set_cons_zero, List.set_cons_succ]
                  go_simp
                  have hf0 := Hhf0.out
                  have hf1 := Hhf1.out
                  have hf2 := Hhf2.out
                  have hf3 := Hhf3.out
                  have hf4 := Hhf4.out
                  have hS := HhS.out
                  have hf6 := Hhf6.out
                  have hU := HhU.out
                  have hb := Hhb.out
                  have hw := Hhw.out
                  refine hK.out _ _ ?_
                  exact .mk p88 p89 p90 p91 (.pointer (some ⟨v2.heap.size, 1, none⟩)) p93 rr pp (by simp only [Act.put, List.setIfInBounds_toArray, List.set_cons_zero, List.set_cons_succ]) (hb) (fun h => hf0 (up_back h (by decide))) (fun h => hf1 (up_back h (by decide))) (fun h => hf2 (up_back h (by decide))) (fun h => hf3 (up_back h (by decide))) (fun _ => rfl) (fun h => hS (up_back h (by decide))) (fun h => hf6 (up_back h (by decide))) (fun h => hU (up_back h (by decide)))
              refine StepsL.cons (k := 5) rfl (fun listed a1 w1 hI hn hw K hK => ?_) ?_
              · cases hI with | mk p88 p89 p90 p91 p92 p93 rr pp ea hb hf0 hf1 hf2 hf3 hf4 hS hf6 hU =>
                  have e_f1 := hf1 (hw 1 (by decide))
                  have e_f4 := hf4 (hw 4 (by decide))
                  subst e_f1 e_f4
                  have HGV9 := HGV.out
                  have Hhf0 := Lib.hid hf0
                  have Hhf1 := Lib.hid hf1
                  have Hhf2 := Lib.hid hf2
                  have Hhf3 := Lib.hid hf3
                  have Hhf4 := Lib.hid hf4
                  have HhS := Lib.hid hS
                  have Hhf6 := Lib.hid hf6
                  have HhU := Lib.hid hU
                  have Hhb := Lib.hid hb
                  have Hhw := Lib.hid hw
                  clear hf0 hf1 hf2 hf3 hf4 hS hf6 hU hb hw
                  rw [ea]
                  clear ea
                  simp only [Act.put, List.setIfInBounds_toArray, List.set_cons_zero, List.set_cons_succ]
                  refine step_pos (by rfl) ?_
                  refine wp_store_off9 22 _ _ rfl v2.heap.size 1 #[.int .i64 (u.r 0), .int .i64 (u.r 1), .int .i64 (u.r 2), .int .i64 (u.r 3), .int .i64 (u.r 4), .int .i64 (u.r 5), .int .i64 (u.r 6), .int .i64 (u.r 7)] rfl rfl _ Hhb.out.2.2 (by simp) (by kernel_rfl) (one_arr _ _ _ _ _ _ _ _) ?_
                  intro U HU
                  have hf0 := Hhf0.out
                  have hf1 := Hhf1.out
                  have hf2 := Hhf2.out
                  have hf3 := Hhf3.out
                  have hf4 := Hhf4.out
                  have hS := HhS.out
                  have hf6 := Hhf6.out
                  have hU := HhU.out
                  have hb := Hhb.out
                  have hw := Hhw.out
                  refine hK.out _ _ ?_
                  exact .mk p88 (.agg #[.int .i64 (u.r 0), .int .i64 (u.r 1), .int .i64 (u.r 2), .int .i64 (u.r 3), .int .i64 (u.r 4), .int .i64 (u.r 5), .int .i64 (u.r 6), .int .i64 (u.r 7)]) p90 p91 (.pointer (some ⟨v2.heap.size, 1, none⟩)) p93 u.r pp (by simp only [Act.put, List.setIfInBounds_toArray, List.set_cons_zero, List.set_cons_succ]) (⟨by rw [HU.out]; exact below_setN (Nat.le_refl _) hb.1, by rw [HU.out]; exact varN_others (by omega) hb.2.1, by rw [HU.out]; exact varN_setN (xs := [.int .i64 (u.r 0), .int .i64 (u.r 1), .int .i64 (u.r 2), .int .i64 (u.r 3), .int .i64 (u.r 4), .int .i64 (u.r 5), .int .i64 (u.r 6), .int .i64 (u.r 7)]) 1 hb.2.2 (by simp)⟩) (fun h => hf0 (up_back h (by decide))) (fun _ => rfl) (fun h => hf2 (up_back h (by decide))) (fun h => hf3 (up_back h (by decide))) (fun _ => rfl) (fun _ => rfl) (fun h => hf6 (up_back h (by decide))) (fun h => hU (up_back h (by decide)))
              refine StepsL.cons (k := 6) rfl (fun listed a1 w1 hI hn hw K hK => ?_) ?_
              · cases hI with | mk p88 p89 p90 p91 p92 p93 rr pp ea hb hf0 hf1 hf2 hf3 hf4 hS hf6 hU =>
                  have Hhf0 := Lib.hid hf0
                  have Hhf1 := Lib.hid hf1
                  have Hhf2 := Lib.hid hf2
                  have Hhf3 := Lib.hid hf3
                  have Hhf4 := Lib.hid hf4
                  have HhS := Lib.hid hS
                  have Hhf6 := Lib.hid hf6
                  have HhU := Lib.hid hU
                  have Hhb := Lib.hid hb
                  have Hhw := Lib.hid hw
                  clear hf0 hf1 hf2 hf3 hf4 hS hf6 hU hb hw
                  rw [ea]
                  clear ea
                  simp only [Act.put, List.setIfInBounds_toArray, List.set_cons_zero, List.set_cons_succ]
                  go_simp
                  have hf0 := Hhf0.out
                  have hf1 := Hhf1.out
                  have hf2 := Hhf2.out
                  have hf3 := Hhf3.out
                  have hf4 := Hhf4.out
                  have hS := HhS.out
                  have hf6 := Hhf6.out
                  have hU := HhU.out
                  have hb := Hhb.out
                  have hw := Hhw.out
                  refine hK.out _ _ ?_
                  exact .mk p88 p89 p90 p91 p92 (.pointer (some ⟨v2.heap.size, 0, none⟩)) rr pp (by simp only [Act.put, List.setIfInBounds_toArray, List.set_cons_zero, List.set_cons_succ]) (hb) (fun h => hf0 (up_back h (by decide))) (fun h => hf1 (up_back h (by decide))) (fun h => hf2 (up_back h (by decide))) (fun h => hf3 (up_back h (by decide))) (fun h => hf4 (up_back h (by decide))) (fun h => hS (up_back h (by decide))) (fun _ => rfl) (fun h => hU (up_back h (by decide)))
              refine StepsL.cons (k := 7) rfl (fun listed a1 w1 hI hn hw K hK => ?_) ?_
              · cases hI with | mk p88 p89 p90 p91 p92 p93 rr pp ea hb hf0 hf1 hf2 hf3 hf4 hS hf6 hU =>
                  have e_f3 := hf3 (hw 3 (by decide))
                  have e_f6 := hf6 (hw 6 (by decide))
                  subst e_f3 e_f6
                  have HGV9 := HGV.out
                  obtain ⟨yc, gc9⟩ := hb.2.2 0 _ rfl
                  have Hhf0 := Lib.hid hf0
                  have Hhf1 := Lib.hid hf1
                  have Hhf2 := Lib.hid hf2
                  have Hhf3 := Lib.hid hf3
                  have Hhf4 := Lib.hid hf4
                  have HhS := Lib.hid hS
                  have Hhf6 := Lib.hid hf6
                  have HhU := Lib.hid hU
                  have Hhb := Lib.hid hb
                  have Hhw := Lib.hid hw
                  clear hf0 hf1 hf2 hf3 hf4 hS hf6 hU hb hw
                  rw [ea]
                  clear ea
                  simp only [Act.put, List.setIfInBounds_toArray, List.set_cons_zero, List.set_cons_succ]
                  go_simp
                  have hf0 := Hhf0.out
                  have hf1 := Hhf1.out
                  have hf2 := Hhf2.out
                  have hf3 := Hhf3.out
                  have hf4 := Hhf4.out
                  have hS := HhS.out
                  have hf6 := Hhf6.out
                  have hU := HhU.out
                  have hb := Hhb.out
                  have hw := Hhw.out
                  refine hK.out _ _ ?_
                  exact .mk p88 p89 p90 (.int .i64 u.pc) p92 (.pointer (some ⟨v2.heap.size, 0, none⟩)) rr u.pc (by simp only [Act.put, List.setIfInBounds_toArray, List.set_cons_zero, List.set_cons_succ]) (⟨hb.1.setCell (p := ⟨v2.heap.size, 0, none⟩) (Nat.le_refl _) _, varN_other hb.2.1 (by omega) _, varN_set hb.2.2 0 (by simp) _⟩) (fun h => hf0 (up_back h (by decide))) (fun h => hf1 (up_back h (by decide))) (fun h => hf2 (up_back h (by decide))) (fun _ => rfl) (fun h => hf4 (up_back h (by decide))) (fun h => hS (up_back h (by decide))) (fun _ => rfl) (fun _ => rfl)
              exact StepsL.nil
            · intro listed a1 w9 hI hu
              cases hI with | mk p88 p89 p90 p91 p92 p93 rr pp ea hb hf0 hf1 hf2 hf3 hf4 hS hf6 hU =>
                have e5 := hS (hu 5)
                have e7 := hU (hu 7)
                subst e5 e7
                have HB9 := Lib.hid ((below_from HB5.out HBB.out).trans (hb.1.mono (by have := HSZ.out; omega)))
                have HB8 := Lib.hid hb.1
                have HX9 := Lib.hid hb.2.1
                have HA9 := Lib.hid hb.2.2
                clear hf0 hf1 hf2 hf3 hf4 hS hf6 hU hb hu HXX HAA
                rw [ea]
                clear ea
                simp only [Act.put, List.setIfInBounds_toArray, List.set_cons_zero, List.set_cons_succ]
                obtain ⟨y, hy⟩ : ∃ y : Thr, y = ⟨u.pc, u.r, z.fs, z.st, z.ft, z.lf⟩ := ⟨_, rfl⟩
                have FZ : ThF w9 fb bn gc lb dn hc y := by
                  have h := thQ_keep (kept_low HB8.out (fun _ h => h)) (thQ_keep (kept_B HBB.out) ZQ5.out)
                  rw [hy]; exact ⟨h.f.fcap, h.f.fs, h.f.lcap, h.f.lf⟩
                have FU : ThF w9 fa m9 fc la m12 lc u := (thQ_keep (kept_low HB8.out (fun _ h => h)) (thQ_keep (kept_B HBB.out) TQ5.out)).f
                have FZ9 := Lib.hid FZ
                have FU9 := Lib.hid FU
                have HSY := Lib.hid (show sameT y u = true by
                  rw [hy]
                  exact sameT_iff.2 ⟨rfl, by simp [eqR], HK.out.2.1, HK.out.2.2.1, HK.out.1, HK.out.2.2.2.1⟩)
                have HA8 := Lib.hid (show VarN w9 v2.heap.size [.int .i64 y.pc, .int .i64 (y.r 0), .int .i64 (y.r 1), .int .i64 (y.r 2), .int .i64 (y.r 3), .int .i64 (y.r 4), .int .i64 (y.r 5), .int .i64 (y.r 6), .int .i64 (y.r 7), .slice fb bn gc, .int .i64 y.st, .int .i64 y.ft, .slice lb dn hc] by rw [hy]; exact HA9.out)
                clear hy FZ FU HA9
                go_wp2_with (first | (refine wpList_load_mid rfl 27 _ rfl v2.heap.size 0 rfl [.int .i64 y.pc, .int .i64 (y.r 0), .int .i64 (y.r 1), .int .i64 (y.r 2), .int .i64 (y.r 3), .int .i64 (y.r 4), .int .i64 (y.r 5), .int .i64 (y.r 6), .int .i64 (y.r 7), .slice fb bn gc, .int .i64 y.st, .int .i64 y.ft, .slice lb dn hc] _ (varN_range HA8.out) Try.underlying27 rfl (by kernel_rfl) ?_) | (refine wpList_load_mid rfl 27 _ rfl w.heap.size 0 rfl [.int .i64 u.pc, .int .i64 (u.r 0), .int .i64 (u.r 1), .int .i64 (u.r 2), .int .i64 (u.r 3), .int .i64 (u.r 4), .int .i64 (u.r 5), .int .i64 (u.r 6), .int .i64 (u.r 7), .slice fa m9 fc, .int .i64 u.st, .int .i64 u.ft, .slice la m12 lc] _ (varN_range HX9.out) Try.underlying27 rfl (by kernel_rfl) ?_))
                have h0 := refSame6_any y u fb lb bn gc dn hc fa la m9 fc m12 lc w9 FZ9.out FU9.out (by have := HBN.out.1; have := HZL.out; omega)
                rw [HSY.out] at h0
                refine h0.mono ?_
                clear h0
                rintro e w10 ⟨rfl, hb⟩
                have HB10 := Lib.hid (below_from HB9.out hb)
                clear hb
                go_wp2
                go_ret
                exact boolPost_mk rfl HB10.out
  · skip
    have hxn : (x != 0) = true := by simpa using hx0
    obtain rfl : z = zThr := by rw [← HZ.out]; exact apT_no (by rw [HXE.out]; exact hx0)
    obtain rfl : bn = 0 := HBN.out.1.symm
    clear hx0
    go_wp2_with (first | (refine wpList_load_mid rfl 27 _ rfl w.heap.size 0 rfl [.int .i64 u.pc, .int .i64 (u.r 0), .int .i64 (u.r 1), .int .i64 (u.r 2), .int .i64 (u.r 3), .int .i64 (u.r 4), .int .i64 (u.r 5), .int .i64 (u.r 6), .int .i64 (u.r 7), .slice fa m9 fc, .int .i64 u.st, .int .i64 u.ft, .slice la m12 lc] _ (varN_range X3.out) Try.underlying27 rfl (by kernel_rfl) ?_) | (refine wpList_load_mid rfl 29 _ rfl (w.heap.size + 1) 0 rfl [.int .i64 i.1, .int .i64 i.2.1, .int .i64 i.2.2.1, .int .i64 i.2.2.2] _ (varN_range I3.out) Try.underlying29 rfl (by kernel_rfl) ?_) | (refine wpList_load_mid rfl 27 _ rfl v2.heap.size 0 rfl [.int .i64 z.pc, .int .i64 (z.r 0), .int .i64 (z.r 1), .int .i64 (z.r 2), .int .i64 (z.r 3), .int .i64 (z.r 4), .int .i64 (z.r 5), .int .i64 (z.r 6), .int .i64 (z.r 7), .slice fb bn gc, .int .i64 z.st, .int .i64 z.ft, .slice lb dn hc] _ (varN_range A0.out) Try.underlying27 rfl (by kernel_rfl) ?_))
    have h0 := alive7_any U3
    refine h0.mono ?_
    clear h0
    rintro e v4 ⟨rfl, hb⟩
    have HB4 := Lib.hid (below_from HB3.out hb)
    have X4 := Lib.hid (varN_B hb X3.out)
    have I4 := Lib.hid (varN_B hb I3.out)
    have A4 := Lib.hid (varN_B hb A0.out)
    have T4 := Lib.hid (thF_B hb T3.out)
    have Z4 := Lib.hid (thF_B hb Z3.out)
    have ZQ4 := Lib.hid (thQ_keep (kept_B hb) ZQ3.out)
    have TQ4 := Lib.hid (thQ_keep (kept_B hb) TQ3.out)
    clear hb X3 I3 A0 T3 Z3 ZQ3 TQ3
    have ka9 := (A4.out 9 _ rfl).1
    go_wp2_with (first | (refine wpList_load_mid rfl 27 _ rfl w.heap.size 0 rfl [.int .i64 u.pc, .int .i64 (u.r 0), .int .i64 (u.r 1), .int .i64 (u.r 2), .int .i64 (u.r 3), .int .i64 (u.r 4), .int .i64 (u.r 5), .int .i64 (u.r 6), .int .i64 (u.r 7), .slice fa m9 fc, .int .i64 u.st, .int .i64 u.ft, .slice la m12 lc] _ (varN_range X4.out) Try.underlying27 rfl (by kernel_rfl) ?_) | (refine wpList_load_mid rfl 29 _ rfl (w.heap.size + 1) 0 rfl [.int .i64 i.1, .int .i64 i.2.1, .int .i64 i.2.2.1, .int .i64 i.2.2.2] _ (varN_range I4.out) Try.underlying29 rfl (by kernel_rfl) ?_) | (refine wpList_load_mid rfl 27 _ rfl v2.heap.size 0 rfl [.int .i64 z.pc, .int .i64 (z.r 0), .int .i64 (z.r 1), .int .i64 (z.r 2), .int .i64 (z.r 3), .int .i64 (z.r 4), .int .i64 (z.r 5), .int .i64 (z.r 6), .int .i64 (z.r 7), .slice fb bn gc, .int .i64 z.st, .int .i64 z.ft, .slice lb dn hc] _ (varN_range A4.out) Try.underlying27 rfl (by kernel_rfl) ?_))
    go_ret
    exact boolPost_mk rfl HB4.out
end Go.Proofs.Ytjddflnecfokaaa
