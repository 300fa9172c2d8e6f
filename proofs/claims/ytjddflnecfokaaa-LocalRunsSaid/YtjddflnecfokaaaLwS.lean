/- respiteref07: Run. -/
import Derived.Test.YtjddflnecfokaaaLwR
import Derived.Test.YtjddflnecfokaaaLoN
namespace Go.Proofs.Ytjddflnecfokaaa
open Go.ChangeShapes Go.WideShapes Go.ChangeAt Go.RowKit
open Gen

def RunRPost (t : Thr) (n : Int) (w : World) (e : Ending) (w' : World) : Prop :=
  ∃ fa fn fc la ln lc, e = .returned (.tuple #[.agg #[.int .i64 t.pc, .int .i64 (t.r 0), .int .i64 (t.r 1), .int .i64 (t.r 2), .int .i64 (t.r 3), .int .i64 (t.r 4), .int .i64 (t.r 5), .int .i64 (t.r 6), .int .i64 (t.r 7), .slice fa fn fc, .int .i64 t.st, .int .i64 t.ft, .slice la ln lc], .int .i64 n]) ∧ ThF w' fa fn fc la ln lc t ∧ Below w.heap.size w w'
theorem runRPost_mk {t T : Thr} {n : Int} {k : Nat} {w w' : World} {fa la : Option Addr} {fn fc ln lc : Nat} (ht : t = T) (hn : n = k) (F : ThF w' fa fn fc la ln lc T) (hb : Below w.heap.size w w') : RunRPost t n w (.returned (.tuple #[.agg #[.int .i64 T.pc, .int .i64 (T.r 0), .int .i64 (T.r 1), .int .i64 (T.r 2), .int .i64 (T.r 3), .int .i64 (T.r 4), .int .i64 (T.r 5), .int .i64 (T.r 6), .int .i64 (T.r 7), .slice fa fn fc, .int .i64 T.st, .int .i64 T.ft, .slice la ln lc], .int .i64 (k : Nat)])) w' := by
  subst ht; subst hn
  exact ⟨fa, fn, fc, la, ln, lc, rfl, F, hb⟩
/-- what an instruction tells that may be looked at -/
theorem ap_form {t : Thr} {self : Int} {i : In4} (h : mayT7 t self = true) (h1 : readyT t = true) (h2 : t.pc ≠ 1000) : apE t self i = if i.1 < 1 ∨ 15 < i.1 then 10 else if fitsI i = false then 3 else doE t i := by
  conv => lhs; rw [apE]
  rw [if_neg (fun q => q.elim (fun q => by rw [h] at q; cases q) h2), if_neg (by rw [h1]; decide)]
theorem ap_do {t : Thr} {self : Int} {i : In4} (h : mayT7 t self = true) (h1 : readyT t = true) (h2 : t.pc ≠ 1000) (ho : 1 ≤ i.1 ∧ i.1 ≤ 15) (hf : fitsI i = true) : doE t i = apE t self i ∧ doT t self i = apT t self i := by
  have e : apE t self i = doE t i := by rw [ap_form h h1 h2, if_neg (by omega), if_neg (by rw [hf]; decide)]
  refine ⟨e.symm, ?_⟩
  rw [apT, e]
  by_cases h0 : doE t i = 0
  · rw [if_pos h0]
  · rw [if_neg h0]; exact doT_no h0
structure LoopS (w : World) (sf : Int) (c : List In4) (m : Nat) (t : Thr) (k : Nat) (T : Thr) (fa : Option Addr) (fn fc : Nat) (la : Option Addr) (ln lc : Nat) (wr : World) : Prop where
  ran : Ran sf c m t k T
  x : VarN wr w.heap.size [.int .i64 T.pc, .int .i64 (T.r 0), .int .i64 (T.r 1), .int .i64 (T.r 2), .int .i64 (T.r 3), .int .i64 (T.r 4), .int .i64 (T.r 5), .int .i64 (T.r 6), .int .i64 (T.r 7), .slice fa fn fc, .int .i64 T.st, .int .i64 T.ft, .slice la ln lc]
  r : VarN wr (w.heap.size + 1) [.int .i64 0, .int .i64 0, .int .i64 0, .int .i64 0, .int .i64 0, .int .i64 0, .int .i64 0, .int .i64 0, .int .i64 0, .slice none 0 0, .int .i64 0, .int .i64 0, .slice none 0 0]
  f : ThQ (fun b => b ≠ w.heap.size ∧ b ≠ w.heap.size + 1) wr fa fn fc la ln lc T
  b : Below w.heap.size w wr
set_option maxRecDepth 100000 in
set_option maxHeartbeats 16000000 in
theorem refRun_any (t : Thr) (self : Int) (ca : Option Addr) (cn cc : Nat) (c : List In4) (m : Nat) (fa la : Option Addr) (fn fc ln lc : Nat) (w : World) (F : ThF w fa fn fc la ln lc t) (C : Vs repIn Any w ca cn c) (hcn : cn ≤ 1000) (hm : m ≤ 1000) (hmay : mayT7 t self = true) (hrd : readyT t = true) :
    Calls Try.prog 18 #[.agg #[.int .i64 t.pc, .int .i64 (t.r 0), .int .i64 (t.r 1), .int .i64 (t.r 2), .int .i64 (t.r 3), .int .i64 (t.r 4), .int .i64 (t.r 5), .int .i64 (t.r 6), .int .i64 (t.r 7), .slice fa fn fc, .int .i64 t.st, .int .i64 t.ft, .slice la ln lc], .int .i64 self, .slice ca cn cc, .int .i64 (m : Nat)] w (RunRPost (runN7 self c m t).1 ((runN7 self c m t).2 : Nat) w) := by
  obtain ⟨W, hW⟩ : ∃ W, W = (w.alloc (Obj.cells #[.int .i64 t.pc, .int .i64 (t.r 0), .int .i64 (t.r 1), .int .i64 (t.r 2), .int .i64 (t.r 3), .int .i64 (t.r 4), .int .i64 (t.r 5), .int .i64 (t.r 6), .int .i64 (t.r 7), .slice fa fn fc, .int .i64 t.st, .int .i64 t.ft, .slice la ln lc] 27)).alloc (Obj.cells #[.int .i64 0, .int .i64 0, .int .i64 0, .int .i64 0, .int .i64 0, .int .i64 0, .int .i64 0, .int .i64 0, .int .i64 0, .slice none 0 0, .int .i64 0, .int .i64 0, .slice none 0 0] 27) := ⟨_, rfl⟩
  have X : VarN W w.heap.size [.int .i64 t.pc, .int .i64 (t.r 0), .int .i64 (t.r 1), .int .i64 (t.r 2), .int .i64 (t.r 3), .int .i64 (t.r 4), .int .i64 (t.r 5), .int .i64 (t.r 6), .int .i64 (t.r 7), .slice fa fn fc, .int .i64 t.st, .int .i64 t.ft, .slice la ln lc] := by rw [hW]; exact varN_A _ (varN_new [.int .i64 t.pc, .int .i64 (t.r 0), .int .i64 (t.r 1), .int .i64 (t.r 2), .int .i64 (t.r 3), .int .i64 (t.r 4), .int .i64 (t.r 5), .int .i64 (t.r 6), .int .i64 (t.r 7), .slice fa fn fc, .int .i64 t.st, .int .i64 t.ft, .slice la ln lc] _ rfl)
  have R : VarN W (w.heap.size + 1) [.int .i64 0, .int .i64 0, .int .i64 0, .int .i64 0, .int .i64 0, .int .i64 0, .int .i64 0, .int .i64 0, .int .i64 0, .slice none 0 0, .int .i64 0, .int .i64 0, .slice none 0 0] := by rw [hW]; exact varN_new [.int .i64 0, .int .i64 0, .int .i64 0, .int .i64 0, .int .i64 0, .int .i64 0, .int .i64 0, .int .i64 0, .int .i64 0, .slice none 0 0, .int .i64 0, .int .i64 0, .slice none 0 0] _ (by simp)
  have hB : Below w.heap.size w W := by rw [hW]; go_grown
  have hL0 : Hid (LoopS w self c m t 0 t fa fn fc la ln lc W) := ⟨ran_start hmay hrd, X, R, thQ_mono (fun b hb => by omega) (thQ_keep (kept_B hB) (thQ_old F)), hB⟩
  have HCL := Lib.hid C.1
  have HW := Lib.hid hW
  have HC := Lib.hid C
  have HM := Lib.hid (And.intro hm hcn)
  clear hW X R hB F C hmay hrd hm hcn
  go_enter Try.func18, Try.ntmps18
  go_upto_region 1 with fail
  rw [← HW.out]
  clear HW
  go_wp2
  go_loopw [10] (fun i wr => ∃ (k : Nat) (T : Thr) (fa : Option Addr) (fn fc : Nat) (la : Option Addr) (ln lc : Nat), i = .int .i64 k ∧ Hid (LoopS w self c m t k T fa fn fc la ln lc wr)) (fun i _ => m - (intOf i).toNat)
  case atStart => exact ⟨0, t, fa, fn, fc, la, ln, lc, rfl, hL0⟩
  case round =>
    clear hL0
    obtain ⟨k, T, fa, fn, fc, la, ln, lc, rfl, hL⟩ := hrel
    have hkm := hL.out.ran.1
    have HX := Lib.hid hL.out.x
    have HR := Lib.hid hL.out.r
    have kp := (HX.out 0 _ rfl).1
    have HPC := Lib.hid (show 0 ≤ T.pc ∧ T.pc ≤ 1000 by have h := hL.out.ran.2.1; simp only [mayT7, Bool.and_eq_true] at h; exact rightT_pc h.1)
    by_cases hk : k < m
    · have i1 : (k : Int) < m := by omega
      have HKM := Lib.hid hk
      clear hk
      by_cases hpc : T.pc < cn
      · obtain ⟨j, hj⟩ : ∃ j : Nat, T.pc = j := ⟨T.pc.toNat, by have := HPC.out; omega⟩
        have HJ := Lib.hid hj
        have hjn : j < cn := by omega
        have HPN := Lib.hid hpc
        have j1 : (0 : Int) ≤ j := by omega
        have j2 : (j : Int) < cn := by omega
        have j3 : (j : Int) < 1000 := by have := HM.out; omega
        have j4 : (cn : Int) ≤ 1000 := by have := HM.out; omega
        have HJ9 := Lib.hid (show T.pc ≠ 1000 by omega)
        rw [hj] at kp
        clear hpc hj
        obtain ⟨cb, co, i, rfl, hi, -, hAt⟩ := vs_at HC.out hjn
        obtain ⟨ci, hci, hcc⟩ := hAt
        obtain rfl : ci = in4 i := hci
        have HCI := Lib.hid (show wr.rangeAt cb (co + j * 4) [.int .i64 i.1, .int .i64 i.2.1, .int .i64 i.2.2.1, .int .i64 i.2.2.2] from fun q v hq => kept_low hL.out.b (Q := fun b => b < w.heap.size) (fun _ h => h) _ _ _ (lt_of_cell (hcc q v hq)) (hcc q v hq))
        have HI := Lib.hid (show c.getD T.pc.toNat (0, 0, 0, 0) = i by rw [HJ.out, Int.toNat_natCast, List.getD_eq_getElem?_getD, hi]; rfl)
        clear hi hcc hjn
        go_upto_region 4 with (first | (refine wpList_load_mid rfl 29 _ rfl cb (co + j * 4) rfl [.int .i64 i.1, .int .i64 i.2.1, .int .i64 i.2.2.1, .int .i64 i.2.2.2] _ HCI.out Try.underlying29 rfl (by kernel_rfl) ?_) | (refine wpList_store_var rfl 29 _ _ rfl wr.heap.size #[.int .i64 i.1, .int .i64 i.2.1, .int .i64 i.2.2.1, .int .i64 i.2.2.2] rfl rfl _ (varN_new [.int .i64 0, .int .i64 0, .int .i64 0, .int .i64 0] wr.heap.size rfl) rfl (by kernel_rfl) (by simp [Value.oneCell']) ?_; intro U HU))
        obtain ⟨U1, hUU⟩ : ∃ Z, Z = U := ⟨_, rfl⟩
        rw [← hUU] at HU ⊢
        clear hUU U
        have hb : Below wr.heap.size wr U1 := by rw [HU.out]; exact below_setN (Nat.le_refl _) ((Below.refl _ _).alloc (Nat.le_refl _) _)
        have HI1 := Lib.hid (show VarN U1 wr.heap.size [.int .i64 i.1, .int .i64 i.2.1, .int .i64 i.2.2.1, .int .i64 i.2.2.2] by rw [HU.out]; exact varN_all (xs := [.int .i64 i.1, .int .i64 i.2.1, .int .i64 i.2.2.1, .int .i64 i.2.2.2]) (varN_new [.int .i64 0, .int .i64 0, .int .i64 0, .int .i64 0] wr.heap.size rfl) rfl)
        have HX1 := Lib.hid (varN_B hb HX.out)
        have HR1 := Lib.hid (varN_B hb HR.out)
        have HB1 := Lib.hid (below_from hL.out.b hb)
        have HF1 := Lib.hid (thQ_keep (kept_B hb) hL.out.f)
        clear hb HU kp j1 j2 j3 j4 i1
        have q0 := (HI1.out 0 _ rfl).1
        by_cases ho : 1 ≤ i.1 ∧ i.1 ≤ 15
        · have HO := Lib.hid ho
          clear ho
          go_wp2_with fail
          have h0 := refLocal_any i.1 U1
          rw [decide_eq_true HO.out] at h0
          refine h0.mono ?_
          clear h0
          rintro e wx ⟨rfl, hx⟩
          cases hx
          clear q0
          have q0 := (HI1.out 0 _ rfl).1
          have q1 := (HI1.out 1 _ rfl).1
          have q2 := (HI1.out 2 _ rfl).1
          have q3 := (HI1.out 3 _ rfl).1
          go_wp2_with fail
          refine (refMay_any i U1 HO.out.1 HO.out.2).mono ?_
          rintro e U2 ⟨rfl, hb⟩
          have HI2 := Lib.hid (varN_B hb HI1.out)
          have HX2 := Lib.hid (varN_B hb HX1.out)
          have HR2 := Lib.hid (varN_B hb HR1.out)
          have HB2 := Lib.hid (below_from HB1.out hb)
          have HF2 := Lib.hid (thQ_keep (kept_B hb) HF1.out)
          clear hb q0 q1 q2 q3 HI1 HX1 HR1 HB1 HF1
          cases hf : fitsI i with
          | false =>
            have HE := Lib.hid (ran_end hL.out.ran (run_err HI.out (by rw [ap_form hL.out.ran.2.1 hL.out.ran.2.2.1 HJ9.out, if_neg (by have := HO.out; omega), if_pos hf]; decide)))
            clear hf
            go_wp2_with (first | (refine wpList_load_mid rfl 27 _ rfl w.heap.size 0 rfl [.int .i64 T.pc, .int .i64 (T.r 0), .int .i64 (T.r 1), .int .i64 (T.r 2), .int .i64 (T.r 3), .int .i64 (T.r 4), .int .i64 (T.r 5), .int .i64 (T.r 6), .int .i64 (T.r 7), .slice fa fn fc, .int .i64 T.st, .int .i64 T.ft, .slice la ln lc] _ (varN_range HX2.out) Try.underlying27 rfl (by kernel_rfl) ?_) | (refine wpList_store_var rfl 27 _ _ rfl (w.heap.size + 1) #[.int .i64 T.pc, .int .i64 (T.r 0), .int .i64 (T.r 1), .int .i64 (T.r 2), .int .i64 (T.r 3), .int .i64 (T.r 4), .int .i64 (T.r 5), .int .i64 (T.r 6), .int .i64 (T.r 7), .slice fa fn fc, .int .i64 T.st, .int .i64 T.ft, .slice la ln lc] rfl rfl _ HR2.out rfl (by kernel_rfl) (one_thr _ _ _ _ _ _ _) ?_; intro U HU))
            refine bp_cell_tmp ⟨w.heap.size + 1, 0, none⟩ rfl rfl rfl (load_set HU HR2.out rfl) ?_
            exact runRPost_mk HE.out.1 (by rw [HE.out.2]) (thQ_keep (Q := fun b => b ≠ w.heap.size ∧ b ≠ w.heap.size + 1) (by rw [HU.out]; exact kept_setN (fun b hq => hq.2)) HF2.out).f (below_set HU (by omega) HB2.out)
          | true =>
            have HFI := Lib.hid hf
            clear hf
            have hdo := ap_do hL.out.ran.2.1 hL.out.ran.2.2.1 HJ9.out HO.out HFI.out
            obtain ⟨z, hz⟩ : ∃ z, apT T self i = z := ⟨_, rfl⟩
            obtain ⟨x, hx⟩ : ∃ x, apE T self i = x := ⟨_, rfl⟩
            rw [hz, hx] at hdo
            have HDO := Lib.hid hdo
            have HZ := Lib.hid hz
            have HXE := Lib.hid hx
            clear hdo hz hx
            go_wp2_with (first | (refine wpList_load_mid rfl 27 _ rfl w.heap.size 0 rfl [.int .i64 T.pc, .int .i64 (T.r 0), .int .i64 (T.r 1), .int .i64 (T.r 2), .int .i64 (T.r 3), .int .i64 (T.r 4), .int .i64 (T.r 5), .int .i64 (T.r 6), .int .i64 (T.r 7), .slice fa fn fc, .int .i64 T.st, .int .i64 T.ft, .slice la ln lc] _ (varN_range HX2.out) Try.underlying27 rfl (by kernel_rfl) ?_) | (refine wpList_load_mid rfl 29 _ rfl wr.heap.size 0 rfl [.int .i64 i.1, .int .i64 i.2.1, .int .i64 i.2.2.1, .int .i64 i.2.2.2] _ (varN_range HI2.out) Try.underlying29 rfl (by kernel_rfl) ?_))
            have h0 := refApplyQ_any (fun b => b ≠ w.heap.size ∧ b ≠ w.heap.size + 1) T self i fa la fn fc ln lc U2 HF2.out (fun b hb => by have := varN_lt HR2.out (by simp); omega) HFI.out (by have h := hL.out.ran.2.1; simp only [mayT7, Bool.and_eq_true] at h; exact h.1) HJ9.out HO.out
            rw [HDO.out.1, HDO.out.2] at h0
            refine h0.mono ?_
            clear h0
            rintro e U3 ⟨fa3, fn3, fc3, la3, ln3, lc3, rfl, hq, hb⟩
            have HX3 := Lib.hid (varN_B hb HX2.out)
            have HR3 := Lib.hid (varN_B hb HR2.out)
            have HB3 := Lib.hid (below_from HB2.out hb)
            have HF3 := Lib.hid (thQ_keep (kept_B hb) HF2.out)
            have HQ3 := Lib.hid hq
            clear hb hq HI2 HX2 HR2 HB2 HF2
            go_upto_region 7 with (refine wpList_store_var rfl 27 _ _ rfl U3.heap.size #[.int .i64 z.pc, .int .i64 (z.r 0), .int .i64 (z.r 1), .int .i64 (z.r 2), .int .i64 (z.r 3), .int .i64 (z.r 4), .int .i64 (z.r 5), .int .i64 (z.r 6), .int .i64 (z.r 7), .slice fa3 fn3 fc3, .int .i64 z.st, .int .i64 z.ft, .slice la3 ln3 lc3] rfl rfl _ (varN_new [.int .i64 0, .int .i64 0, .int .i64 0, .int .i64 0, .int .i64 0, .int .i64 0, .int .i64 0, .int .i64 0, .int .i64 0, .slice none 0 0, .int .i64 0, .int .i64 0, .slice none 0 0] U3.heap.size rfl) rfl (by kernel_rfl) (one_thr _ _ _ _ _ _ _) ?_; intro U HU)
            obtain ⟨U4, hUU⟩ : ∃ Z, Z = U := ⟨_, rfl⟩
            rw [← hUU] at HU ⊢
            clear hUU U
            have hb : Below U3.heap.size U3 U4 := by rw [HU.out]; exact below_setN (Nat.le_refl _) ((Below.refl _ _).alloc (Nat.le_refl _) _)
            have HV4 := Lib.hid (show VarN U4 U3.heap.size [.int .i64 z.pc, .int .i64 (z.r 0), .int .i64 (z.r 1), .int .i64 (z.r 2), .int .i64 (z.r 3), .int .i64 (z.r 4), .int .i64 (z.r 5), .int .i64 (z.r 6), .int .i64 (z.r 7), .slice fa3 fn3 fc3, .int .i64 z.st, .int .i64 z.ft, .slice la3 ln3 lc3] by rw [HU.out]; exact varN_all (xs := [.int .i64 z.pc, .int .i64 (z.r 0), .int .i64 (z.r 1), .int .i64 (z.r 2), .int .i64 (z.r 3), .int .i64 (z.r 4), .int .i64 (z.r 5), .int .i64 (z.r 6), .int .i64 (z.r 7), .slice fa3 fn3 fc3, .int .i64 z.st, .int .i64 z.ft, .slice la3 ln3 lc3]) (varN_new [.int .i64 0, .int .i64 0, .int .i64 0, .int .i64 0, .int .i64 0, .int .i64 0, .int .i64 0, .int .i64 0, .int .i64 0, .slice none 0 0, .int .i64 0, .int .i64 0, .slice none 0 0] U3.heap.size rfl) rfl)
            have HX4 := Lib.hid (varN_B hb HX3.out)
            have HR4 := Lib.hid (varN_B hb HR3.out)
            have HB4 := Lib.hid (below_from HB3.out hb)
            have HF4 := Lib.hid (thQ_keep (kept_B hb) HF3.out)
            have HQ4 := Lib.hid (thQ_keep (kept_B hb) HQ3.out)
            clear hb HU HX3 HR3 HB3 HF3 HQ3
            by_cases hx0 : x = 0
            · have hxn : (x != 0) = false := by rw [hx0]; rfl
              have HX0 := Lib.hid hx0
              have hk64 : (k : Int) ≤ 1000 := by have := HM.out; have := HKM.out; omega
              clear hx0
              go_wp2_with (first | (refine wpList_load_mid rfl 27 _ rfl U3.heap.size 0 rfl [.int .i64 z.pc, .int .i64 (z.r 0), .int .i64 (z.r 1), .int .i64 (z.r 2), .int .i64 (z.r 3), .int .i64 (z.r 4), .int .i64 (z.r 5), .int .i64 (z.r 6), .int .i64 (z.r 7), .slice fa3 fn3 fc3, .int .i64 z.st, .int .i64 z.ft, .slice la3 ln3 lc3] _ (varN_range HV4.out) Try.underlying27 rfl (by kernel_rfl) ?_) | (refine wpList_store_var rfl 27 _ _ rfl w.heap.size #[.int .i64 z.pc, .int .i64 (z.r 0), .int .i64 (z.r 1), .int .i64 (z.r 2), .int .i64 (z.r 3), .int .i64 (z.r 4), .int .i64 (z.r 5), .int .i64 (z.r 6), .int .i64 (z.r 7), .slice fa3 fn3 fc3, .int .i64 z.st, .int .i64 z.ft, .slice la3 ln3 lc3] rfl rfl _ HX4.out rfl (by kernel_rfl) (one_thr _ _ _ _ _ _ _) ?_; intro U HU))
              go_roundw
              case rel =>
                refine ⟨k + 1, z, fa3, fn3, fc3, la3, ln3, lc3, by go_num, ⟨?_, ?_, ?_, ?_, ?_⟩⟩
                · have h := ran_go hL.out.ran HKM.out HI.out (by rw [HCL.out]; exact HPN.out) (by rw [HXE.out]; exact HX0.out)
                  rw [HZ.out] at h; exact h
                · rw [HU.out]; exact varN_all (xs := [.int .i64 z.pc, .int .i64 (z.r 0), .int .i64 (z.r 1), .int .i64 (z.r 2), .int .i64 (z.r 3), .int .i64 (z.r 4), .int .i64 (z.r 5), .int .i64 (z.r 6), .int .i64 (z.r 7), .slice fa3 fn3 fc3, .int .i64 z.st, .int .i64 z.ft, .slice la3 ln3 lc3]) HX4.out rfl
                · rw [HU.out]; exact varN_others (by omega) HR4.out
                · rw [HU.out]; exact thQ_keep (kept_setN (fun b hq => hq.1)) HQ4.out
                · rw [HU.out]; exact below_setN (Nat.le_refl _) HB4.out
              case measure => simp [intOf]; have := HKM.out; omega
            · have hxn : (x != 0) = true := by simpa using hx0
              have HE := Lib.hid (ran_end hL.out.ran (run_err HI.out (by rw [HXE.out]; exact hx0)))
              clear hx0
              go_wp2_with (first | (refine wpList_load_mid rfl 27 _ rfl w.heap.size 0 rfl [.int .i64 T.pc, .int .i64 (T.r 0), .int .i64 (T.r 1), .int .i64 (T.r 2), .int .i64 (T.r 3), .int .i64 (T.r 4), .int .i64 (T.r 5), .int .i64 (T.r 6), .int .i64 (T.r 7), .slice fa fn fc, .int .i64 T.st, .int .i64 T.ft, .slice la ln lc] _ (varN_range HX4.out) Try.underlying27 rfl (by kernel_rfl) ?_) | (refine wpList_store_var rfl 27 _ _ rfl (w.heap.size + 1) #[.int .i64 T.pc, .int .i64 (T.r 0), .int .i64 (T.r 1), .int .i64 (T.r 2), .int .i64 (T.r 3), .int .i64 (T.r 4), .int .i64 (T.r 5), .int .i64 (T.r 6), .int .i64 (T.r 7), .slice fa fn fc, .int .i64 T.st, .int .i64 T.ft, .slice la ln lc] rfl rfl _ HR4.out rfl (by kernel_rfl) (one_thr _ _ _ _ _ _ _) ?_; intro U HU))
              refine bp_cell_tmp ⟨w.heap.size + 1, 0, none⟩ rfl rfl rfl (load_set HU HR4.out rfl) ?_
              exact runRPost_mk HE.out.1 (by rw [HE.out.2]) (thQ_keep (Q := fun b => b ≠ w.heap.size ∧ b ≠ w.heap.size + 1) (by rw [HU.out]; exact kept_setN (fun b hq => hq.2)) HF4.out).f (below_set HU (by omega) HB4.out)
        · have HO := Lib.hid ho
          have HE := Lib.hid (ran_end hL.out.ran (run_err HI.out (by rw [ap_form hL.out.ran.2.1 hL.out.ran.2.2.1 HJ9.out, if_pos (by omega)]; decide)))
          clear ho
          go_wp2_with fail
          have h0 := refLocal_any i.1 U1
          rw [decide_eq_false HO.out] at h0
          refine h0.mono ?_
          clear h0
          rintro e wx ⟨rfl, hx⟩
          cases hx
          clear q0
          go_wp2_with (first | (refine wpList_load_mid rfl 27 _ rfl w.heap.size 0 rfl [.int .i64 T.pc, .int .i64 (T.r 0), .int .i64 (T.r 1), .int .i64 (T.r 2), .int .i64 (T.r 3), .int .i64 (T.r 4), .int .i64 (T.r 5), .int .i64 (T.r 6), .int .i64 (T.r 7), .slice fa fn fc, .int .i64 T.st, .int .i64 T.ft, .slice la ln lc] _ (varN_range HX1.out) Try.underlying27 rfl (by kernel_rfl) ?_) | (refine wpList_store_var rfl 27 _ _ rfl (w.heap.size + 1) #[.int .i64 T.pc, .int .i64 (T.r 0), .int .i64 (T.r 1), .int .i64 (T.r 2), .int .i64 (T.r 3), .int .i64 (T.r 4), .int .i64 (T.r 5), .int .i64 (T.r 6), .int .i64 (T.r 7), .slice fa fn fc, .int .i64 T.st, .int .i64 T.ft, .slice la ln lc] rfl rfl _ HR1.out rfl (by kernel_rfl) (one_thr _ _ _ _ _ _ _) ?_; intro U HU))
          refine bp_cell_tmp ⟨w.heap.size + 1, 0, none⟩ rfl rfl rfl (load_set HU HR1.out rfl) ?_
          exact runRPost_mk HE.out.1 (by rw [HE.out.2]) (thQ_keep (Q := fun b => b ≠ w.heap.size ∧ b ≠ w.heap.size + 1) (by rw [HU.out]; exact kept_setN (fun b hq => hq.2)) HF1.out).f (below_set HU (by omega) HB1.out)
      · have HE := Lib.hid (ran_end hL.out.ran (run_out (by rw [HCL.out]; exact hpc)))
        have hpc' : ¬ T.pc < cn := hpc
        clear hpc
        go_wp2_with (first | (refine wpList_load_mid rfl 27 _ rfl w.heap.size 0 rfl [.int .i64 T.pc, .int .i64 (T.r 0), .int .i64 (T.r 1), .int .i64 (T.r 2), .int .i64 (T.r 3), .int .i64 (T.r 4), .int .i64 (T.r 5), .int .i64 (T.r 6), .int .i64 (T.r 7), .slice fa fn fc, .int .i64 T.st, .int .i64 T.ft, .slice la ln lc] _ (varN_range HX.out) Try.underlying27 rfl (by kernel_rfl) ?_) | (refine wpList_store_var rfl 27 _ _ rfl (w.heap.size + 1) #[.int .i64 T.pc, .int .i64 (T.r 0), .int .i64 (T.r 1), .int .i64 (T.r 2), .int .i64 (T.r 3), .int .i64 (T.r 4), .int .i64 (T.r 5), .int .i64 (T.r 6), .int .i64 (T.r 7), .slice fa fn fc, .int .i64 T.st, .int .i64 T.ft, .slice la ln lc] rfl rfl _ HR.out rfl (by kernel_rfl) (one_thr _ _ _ _ _ _ _) ?_; intro U HU))
        refine bp_cell_tmp ⟨w.heap.size + 1, 0, none⟩ rfl rfl rfl (load_set HU HR.out rfl) ?_
        exact runRPost_mk HE.out.1 (by rw [HE.out.2]) (thQ_keep (Q := fun b => b ≠ w.heap.size ∧ b ≠ w.heap.size + 1) (by rw [HU.out]; exact kept_setN (fun b hq => hq.2)) hL.out.f).f (below_set HU (by omega) hL.out.b)
    · have i1 : ¬ (k : Int) < m := by omega
      have HE := Lib.hid (ran_end hL.out.ran (by rw [show m - k = 0 by omega]; rfl))
      clear hk
      go_wp2_with (first | (refine wpList_load_mid rfl 27 _ rfl w.heap.size 0 rfl [.int .i64 T.pc, .int .i64 (T.r 0), .int .i64 (T.r 1), .int .i64 (T.r 2), .int .i64 (T.r 3), .int .i64 (T.r 4), .int .i64 (T.r 5), .int .i64 (T.r 6), .int .i64 (T.r 7), .slice fa fn fc, .int .i64 T.st, .int .i64 T.ft, .slice la ln lc] _ (varN_range HX.out) Try.underlying27 rfl (by kernel_rfl) ?_) | (refine wpList_store_var rfl 27 _ _ rfl (w.heap.size + 1) #[.int .i64 T.pc, .int .i64 (T.r 0), .int .i64 (T.r 1), .int .i64 (T.r 2), .int .i64 (T.r 3), .int .i64 (T.r 4), .int .i64 (T.r 5), .int .i64 (T.r 6), .int .i64 (T.r 7), .slice fa fn fc, .int .i64 T.st, .int .i64 T.ft, .slice la ln lc] rfl rfl _ HR.out rfl (by kernel_rfl) (one_thr _ _ _ _ _ _ _) ?_; intro U HU))
      refine bp_cell_tmp ⟨w.heap.size + 1, 0, none⟩ rfl rfl rfl (load_set HU HR.out rfl) ?_
      exact runRPost_mk HE.out.1 (by rw [HE.out.2]) (thQ_keep (Q := fun b => b ≠ w.heap.size ∧ b ≠ w.heap.size + 1) (by rw [HU.out]; exact kept_setN (fun b hq => hq.2)) hL.out.f).f (below_set HU (by omega) hL.out.b)
end Go.Proofs.Ytjddflnecfokaaa
