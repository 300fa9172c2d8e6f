/- respiteref07: Apply: 2, 4. -/
import Derived.Test.YtjddflnecfokaaaLoR
namespace Go.Proofs.Ytjddflnecfokaaa
open Go.ChangeShapes Go.WideShapes Go.ChangeAt Go.RowKit
open Gen

set_option maxRecDepth 100000 in
set_option maxHeartbeats 8000000 in
theorem refDo_2 (Q : Nat → Prop) (t : Thr) (self A B C : Int) (fa la : Option Addr) (fn fc ln lc : Nat) (w : World) (F : ThQ Q w fa fn fc la ln lc t) (hQ : ∀ b, w.heap.size ≤ b → Q b) (hf : fitsI (2, A, B, C) = true) (hr : rightT t = true) (hpc : t.pc ≠ 1000) :
    Calls Try.prog 16 #[.agg #[.int .i64 t.pc, .int .i64 (t.r 0), .int .i64 (t.r 1), .int .i64 (t.r 2), .int .i64 (t.r 3), .int .i64 (t.r 4), .int .i64 (t.r 5), .int .i64 (t.r 6), .int .i64 (t.r 7), .slice fa fn fc, .int .i64 t.st, .int .i64 t.ft, .slice la ln lc], .int .i64 self, .agg #[.int .i64 2, .int .i64 A, .int .i64 B, .int .i64 C]] w (ThPostW Q (doT t self (2, A, B, C)) (doE t (2, A, B, C)) w) := by
  obtain ⟨f1, f2, f3, f4, f5⟩ := fits_reg hf (show (1 : Int) ≤ 2 by decide) (show (2 : Int) ≤ 15 by decide)
  simp only at f1 f2 f3 f4 f5
  have hp := rightT_pc hr
  obtain ⟨W, hW⟩ : ∃ W, W = ((w.alloc (Obj.cells #[.int .i64 t.pc, .int .i64 (t.r 0), .int .i64 (t.r 1), .int .i64 (t.r 2), .int .i64 (t.r 3), .int .i64 (t.r 4), .int .i64 (t.r 5), .int .i64 (t.r 6), .int .i64 (t.r 7), .slice fa fn fc, .int .i64 t.st, .int .i64 t.ft, .slice la ln lc] 27)).alloc (Obj.cells #[.int .i64 2, .int .i64 A, .int .i64 B, .int .i64 C] 29)).alloc (Obj.cells #[.int .i64 0, .int .i64 0, .int .i64 0, .int .i64 0, .int .i64 0, .int .i64 0, .int .i64 0, .int .i64 0, .int .i64 0, .slice none 0 0, .int .i64 0, .int .i64 0, .slice none 0 0] 27) := ⟨_, rfl⟩
  have X : VarN W w.heap.size [.int .i64 t.pc, .int .i64 (t.r 0), .int .i64 (t.r 1), .int .i64 (t.r 2), .int .i64 (t.r 3), .int .i64 (t.r 4), .int .i64 (t.r 5), .int .i64 (t.r 6), .int .i64 (t.r 7), .slice fa fn fc, .int .i64 t.st, .int .i64 t.ft, .slice la ln lc] := by rw [hW]; exact varN_A _ (varN_A _ (varN_new [.int .i64 t.pc, .int .i64 (t.r 0), .int .i64 (t.r 1), .int .i64 (t.r 2), .int .i64 (t.r 3), .int .i64 (t.r 4), .int .i64 (t.r 5), .int .i64 (t.r 6), .int .i64 (t.r 7), .slice fa fn fc, .int .i64 t.st, .int .i64 t.ft, .slice la ln lc] _ rfl))
  have IV : VarN W (w.heap.size + 1) [.int .i64 2, .int .i64 A, .int .i64 B, .int .i64 C] := by rw [hW]; exact varN_A _ (varN_new [.int .i64 2, .int .i64 A, .int .i64 B, .int .i64 C] _ (by simp))
  have R : VarN W (w.heap.size + 2) [.int .i64 0, .int .i64 0, .int .i64 0, .int .i64 0, .int .i64 0, .int .i64 0, .int .i64 0, .int .i64 0, .int .i64 0, .slice none 0 0, .int .i64 0, .int .i64 0, .slice none 0 0] := by rw [hW]; exact varN_new [.int .i64 0, .int .i64 0, .int .i64 0, .int .i64 0, .int .i64 0, .int .i64 0, .int .i64 0, .int .i64 0, .int .i64 0, .slice none 0 0, .int .i64 0, .int .i64 0, .slice none 0 0] _ (by simp)
  have hB : Below w.heap.size w W := by rw [hW]; go_grown
  have hz : W.heap.size = w.heap.size + 3 := by rw [hW]; simp
  have hF : ThF W fa fn fc la ln lc t := thF_B hB F.f
  have HQ0 := Lib.hid hQ
  have HFl := Lib.hid (And.intro F.fs.1 F.lf.1)
  have HF0 := Lib.hid F
  have HX := Lib.hid X
  have HI := Lib.hid IV
  have HR := Lib.hid R
  have HB := Lib.hid hB
  have HW := Lib.hid hW
  have HZ := Lib.hid hz
  have HFW := Lib.hid hF
  have HP := Lib.hid (show 0 ≤ t.pc ∧ t.pc ≤ 999 by omega)
  have HRT := Lib.hid (And.intro hr hpc)
  clear hW X IV R hB hF F hz hp hf hr hpc hQ
  obtain ⟨z, hz⟩ : ∃ z, doT t self (2, A, B, C) = z := ⟨_, rfl⟩
  have HZZ := Lib.hid hz
  have HZF := Lib.hid (show z.fs = t.fs ∧ z.lf = t.lf by rw [← hz]; exact ⟨rfl, rfl⟩)
  clear hz
  obtain ⟨jb, jbe, jb8⟩ := reg_cases (f3 (by decide))
  subst jbe
  have HA1 := Lib.hid (f1 (by decide))
  clear f1 f2 f3 f4 f5
  go_enter Try.func16, Try.ntmps16
  go_upto_region 1 with fail
  rw [← HW.out]
  have k0 := (HI.out 0 _ rfl).1
  have k1 := (HI.out 1 _ rfl).1
  have k2 := (HI.out 2 _ rfl).1
  have k3 := (HI.out 3 _ rfl).1
  have y0 := (HX.out 0 _ rfl).1
  go_upto_region 6 with (first | (refine wpList_load_mid rfl 22 _ rfl w.heap.size 1 rfl [.int .i64 (t.r 0), .int .i64 (t.r 1), .int .i64 (t.r 2), .int .i64 (t.r 3), .int .i64 (t.r 4), .int .i64 (t.r 5), .int .i64 (t.r 6), .int .i64 (t.r 7)] _ (thr_regs HX.out) Try.underlying22 rfl (by kernel_rfl) ?_) | (refine wpList_store_var rfl 22 _ _ rfl W.heap.size #[.int .i64 (t.r 0), .int .i64 (t.r 1), .int .i64 (t.r 2), .int .i64 (t.r 3), .int .i64 (t.r 4), .int .i64 (t.r 5), .int .i64 (t.r 6), .int .i64 (t.r 7)] rfl rfl _ (varN_new [.int .i64 0, .int .i64 0, .int .i64 0, .int .i64 0, .int .i64 0, .int .i64 0, .int .i64 0, .int .i64 0] W.heap.size rfl) rfl (by kernel_rfl) (one_arr _ _ _ _ _ _ _ _) ?_; intro U HU))
  have hU := HU.out
  have hz := HZ.out
  have X5 : VarN U w.heap.size [.int .i64 t.pc, .int .i64 (t.r 0), .int .i64 (t.r 1), .int .i64 (t.r 2), .int .i64 (t.r 3), .int .i64 (t.r 4), .int .i64 (t.r 5), .int .i64 (t.r 6), .int .i64 (t.r 7), .slice fa fn fc, .int .i64 t.st, .int .i64 t.ft, .slice la ln lc] := by rw [hU]; exact varN_others (by omega) (varN_A _ HX.out)
  have I5 : VarN U (w.heap.size + 1) [.int .i64 2, .int .i64 A, .int .i64 (jb : Nat), .int .i64 C] := by rw [hU]; exact varN_others (by omega) (varN_A _ HI.out)
  have R5 : VarN U (w.heap.size + 2) [.int .i64 0, .int .i64 0, .int .i64 0, .int .i64 0, .int .i64 0, .int .i64 0, .int .i64 0, .int .i64 0, .int .i64 0, .slice none 0 0, .int .i64 0, .int .i64 0, .slice none 0 0] := by rw [hU]; exact varN_others (by omega) (varN_A _ HR.out)
  have A5 : VarN U W.heap.size [.int .i64 (t.r 0), .int .i64 (t.r 1), .int .i64 (t.r 2), .int .i64 (t.r 3), .int .i64 (t.r 4), .int .i64 (t.r 5), .int .i64 (t.r 6), .int .i64 (t.r 7)] := by rw [hU]; exact varN_all (xs := [.int .i64 (t.r 0), .int .i64 (t.r 1), .int .i64 (t.r 2), .int .i64 (t.r 3), .int .i64 (t.r 4), .int .i64 (t.r 5), .int .i64 (t.r 6), .int .i64 (t.r 7)]) (varN_new [.int .i64 0, .int .i64 0, .int .i64 0, .int .i64 0, .int .i64 0, .int .i64 0, .int .i64 0, .int .i64 0] W.heap.size rfl) rfl
  have B5 : Below w.heap.size w U := by rw [hU]; exact below_setN (by omega) (HB.out.alloc HB.out.size _)
  obtain ⟨V, hV⟩ : ∃ V, V = U.setCell ⟨w.heap.size, 0, none⟩ (.int .i64 (t.pc + 1)) := ⟨_, rfl⟩
  have X6 : VarN V w.heap.size [.int .i64 (t.pc + 1), .int .i64 (t.r 0), .int .i64 (t.r 1), .int .i64 (t.r 2), .int .i64 (t.r 3), .int .i64 (t.r 4), .int .i64 (t.r 5), .int .i64 (t.r 6), .int .i64 (t.r 7), .slice fa fn fc, .int .i64 t.st, .int .i64 t.ft, .slice la ln lc] := by rw [hV]; exact varN_set X5 0 (by simp) _
  have I6 : VarN V (w.heap.size + 1) [.int .i64 2, .int .i64 A, .int .i64 (jb : Nat), .int .i64 C] := by rw [hV]; exact varN_other I5 (by omega) _
  have R6 : VarN V (w.heap.size + 2) [.int .i64 0, .int .i64 0, .int .i64 0, .int .i64 0, .int .i64 0, .int .i64 0, .int .i64 0, .int .i64 0, .int .i64 0, .slice none 0 0, .int .i64 0, .int .i64 0, .slice none 0 0] := by rw [hV]; exact varN_other R5 (by omega) _
  have A6 : VarN V W.heap.size [.int .i64 (t.r 0), .int .i64 (t.r 1), .int .i64 (t.r 2), .int .i64 (t.r 3), .int .i64 (t.r 4), .int .i64 (t.r 5), .int .i64 (t.r 6), .int .i64 (t.r 7)] := by rw [hV]; exact varN_other A5 (by omega) _
  have B6 : Below w.heap.size w V := by rw [hV]; exact B5.setCell (p := ⟨w.heap.size, 0, none⟩) (Nat.le_refl _) _
  obtain ⟨y0', g0⟩ := X5 0 _ rfl
  have p1 := HP.out.1
  have p2 := HP.out.2
  have HX6 := Lib.hid X6
  have HI6 := Lib.hid I6
  have HR6 := Lib.hid R6
  have HA6 := Lib.hid A6
  have HB6 := Lib.hid B6
  have HV := Lib.hid hV
  clear k0 k1 k2 k3 y0 hU hz X5 I5 R5 A5 B5 hV X6 I6 R6 A6 B6 HX HI HR HB
  go_upto_region 7 with fail
  rw [← HV.out]
  clear y0' g0 p1 p2
  have k0 := (HI6.out 0 _ rfl).1
  have k1 := (HI6.out 1 _ rfl).1
  have k2 := (HI6.out 2 _ rfl).1
  have k3 := (HI6.out 3 _ rfl).1
  have kjb := (HA6.out jb _ (get_reg0 t.r jb jb8 _)).1
  have ijb1 : (0 : Int) ≤ jb := by omega
  have ijb2 : (jb : Int) < 8 := by omega
  go_wp2_with (first | (refine wpList_load_mid rfl 22 _ rfl W.heap.size 0 rfl [.int .i64 (t.r 0), .int .i64 (t.r 1), .int .i64 (t.r 2), .int .i64 (t.r 3), .int .i64 (t.r 4), .int .i64 (t.r 5), .int .i64 (t.r 6), .int .i64 (t.r 7)] _ (varN_range HA6.out) Try.underlying22 rfl (by kernel_rfl) ?_))
  have h0 := refSet_any t.r A (t.r jb) V HA1.out
  refine h0.mono ?_
  clear h0
  rintro e w7 ⟨rfl, hb7⟩
  obtain ⟨s, hs⟩ : ∃ s, setR t.r A (t.r jb) = s := ⟨_, rfl⟩
  rw [hs]
  have hzs : (⟨t.pc + 1, s, t.fs, t.st, t.ft, t.lf⟩ : Thr) = z := by rw [← HZZ.out, ← hs]; rfl
  have HX7 := Lib.hid (varN_B hb7 HX6.out)
  have HR7 := Lib.hid (varN_B hb7 HR6.out)
  have HB7 := Lib.hid (below_from HB6.out hb7)
  have HZS := Lib.hid hzs
  clear hb7 hs hzs
  go_upto_region 36 with (refine wpList_store_off rfl 22 _ _ rfl w.heap.size 1 #[.int .i64 (s 0), .int .i64 (s 1), .int .i64 (s 2), .int .i64 (s 3), .int .i64 (s 4), .int .i64 (s 5), .int .i64 (s 6), .int .i64 (s 7)] rfl rfl _ HX7.out (by simp) (by kernel_rfl) (one_arr _ _ _ _ _ _ _ _) ?_; intro U8 HU8)
  have HX8 := Lib.hid (show VarN U8 w.heap.size [.int .i64 z.pc, .int .i64 (z.r 0), .int .i64 (z.r 1), .int .i64 (z.r 2), .int .i64 (z.r 3), .int .i64 (z.r 4), .int .i64 (z.r 5), .int .i64 (z.r 6), .int .i64 (z.r 7), .slice fa fn fc, .int .i64 z.st, .int .i64 z.ft, .slice la ln lc] by rw [HU8.out, ← HZS.out]; exact varN_setN (xs := [.int .i64 (s 0), .int .i64 (s 1), .int .i64 (s 2), .int .i64 (s 3), .int .i64 (s 4), .int .i64 (s 5), .int .i64 (s 6), .int .i64 (s 7)]) 1 HX7.out (by simp))
  have HR8 := Lib.hid (show VarN U8 (w.heap.size + 2) [.int .i64 0, .int .i64 0, .int .i64 0, .int .i64 0, .int .i64 0, .int .i64 0, .int .i64 0, .int .i64 0, .int .i64 0, .slice none 0 0, .int .i64 0, .int .i64 0, .slice none 0 0] by rw [HU8.out]; exact varN_others (by omega) HR7.out)
  have HB8 := Lib.hid (show Below w.heap.size w U8 by rw [HU8.out]; exact below_setN (Nat.le_refl _) HB7.out)
  clear HX7 HR7 HB7 HU8 HZS
  go_wp2_with (first | (refine wpList_load_mid rfl 27 _ rfl w.heap.size 0 rfl [.int .i64 z.pc, .int .i64 (z.r 0), .int .i64 (z.r 1), .int .i64 (z.r 2), .int .i64 (z.r 3), .int .i64 (z.r 4), .int .i64 (z.r 5), .int .i64 (z.r 6), .int .i64 (z.r 7), .slice fa fn fc, .int .i64 z.st, .int .i64 z.ft, .slice la ln lc] _ (varN_range HX8.out) Try.underlying27 rfl (by kernel_rfl) ?_) | (refine wpList_store_var rfl 27 _ _ rfl (w.heap.size + 2) #[.int .i64 z.pc, .int .i64 (z.r 0), .int .i64 (z.r 1), .int .i64 (z.r 2), .int .i64 (z.r 3), .int .i64 (z.r 4), .int .i64 (z.r 5), .int .i64 (z.r 6), .int .i64 (z.r 7), .slice fa fn fc, .int .i64 z.st, .int .i64 z.ft, .slice la ln lc] rfl rfl _ HR8.out rfl (by kernel_rfl) (one_thr _ _ _ _ _ _ _) ?_; intro U HU))
  refine bp_cell_tmp ⟨w.heap.size + 2, 0, none⟩ rfl rfl rfl (load_set HU HR8.out rfl) ?_
  refine thPostW_mk HZZ.out rfl ?_ (below_set HU (by omega) HB8.out)
  have h := thQ_keep (kept_B (below_set HU (by omega) HB8.out)) HF0.out
  exact ⟨h.fcap, by rw [HZF.out.1]; exact h.fs, h.lcap, by rw [HZF.out.2]; exact h.lf⟩
set_option maxRecDepth 100000 in
set_option maxHeartbeats 8000000 in
theorem refDo_4 (Q : Nat → Prop) (t : Thr) (self A B C : Int) (fa la : Option Addr) (fn fc ln lc : Nat) (w : World) (F : ThQ Q w fa fn fc la ln lc t) (hQ : ∀ b, w.heap.size ≤ b → Q b) (hf : fitsI (4, A, B, C) = true) (hr : rightT t = true) (hpc : t.pc ≠ 1000) :
    Calls Try.prog 16 #[.agg #[.int .i64 t.pc, .int .i64 (t.r 0), .int .i64 (t.r 1), .int .i64 (t.r 2), .int .i64 (t.r 3), .int .i64 (t.r 4), .int .i64 (t.r 5), .int .i64 (t.r 6), .int .i64 (t.r 7), .slice fa fn fc, .int .i64 t.st, .int .i64 t.ft, .slice la ln lc], .int .i64 self, .agg #[.int .i64 4, .int .i64 A, .int .i64 B, .int .i64 C]] w (ThPostW Q (doT t self (4, A, B, C)) (doE t (4, A, B, C)) w) := by
  obtain ⟨f1, f2, f3, f4, f5⟩ := fits_reg hf (show (1 : Int) ≤ 4 by decide) (show (4 : Int) ≤ 15 by decide)
  simp only at f1 f2 f3 f4 f5
  have hp := rightT_pc hr
  obtain ⟨W, hW⟩ : ∃ W, W = ((w.alloc (Obj.cells #[.int .i64 t.pc, .int .i64 (t.r 0), .int .i64 (t.r 1), .int .i64 (t.r 2), .int .i64 (t.r 3), .int .i64 (t.r 4), .int .i64 (t.r 5), .int .i64 (t.r 6), .int .i64 (t.r 7), .slice fa fn fc, .int .i64 t.st, .int .i64 t.ft, .slice la ln lc] 27)).alloc (Obj.cells #[.int .i64 4, .int .i64 A, .int .i64 B, .int .i64 C] 29)).alloc (Obj.cells #[.int .i64 0, .int .i64 0, .int .i64 0, .int .i64 0, .int .i64 0, .int .i64 0, .int .i64 0, .int .i64 0, .int .i64 0, .slice none 0 0, .int .i64 0, .int .i64 0, .slice none 0 0] 27) := ⟨_, rfl⟩
  have X : VarN W w.heap.size [.int .i64 t.pc, .int .i64 (t.r 0), .int .i64 (t.r 1), .int .i64 (t.r 2), .int .i64 (t.r 3), .int .i64 (t.r 4), .int .i64 (t.r 5), .int .i64 (t.r 6), .int .i64 (t.r 7), .slice fa fn fc, .int .i64 t.st, .int .i64 t.ft, .slice la ln lc] := by rw [hW]; exact varN_A _ (varN_A _ (varN_new [.int .i64 t.pc, .int .i64 (t.r 0), .int .i64 (t.r 1), .int .i64 (t.r 2), .int .i64 (t.r 3), .int .i64 (t.r 4), .int .i64 (t.r 5), .int .i64 (t.r 6), .int .i64 (t.r 7), .slice fa fn fc, .int .i64 t.st, .int .i64 t.ft, .slice la ln lc] _ rfl))
  have IV : VarN W (w.heap.size + 1) [.int .i64 4, .int .i64 A, .int .i64 B, .int .i64 C] := by rw [hW]; exact varN_A _ (varN_new [.int .i64 4, .int .i64 A, .int .i64 B, .int .i64 C] _ (by simp))
  have R : VarN W (w.heap.size + 2) [.int .i64 0, .int .i64 0, .int .i64 0, .int .i64 0, .int .i64 0, .int .i64 0, .int .i64 0, .int .i64 0, .int .i64 0, .slice none 0 0, .int .i64 0, .int .i64 0, .slice none 0 0] := by rw [hW]; exact varN_new [.int .i64 0, .int .i64 0, .int .i64 0, .int .i64 0, .int .i64 0, .int .i64 0, .int .i64 0, .int .i64 0, .int .i64 0, .slice none 0 0, .int .i64 0, .int .i64 0, .slice none 0 0] _ (by simp)
  have hB : Below w.heap.size w W := by rw [hW]; go_grown
  have hz : W.heap.size = w.heap.size + 3 := by rw [hW]; simp
  have hF : ThF W fa fn fc la ln lc t := thF_B hB F.f
  have HQ0 := Lib.hid hQ
  have HFl := Lib.hid (And.intro F.fs.1 F.lf.1)
  have HF0 := Lib.hid F
  have HX := Lib.hid X
  have HI := Lib.hid IV
  have HR := Lib.hid R
  have HB := Lib.hid hB
  have HW := Lib.hid hW
  have HZ := Lib.hid hz
  have HFW := Lib.hid hF
  have HP := Lib.hid (show 0 ≤ t.pc ∧ t.pc ≤ 999 by omega)
  have HRT := Lib.hid (And.intro hr hpc)
  clear hW X IV R hB hF F hz hp hf hr hpc hQ
  obtain ⟨z, hz⟩ : ∃ z, doT t self (4, A, B, C) = z := ⟨_, rfl⟩
  have HZZ := Lib.hid hz
  have HZF := Lib.hid (show z.fs = t.fs ∧ z.lf = t.lf by rw [← hz]; exact ⟨rfl, rfl⟩)
  clear hz
  obtain ⟨jb, jbe, jb8⟩ := reg_cases (f3 (by decide))
  subst jbe
  have HA1 := Lib.hid (f1 (by decide))
  clear f1 f2 f3 f4 f5
  go_enter Try.func16, Try.ntmps16
  go_upto_region 1 with fail
  rw [← HW.out]
  have k0 := (HI.out 0 _ rfl).1
  have k1 := (HI.out 1 _ rfl).1
  have k2 := (HI.out 2 _ rfl).1
  have k3 := (HI.out 3 _ rfl).1
  have y0 := (HX.out 0 _ rfl).1
  go_upto_region 6 with (first | (refine wpList_load_mid rfl 22 _ rfl w.heap.size 1 rfl [.int .i64 (t.r 0), .int .i64 (t.r 1), .int .i64 (t.r 2), .int .i64 (t.r 3), .int .i64 (t.r 4), .int .i64 (t.r 5), .int .i64 (t.r 6), .int .i64 (t.r 7)] _ (thr_regs HX.out) Try.underlying22 rfl (by kernel_rfl) ?_) | (refine wpList_store_var rfl 22 _ _ rfl W.heap.size #[.int .i64 (t.r 0), .int .i64 (t.r 1), .int .i64 (t.r 2), .int .i64 (t.r 3), .int .i64 (t.r 4), .int .i64 (t.r 5), .int .i64 (t.r 6), .int .i64 (t.r 7)] rfl rfl _ (varN_new [.int .i64 0, .int .i64 0, .int .i64 0, .int .i64 0, .int .i64 0, .int .i64 0, .int .i64 0, .int .i64 0] W.heap.size rfl) rfl (by kernel_rfl) (one_arr _ _ _ _ _ _ _ _) ?_; intro U HU))
  have hU := HU.out
  have hz := HZ.out
  have X5 : VarN U w.heap.size [.int .i64 t.pc, .int .i64 (t.r 0), .int .i64 (t.r 1), .int .i64 (t.r 2), .int .i64 (t.r 3), .int .i64 (t.r 4), .int .i64 (t.r 5), .int .i64 (t.r 6), .int .i64 (t.r 7), .slice fa fn fc, .int .i64 t.st, .int .i64 t.ft, .slice la ln lc] := by rw [hU]; exact varN_others (by omega) (varN_A _ HX.out)
  have I5 : VarN U (w.heap.size + 1) [.int .i64 4, .int .i64 A, .int .i64 (jb : Nat), .int .i64 C] := by rw [hU]; exact varN_others (by omega) (varN_A _ HI.out)
  have R5 : VarN U (w.heap.size + 2) [.int .i64 0, .int .i64 0, .int .i64 0, .int .i64 0, .int .i64 0, .int .i64 0, .int .i64 0, .int .i64 0, .int .i64 0, .slice none 0 0, .int .i64 0, .int .i64 0, .slice none 0 0] := by rw [hU]; exact varN_others (by omega) (varN_A _ HR.out)
  have A5 : VarN U W.heap.size [.int .i64 (t.r 0), .int .i64 (t.r 1), .int .i64 (t.r 2), .int .i64 (t.r 3), .int .i64 (t.r 4), .int .i64 (t.r 5), .int .i64 (t.r 6), .int .i64 (t.r 7)] := by rw [hU]; exact varN_all (xs := [.int .i64 (t.r 0), .int .i64 (t.r 1), .int .i64 (t.r 2), .int .i64 (t.r 3), .int .i64 (t.r 4), .int .i64 (t.r 5), .int .i64 (t.r 6), .int .i64 (t.r 7)]) (varN_new [.int .i64 0, .int .i64 0, .int .i64 0, .int .i64 0, .int .i64 0, .int .i64 0, .int .i64 0, .int .i64 0] W.heap.size rfl) rfl
  have B5 : Below w.heap.size w U := by rw [hU]; exact below_setN (by omega) (HB.out.alloc HB.out.size _)
  obtain ⟨V, hV⟩ : ∃ V, V = U.setCell ⟨w.heap.size, 0, none⟩ (.int .i64 (t.pc + 1)) := ⟨_, rfl⟩
  have X6 : VarN V w.heap.size [.int .i64 (t.pc + 1), .int .i64 (t.r 0), .int .i64 (t.r 1), .int .i64 (t.r 2), .int .i64 (t.r 3), .int .i64 (t.r 4), .int .i64 (t.r 5), .int .i64 (t.r 6), .int .i64 (t.r 7), .slice fa fn fc, .int .i64 t.st, .int .i64 t.ft, .slice la ln lc] := by rw [hV]; exact varN_set X5 0 (by simp) _
  have I6 : VarN V (w.heap.size + 1) [.int .i64 4, .int .i64 A, .int .i64 (jb : Nat), .int .i64 C] := by rw [hV]; exact varN_other I5 (by omega) _
  have R6 : VarN V (w.heap.size + 2) [.int .i64 0, .int .i64 0, .int .i64 0, .int .i64 0, .int .i64 0, .int .i64 0, .int .i64 0, .int .i64 0, .int .i64 0, .slice none 0 0, .int .i64 0, .int .i64 0, .slice none 0 0] := by rw [hV]; exact varN_other R5 (by omega) _
  have A6 : VarN V W.heap.size [.int .i64 (t.r 0), .int .i64 (t.r 1), .int .i64 (t.r 2), .int .i64 (t.r 3), .int .i64 (t.r 4), .int .i64 (t.r 5), .int .i64 (t.r 6), .int .i64 (t.r 7)] := by rw [hV]; exact varN_other A5 (by omega) _
  have B6 : Below w.heap.size w V := by rw [hV]; exact B5.setCell (p := ⟨w.heap.size, 0, none⟩) (Nat.le_refl _) _
  obtain ⟨y0', g0⟩ := X5 0 _ rfl
  have p1 := HP.out.1
  have p2 := HP.out.2
  have HX6 := Lib.hid X6
  have HI6 := Lib.hid I6
  have HR6 := Lib.hid R6
  have HA6 := Lib.hid A6
  have HB6 := Lib.hid B6
  have HV := Lib.hid hV
  clear k0 k1 k2 k3 y0 hU hz X5 I5 R5 A5 B5 hV X6 I6 R6 A6 B6 HX HI HR HB
  go_upto_region 7 with fail
  rw [← HV.out]
  clear y0' g0 p1 p2
  have k0 := (HI6.out 0 _ rfl).1
  have k1 := (HI6.out 1 _ rfl).1
  have k2 := (HI6.out 2 _ rfl).1
  have k3 := (HI6.out 3 _ rfl).1
  have kjb := (HA6.out jb _ (get_reg0 t.r jb jb8 _)).1
  have ijb1 : (0 : Int) ≤ jb := by omega
  have ijb2 : (jb : Int) < 8 := by omega
  go_upto_region 22 with fail
  go_quiet (fail)
  have HBD := Lib.hid (below_drews HB6.out nq)
  go_wp2_with (first | (refine wpList_load_mid rfl 22 _ rfl W.heap.size 0 rfl [.int .i64 (t.r 0), .int .i64 (t.r 1), .int .i64 (t.r 2), .int .i64 (t.r 3), .int .i64 (t.r 4), .int .i64 (t.r 5), .int .i64 (t.r 6), .int .i64 (t.r 7)] _ (varN_range HA6.out) Try.underlying22 rfl (by kernel_rfl) ?_))
  have h0 := refSet_any t.r A (bits .and .i64 (t.r jb) C) (V.drewN nq) HA1.out
  refine h0.mono ?_
  clear h0
  rintro e w7 ⟨rfl, hb7⟩
  obtain ⟨s, hs⟩ : ∃ s, setR t.r A (bits .and .i64 (t.r jb) C) = s := ⟨_, rfl⟩
  rw [hs]
  have hzs : (⟨t.pc + 1, s, t.fs, t.st, t.ft, t.lf⟩ : Thr) = z := by rw [← HZZ.out, ← hs]; rfl
  have HX7 := Lib.hid (varN_B hb7 HX6.out)
  have HR7 := Lib.hid (varN_B hb7 HR6.out)
  have HB7 := Lib.hid (below_from HBD.out hb7)
  have HZS := Lib.hid hzs
  clear hb7 hs hzs
  go_upto_region 36 with (refine wpList_store_off rfl 22 _ _ rfl w.heap.size 1 #[.int .i64 (s 0), .int .i64 (s 1), .int .i64 (s 2), .int .i64 (s 3), .int .i64 (s 4), .int .i64 (s 5), .int .i64 (s 6), .int .i64 (s 7)] rfl rfl _ HX7.out (by simp) (by kernel_rfl) (one_arr _ _ _ _ _ _ _ _) ?_; intro U8 HU8)
  have HX8 := Lib.hid (show VarN U8 w.heap.size [.int .i64 z.pc, .int .i64 (z.r 0), .int .i64 (z.r 1), .int .i64 (z.r 2), .int .i64 (z.r 3), .int .i64 (z.r 4), .int .i64 (z.r 5), .int .i64 (z.r 6), .int .i64 (z.r 7), .slice fa fn fc, .int .i64 z.st, .int .i64 z.ft, .slice la ln lc] by rw [HU8.out, ← HZS.out]; exact varN_setN (xs := [.int .i64 (s 0), .int .i64 (s 1), .int .i64 (s 2), .int .i64 (s 3), .int .i64 (s 4), .int .i64 (s 5), .int .i64 (s 6), .int .i64 (s 7)]) 1 HX7.out (by simp))
  have HR8 := Lib.hid (show VarN U8 (w.heap.size + 2) [.int .i64 0, .int .i64 0, .int .i64 0, .int .i64 0, .int .i64 0, .int .i64 0, .int .i64 0, .int .i64 0, .int .i64 0, .slice none 0 0, .int .i64 0, .int .i64 0, .slice none 0 0] by rw [HU8.out]; exact varN_others (by omega) HR7.out)
  have HB8 := Lib.hid (show Below w.heap.size w U8 by rw [HU8.out]; exact below_setN (Nat.le_refl _) HB7.out)
  clear HX7 HR7 HB7 HU8 HZS
  go_wp2_with (first | (refine wpList_load_mid rfl 27 _ rfl w.heap.size 0 rfl [.int .i64 z.pc, .int .i64 (z.r 0), .int .i64 (z.r 1), .int .i64 (z.r 2), .int .i64 (z.r 3), .int .i64 (z.r 4), .int .i64 (z.r 5), .int .i64 (z.r 6), .int .i64 (z.r 7), .slice fa fn fc, .int .i64 z.st, .int .i64 z.ft, .slice la ln lc] _ (varN_range HX8.out) Try.underlying27 rfl (by kernel_rfl) ?_) | (refine wpList_store_var rfl 27 _ _ rfl (w.heap.size + 2) #[.int .i64 z.pc, .int .i64 (z.r 0), .int .i64 (z.r 1), .int .i64 (z.r 2), .int .i64 (z.r 3), .int .i64 (z.r 4), .int .i64 (z.r 5), .int .i64 (z.r 6), .int .i64 (z.r 7), .slice fa fn fc, .int .i64 z.st, .int .i64 z.ft, .slice la ln lc] rfl rfl _ HR8.out rfl (by kernel_rfl) (one_thr _ _ _ _ _ _ _) ?_; intro U HU))
  refine bp_cell_tmp ⟨w.heap.size + 2, 0, none⟩ rfl rfl rfl (load_set HU HR8.out rfl) ?_
  refine thPostW_mk HZZ.out rfl ?_ (below_set HU (by omega) HB8.out)
  have h := thQ_keep (kept_B (below_set HU (by omega) HB8.out)) HF0.out
  exact ⟨h.fcap, by rw [HZF.out.1]; exact h.fs, h.lcap, by rw [HZF.out.2]; exact h.lf⟩
end Go.Proofs.Ytjddflnecfokaaa
