/- respiteref07: Apply: 13, 14. -/
import Derived.Test.YtjddflnecfokaaaLoR
import Derived.Test.YtjddflnecfokaaaFrR
namespace Go.Proofs.Ytjddflnecfokaaa
open Go.ChangeShapes Go.WideShapes Go.ChangeAt Go.RowKit
open Gen

theorem call_ref {t : Thr} {tg : Int} (h : rightT t = true) (h1 : t.pc ≠ 1000) (h2 : 0 ≤ tg ∧ tg ≤ 1000) : callRE t = callE t tg ∧ callRT t tg = callT t tg := by
  have e : callE t tg = if t.fs.length = 6 then 13 else 0 := by rw [callE, if_pos ⟨h, h1, h2.1, h2.2⟩]
  refine ⟨by rw [e]; rfl, ?_⟩
  rw [callT, e, callRT]
  by_cases h6 : t.fs.length = 6
  · rw [if_pos h6, if_pos h6, if_neg (by decide)]
  · rw [if_neg h6, if_neg h6, if_pos rfl]
theorem back_ref {t : Thr} (h : rightT t = true) : backRE t = backE t ∧ backRT t = backT t := by
  have e : backE t = if t.fs.length = 0 then 8 else 0 := by rw [backE, if_pos h]
  refine ⟨by rw [e]; rfl, ?_⟩
  rw [backT, e, backRT]
  by_cases h6 : t.fs.length = 0
  · rw [if_pos h6, if_pos h6, if_neg (by decide)]
  · rw [if_neg h6, if_neg h6, if_pos rfl]
set_option maxRecDepth 100000 in
set_option maxHeartbeats 8000000 in
theorem refDo_13 (Q : Nat → Prop) (t : Thr) (self A B C : Int) (fa la : Option Addr) (fn fc ln lc : Nat) (w : World) (F : ThQ Q w fa fn fc la ln lc t) (hQ : ∀ b, w.heap.size ≤ b → Q b) (hf : fitsI (13, A, B, C) = true) (hr : rightT t = true) (hpc : t.pc ≠ 1000) :
    Calls Try.prog 16 #[.agg #[.int .i64 t.pc, .int .i64 (t.r 0), .int .i64 (t.r 1), .int .i64 (t.r 2), .int .i64 (t.r 3), .int .i64 (t.r 4), .int .i64 (t.r 5), .int .i64 (t.r 6), .int .i64 (t.r 7), .slice fa fn fc, .int .i64 t.st, .int .i64 t.ft, .slice la ln lc], .int .i64 self, .agg #[.int .i64 13, .int .i64 A, .int .i64 B, .int .i64 C]] w (ThPostW Q (doT t self (13, A, B, C)) (doE t (13, A, B, C)) w) := by
  obtain ⟨f1, f2, f3, f4, f5⟩ := fits_reg hf (show (1 : Int) ≤ 13 by decide) (show (13 : Int) ≤ 15 by decide)
  simp only at f1 f2 f3 f4 f5
  have hp := rightT_pc hr
  obtain ⟨W, hW⟩ : ∃ W, W = ((w.alloc (Obj.cells #[.int .i64 t.pc, .int .i64 (t.r 0), .int .i64 (t.r 1), .int .i64 (t.r 2), .int .i64 (t.r 3), .int .i64 (t.r 4), .int .i64 (t.r 5), .int .i64 (t.r 6), .int .i64 (t.r 7), .slice fa fn fc, .int .i64 t.st, .int .i64 t.ft, .slice la ln lc] 27)).alloc (Obj.cells #[.int .i64 13, .int .i64 A, .int .i64 B, .int .i64 C] 29)).alloc (Obj.cells #[.int .i64 0, .int .i64 0, .int .i64 0, .int .i64 0, .int .i64 0, .int .i64 0, .int .i64 0, .int .i64 0, .int .i64 0, .slice none 0 0, .int .i64 0, .int .i64 0, .slice none 0 0] 27) := ⟨_, rfl⟩
  have X : VarN W w.heap.size [.int .i64 t.pc, .int .i64 (t.r 0), .int .i64 (t.r 1), .int .i64 (t.r 2), .int .i64 (t.r 3), .int .i64 (t.r 4), .int .i64 (t.r 5), .int .i64 (t.r 6), .int .i64 (t.r 7), .slice fa fn fc, .int .i64 t.st, .int .i64 t.ft, .slice la ln lc] := by rw [hW]; exact varN_A _ (varN_A _ (varN_new [.int .i64 t.pc, .int .i64 (t.r 0), .int .i64 (t.r 1), .int .i64 (t.r 2), .int .i64 (t.r 3), .int .i64 (t.r 4), .int .i64 (t.r 5), .int .i64 (t.r 6), .int .i64 (t.r 7), .slice fa fn fc, .int .i64 t.st, .int .i64 t.ft, .slice la ln lc] _ rfl))
  have IV : VarN W (w.heap.size + 1) [.int .i64 13, .int .i64 A, .int .i64 B, .int .i64 C] := by rw [hW]; exact varN_A _ (varN_new [.int .i64 13, .int .i64 A, .int .i64 B, .int .i64 C] _ (by simp))
  have R : VarN W (w.heap.size + 2) [.int .i64 0, .int .i64 0, .int .i64 0, .int .i64 0, .int .i64 0, .int .i64 0, .int .i64 0, .int .i64 0, .int .i64 0, .slice none 0 0, .int .i64 0, .int .i64 0, .slice none 0 0] := by rw [hW]; exact varN_new [.int .i64 0, .int .i64 0, .int .i64 0, .int .i64 0, .int .i64 0, .int .i64 0, .int .i64 0, .int .i64 0, .int .i64 0, .slice none 0 0, .int .i64 0, .int .i64 0, .slice none 0 0] _ (by simp)
  have hB : Below w.heap.size w W := by rw [hW]; go_grown
  have hz : W.heap.size = w.heap.size + 3 := by rw [hW]; simp
  have hF : ThF W fa fn fc la ln lc t := thF_B hB F.f
  have HQ0 := Lib.hid hQ
  have HFl := Lib.hid (And.intro F.fs.1 F.lf.1)
  have HF0 := Lib.hid F
  have HX := Lib.hid X
  have HI := Lib.hid IV
  have HR := Lib.hid R
  have HB := Lib.hid hB
  have HW := Lib.hid hW
  have HZ := Lib.hid hz
  have HFW := Lib.hid hF
  have HP := Lib.hid (show 0 ≤ t.pc ∧ t.pc ≤ 999 by omega)
  have HRT := Lib.hid (And.intro hr hpc)
  clear hW X IV R hB hF F hz hp hf hr hpc hQ
  obtain ⟨z, hz⟩ : ∃ z, doT t self (13, A, B, C) = z := ⟨_, rfl⟩
  have HZZ := Lib.hid hz
  clear hz
  obtain ⟨x, hx⟩ : ∃ x, doE t (13, A, B, C) = x := ⟨_, rfl⟩
  have HXE := Lib.hid hx
  rw [hx]
  clear hx
  have HA1 := Lib.hid (f2 (by simp))
  clear f1 f2 f3 f4 f5
  go_enter Try.func16, Try.ntmps16
  go_upto_region 1 with fail
  rw [← HW.out]
  have k0 := (HI.out 0 _ rfl).1
  have k1 := (HI.out 1 _ rfl).1
  have hl1 := HFl.out
  have hl2 := rightT_len HRT.out.1
  have HL := Lib.hid (show fn ≤ 1000 by omega)
  clear hl1 hl2
  go_wp2_with (refine wpList_load_mid rfl 27 _ rfl w.heap.size 0 rfl [.int .i64 t.pc, .int .i64 (t.r 0), .int .i64 (t.r 1), .int .i64 (t.r 2), .int .i64 (t.r 3), .int .i64 (t.r 4), .int .i64 (t.r 5), .int .i64 (t.r 6), .int .i64 (t.r 7), .slice fa fn fc, .int .i64 t.st, .int .i64 t.ft, .slice la ln lc] _ (varN_range HX.out) Try.underlying27 rfl (by kernel_rfl) ?_)
  have h0 := refCall6Q_any (fun b => (Q b ∧ b < w.heap.size) ∨ W.heap.size ≤ b) t A fa la fn fc ln lc W (thQ_mono (fun b hb => Or.inl hb) (thQ_keep (kept_low HB.out (fun b hb => hb.2)) (thQ_und7 HF0.out))) (fun b hb => Or.inr hb) HL.out (by have := HP.out; omega)
  rw [(call_ref HRT.out.1 HRT.out.2 HA1.out).1, (call_ref HRT.out.1 HRT.out.2 HA1.out).2, show callE t A = x from HXE.out, show callT t A = z from HZZ.out] at h0
  refine h0.mono ?_
  clear h0
  rintro e w1 ⟨fa1, fn1, fc1, la1, ln1, lc1, rfl, Q1, hb1⟩
  have HQ := Lib.hid Q1
  have HB9 := Lib.hid (below_from HB.out hb1)
  have HR9 := Lib.hid (varN_B hb1 HR.out)
  clear hb1 Q1 k0 k1
  go_wp2_with (refine wpList_store_var rfl 27 _ _ rfl (w.heap.size + 2) #[.int .i64 z.pc, .int .i64 (z.r 0), .int .i64 (z.r 1), .int .i64 (z.r 2), .int .i64 (z.r 3), .int .i64 (z.r 4), .int .i64 (z.r 5), .int .i64 (z.r 6), .int .i64 (z.r 7), .slice fa1 fn1 fc1, .int .i64 z.st, .int .i64 z.ft, .slice la1 ln1 lc1] rfl rfl _ HR9.out rfl (by kernel_rfl) (one_thr _ _ _ _ _ _ _) ?_; intro U HU)
  refine bp_cell_tmp ⟨w.heap.size + 2, 0, none⟩ rfl rfl rfl (load_set HU HR9.out rfl) ?_
  have hq := thQ_keep (w' := U) (by rw [HU.out]; exact kept_setN (fun b hb => by have := HZ.out; rcases hb with hb | hb <;> omega)) HQ.out
  exact thPostW_mk HZZ.out rfl (thQ_mono (fun b hb => hb.elim (fun h => h.1) (fun h => HQ0.out b (Nat.le_trans HB.out.size h))) hq) (below_set HU (by omega) HB9.out)
set_option maxRecDepth 100000 in
set_option maxHeartbeats 8000000 in
theorem refDo_14 (Q : Nat → Prop) (t : Thr) (self A B C : Int) (fa la : Option Addr) (fn fc ln lc : Nat) (w : World) (F : ThQ Q w fa fn fc la ln lc t) (hQ : ∀ b, w.heap.size ≤ b → Q b) (hf : fitsI (14, A, B, C) = true) (hr : rightT t = true) (hpc : t.pc ≠ 1000) :
    Calls Try.prog 16 #[.agg #[.int .i64 t.pc, .int .i64 (t.r 0), .int .i64 (t.r 1), .int .i64 (t.r 2), .int .i64 (t.r 3), .int .i64 (t.r 4), .int .i64 (t.r 5), .int .i64 (t.r 6), .int .i64 (t.r 7), .slice fa fn fc, .int .i64 t.st, .int .i64 t.ft, .slice la ln lc], .int .i64 self, .agg #[.int .i64 14, .int .i64 A, .int .i64 B, .int .i64 C]] w (ThPostW Q (doT t self (14, A, B, C)) (doE t (14, A, B, C)) w) := by
  obtain ⟨f1, f2, f3, f4, f5⟩ := fits_reg hf (show (1 : Int) ≤ 14 by decide) (show (14 : Int) ≤ 15 by decide)
  simp only at f1 f2 f3 f4 f5
  have hp := rightT_pc hr
  obtain ⟨W, hW⟩ : ∃ W, W = ((w.alloc (Obj.cells #[.int .i64 t.pc, .int .i64 (t.r 0), .int .i64 (t.r 1), .int .i64 (t.r 2), .int .i64 (t.r 3), .int .i64 (t.r 4), .int .i64 (t.r 5), .int .i64 (t.r 6), .int .i64 (t.r 7), .slice fa fn fc, .int .i64 t.st, .int .i64 t.ft, .slice la ln lc] 27)).alloc (Obj.cells #[.int .i64 14, .int .i64 A, .int .i64 B, .int .i64 C] 29)).alloc (Obj.cells #[.int .i64 0, .int .i64 0, .int .i64 0, .int .i64 0, .int .i64 0, .int .i64 0, .int .i64 0, .int .i64 0, .int .i64 0, .slice none 0 0, .int .i64 0, .int .i64 0, .slice none 0 0] 27) := ⟨_, rfl⟩
  have X : VarN W w.heap.size [.int .i64 t.pc, .int .i64 (t.r 0), .int .i64 (t.r 1), .int .i64 (t.r 2), .int .i64 (t.r 3), .int .i64 (t.r 4), .int .i64 (t.r 5), .int .i64 (t.r 6), .int .i64 (t.r 7), .slice fa fn fc, .int .i64 t.st, .int .i64 t.ft, .slice la ln lc] := by rw [hW]; exact varN_A _ (varN_A _ (varN_new [.int .i64 t.pc, .int .i64 (t.r 0), .int .i64 (t.r 1), .int .i64 (t.r 2), .int .i64 (t.r 3), .int .i64 (t.r 4), .int .i64 (t.r 5), .int .i64 (t.r 6), .int .i64 (t.r 7), .slice fa fn fc, .int .i64 t.st, .int .i64 t.ft, .slice la ln lc] _ rfl))
  have IV : VarN W (w.heap.size + 1) [.int .i64 14, .int .i64 A, .int .i64 B, .int .i64 C] := by rw [hW]; exact varN_A _ (varN_new [.int .i64 14, .int .i64 A, .int .i64 B, .int .i64 C] _ (by simp))
  have R : VarN W (w.heap.size + 2) [.int .i64 0, .int .i64 0, .int .i64 0, .int .i64 0, .int .i64 0, .int .i64 0, .int .i64 0, .int .i64 0, .int .i64 0, .slice none 0 0, .int .i64 0, .int .i64 0, .slice none 0 0] := by rw [hW]; exact varN_new [.int .i64 0, .int .i64 0, .int .i64 0, .int .i64 0, .int .i64 0, .int .i64 0, .int .i64 0, .int .i64 0, .int .i64 0, .slice none 0 0, .int .i64 0, .int .i64 0, .slice none 0 0] _ (by simp)
  have hB : Below w.heap.size w W := by rw [hW]; go_grown
  have hz : W.heap.size = w.heap.size + 3 := by rw [hW]; simp
  have hF : ThF W fa fn fc la ln lc t := thF_B hB F.f
  have HQ0 := Lib.hid hQ
  have HFl := Lib.hid (And.intro F.fs.1 F.lf.1)
  have HF0 := Lib.hid F
  have HX := Lib.hid X
  have HI := Lib.hid IV
  have HR := Lib.hid R
  have HB := Lib.hid hB
  have HW := Lib.hid hW
  have HZ := Lib.hid hz
  have HFW := Lib.hid hF
  have HP := Lib.hid (show 0 ≤ t.pc ∧ t.pc ≤ 999 by omega)
  have HRT := Lib.hid (And.intro hr hpc)
  clear hW X IV R hB hF F hz hp hf hr hpc hQ
  obtain ⟨z, hz⟩ : ∃ z, doT t self (14, A, B, C) = z := ⟨_, rfl⟩
  have HZZ := Lib.hid hz
  clear hz
  obtain ⟨x, hx⟩ : ∃ x, doE t (14, A, B, C) = x := ⟨_, rfl⟩
  have HXE := Lib.hid hx
  rw [hx]
  clear hx
  clear f1 f2 f3 f4 f5
  go_enter Try.func16, Try.ntmps16
  go_upto_region 1 with fail
  rw [← HW.out]
  have k0 := (HI.out 0 _ rfl).1
  have k1 := (HI.out 1 _ rfl).1
  have hl1 := HFl.out
  have hl2 := rightT_len HRT.out.1
  have HL := Lib.hid (show fn ≤ 1000 by omega)
  clear hl1 hl2
  go_wp2_with (refine wpList_load_mid rfl 27 _ rfl w.heap.size 0 rfl [.int .i64 t.pc, .int .i64 (t.r 0), .int .i64 (t.r 1), .int .i64 (t.r 2), .int .i64 (t.r 3), .int .i64 (t.r 4), .int .i64 (t.r 5), .int .i64 (t.r 6), .int .i64 (t.r 7), .slice fa fn fc, .int .i64 t.st, .int .i64 t.ft, .slice la ln lc] _ (varN_range HX.out) Try.underlying27 rfl (by kernel_rfl) ?_)
  have h0 := refBack6Q_any (fun b => (Q b ∧ b < w.heap.size) ∨ W.heap.size ≤ b) t fa la fn fc ln lc W (thQ_mono (fun b hb => Or.inl hb) (thQ_keep (kept_low HB.out (fun b hb => hb.2)) (thQ_und7 HF0.out))) (fun b hb => Or.inr hb) HL.out
  rw [(back_ref HRT.out.1).1, (back_ref HRT.out.1).2, show backE t = x from HXE.out, show backT t = z from HZZ.out] at h0
  refine h0.mono ?_
  clear h0
  rintro e w1 ⟨fa1, fn1, fc1, la1, ln1, lc1, rfl, Q1, hb1⟩
  have HQ := Lib.hid Q1
  have HB9 := Lib.hid (below_from HB.out hb1)
  have HR9 := Lib.hid (varN_B hb1 HR.out)
  clear hb1 Q1 k0 k1
  go_wp2_with (refine wpList_store_var rfl 27 _ _ rfl (w.heap.size + 2) #[.int .i64 z.pc, .int .i64 (z.r 0), .int .i64 (z.r 1), .int .i64 (z.r 2), .int .i64 (z.r 3), .int .i64 (z.r 4), .int .i64 (z.r 5), .int .i64 (z.r 6), .int .i64 (z.r 7), .slice fa1 fn1 fc1, .int .i64 z.st, .int .i64 z.ft, .slice la1 ln1 lc1] rfl rfl _ HR9.out rfl (by kernel_rfl) (one_thr _ _ _ _ _ _ _) ?_; intro U HU)
  refine bp_cell_tmp ⟨w.heap.size + 2, 0, none⟩ rfl rfl rfl (load_set HU HR9.out rfl) ?_
  have hq := thQ_keep (w' := U) (by rw [HU.out]; exact kept_setN (fun b hb => by have := HZ.out; rcases hb with hb | hb <;> omega)) HQ.out
  exact thPostW_mk HZZ.out rfl (thQ_mono (fun b hb => hb.elim (fun h => h.1) (fun h => HQ0.out b (Nat.le_trans HB.out.size h))) hq) (below_set HU (by omega) HB9.out)
end Go.Proofs.Ytjddflnecfokaaa
