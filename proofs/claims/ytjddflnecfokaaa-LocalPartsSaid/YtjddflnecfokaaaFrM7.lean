/- Layer 7's own small functions: few. -/
import Derived.Test.YtjddflnecfokaaaFrM
namespace Go.Proofs.Ytjddflnecfokaaa
open Go.ChangeShapes Go.WideShapes Go.ChangeAt Go.RowKit
open Gen

set_option maxRecDepth 100000 in
set_option maxHeartbeats 8000000 in
theorem few7_any (t : Thr) (fa la : Option Addr) (fn fc ln lc : Nat) (w : World) (h1 : Cap fa fn fc) (h2 : Cap la ln lc) :
    Calls Try.prog 8 #[.agg #[.int .i64 t.pc, .int .i64 (t.r 0), .int .i64 (t.r 1), .int .i64 (t.r 2), .int .i64 (t.r 3), .int .i64 (t.r 4), .int .i64 (t.r 5), .int .i64 (t.r 6), .int .i64 (t.r 7), .slice fa fn fc, .int .i64 t.st, .int .i64 t.ft, .slice la ln lc]] w (fun e w' => e = .returned (.agg #[.int .i64 t.pc, .int .i64 (t.r 0), .int .i64 (t.r 1), .int .i64 (t.r 2), .int .i64 (t.r 3), .int .i64 (t.r 4), .int .i64 (t.r 5), .int .i64 (t.r 6), .int .i64 (t.r 7), .slice fa (min fn 8) fc, .int .i64 t.st, .int .i64 t.ft, .slice la (min ln 10) lc]) ∧ Below w.heap.size w w') := by
  obtain ⟨W, hW⟩ : ∃ W, W = (w.alloc (Obj.cells #[.int .i64 t.pc, .int .i64 (t.r 0), .int .i64 (t.r 1), .int .i64 (t.r 2), .int .i64 (t.r 3), .int .i64 (t.r 4), .int .i64 (t.r 5), .int .i64 (t.r 6), .int .i64 (t.r 7), .slice fa fn fc, .int .i64 t.st, .int .i64 t.ft, .slice la ln lc] 27)).alloc (Obj.cells #[.int .i64 0, .int .i64 0, .int .i64 0, .int .i64 0, .int .i64 0, .int .i64 0, .int .i64 0, .int .i64 0, .int .i64 0, .slice none 0 0, .int .i64 0, .int .i64 0, .slice none 0 0] 27) := ⟨_, rfl⟩
  have X : VarN W w.heap.size [.int .i64 t.pc, .int .i64 (t.r 0), .int .i64 (t.r 1), .int .i64 (t.r 2), .int .i64 (t.r 3), .int .i64 (t.r 4), .int .i64 (t.r 5), .int .i64 (t.r 6), .int .i64 (t.r 7), .slice fa fn fc, .int .i64 t.st, .int .i64 t.ft, .slice la ln lc] := by rw [hW]; exact varN_A _ (varN_new [.int .i64 t.pc, .int .i64 (t.r 0), .int .i64 (t.r 1), .int .i64 (t.r 2), .int .i64 (t.r 3), .int .i64 (t.r 4), .int .i64 (t.r 5), .int .i64 (t.r 6), .int .i64 (t.r 7), .slice fa fn fc, .int .i64 t.st, .int .i64 t.ft, .slice la ln lc] _ rfl)
  have R : VarN W (w.heap.size + 1) [.int .i64 0, .int .i64 0, .int .i64 0, .int .i64 0, .int .i64 0, .int .i64 0, .int .i64 0, .int .i64 0, .int .i64 0, .slice none 0 0, .int .i64 0, .int .i64 0, .slice none 0 0] := by rw [hW]; exact varN_new [.int .i64 0, .int .i64 0, .int .i64 0, .int .i64 0, .int .i64 0, .int .i64 0, .int .i64 0, .int .i64 0, .int .i64 0, .slice none 0 0, .int .i64 0, .int .i64 0, .slice none 0 0] _ (by simp)
  have hB : Below w.heap.size w W := by rw [hW]; go_grown
  obtain ⟨m9, hm9⟩ : ∃ m, min fn 8 = m := ⟨_, rfl⟩
  obtain ⟨m12, hm12⟩ : ∃ m, min ln 10 = m := ⟨_, rfl⟩
  rw [hm9, hm12]
  have HM1 := Lib.hid (show (if (8 : Int) < (fn : Int) then (8 : Int) else (fn : Int)) = (m9 : Int) by split <;> omega)
  have HM2 := Lib.hid (show m9 ≤ fc ∧ fc ≤ 9223372036854775807 from ⟨by have := h1.1; omega, h1.2.1⟩)
  have HM3 := Lib.hid (show (if (10 : Int) < (ln : Int) then (10 : Int) else (ln : Int)) = (m12 : Int) by split <;> omega)
  have HM4 := Lib.hid (show m12 ≤ lc ∧ lc ≤ 9223372036854775807 from ⟨by have := h2.1; omega, h2.2.1⟩)
  have HX := Lib.hid X
  have HR := Lib.hid R
  have HB := Lib.hid hB
  have HW := Lib.hid hW
  clear hW X R hB hm9 hm12 h1 h2
  go_enter Try.func8, Try.ntmps8
  go_upto_region 1 with fail
  rw [← HW.out]
  refine wp_region_inv (FewInv t w.heap.size fa la fn fc ln lc m9 m12) (by kernel_rfl) (by kernel_rfl) ?_ ?_ ?_
  · intro listed hl
    exact .mk undef undef undef undef undef undef undef undef undef undef undef undef undef undef undef undef _ _ (by simp only [Act.put, List.setIfInBounds_toArray, List.set_cons_zero, List.set_cons_succ]) (⟨(Below.refl _ _).drew, varN_D HX.out, varN_D HR.out, fun _ => rfl, fun _ => rfl⟩) (fun h => absurd h (hl 0 (by decide))) (fun h => absurd h (hl 1 (by decide))) (fun h => absurd h (hl 2 (by decide))) (fun h => absurd h (hl 3 (by decide))) (fun h => absurd h (hl 4 (by decide))) (fun h => absurd h (hl 5 (by decide))) (fun h => absurd h (hl 6 (by decide))) (fun h => absurd h (hl 7 (by decide))) (fun h => absurd h (hl 8 (by decide))) (fun h => absurd h (hl 9 (by decide))) (fun h => absurd h (hl 10 (by decide))) (fun h => absurd h (hl 11 (by decide))) (fun h => absurd h (hl 12 (by decide))) (fun h => absurd h (hl 13 (by decide))) (fun h => absurd h (hl 14 (by decide))) (fun h => absurd h (hl 15 (by decide))) (fun h => absurd h (hl 16 (by decide))) (fun h => absurd h (hl 17 (by decide)))
  · show StepsL _ _ _ _ _ _ _
    refine StepsL.cons (k := 0) rfl (fun listed a1 w1 hI hn hw K hK => ?_) ?_
    · cases hI with | mk p3 p4 p5 p6 p7 p8 p9 p10 p11 p12 p13 p14 p15 p16 p17 p18 x9 x12 ea hb hf0 hf1 hf2 hf3 hf4 hf5 hf6 hf7 hf8 hf9 hf10 hf11 hf12 hf13 hf14 hS hf16 hU =>
        have Hhf0 := Lib.hid hf0
        have Hhf1 := Lib.hid hf1
        have Hhf2 := Lib.hid hf2
        have Hhf3 := Lib.hid hf3
        have Hhf4 := Lib.hid hf4
        have Hhf5 := Lib.hid hf5
        have Hhf6 := Lib.hid hf6
        have Hhf7 := Lib.hid hf7
        have Hhf8 := Lib.hid hf8
        have Hhf9 := Lib.hid hf9
        have Hhf10 := Lib.hid hf10
        have Hhf11 := Lib.hid hf11
        have Hhf12 := Lib.hid hf12
        have Hhf13 := Lib.hid hf13
        have Hhf14 := Lib.hid hf14
        have HhS := Lib.hid hS
        have Hhf16 := Lib.hid hf16
        have HhU := Lib.hid hU
        have Hhb := Lib.hid hb
        have Hhw := Lib.hid hw
        clear hf0 hf1 hf2 hf3 hf4 hf5 hf6 hf7 hf8 hf9 hf10 hf11 hf12 hf13 hf14 hS hf16 hU hb hw
        rw [ea]
        clear ea
        simp only [Act.put, List.setIfInBounds_toArray, List.set_cons_zero, List.set_cons_succ]
        go_simp
        have hf0 := Hhf0.out
        have hf1 := Hhf1.out
        have hf2 := Hhf2.out
        have hf3 := Hhf3.out
        have hf4 := Hhf4.out
        have hf5 := Hhf5.out
        have hf6 := Hhf6.out
        have hf7 := Hhf7.out
        have hf8 := Hhf8.out
        have hf9 := Hhf9.out
        have hf10 := Hhf10.out
        have hf11 := Hhf11.out
        have hf12 := Hhf12.out
        have hf13 := Hhf13.out
        have hf14 := Hhf14.out
        have hS := HhS.out
        have hf16 := Hhf16.out
        have hU := HhU.out
        have hb := Hhb.out
        have hw := Hhw.out
        refine hK.out _ _ ?_
        exact .mk (.pointer (some ⟨w.heap.size, 9, none⟩)) p4 p5 p6 p7 p8 p9 p10 p11 p12 p13 p14 p15 p16 p17 p18 x9 x12 (by simp only [Act.put, List.setIfInBounds_toArray, List.set_cons_zero, List.set_cons_succ]) (⟨hb.1, hb.2.1, hb.2.2.1, fun h => hb.2.2.2.1 (fun hu => h (up_old hu)), fun h => hb.2.2.2.2 (fun hu => h (up_old hu))⟩) (fun _ => rfl) (fun h => hf1 (up_back h (by decide))) (fun h => hf2 (up_back h (by decide))) (fun h => hf3 (up_back h (by decide))) (fun h => hf4 (up_back h (by decide))) (fun h => hf5 (up_back h (by decide))) (fun h => hf6 (up_back h (by decide))) (fun h => hf7 (up_back h (by decide))) (fun h => hf8 (up_back h (by decide))) (fun h => hf9 (up_back h (by decide))) (fun h => hf10 (up_back h (by decide))) (fun h => hf11 (up_back h (by decide))) (fun h => hf12 (up_back h (by decide))) (fun h => hf13 (up_back h (by decide))) (fun h => hf14 (up_back h (by decide))) (fun h => ⟨up_old (hS (up_back h (by decide))).1, up_old (hS (up_back h (by decide))).2.1, (hS (up_back h (by decide))).2.2⟩) (fun h => hf16 (up_back h (by decide))) (fun h => ⟨up_old (hU (up_back h (by decide))).1, up_old (hU (up_back h (by decide))).2.1, (hU (up_back h (by decide))).2.2⟩)
    refine StepsL.cons (k := 1) rfl (fun listed a1 w1 hI hn hw K hK => ?_) ?_
    · cases hI with | mk p3 p4 p5 p6 p7 p8 p9 p10 p11 p12 p13 p14 p15 p16 p17 p18 x9 x12 ea hb hf0 hf1 hf2 hf3 hf4 hf5 hf6 hf7 hf8 hf9 hf10 hf11 hf12 hf13 hf14 hS hf16 hU =>
        have e_f0 := hf0 (hw 0 (by decide))
        subst e_f0
        have h15 : ¬ Up listed 15 := fun h => hn (hS h).1
        have hx := (hb.2.2.2.1 h15)
        subst hx
        have k9 := (hb.2.1 9 _ rfl).1
        have Hhf0 := Lib.hid hf0
        have Hhf1 := Lib.hid hf1
        have Hhf2 := Lib.hid hf2
        have Hhf3 := Lib.hid hf3
        have Hhf4 := Lib.hid hf4
        have Hhf5 := Lib.hid hf5
        have Hhf6 := Lib.hid hf6
        have Hhf7 := Lib.hid hf7
        have Hhf8 := Lib.hid hf8
        have Hhf9 := Lib.hid hf9
        have Hhf10 := Lib.hid hf10
        have Hhf11 := Lib.hid hf11
        have Hhf12 := Lib.hid hf12
        have Hhf13 := Lib.hid hf13
        have Hhf14 := Lib.hid hf14
        have HhS := Lib.hid hS
        have Hhf16 := Lib.hid hf16
        have HhU := Lib.hid hU
        have Hhb := Lib.hid hb
        have Hhw := Lib.hid hw
        clear hf0 hf1 hf2 hf3 hf4 hf5 hf6 hf7 hf8 hf9 hf10 hf11 hf12 hf13 hf14 hS hf16 hU hb hw
        rw [ea]
        clear ea
        simp only [Act.put, List.setIfInBounds_toArray, List.set_cons_zero, List.set_cons_succ]
        go_simp
        have hf0 := Hhf0.out
        have hf1 := Hhf1.out
        have hf2 := Hhf2.out
        have hf3 := Hhf3.out
        have hf4 := Hhf4.out
        have hf5 := Hhf5.out
        have hf6 := Hhf6.out
        have hf7 := Hhf7.out
        have hf8 := Hhf8.out
        have hf9 := Hhf9.out
        have hf10 := Hhf10.out
        have hf11 := Hhf11.out
        have hf12 := Hhf12.out
        have hf13 := Hhf13.out
        have hf14 := Hhf14.out
        have hS := HhS.out
        have hf16 := Hhf16.out
        have hU := HhU.out
        have hb := Hhb.out
        have hw := Hhw.out
        refine hK.out _ _ ?_
        exact .mk (.pointer (some ⟨w.heap.size, 9, none⟩)) (.slice fa fn fc) p5 p6 p7 p8 p9 p10 p11 p12 p13 p14 p15 p16 p17 p18 (.slice fa fn fc) x12 (by simp only [Act.put, List.setIfInBounds_toArray, List.set_cons_zero, List.set_cons_succ]) (⟨hb.1, hb.2.1, hb.2.2.1, fun h => hb.2.2.2.1 (fun hu => h (up_old hu)), fun h => hb.2.2.2.2 (fun hu => h (up_old hu))⟩) (fun _ => rfl) (fun _ => rfl) (fun h => hf2 (up_back h (by decide))) (fun h => hf3 (up_back h (by decide))) (fun h => hf4 (up_back h (by decide))) (fun h => hf5 (up_back h (by decide))) (fun h => hf6 (up_back h (by decide))) (fun h => hf7 (up_back h (by decide))) (fun h => hf8 (up_back h (by decide))) (fun h => hf9 (up_back h (by decide))) (fun h => hf10 (up_back h (by decide))) (fun h => hf11 (up_back h (by decide))) (fun h => hf12 (up_back h (by decide))) (fun h => hf13 (up_back h (by decide))) (fun h => hf14 (up_back h (by decide))) (fun h => ⟨up_old (hS (up_back h (by decide))).1, up_old (hS (up_back h (by decide))).2.1, (hS (up_back h (by decide))).2.2⟩) (fun h => hf16 (up_back h (by decide))) (fun h => ⟨up_old (hU (up_back h (by decide))).1, up_old (hU (up_back h (by decide))).2.1, (hU (up_back h (by decide))).2.2⟩)
    refine StepsL.cons (k := 2) rfl (fun listed a1 w1 hI hn hw K hK => ?_) ?_
    · cases hI with | mk p3 p4 p5 p6 p7 p8 p9 p10 p11 p12 p13 p14 p15 p16 p17 p18 x9 x12 ea hb hf0 hf1 hf2 hf3 hf4 hf5 hf6 hf7 hf8 hf9 hf10 hf11 hf12 hf13 hf14 hS hf16 hU =>
        have Hhf0 := Lib.hid hf0
        have Hhf1 := Lib.hid hf1
        have Hhf2 := Lib.hid hf2
        have Hhf3 := Lib.hid hf3
        have Hhf4 := Lib.hid hf4
        have Hhf5 := Lib.hid hf5
        have Hhf6 := Lib.hid hf6
        have Hhf7 := Lib.hid hf7
        have Hhf8 := Lib.hid hf8
        have Hhf9 := Lib.hid hf9
        have Hhf10 := Lib.hid hf10
        have Hhf11 := Lib.hid hf11
        have Hhf12 := Lib.hid hf12
        have Hhf13 := Lib.hid hf13
        have Hhf14 := Lib.hid hf14
        have HhS := Lib.hid hS
        have Hhf16 := Lib.hid hf16
        have HhU := Lib.hid hU
        have Hhb := Lib.hid hb
        have Hhw := Lib.hid hw
        clear hf0 hf1 hf2 hf3 hf4 hf5 hf6 hf7 hf8 hf9 hf10 hf11 hf12 hf13 hf14 hS hf16 hU hb hw
        rw [ea]
        clear ea
        simp only [Act.put, List.setIfInBounds_toArray, List.set_cons_zero, List.set_cons_succ]
        go_simp
        have hf0 := Hhf0.out
        have hf1 := Hhf1.out
        have hf2 := Hhf2.out
        have hf3 := Hhf3.out
        have hf4 := Hhf4.out
        have hf5 := Hhf5.out
        have hf6 := Hhf6.out
        have hf7 := Hhf7.out
        have hf8 := Hhf8.out
        have hf9 := Hhf9.out
        have hf10 := Hhf10.out
        have hf11 := Hhf11.out
        have hf12 := Hhf12.out
        have hf13 := Hhf13.out
        have hf14 := Hhf14.out
        have hS := HhS.out
        have hf16 := Hhf16.out
        have hU := HhU.out
        have hb := Hhb.out
        have hw := Hhw.out
        refine hK.out _ _ ?_
        exact .mk p3 p4 (.pointer (some ⟨w.heap.size, 9, none⟩)) p6 p7 p8 p9 p10 p11 p12 p13 p14 p15 p16 p17 p18 x9 x12 (by simp only [Act.put, List.setIfInBounds_toArray, List.set_cons_zero, List.set_cons_succ]) (⟨hb.1, hb.2.1, hb.2.2.1, fun h => hb.2.2.2.1 (fun hu => h (up_old hu)), fun h => hb.2.2.2.2 (fun hu => h (up_old hu))⟩) (fun h => hf0 (up_back h (by decide))) (fun h => hf1 (up_back h (by decide))) (fun _ => rfl) (fun h => hf3 (up_back h (by decide))) (fun h => hf4 (up_back h (by decide))) (fun h => hf5 (up_back h (by decide))) (fun h => hf6 (up_back h (by decide))) (fun h => hf7 (up_back h (by decide))) (fun h => hf8 (up_back h (by decide))) (fun h => hf9 (up_back h (by decide))) (fun h => hf10 (up_back h (by decide))) (fun h => hf11 (up_back h (by decide))) (fun h => hf12 (up_back h (by decide))) (fun h => hf13 (up_back h (by decide))) (fun h => hf14 (up_back h (by decide))) (fun h => ⟨up_old (hS (up_back h (by decide))).1, up_old (hS (up_back h (by decide))).2.1, (hS (up_back h (by decide))).2.2⟩) (fun h => hf16 (up_back h (by decide))) (fun h => ⟨up_old (hU (up_back h (by decide))).1, up_old (hU (up_back h (by decide))).2.1, (hU (up_back h (by decide))).2.2⟩)
    refine StepsL.cons (k := 3) rfl (fun listed a1 w1 hI hn hw K hK => ?_) ?_
    · cases hI with | mk p3 p4 p5 p6 p7 p8 p9 p10 p11 p12 p13 p14 p15 p16 p17 p18 x9 x12 ea hb hf0 hf1 hf2 hf3 hf4 hf5 hf6 hf7 hf8 hf9 hf10 hf11 hf12 hf13 hf14 hS hf16 hU =>
        have e_f2 := hf2 (hw 2 (by decide))
        subst e_f2
        have h15 : ¬ Up listed 15 := fun h => hn (hS h).2.1
        have hx := (hb.2.2.2.1 h15)
        subst hx
        have k9 := (hb.2.1 9 _ rfl).1
        have Hhf0 := Lib.hid hf0
        have Hhf1 := Lib.hid hf1
        have Hhf2 := Lib.hid hf2
        have Hhf3 := Lib.hid hf3
        have Hhf4 := Lib.hid hf4
        have Hhf5 := Lib.hid hf5
        have Hhf6 := Lib.hid hf6
        have Hhf7 := Lib.hid hf7
        have Hhf8 := Lib.hid hf8
        have Hhf9 := Lib.hid hf9
        have Hhf10 := Lib.hid hf10
        have Hhf11 := Lib.hid hf11
        have Hhf12 := Lib.hid hf12
        have Hhf13 := Lib.hid hf13
        have Hhf14 := Lib.hid hf14
        have HhS := Lib.hid hS
        have Hhf16 := Lib.hid hf16
        have HhU := Lib.hid hU
        have Hhb := Lib.hid hb
        have Hhw := Lib.hid hw
        clear hf0 hf1 hf2 hf3 hf4 hf5 hf6 hf7 hf8 hf9 hf10 hf11 hf12 hf13 hf14 hS hf16 hU hb hw
        rw [ea]
        clear ea
        simp only [Act.put, List.setIfInBounds_toArray, List.set_cons_zero, List.set_cons_succ]
        go_simp
        have hf0 := Hhf0.out
        have hf1 := Hhf1.out
        have hf2 := Hhf2.out
        have hf3 := Hhf3.out
        have hf4 := Hhf4.out
        have hf5 := Hhf5.out
        have hf6 := Hhf6.out
        have hf7 := Hhf7.out
        have hf8 := Hhf8.out
        have hf9 := Hhf9.out
        have hf10 := Hhf10.out
        have hf11 := Hhf11.out
        have hf12 := Hhf12.out
        have hf13 := Hhf13.out
        have hf14 := Hhf14.out
        have hS := HhS.out
        have hf16 := Hhf16.out
        have hU := HhU.out
        have hb := Hhb.out
        have hw := Hhw.out
        refine hK.out _ _ ?_
        exact .mk p3 p4 (.pointer (some ⟨w.heap.size, 9, none⟩)) (.slice fa fn fc) p7 p8 p9 p10 p11 p12 p13 p14 p15 p16 p17 p18 (.slice fa fn fc) x12 (by simp only [Act.put, List.setIfInBounds_toArray, List.set_cons_zero, List.set_cons_succ]) (⟨hb.1, hb.2.1, hb.2.2.1, fun h => hb.2.2.2.1 (fun hu => h (up_old hu)), fun h => hb.2.2.2.2 (fun hu => h (up_old hu))⟩) (fun h => hf0 (up_back h (by decide))) (fun h => hf1 (up_back h (by decide))) (fun _ => rfl) (fun _ => rfl) (fun h => hf4 (up_back h (by decide))) (fun h => hf5 (up_back h (by decide))) (fun h => hf6 (up_back h (by decide))) (fun h => hf7 (up_back h (by decide))) (fun h => hf8 (up_back h (by decide))) (fun h => hf9 (up_back h (by decide))) (fun h => hf10 (up_back h (by decide))) (fun h => hf11 (up_back h (by decide))) (fun h => hf12 (up_back h (by decide))) (fun h => hf13 (up_back h (by decide))) (fun h => hf14 (up_back h (by decide))) (fun h => ⟨up_old (hS (up_back h (by decide))).1, up_old (hS (up_back h (by decide))).2.1, (hS (up_back h (by decide))).2.2⟩) (fun h => hf16 (up_back h (by decide))) (fun h => ⟨up_old (hU (up_back h (by decide))).1, up_old (hU (up_back h (by decide))).2.1, (hU (up_back h (by decide))).2.2⟩)
    refine StepsL.cons (k := 4) rfl (fun listed a1 w1 hI hn hw K hK => ?_) ?_
    · cases hI with | mk p3 p4 p5 p6 p7 p8 p9 p10 p11 p12 p13 p14 p15 p16 p17 p18 x9 x12 ea hb hf0 hf1 hf2 hf3 hf4 hf5 hf6 hf7 hf8 hf9 hf10 hf11 hf12 hf13 hf14 hS hf16 hU =>
        have e_f3 := hf3 (hw 3 (by decide))
        subst e_f3
        have Hhf0 := Lib.hid hf0
        have Hhf1 := Lib.hid hf1
        have Hhf2 := Lib.hid hf2
        have Hhf3 := Lib.hid hf3
        have Hhf4 := Lib.hid hf4
        have Hhf5 := Lib.hid hf5
        have Hhf6 := Lib.hid hf6
        have Hhf7 := Lib.hid hf7
        have Hhf8 := Lib.hid hf8
        have Hhf9 := Lib.hid hf9
        have Hhf10 := Lib.hid hf10
        have Hhf11 := Lib.hid hf11
        have Hhf12 := Lib.hid hf12
        have Hhf13 := Lib.hid hf13
        have Hhf14 := Lib.hid hf14
        have HhS := Lib.hid hS
        have Hhf16 := Lib.hid hf16
        have HhU := Lib.hid hU
        have Hhb := Lib.hid hb
        have Hhw := Lib.hid hw
        clear hf0 hf1 hf2 hf3 hf4 hf5 hf6 hf7 hf8 hf9 hf10 hf11 hf12 hf13 hf14 hS hf16 hU hb hw
        rw [ea]
        clear ea
        simp only [Act.put, List.setIfInBounds_toArray, List.set_cons_zero, List.set_cons_succ]
        go_simp
        have hf0 := Hhf0.out
        have hf1 := Hhf1.out
        have hf2 := Hhf2.out
        have hf3 := Hhf3.out
        have hf4 := Hhf4.out
        have hf5 := Hhf5.out
        have hf6 := Hhf6.out
        have hf7 := Hhf7.out
        have hf8 := Hhf8.out
        have hf9 := Hhf9.out
        have hf10 := Hhf10.out
        have hf11 := Hhf11.out
        have hf12 := Hhf12.out
        have hf13 := Hhf13.out
        have hf14 := Hhf14.out
        have hS := HhS.out
        have hf16 := Hhf16.out
        have hU := HhU.out
        have hb := Hhb.out
        have hw := Hhw.out
        refine hK.out _ _ ?_
        exact .mk p3 p4 p5 (.slice fa fn fc) (.int .i64 fn) p8 p9 p10 p11 p12 p13 p14 p15 p16 p17 p18 x9 x12 (by simp only [Act.put, List.setIfInBounds_toArray, List.set_cons_zero, List.set_cons_succ]) (⟨hb.1, hb.2.1, hb.2.2.1, fun h => hb.2.2.2.1 (fun hu => h (up_old hu)), fun h => hb.2.2.2.2 (fun hu => h (up_old hu))⟩) (fun h => hf0 (up_back h (by decide))) (fun h => hf1 (up_back h (by decide))) (fun h => hf2 (up_back h (by decide))) (fun _ => rfl) (fun _ => rfl) (fun h => hf5 (up_back h (by decide))) (fun h => hf6 (up_back h (by decide))) (fun h => hf7 (up_back h (by decide))) (fun h => hf8 (up_back h (by decide))) (fun h => hf9 (up_back h (by decide))) (fun h => hf10 (up_back h (by decide))) (fun h => hf11 (up_back h (by decide))) (fun h => hf12 (up_back h (by decide))) (fun h => hf13 (up_back h (by decide))) (fun h => hf14 (up_back h (by decide))) (fun h => ⟨up_old (hS (up_back h (by decide))).1, up_old (hS (up_back h (by decide))).2.1, (hS (up_back h (by decide))).2.2⟩) (fun h => hf16 (up_back h (by decide))) (fun h => ⟨up_old (hU (up_back h (by decide))).1, up_old (hU (up_back h (by decide))).2.1, (hU (up_back h (by decide))).2.2⟩)
    refine StepsL.cons (k := 5) rfl (fun listed a1 w1 hI hn hw K hK => ?_) ?_
    · cases hI with | mk p3 p4 p5 p6 p7 p8 p9 p10 p11 p12 p13 p14 p15 p16 p17 p18 x9 x12 ea hb hf0 hf1 hf2 hf3 hf4 hf5 hf6 hf7 hf8 hf9 hf10 hf11 hf12 hf13 hf14 hS hf16 hU =>
        have e_f4 := hf4 (hw 4 (by decide))
        subst e_f4
        have Hhf0 := Lib.hid hf0
        have Hhf1 := Lib.hid hf1
        have Hhf2 := Lib.hid hf2
        have Hhf3 := Lib.hid hf3
        have Hhf4 := Lib.hid hf4
        have Hhf5 := Lib.hid hf5
        have Hhf6 := Lib.hid hf6
        have Hhf7 := Lib.hid hf7
        have Hhf8 := Lib.hid hf8
        have Hhf9 := Lib.hid hf9
        have Hhf10 := Lib.hid hf10
        have Hhf11 := Lib.hid hf11
        have Hhf12 := Lib.hid hf12
        have Hhf13 := Lib.hid hf13
        have Hhf14 := Lib.hid hf14
        have HhS := Lib.hid hS
        have Hhf16 := Lib.hid hf16
        have HhU := Lib.hid hU
        have Hhb := Lib.hid hb
        have Hhw := Lib.hid hw
        clear hf0 hf1 hf2 hf3 hf4 hf5 hf6 hf7 hf8 hf9 hf10 hf11 hf12 hf13 hf14 hS hf16 hU hb hw
        rw [ea]
        clear ea
        simp only [Act.put, List.setIfInBounds_toArray, List.set_cons_zero, List.set_cons_succ]
        go_simp
        have hf0 := Hhf0.out
        have hf1 := Hhf1.out
        have hf2 := Hhf2.out
        have hf3 := Hhf3.out
        have hf4 := Hhf4.out
        have hf5 := Hhf5.out
        have hf6 := Hhf6.out
        have hf7 := Hhf7.out
        have hf8 := Hhf8.out
        have hf9 := Hhf9.out
        have hf10 := Hhf10.out
        have hf11 := Hhf11.out
        have hf12 := Hhf12.out
        have hf13 := Hhf13.out
        have hf14 := Hhf14.out
        have hS := HhS.out
        have hf16 := Hhf16.out
        have hU := HhU.out
        have hb := Hhb.out
        have hw := Hhw.out
        refine hK.out _ _ ?_
        exact .mk p3 p4 p5 p6 (.int .i64 fn) (.int .i64 m9) p9 p10 p11 p12 p13 p14 p15 p16 p17 p18 x9 x12 (by simp only [Act.put, List.setIfInBounds_toArray, List.set_cons_zero, List.set_cons_succ, HM1.out]) (⟨hb.1, hb.2.1, hb.2.2.1, fun h => hb.2.2.2.1 (fun hu => h (up_old hu)), fun h => hb.2.2.2.2 (fun hu => h (up_old hu))⟩) (fun h => hf0 (up_back h (by decide))) (fun h => hf1 (up_back h (by decide))) (fun h => hf2 (up_back h (by decide))) (fun h => hf3 (up_back h (by decide))) (fun _ => rfl) (fun _ => rfl) (fun h => hf6 (up_back h (by decide))) (fun h => hf7 (up_back h (by decide))) (fun h => hf8 (up_back h (by decide))) (fun h => hf9 (up_back h (by decide))) (fun h => hf10 (up_back h (by decide))) (fun h => hf11 (up_back h (by decide))) (fun h => hf12 (up_back h (by decide))) (fun h => hf13 (up_back h (by decide))) (fun h => hf14 (up_back h (by decide))) (fun h => ⟨up_old (hS (up_back h (by decide))).1, up_old (hS (up_back h (by decide))).2.1, (hS (up_back h (by decide))).2.2⟩) (fun h => hf16 (up_back h (by decide))) (fun h => ⟨up_old (hU (up_back h (by decide))).1, up_old (hU (up_back h (by decide))).2.1, (hU (up_back h (by decide))).2.2⟩)
    refine StepsL.cons (k := 6) rfl (fun listed a1 w1 hI hn hw K hK => ?_) ?_
    · cases hI with | mk p3 p4 p5 p6 p7 p8 p9 p10 p11 p12 p13 p14 p15 p16 p17 p18 x9 x12 ea hb hf0 hf1 hf2 hf3 hf4 hf5 hf6 hf7 hf8 hf9 hf10 hf11 hf12 hf13 hf14 hS hf16 hU =>
        have e_f1 := hf1 (hw 1 (by decide))
        have e_f5 := hf5 (hw 5 (by decide))
        subst e_f1 e_f5
        have hm2 := HM2.out
        have Hhf0 := Lib.hid hf0
        have Hhf1 := Lib.hid hf1
        have Hhf2 := Lib.hid hf2
        have Hhf3 := Lib.hid hf3
        have Hhf4 := Lib.hid hf4
        have Hhf5 := Lib.hid hf5
        have Hhf6 := Lib.hid hf6
        have Hhf7 := Lib.hid hf7
        have Hhf8 := Lib.hid hf8
        have Hhf9 := Lib.hid hf9
        have Hhf10 := Lib.hid hf10
        have Hhf11 := Lib.hid hf11
        have Hhf12 := Lib.hid hf12
        have Hhf13 := Lib.hid hf13
        have Hhf14 := Lib.hid hf14
        have HhS := Lib.hid hS
        have Hhf16 := Lib.hid hf16
        have HhU := Lib.hid hU
        have Hhb := Lib.hid hb
        have Hhw := Lib.hid hw
        clear hf0 hf1 hf2 hf3 hf4 hf5 hf6 hf7 hf8 hf9 hf10 hf11 hf12 hf13 hf14 hS hf16 hU hb hw
        rw [ea]
        clear ea
        simp only [Act.put, List.setIfInBounds_toArray, List.set_cons_zero, List.set_cons_succ]
        go_simp
        have hf0 := Hhf0.out
        have hf1 := Hhf1.out
        have hf2 := Hhf2.out
        have hf3 := Hhf3.out
        have hf4 := Hhf4.out
        have hf5 := Hhf5.out
        have hf6 := Hhf6.out
        have hf7 := Hhf7.out
        have hf8 := Hhf8.out
        have hf9 := Hhf9.out
        have hf10 := Hhf10.out
        have hf11 := Hhf11.out
        have hf12 := Hhf12.out
        have hf13 := Hhf13.out
        have hf14 := Hhf14.out
        have hS := HhS.out
        have hf16 := Hhf16.out
        have hU := HhU.out
        have hb := Hhb.out
        have hw := Hhw.out
        refine hK.out _ _ ?_
        exact .mk p3 (.slice fa fn fc) p5 p6 p7 (.int .i64 m9) (.slice fa m9 fc) p10 p11 p12 p13 p14 p15 p16 p17 p18 x9 x12 (by simp only [Act.put, List.setIfInBounds_toArray, List.set_cons_zero, List.set_cons_succ]) (⟨hb.1, hb.2.1, hb.2.2.1, fun h => hb.2.2.2.1 (fun hu => h (up_old hu)), fun h => hb.2.2.2.2 (fun hu => h (up_old hu))⟩) (fun h => hf0 (up_back h (by decide))) (fun _ => rfl) (fun h => hf2 (up_back h (by decide))) (fun h => hf3 (up_back h (by decide))) (fun h => hf4 (up_back h (by decide))) (fun _ => rfl) (fun _ => rfl) (fun h => hf7 (up_back h (by decide))) (fun h => hf8 (up_back h (by decide))) (fun h => hf9 (up_back h (by decide))) (fun h => hf10 (up_back h (by decide))) (fun h => hf11 (up_back h (by decide))) (fun h => hf12 (up_back h (by decide))) (fun h => hf13 (up_back h (by decide))) (fun h => hf14 (up_back h (by decide))) (fun h => ⟨up_old (hS (up_back h (by decide))).1, up_old (hS (up_back h (by decide))).2.1, (hS (up_back h (by decide))).2.2⟩) (fun h => hf16 (up_back h (by decide))) (fun h => ⟨up_old (hU (up_back h (by decide))).1, up_old (hU (up_back h (by decide))).2.1, (hU (up_back h (by decide))).2.2⟩)
    refine StepsL.cons (k := 7) rfl (fun listed a1 w1 hI hn hw K hK => ?_) ?_
    · cases hI with | mk p3 p4 p5 p6 p7 p8 p9 p10 p11 p12 p13 p14 p15 p16 p17 p18 x9 x12 ea hb hf0 hf1 hf2 hf3 hf4 hf5 hf6 hf7 hf8 hf9 hf10 hf11 hf12 hf13 hf14 hS hf16 hU =>
        have Hhf0 := Lib.hid hf0
        have Hhf1 := Lib.hid hf1
        have Hhf2 := Lib.hid hf2
        have Hhf3 := Lib.hid hf3
        have Hhf4 := Lib.hid hf4
        have Hhf5 := Lib.hid hf5
        have Hhf6 := Lib.hid hf6
        have Hhf7 := Lib.hid hf7
        have Hhf8 := Lib.hid hf8
        have Hhf9 := Lib.hid hf9
        have Hhf10 := Lib.hid hf10
        have Hhf11 := Lib.hid hf11
        have Hhf12 := Lib.hid hf12
        have Hhf13 := Lib.hid hf13
        have Hhf14 := Lib.hid hf14
        have HhS := Lib.hid hS
        have Hhf16 := Lib.hid hf16
        have HhU := Lib.hid hU
        have Hhb := Lib.hid hb
        have Hhw := Lib.hid hw
        clear hf0 hf1 hf2 hf3 hf4 hf5 hf6 hf7 hf8 hf9 hf10 hf11 hf12 hf13 hf14 hS hf16 hU hb hw
        rw [ea]
        clear ea
        simp only [Act.put, List.setIfInBounds_toArray, List.set_cons_zero, List.set_cons_succ]
        go_simp
        have hf0 := Hhf0.out
        have hf1 := Hhf1.out
        have hf2 := Hhf2.out
        have hf3 := Hhf3.out
        have hf4 := Hhf4.out
        have hf5 := Hhf5.out
        have hf6 := Hhf6.out
        have hf7 := Hhf7.out
        have hf8 := Hhf8.out
        have hf9 := Hhf9.out
        have hf10 := Hhf10.out
        have hf11 := Hhf11.out
        have hf12 := Hhf12.out
        have hf13 := Hhf13.out
        have hf14 := Hhf14.out
        have hS := HhS.out
        have hf16 := Hhf16.out
        have hU := HhU.out
        have hb := Hhb.out
        have hw := Hhw.out
        refine hK.out _ _ ?_
        exact .mk p3 p4 p5 p6 p7 p8 p9 (.pointer (some ⟨w.heap.size, 12, none⟩)) p11 p12 p13 p14 p15 p16 p17 p18 x9 x12 (by simp only [Act.put, List.setIfInBounds_toArray, List.set_cons_zero, List.set_cons_succ]) (⟨hb.1, hb.2.1, hb.2.2.1, fun h => hb.2.2.2.1 (fun hu => h (up_old hu)), fun h => hb.2.2.2.2 (fun hu => h (up_old hu))⟩) (fun h => hf0 (up_back h (by decide))) (fun h => hf1 (up_back h (by decide))) (fun h => hf2 (up_back h (by decide))) (fun h => hf3 (up_back h (by decide))) (fun h => hf4 (up_back h (by decide))) (fun h => hf5 (up_back h (by decide))) (fun h => hf6 (up_back h (by decide))) (fun _ => rfl) (fun h => hf8 (up_back h (by decide))) (fun h => hf9 (up_back h (by decide))) (fun h => hf10 (up_back h (by decide))) (fun h => hf11 (up_back h (by decide))) (fun h => hf12 (up_back h (by decide))) (fun h => hf13 (up_back h (by decide))) (fun h => hf14 (up_back h (by decide))) (fun h => ⟨up_old (hS (up_back h (by decide))).1, up_old (hS (up_back h (by decide))).2.1, (hS (up_back h (by decide))).2.2⟩) (fun h => hf16 (up_back h (by decide))) (fun h => ⟨up_old (hU (up_back h (by decide))).1, up_old (hU (up_back h (by decide))).2.1, (hU (up_back h (by decide))).2.2⟩)
    refine StepsL.cons (k := 8) rfl (fun listed a1 w1 hI hn hw K hK => ?_) ?_
    · cases hI with | mk p3 p4 p5 p6 p7 p8 p9 p10 p11 p12 p13 p14 p15 p16 p17 p18 x9 x12 ea hb hf0 hf1 hf2 hf3 hf4 hf5 hf6 hf7 hf8 hf9 hf10 hf11 hf12 hf13 hf14 hS hf16 hU =>
        have e_f7 := hf7 (hw 7 (by decide))
        subst e_f7
        have h15 : ¬ Up listed 17 := fun h => hn (hU h).1
        have hx := (hb.2.2.2.2 h15)
        subst hx
        have k9 := (hb.2.1 12 _ rfl).1
        have Hhf0 := Lib.hid hf0
        have Hhf1 := Lib.hid hf1
        have Hhf2 := Lib.hid hf2
        have Hhf3 := Lib.hid hf3
        have Hhf4 := Lib.hid hf4
        have Hhf5 := Lib.hid hf5
        have Hhf6 := Lib.hid hf6
        have Hhf7 := Lib.hid hf7
        have Hhf8 := Lib.hid hf8
        have Hhf9 := Lib.hid hf9
        have Hhf10 := Lib.hid hf10
        have Hhf11 := Lib.hid hf11
        have Hhf12 := Lib.hid hf12
        have Hhf13 := Lib.hid hf13
        have Hhf14 := Lib.hid hf14
        have HhS := Lib.hid hS
        have Hhf16 := Lib.hid hf16
        have HhU := Lib.hid hU
        have Hhb := Lib.hid hb
        have Hhw := Lib.hid hw
        clear hf0 hf1 hf2 hf3 hf4 hf5 hf6 hf7 hf8 hf9 hf10 hf11 hf12 hf13 hf14 hS hf16 hU hb hw
        rw [ea]
        clear ea
        simp only [Act.put, List.setIfInBounds_toArray, List.set_cons_zero, List.set_cons_succ]
        go_simp
        have hf0 := Hhf0.out
        have hf1 := Hhf1.out
        have hf2 := Hhf2.out
        have hf3 := Hhf3.out
        have hf4 := Hhf4.out
        have hf5 := Hhf5.out
        have hf6 := Hhf6.out
        have hf7 := Hhf7.out
        have hf8 := Hhf8.out
        have hf9 := Hhf9.out
        have hf10 := Hhf10.out
        have hf11 := Hhf11.out
        have hf12 := Hhf12.out
        have hf13 := Hhf13.out
        have hf14 := Hhf14.out
        have hS := HhS.out
        have hf16 := Hhf16.out
        have hU := HhU.out
        have hb := Hhb.out
        have hw := Hhw.out
        refine hK.out _ _ ?_
        exact .mk p3 p4 p5 p6 p7 p8 p9 (.pointer (some ⟨w.heap.size, 12, none⟩)) (.slice la ln lc) p12 p13 p14 p15 p16 p17 p18 x9 (.slice la ln lc) (by simp only [Act.put, List.setIfInBounds_toArray, List.set_cons_zero, List.set_cons_succ]) (⟨hb.1, hb.2.1, hb.2.2.1, fun h => hb.2.2.2.1 (fun hu => h (up_old hu)), fun h => hb.2.2.2.2 (fun hu => h (up_old hu))⟩) (fun h => hf0 (up_back h (by decide))) (fun h => hf1 (up_back h (by decide))) (fun h => hf2 (up_back h (by decide))) (fun h => hf3 (up_back h (by decide))) (fun h => hf4 (up_back h (by decide))) (fun h => hf5 (up_back h (by decide))) (fun h => hf6 (up_back h (by decide))) (fun _ => rfl) (fun _ => rfl) (fun h => hf9 (up_back h (by decide))) (fun h => hf10 (up_back h (by decide))) (fun h => hf11 (up_back h (by decide))) (fun h => hf12 (up_back h (by decide))) (fun h => hf13 (up_back h (by decide))) (fun h => hf14 (up_back h (by decide))) (fun h => ⟨up_old (hS (up_back h (by decide))).1, up_old (hS (up_back h (by decide))).2.1, (hS (up_back h (by decide))).2.2⟩) (fun h => hf16 (up_back h (by decide))) (fun h => ⟨up_old (hU (up_back h (by decide))).1, up_old (hU (up_back h (by decide))).2.1, (hU (up_back h (by decide))).2.2⟩)
    refine StepsL.cons (k := 9) rfl (fun listed a1 w1 hI hn hw K hK => ?_) ?_
    · cases hI with | mk p3 p4 p5 p6 p7 p8 p9 p10 p11 p12 p13 p14 p15 p16 p17 p18 x9 x12 ea hb hf0 hf1 hf2 hf3 hf4 hf5 hf6 hf7 hf8 hf9 hf10 hf11 hf12 hf13 hf14 hS hf16 hU =>
        have Hhf0 := Lib.hid hf0
        have Hhf1 := Lib.hid hf1
        have Hhf2 := Lib.hid hf2
        have Hhf3 := Lib.hid hf3
        have Hhf4 := Lib.hid hf4
        have Hhf5 := Lib.hid hf5
        have Hhf6 := Lib.hid hf6
        have Hhf7 := Lib.hid hf7
        have Hhf8 := Lib.hid hf8
        have Hhf9 := Lib.hid hf9
        have Hhf10 := Lib.hid hf10
        have Hhf11 := Lib.hid hf11
        have Hhf12 := Lib.hid hf12
        have Hhf13 := Lib.hid hf13
        have Hhf14 := Lib.hid hf14
        have HhS := Lib.hid hS
        have Hhf16 := Lib.hid hf16
        have HhU := Lib.hid hU
        have Hhb := Lib.hid hb
        have Hhw := Lib.hid hw
        clear hf0 hf1 hf2 hf3 hf4 hf5 hf6 hf7 hf8 hf9 hf10 hf11 hf12 hf13 hf14 hS hf16 hU hb hw
        rw [ea]
        clear ea
        simp only [Act.put, List.setIfInBounds_toArray, List.set_cons_zero, List.set_cons_succ]
        go_simp
        have hf0 := Hhf0.out
        have hf1 := Hhf1.out
        have hf2 := Hhf2.out
        have hf3 := Hhf3.out
        have hf4 := Hhf4.out
        have hf5 := Hhf5.out
        have hf6 := Hhf6.out
        have hf7 := Hhf7.out
        have hf8 := Hhf8.out
        have hf9 := Hhf9.out
        have hf10 := Hhf10.out
        have hf11 := Hhf11.out
        have hf12 := Hhf12.out
        have hf13 := Hhf13.out
        have hf14 := Hhf14.out
        have hS := HhS.out
        have hf16 := Hhf16.out
        have hU := HhU.out
        have hb := Hhb.out
        have hw := Hhw.out
        refine hK.out _ _ ?_
        exact .mk p3 p4 p5 p6 p7 p8 p9 p10 p11 (.pointer (some ⟨w.heap.size, 12, none⟩)) p13 p14 p15 p16 p17 p18 x9 x12 (by simp only [Act.put, List.setIfInBounds_toArray, List.set_cons_zero, List.set_cons_succ]) (⟨hb.1, hb.2.1, hb.2.2.1, fun h => hb.2.2.2.1 (fun hu => h (up_old hu)), fun h => hb.2.2.2.2 (fun hu => h (up_old hu))⟩) (fun h => hf0 (up_back h (by decide))) (fun h => hf1 (up_back h (by decide))) (fun h => hf2 (up_back h (by decide))) (fun h => hf3 (up_back h (by decide))) (fun h => hf4 (up_back h (by decide))) (fun h => hf5 (up_back h (by decide))) (fun h => hf6 (up_back h (by decide))) (fun h => hf7 (up_back h (by decide))) (fun h => hf8 (up_back h (by decide))) (fun _ => rfl) (fun h => hf10 (up_back h (by decide))) (fun h => hf11 (up_back h (by decide))) (fun h => hf12 (up_back h (by decide))) (fun h => hf13 (up_back h (by decide))) (fun h => hf14 (up_back h (by decide))) (fun h => ⟨up_old (hS (up_back h (by decide))).1, up_old (hS (up_back h (by decide))).2.1, (hS (up_back h (by decide))).2.2⟩) (fun h => hf16 (up_back h (by decide))) (fun h => ⟨up_old (hU (up_back h (by decide))).1, up_old (hU (up_back h (by decide))).2.1, (hU (up_back h (by decide))).2.2⟩)
    refine StepsL.cons (k := 10) rfl (fun listed a1 w1 hI hn hw K hK => ?_) ?_
    · cases hI with | mk p3 p4 p5 p6 p7 p8 p9 p10 p11 p12 p13 p14 p15 p16 p17 p18 x9 x12 ea hb hf0 hf1 hf2 hf3 hf4 hf5 hf6 hf7 hf8 hf9 hf10 hf11 hf12 hf13 hf14 hS hf16 hU =>
        have e_f9 := hf9 (hw 9 (by decide))
        subst e_f9
        have h15 : ¬ Up listed 17 := fun h => hn (hU h).2.1
        have hx := (hb.2.2.2.2 h15)
        subst hx
        have k9 := (hb.2.1 12 _ rfl).1
        have Hhf0 := Lib.hid hf0
        have Hhf1 := Lib.hid hf1
        have Hhf2 := Lib.hid hf2
        have Hhf3 := Lib.hid hf3
        have Hhf4 := Lib.hid hf4
        have Hhf5 := Lib.hid hf5
        have Hhf6 := Lib.hid hf6
        have Hhf7 := Lib.hid hf7
        have Hhf8 := Lib.hid hf8
        have Hhf9 := Lib.hid hf9
        have Hhf10 := Lib.hid hf10
        have Hhf11 := Lib.hid hf11
        have Hhf12 := Lib.hid hf12
        have Hhf13 := Lib.hid hf13
        have Hhf14 := Lib.hid hf14
        have HhS := Lib.hid hS
        have Hhf16 := Lib.hid hf16
        have HhU := Lib.hid hU
        have Hhb := Lib.hid hb
        have Hhw := Lib.hid hw
        clear hf0 hf1 hf2 hf3 hf4 hf5 hf6 hf7 hf8 hf9 hf10 hf11 hf12 hf13 hf14 hS hf16 hU hb hw
        rw [ea]
        clear ea
        simp only [Act.put, List.setIfInBounds_toArray, List.set_cons_zero, List.set_cons_succ]
        go_simp
        have hf0 := Hhf0.out
        have hf1 := Hhf1.out
        have hf2 := Hhf2.out
        have hf3 := Hhf3.out
        have hf4 := Hhf4.out
        have hf5 := Hhf5.out
        have hf6 := Hhf6.out
        have hf7 := Hhf7.out
        have hf8 := Hhf8.out
        have hf9 := Hhf9.out
        have hf10 := Hhf10.out
        have hf11 := Hhf11.out
        have hf12 := Hhf12.out
        have hf13 := Hhf13.out
        have hf14 := Hhf14.out
        have hS := HhS.out
        have hf16 := Hhf16.out
        have hU := HhU.out
        have hb := Hhb.out
        have hw := Hhw.out
        refine hK.out _ _ ?_
        exact .mk p3 p4 p5 p6 p7 p8 p9 p10 p11 (.pointer (some ⟨w.heap.size, 12, none⟩)) (.slice la ln lc) p14 p15 p16 p17 p18 x9 (.slice la ln lc) (by simp only [Act.put, List.setIfInBounds_toArray, List.set_cons_zero, List.set_cons_succ]) (⟨hb.1, hb.2.1, hb.2.2.1, fun h => hb.2.2.2.1 (fun hu => h (up_old hu)), fun h => hb.2.2.2.2 (fun hu => h (up_old hu))⟩) (fun h => hf0 (up_back h (by decide))) (fun h => hf1 (up_back h (by decide))) (fun h => hf2 (up_back h (by decide))) (fun h => hf3 (up_back h (by decide))) (fun h => hf4 (up_back h (by decide))) (fun h => hf5 (up_back h (by decide))) (fun h => hf6 (up_back h (by decide))) (fun h => hf7 (up_back h (by decide))) (fun h => hf8 (up_back h (by decide))) (fun _ => rfl) (fun _ => rfl) (fun h => hf11 (up_back h (by decide))) (fun h => hf12 (up_back h (by decide))) (fun h => hf13 (up_back h (by decide))) (fun h => hf14 (up_back h (by decide))) (fun h => ⟨up_old (hS (up_back h (by decide))).1, up_old (hS (up_back h (by decide))).2.1, (hS (up_back h (by decide))).2.2⟩) (fun h => hf16 (up_back h (by decide))) (fun h => ⟨up_old (hU (up_back h (by decide))).1, up_old (hU (up_back h (by decide))).2.1, (hU (up_back h (by decide))).2.2⟩)
    refine StepsL.cons (k := 11) rfl (fun listed a1 w1 hI hn hw K hK => ?_) ?_
    · cases hI with | mk p3 p4 p5 p6 p7 p8 p9 p10 p11 p12 p13 p14 p15 p16 p17 p18 x9 x12 ea hb hf0 hf1 hf2 hf3 hf4 hf5 hf6 hf7 hf8 hf9 hf10 hf11 hf12 hf13 hf14 hS hf16 hU =>
        have e_f10 := hf10 (hw 10 (by decide))
        subst e_f10
        have Hhf0 := Lib.hid hf0
        have Hhf1 := Lib.hid hf1
        have Hhf2 := Lib.hid hf2
        have Hhf3 := Lib.hid hf3
        have Hhf4 := Lib.hid hf4
        have Hhf5 := Lib.hid hf5
        have Hhf6 := Lib.hid hf6
        have Hhf7 := Lib.hid hf7
        have Hhf8 := Lib.hid hf8
        have Hhf9 := Lib.hid hf9
        have Hhf10 := Lib.hid hf10
        have Hhf11 := Lib.hid hf11
        have Hhf12 := Lib.hid hf12
        have Hhf13 := Lib.hid hf13
        have Hhf14 := Lib.hid hf14
        have HhS := Lib.hid hS
        have Hhf16 := Lib.hid hf16
        have HhU := Lib.hid hU
        have Hhb := Lib.hid hb
        have Hhw := Lib.hid hw
        clear hf0 hf1 hf2 hf3 hf4 hf5 hf6 hf7 hf8 hf9 hf10 hf11 hf12 hf13 hf14 hS hf16 hU hb hw
        rw [ea]
        clear ea
        simp only [Act.put, List.setIfInBounds_toArray, List.set_cons_zero, List.set_cons_succ]
        go_simp
        have hf0 := Hhf0.out
        have hf1 := Hhf1.out
        have hf2 := Hhf2.out
        have hf3 := Hhf3.out
        have hf4 := Hhf4.out
        have hf5 := Hhf5.out
        have hf6 := Hhf6.out
        have hf7 := Hhf7.out
        have hf8 := Hhf8.out
        have hf9 := Hhf9.out
        have hf10 := Hhf10.out
        have hf11 := Hhf11.out
        have hf12 := Hhf12.out
        have hf13 := Hhf13.out
        have hf14 := Hhf14.out
        have hS := HhS.out
        have hf16 := Hhf16.out
        have hU := HhU.out
        have hb := Hhb.out
        have hw := Hhw.out
        refine hK.out _ _ ?_
        exact .mk p3 p4 p5 p6 p7 p8 p9 p10 p11 p12 (.slice la ln lc) (.int .i64 ln) p15 p16 p17 p18 x9 x12 (by simp only [Act.put, List.setIfInBounds_toArray, List.set_cons_zero, List.set_cons_succ]) (⟨hb.1, hb.2.1, hb.2.2.1, fun h => hb.2.2.2.1 (fun hu => h (up_old hu)), fun h => hb.2.2.2.2 (fun hu => h (up_old hu))⟩) (fun h => hf0 (up_back h (by decide))) (fun h => hf1 (up_back h (by decide))) (fun h => hf2 (up_back h (by decide))) (fun h => hf3 (up_back h (by decide))) (fun h => hf4 (up_back h (by decide))) (fun h => hf5 (up_back h (by decide))) (fun h => hf6 (up_back h (by decide))) (fun h => hf7 (up_back h (by decide))) (fun h => hf8 (up_back h (by decide))) (fun h => hf9 (up_back h (by decide))) (fun _ => rfl) (fun _ => rfl) (fun h => hf12 (up_back h (by decide))) (fun h => hf13 (up_back h (by decide))) (fun h => hf14 (up_back h (by decide))) (fun h => ⟨up_old (hS (up_back h (by decide))).1, up_old (hS (up_back h (by decide))).2.1, (hS (up_back h (by decide))).2.2⟩) (fun h => hf16 (up_back h (by decide))) (fun h => ⟨up_old (hU (up_back h (by decide))).1, up_old (hU (up_back h (by decide))).2.1, (hU (up_back h (by decide))).2.2⟩)
    refine StepsL.cons (k := 12) rfl (fun listed a1 w1 hI hn hw K hK => ?_) ?_
    · cases hI with | mk p3 p4 p5 p6 p7 p8 p9 p10 p11 p12 p13 p14 p15 p16 p17 p18 x9 x12 ea hb hf0 hf1 hf2 hf3 hf4 hf5 hf6 hf7 hf8 hf9 hf10 hf11 hf12 hf13 hf14 hS hf16 hU =>
        have e_f11 := hf11 (hw 11 (by decide))
        subst e_f11
        have Hhf0 := Lib.hid hf0
        have Hhf1 := Lib.hid hf1
        have Hhf2 := Lib.hid hf2
        have Hhf3 := Lib.hid hf3
        have Hhf4 := Lib.hid hf4
        have Hhf5 := Lib.hid hf5
        have Hhf6 := Lib.hid hf6
        have Hhf7 := Lib.hid hf7
        have Hhf8 := Lib.hid hf8
        have Hhf9 := Lib.hid hf9
        have Hhf10 := Lib.hid hf10
        have Hhf11 := Lib.hid hf11
        have Hhf12 := Lib.hid hf12
        have Hhf13 := Lib.hid hf13
        have Hhf14 := Lib.hid hf14
        have HhS := Lib.hid hS
        have Hhf16 := Lib.hid hf16
        have HhU := Lib.hid hU
        have Hhb := Lib.hid hb
        have Hhw := Lib.hid hw
        clear hf0 hf1 hf2 hf3 hf4 hf5 hf6 hf7 hf8 hf9 hf10 hf11 hf12 hf13 hf14 hS hf16 hU hb hw
        rw [ea]
        clear ea
        simp only [Act.put, List.setIfInBounds_toArray, List.set_cons_zero, List.set_cons_succ]
        go_simp
        have hf0 := Hhf0.out
        have hf1 := Hhf1.out
        have hf2 := Hhf2.out
        have hf3 := Hhf3.out
        have hf4 := Hhf4.out
        have hf5 := Hhf5.out
        have hf6 := Hhf6.out
        have hf7 := Hhf7.out
        have hf8 := Hhf8.out
        have hf9 := Hhf9.out
        have hf10 := Hhf10.out
        have hf11 := Hhf11.out
        have hf12 := Hhf12.out
        have hf13 := Hhf13.out
        have hf14 := Hhf14.out
        have hS := HhS.out
        have hf16 := Hhf16.out
        have hU := HhU.out
        have hb := Hhb.out
        have hw := Hhw.out
        refine hK.out _ _ ?_
        exact .mk p3 p4 p5 p6 p7 p8 p9 p10 p11 p12 p13 (.int .i64 ln) (.int .i64 m12) p16 p17 p18 x9 x12 (by simp only [Act.put, List.setIfInBounds_toArray, List.set_cons_zero, List.set_cons_succ, HM3.out]) (⟨hb.1, hb.2.1, hb.2.2.1, fun h => hb.2.2.2.1 (fun hu => h (up_old hu)), fun h => hb.2.2.2.2 (fun hu => h (up_old hu))⟩) (fun h => hf0 (up_back h (by decide))) (fun h => hf1 (up_back h (by decide))) (fun h => hf2 (up_back h (by decide))) (fun h => hf3 (up_back h (by decide))) (fun h => hf4 (up_back h (by decide))) (fun h => hf5 (up_back h (by decide))) (fun h => hf6 (up_back h (by decide))) (fun h => hf7 (up_back h (by decide))) (fun h => hf8 (up_back h (by decide))) (fun h => hf9 (up_back h (by decide))) (fun h => hf10 (up_back h (by decide))) (fun _ => rfl) (fun _ => rfl) (fun h => hf13 (up_back h (by decide))) (fun h => hf14 (up_back h (by decide))) (fun h => ⟨up_old (hS (up_back h (by decide))).1, up_old (hS (up_back h (by decide))).2.1, (hS (up_back h (by decide))).2.2⟩) (fun h => hf16 (up_back h (by decide))) (fun h => ⟨up_old (hU (up_back h (by decide))).1, up_old (hU (up_back h (by decide))).2.1, (hU (up_back h (by decide))).2.2⟩)
    refine StepsL.cons (k := 13) rfl (fun listed a1 w1 hI hn hw K hK => ?_) ?_
    · cases hI with | mk p3 p4 p5 p6 p7 p8 p9 p10 p11 p12 p13 p14 p15 p16 p17 p18 x9 x12 ea hb hf0 hf1 hf2 hf3 hf4 hf5 hf6 hf7 hf8 hf9 hf10 hf11 hf12 hf13 hf14 hS hf16 hU =>
        have e_f8 := hf8 (hw 8 (by decide))
        have e_f12 := hf12 (hw 12 (by decide))
        subst e_f8 e_f12
        have hm2 := HM4.out
        have Hhf0 := Lib.hid hf0
        have Hhf1 := Lib.hid hf1
        have Hhf2 := Lib.hid hf2
        have Hhf3 := Lib.hid hf3
        have Hhf4 := Lib.hid hf4
        have Hhf5 := Lib.hid hf5
        have Hhf6 := Lib.hid hf6
        have Hhf7 := Lib.hid hf7
        have Hhf8 := Lib.hid hf8
        have Hhf9 := Lib.hid hf9
        have Hhf10 := Lib.hid hf10
        have Hhf11 := Lib.hid hf11
        have Hhf12 := Lib.hid hf12
        have Hhf13 := Lib.hid hf13
        have Hhf14 := Lib.hid hf14
        have HhS := Lib.hid hS
        have Hhf16 := Lib.hid hf16
        have HhU := Lib.hid hU
        have Hhb := Lib.hid hb
        have Hhw := Lib.hid hw
        clear hf0 hf1 hf2 hf3 hf4 hf5 hf6 hf7 hf8 hf9 hf10 hf11 hf12 hf13 hf14 hS hf16 hU hb hw
        rw [ea]
        clear ea
        simp only [Act.put, List.setIfInBounds_toArray, List.set_cons_zero, List.set_cons_succ]
        go_simp
        have hf0 := Hhf0.out
        have hf1 := Hhf1.out
        have hf2 := Hhf2.out
        have hf3 := Hhf3.out
        have hf4 := Hhf4.out
        have hf5 := Hhf5.out
        have hf6 := Hhf6.out
        have hf7 := Hhf7.out
        have hf8 := Hhf8.out
        have hf9 := Hhf9.out
        have hf10 := Hhf10.out
        have hf11 := Hhf11.out
        have hf12 := Hhf12.out
        have hf13 := Hhf13.out
        have hf14 := Hhf14.out
        have hS := HhS.out
        have hf16 := Hhf16.out
        have hU := HhU.out
        have hb := Hhb.out
        have hw := Hhw.out
        refine hK.out _ _ ?_
        exact .mk p3 p4 p5 p6 p7 p8 p9 p10 (.slice la ln lc) p12 p13 p14 (.int .i64 m12) (.slice la m12 lc) p17 p18 x9 x12 (by simp only [Act.put, List.setIfInBounds_toArray, List.set_cons_zero, List.set_cons_succ]) (⟨hb.1, hb.2.1, hb.2.2.1, fun h => hb.2.2.2.1 (fun hu => h (up_old hu)), fun h => hb.2.2.2.2 (fun hu => h (up_old hu))⟩) (fun h => hf0 (up_back h (by decide))) (fun h => hf1 (up_back h (by decide))) (fun h => hf2 (up_back h (by decide))) (fun h => hf3 (up_back h (by decide))) (fun h => hf4 (up_back h (by decide))) (fun h => hf5 (up_back h (by decide))) (fun h => hf6 (up_back h (by decide))) (fun h => hf7 (up_back h (by decide))) (fun _ => rfl) (fun h => hf9 (up_back h (by decide))) (fun h => hf10 (up_back h (by decide))) (fun h => hf11 (up_back h (by decide))) (fun _ => rfl) (fun _ => rfl) (fun h => hf14 (up_back h (by decide))) (fun h => ⟨up_old (hS (up_back h (by decide))).1, up_old (hS (up_back h (by decide))).2.1, (hS (up_back h (by decide))).2.2⟩) (fun h => hf16 (up_back h (by decide))) (fun h => ⟨up_old (hU (up_back h (by decide))).1, up_old (hU (up_back h (by decide))).2.1, (hU (up_back h (by decide))).2.2⟩)
    refine StepsL.cons (k := 14) rfl (fun listed a1 w1 hI hn hw K hK => ?_) ?_
    · cases hI with | mk p3 p4 p5 p6 p7 p8 p9 p10 p11 p12 p13 p14 p15 p16 p17 p18 x9 x12 ea hb hf0 hf1 hf2 hf3 hf4 hf5 hf6 hf7 hf8 hf9 hf10 hf11 hf12 hf13 hf14 hS hf16 hU =>
        have Hhf0 := Lib.hid hf0
        have Hhf1 := Lib.hid hf1
        have Hhf2 := Lib.hid hf2
        have Hhf3 := Lib.hid hf3
        have Hhf4 := Lib.hid hf4
        have Hhf5 := Lib.hid hf5
        have Hhf6 := Lib.hid hf6
        have Hhf7 := Lib.hid hf7
        have Hhf8 := Lib.hid hf8
        have Hhf9 := Lib.hid hf9
        have Hhf10 := Lib.hid hf10
        have Hhf11 := Lib.hid hf11
        have Hhf12 := Lib.hid hf12
        have Hhf13 := Lib.hid hf13
        have Hhf14 := Lib.hid hf14
        have HhS := Lib.hid hS
        have Hhf16 := Lib.hid hf16
        have HhU := Lib.hid hU
        have Hhb := Lib.hid hb
        have Hhw := Lib.hid hw
        clear hf0 hf1 hf2 hf3 hf4 hf5 hf6 hf7 hf8 hf9 hf10 hf11 hf12 hf13 hf14 hS hf16 hU hb hw
        rw [ea]
        clear ea
        simp only [Act.put, List.setIfInBounds_toArray, List.set_cons_zero, List.set_cons_succ]
        go_simp
        have hf0 := Hhf0.out
        have hf1 := Hhf1.out
        have hf2 := Hhf2.out
        have hf3 := Hhf3.out
        have hf4 := Hhf4.out
        have hf5 := Hhf5.out
        have hf6 := Hhf6.out
        have hf7 := Hhf7.out
        have hf8 := Hhf8.out
        have hf9 := Hhf9.out
        have hf10 := Hhf10.out
        have hf11 := Hhf11.out
        have hf12 := Hhf12.out
        have hf13 := Hhf13.out
        have hf14 := Hhf14.out
        have hS := HhS.out
        have hf16 := Hhf16.out
        have hU := HhU.out
        have hb := Hhb.out
        have hw := Hhw.out
        refine hK.out _ _ ?_
        exact .mk p3 p4 p5 p6 p7 p8 p9 p10 p11 p12 p13 p14 p15 p16 (.pointer (some ⟨w.heap.size, 9, none⟩)) p18 x9 x12 (by simp only [Act.put, List.setIfInBounds_toArray, List.set_cons_zero, List.set_cons_succ]) (⟨hb.1, hb.2.1, hb.2.2.1, fun h => hb.2.2.2.1 (fun hu => h (up_old hu)), fun h => hb.2.2.2.2 (fun hu => h (up_old hu))⟩) (fun h => hf0 (up_back h (by decide))) (fun h => hf1 (up_back h (by decide))) (fun h => hf2 (up_back h (by decide))) (fun h => hf3 (up_back h (by decide))) (fun h => hf4 (up_back h (by decide))) (fun h => hf5 (up_back h (by decide))) (fun h => hf6 (up_back h (by decide))) (fun h => hf7 (up_back h (by decide))) (fun h => hf8 (up_back h (by decide))) (fun h => hf9 (up_back h (by decide))) (fun h => hf10 (up_back h (by decide))) (fun h => hf11 (up_back h (by decide))) (fun h => hf12 (up_back h (by decide))) (fun h => hf13 (up_back h (by decide))) (fun _ => rfl) (fun h => ⟨up_old (hS (up_back h (by decide))).1, up_old (hS (up_back h (by decide))).2.1, (hS (up_back h (by decide))).2.2⟩) (fun h => hf16 (up_back h (by decide))) (fun h => ⟨up_old (hU (up_back h (by decide))).1, up_old (hU (up_back h (by decide))).2.1, (hU (up_back h (by decide))).2.2⟩)
    refine StepsL.cons (k := 15) rfl (fun listed a1 w1 hI hn hw K hK => ?_) ?_
    · cases hI with | mk p3 p4 p5 p6 p7 p8 p9 p10 p11 p12 p13 p14 p15 p16 p17 p18 x9 x12 ea hb hf0 hf1 hf2 hf3 hf4 hf5 hf6 hf7 hf8 hf9 hf10 hf11 hf12 hf13 hf14 hS hf16 hU =>
        have e_f6 := hf6 (hw 6 (by decide))
        have e_f14 := hf14 (hw 14 (by decide))
        subst e_f14 e_f6
        obtain ⟨y9, g9⟩ := hb.2.1 9 _ rfl
        have Hhf0 := Lib.hid hf0
        have Hhf1 := Lib.hid hf1
        have Hhf2 := Lib.hid hf2
        have Hhf3 := Lib.hid hf3
        have Hhf4 := Lib.hid hf4
        have Hhf5 := Lib.hid hf5
        have Hhf6 := Lib.hid hf6
        have Hhf7 := Lib.hid hf7
        have Hhf8 := Lib.hid hf8
        have Hhf9 := Lib.hid hf9
        have Hhf10 := Lib.hid hf10
        have Hhf11 := Lib.hid hf11
        have Hhf12 := Lib.hid hf12
        have Hhf13 := Lib.hid hf13
        have Hhf14 := Lib.hid hf14
        have HhS := Lib.hid hS
        have Hhf16 := Lib.hid hf16
        have HhU := Lib.hid hU
        have Hhb := Lib.hid hb
        have Hhw := Lib.hid hw
        clear hf0 hf1 hf2 hf3 hf4 hf5 hf6 hf7 hf8 hf9 hf10 hf11 hf12 hf13 hf14 hS hf16 hU hb hw
        rw [ea]
        clear ea
        simp only [Act.put, List.setIfInBounds_toArray, List.set_cons_zero, List.set_cons_succ]
        go_simp
        have hf0 := Hhf0.out
        have hf1 := Hhf1.out
        have hf2 := Hhf2.out
        have hf3 := Hhf3.out
        have hf4 := Hhf4.out
        have hf5 := Hhf5.out
        have hf6 := Hhf6.out
        have hf7 := Hhf7.out
        have hf8 := Hhf8.out
        have hf9 := Hhf9.out
        have hf10 := Hhf10.out
        have hf11 := Hhf11.out
        have hf12 := Hhf12.out
        have hf13 := Hhf13.out
        have hf14 := Hhf14.out
        have hS := HhS.out
        have hf16 := Hhf16.out
        have hU := HhU.out
        have hb := Hhb.out
        have hw := Hhw.out
        refine hK.out _ _ ?_
        exact .mk p3 p4 p5 p6 p7 p8 (.slice fa m9 fc) p10 p11 p12 p13 p14 p15 p16 (.pointer (some ⟨w.heap.size, 9, none⟩)) p18 (.slice fa m9 fc) x12 (by simp only [Act.put, List.setIfInBounds_toArray, List.set_cons_zero, List.set_cons_succ]) (⟨hb.1.setCell (p := ⟨w.heap.size, 9, none⟩) (Nat.le_refl _) _, varN_set hb.2.1 9 (by simp) _, varN_other hb.2.2.1 (by omega) _, fun h => absurd up_self h, fun h => hb.2.2.2.2 (fun hu => h (up_old hu))⟩) (fun h => hf0 (up_back h (by decide))) (fun h => hf1 (up_back h (by decide))) (fun h => hf2 (up_back h (by decide))) (fun h => hf3 (up_back h (by decide))) (fun h => hf4 (up_back h (by decide))) (fun h => hf5 (up_back h (by decide))) (fun _ => rfl) (fun h => hf7 (up_back h (by decide))) (fun h => hf8 (up_back h (by decide))) (fun h => hf9 (up_back h (by decide))) (fun h => hf10 (up_back h (by decide))) (fun h => hf11 (up_back h (by decide))) (fun h => hf12 (up_back h (by decide))) (fun h => hf13 (up_back h (by decide))) (fun _ => rfl) (fun _ => ⟨up_old (hw 1 (by decide)), up_old (hw 3 (by decide)), rfl⟩) (fun h => hf16 (up_back h (by decide))) (fun h => ⟨up_old (hU (up_back h (by decide))).1, up_old (hU (up_back h (by decide))).2.1, (hU (up_back h (by decide))).2.2⟩)
    refine StepsL.cons (k := 16) rfl (fun listed a1 w1 hI hn hw K hK => ?_) ?_
    · cases hI with | mk p3 p4 p5 p6 p7 p8 p9 p10 p11 p12 p13 p14 p15 p16 p17 p18 x9 x12 ea hb hf0 hf1 hf2 hf3 hf4 hf5 hf6 hf7 hf8 hf9 hf10 hf11 hf12 hf13 hf14 hS hf16 hU =>
        have Hhf0 := Lib.hid hf0
        have Hhf1 := Lib.hid hf1
        have Hhf2 := Lib.hid hf2
        have Hhf3 := Lib.hid hf3
        have Hhf4 := Lib.hid hf4
        have Hhf5 := Lib.hid hf5
        have Hhf6 := Lib.hid hf6
        have Hhf7 := Lib.hid hf7
        have Hhf8 := Lib.hid hf8
        have Hhf9 := Lib.hid hf9
        have Hhf10 := Lib.hid hf10
        have Hhf11 := Lib.hid hf11
        have Hhf12 := Lib.hid hf12
        have Hhf13 := Lib.hid hf13
        have Hhf14 := Lib.hid hf14
        have HhS := Lib.hid hS
        have Hhf16 := Lib.hid hf16
        have HhU := Lib.hid hU
        have Hhb := Lib.hid hb
        have Hhw := Lib.hid hw
        clear hf0 hf1 hf2 hf3 hf4 hf5 hf6 hf7 hf8 hf9 hf10 hf11 hf12 hf13 hf14 hS hf16 hU hb hw
        rw [ea]
        clear ea
        simp only [Act.put, List.setIfInBounds_toArray, List.set_cons_zero, List.set_cons_succ]
        go_simp
        have hf0 := Hhf0.out
        have hf1 := Hhf1.out
        have hf2 := Hhf2.out
        have hf3 := Hhf3.out
        have hf4 := Hhf4.out
        have hf5 := Hhf5.out
        have hf6 := Hhf6.out
        have hf7 := Hhf7.out
        have hf8 := Hhf8.out
        have hf9 := Hhf9.out
        have hf10 := Hhf10.out
        have hf11 := Hhf11.out
        have hf12 := Hhf12.out
        have hf13 := Hhf13.out
        have hf14 := Hhf14.out
        have hS := HhS.out
        have hf16 := Hhf16.out
        have hU := HhU.out
        have hb := Hhb.out
        have hw := Hhw.out
        refine hK.out _ _ ?_
        exact .mk p3 p4 p5 p6 p7 p8 p9 p10 p11 p12 p13 p14 p15 p16 p17 (.pointer (some ⟨w.heap.size, 12, none⟩)) x9 x12 (by simp only [Act.put, List.setIfInBounds_toArray, List.set_cons_zero, List.set_cons_succ]) (⟨hb.1, hb.2.1, hb.2.2.1, fun h => hb.2.2.2.1 (fun hu => h (up_old hu)), fun h => hb.2.2.2.2 (fun hu => h (up_old hu))⟩) (fun h => hf0 (up_back h (by decide))) (fun h => hf1 (up_back h (by decide))) (fun h => hf2 (up_back h (by decide))) (fun h => hf3 (up_back h (by decide))) (fun h => hf4 (up_back h (by decide))) (fun h => hf5 (up_back h (by decide))) (fun h => hf6 (up_back h (by decide))) (fun h => hf7 (up_back h (by decide))) (fun h => hf8 (up_back h (by decide))) (fun h => hf9 (up_back h (by decide))) (fun h => hf10 (up_back h (by decide))) (fun h => hf11 (up_back h (by decide))) (fun h => hf12 (up_back h (by decide))) (fun h => hf13 (up_back h (by decide))) (fun h => hf14 (up_back h (by decide))) (fun h => ⟨up_old (hS (up_back h (by decide))).1, up_old (hS (up_back h (by decide))).2.1, (hS (up_back h (by decide))).2.2⟩) (fun _ => rfl) (fun h => ⟨up_old (hU (up_back h (by decide))).1, up_old (hU (up_back h (by decide))).2.1, (hU (up_back h (by decide))).2.2⟩)
    refine StepsL.cons (k := 17) rfl (fun listed a1 w1 hI hn hw K hK => ?_) ?_
    · cases hI with | mk p3 p4 p5 p6 p7 p8 p9 p10 p11 p12 p13 p14 p15 p16 p17 p18 x9 x12 ea hb hf0 hf1 hf2 hf3 hf4 hf5 hf6 hf7 hf8 hf9 hf10 hf11 hf12 hf13 hf14 hS hf16 hU =>
        have e_f13 := hf13 (hw 13 (by decide))
        have e_f16 := hf16 (hw 16 (by decide))
        subst e_f16 e_f13
        obtain ⟨y9, g9⟩ := hb.2.1 12 _ rfl
        have Hhf0 := Lib.hid hf0
        have Hhf1 := Lib.hid hf1
        have Hhf2 := Lib.hid hf2
        have Hhf3 := Lib.hid hf3
        have Hhf4 := Lib.hid hf4
        have Hhf5 := Lib.hid hf5
        have Hhf6 := Lib.hid hf6
        have Hhf7 := Lib.hid hf7
        have Hhf8 := Lib.hid hf8
        have Hhf9 := Lib.hid hf9
        have Hhf10 := Lib.hid hf10
        have Hhf11 := Lib.hid hf11
        have Hhf12 := Lib.hid hf12
        have Hhf13 := Lib.hid hf13
        have Hhf14 := Lib.hid hf14
        have HhS := Lib.hid hS
        have Hhf16 := Lib.hid hf16
        have HhU := Lib.hid hU
        have Hhb := Lib.hid hb
        have Hhw := Lib.hid hw
        clear hf0 hf1 hf2 hf3 hf4 hf5 hf6 hf7 hf8 hf9 hf10 hf11 hf12 hf13 hf14 hS hf16 hU hb hw
        rw [ea]
        clear ea
        simp only [Act.put, List.setIfInBounds_toArray, List.set_cons_zero, List.set_cons_succ]
        go_simp
        have hf0 := Hhf0.out
        have hf1 := Hhf1.out
        have hf2 := Hhf2.out
        have hf3 := Hhf3.out
        have hf4 := Hhf4.out
        have hf5 := Hhf5.out
        have hf6 := Hhf6.out
        have hf7 := Hhf7.out
        have hf8 := Hhf8.out
        have hf9 := Hhf9.out
        have hf10 := Hhf10.out
        have hf11 := Hhf11.out
        have hf12 := Hhf12.out
        have hf13 := Hhf13.out
        have hf14 := Hhf14.out
        have hS := HhS.out
        have hf16 := Hhf16.out
        have hU := HhU.out
        have hb := Hhb.out
        have hw := Hhw.out
        refine hK.out _ _ ?_
        exact .mk p3 p4 p5 p6 p7 p8 p9 p10 p11 p12 p13 p14 p15 (.slice la m12 lc) p17 (.pointer (some ⟨w.heap.size, 12, none⟩)) x9 (.slice la m12 lc) (by simp only [Act.put, List.setIfInBounds_toArray, List.set_cons_zero, List.set_cons_succ]) (⟨hb.1.setCell (p := ⟨w.heap.size, 12, none⟩) (Nat.le_refl _) _, varN_set hb.2.1 12 (by simp) _, varN_other hb.2.2.1 (by omega) _, fun h => hb.2.2.2.1 (fun hu => h (up_old hu)), fun h => absurd up_self h⟩) (fun h => hf0 (up_back h (by decide))) (fun h => hf1 (up_back h (by decide))) (fun h => hf2 (up_back h (by decide))) (fun h => hf3 (up_back h (by decide))) (fun h => hf4 (up_back h (by decide))) (fun h => hf5 (up_back h (by decide))) (fun h => hf6 (up_back h (by decide))) (fun h => hf7 (up_back h (by decide))) (fun h => hf8 (up_back h (by decide))) (fun h => hf9 (up_back h (by decide))) (fun h => hf10 (up_back h (by decide))) (fun h => hf11 (up_back h (by decide))) (fun h => hf12 (up_back h (by decide))) (fun _ => rfl) (fun h => hf14 (up_back h (by decide))) (fun h => ⟨up_old (hS (up_back h (by decide))).1, up_old (hS (up_back h (by decide))).2.1, (hS (up_back h (by decide))).2.2⟩) (fun _ => rfl) (fun _ => ⟨up_old (hw 8 (by decide)), up_old (hw 10 (by decide)), rfl⟩)
    exact StepsL.nil
  · intro listed a1 w1 hI hu
    cases hI with | mk p3 p4 p5 p6 p7 p8 p9 p10 p11 p12 p13 p14 p15 p16 p17 p18 x9 x12 ea hb hf0 hf1 hf2 hf3 hf4 hf5 hf6 hf7 hf8 hf9 hf10 hf11 hf12 hf13 hf14 hS hf16 hU =>
      have e9 := (hS (hu 15)).2.2
      have e12 := (hU (hu 17)).2.2
      subst e9 e12
      have HB1 := Lib.hid (below_low HB.out hb.1)
      have HX1 := Lib.hid hb.2.1
      have HR1 := Lib.hid hb.2.2.1
      clear hf0 hf1 hf2 hf3 hf4 hf5 hf6 hf7 hf8 hf9 hf10 hf11 hf12 hf13 hf14 hf16 hS hU hb hu
      rw [ea]
      clear ea
      simp only [Act.put, List.setIfInBounds_toArray, List.set_cons_zero, List.set_cons_succ]
      have k0 := (HX1.out 0 _ rfl).1
      have k1 := (HX1.out 1 _ rfl).1
      have k2 := (HX1.out 2 _ rfl).1
      have k3 := (HX1.out 3 _ rfl).1
      have k4 := (HX1.out 4 _ rfl).1
      have k5 := (HX1.out 5 _ rfl).1
      have k6 := (HX1.out 6 _ rfl).1
      have k7 := (HX1.out 7 _ rfl).1
      have k8 := (HX1.out 8 _ rfl).1
      have k9 := (HX1.out 9 _ rfl).1
      have k10 := (HX1.out 10 _ rfl).1
      have k11 := (HX1.out 11 _ rfl).1
      have k12 := (HX1.out 12 _ rfl).1
      obtain ⟨y0, g0⟩ := HR1.out 0 _ rfl
      obtain ⟨y1, g1⟩ := HR1.out 1 _ rfl
      obtain ⟨y2, g2⟩ := HR1.out 2 _ rfl
      obtain ⟨y3, g3⟩ := HR1.out 3 _ rfl
      obtain ⟨y4, g4⟩ := HR1.out 4 _ rfl
      obtain ⟨y5, g5⟩ := HR1.out 5 _ rfl
      obtain ⟨y6, g6⟩ := HR1.out 6 _ rfl
      obtain ⟨y7, g7⟩ := HR1.out 7 _ rfl
      obtain ⟨y8, g8⟩ := HR1.out 8 _ rfl
      obtain ⟨y9, g9⟩ := HR1.out 9 _ rfl
      obtain ⟨y10, g10⟩ := HR1.out 10 _ rfl
      obtain ⟨y11, g11⟩ := HR1.out 11 _ rfl
      obtain ⟨y12, g12⟩ := HR1.out 12 _ rfl
      go_wp2
      refine bp_cell ⟨w.heap.size + 1, 0, none⟩ rfl rfl rfl (load_thr _ _ t fa la m9 fc m12 lc (varN_all (xs := [.int .i64 t.pc, .int .i64 (t.r 0), .int .i64 (t.r 1), .int .i64 (t.r 2), .int .i64 (t.r 3), .int .i64 (t.r 4), .int .i64 (t.r 5), .int .i64 (t.r 6), .int .i64 (t.r 7), .slice fa m9 fc, .int .i64 t.st, .int .i64 t.ft, .slice la m12 lc]) HR1.out rfl)) ?_
      exact ⟨rfl, below_setN (g := w.heap.size + 1) (xs := [.int .i64 t.pc, .int .i64 (t.r 0), .int .i64 (t.r 1), .int .i64 (t.r 2), .int .i64 (t.r 3), .int .i64 (t.r 4), .int .i64 (t.r 5), .int .i64 (t.r 6), .int .i64 (t.r 7), .slice fa m9 fc, .int .i64 t.st, .int .i64 t.ft, .slice la m12 lc]) (k := 0) (by omega) HB1.out⟩
end Go.Proofs.Ytjddflnecfokaaa
