/- The walk of LocalRuns. -/
import Derived.Test.YtjddflnecfokaaaLwC
import Derived.Test.YtjddflnecfokaaaLwS
namespace Go.Proofs.Ytjddflnecfokaaa
open Go.ChangeShapes Go.WideShapes Go.ChangeAt Go.RowKit
open Gen

set_option maxRecDepth 100000 in
set_option maxHeartbeats 16000000 in
theorem LocalRuns_walk (t : Thr) (self : Int) (ca : Option Addr) (cn cc : Nat) (c : List In4) (most : Int) (fa la : Option Addr) (fn fc ln lc : Nat) (w : World) (F : ThF w fa fn fc la ln lc t) (hz : IsVs repIn (fun _ => True) w ca cn cc c) :
    Calls Try.prog 4 #[.agg #[.int .i64 t.pc, .int .i64 (t.r 0), .int .i64 (t.r 1), .int .i64 (t.r 2), .int .i64 (t.r 3), .int .i64 (t.r 4), .int .i64 (t.r 5), .int .i64 (t.r 6), .int .i64 (t.r 7), .slice fa fn fc, .int .i64 t.st, .int .i64 t.ft, .slice la ln lc], .int .i64 self, .slice ca cn cc, .int .i64 most] w (BoolPost true w) := by
  have FU := few_F F
  have C1 := F.fcap
  have C2 := F.lcap
  obtain ⟨u, hu⟩ : ∃ u : Thr, cutT t (min fn 8) (min ln 10) = u := ⟨_, rfl⟩
  obtain ⟨m9, hm9⟩ : ∃ m, min fn 8 = m := ⟨_, rfl⟩
  obtain ⟨m12, hm12⟩ : ∃ m, min ln 10 = m := ⟨_, rfl⟩
  obtain ⟨mp, hmp⟩ : ∃ m, min cn 100 = m := ⟨_, rfl⟩
  obtain ⟨ds, hds⟩ : ∃ ds, c.take mp = ds := ⟨_, rfl⟩
  have hfew : ∀ w', Calls Try.prog 8 #[.agg #[.int .i64 t.pc, .int .i64 (t.r 0), .int .i64 (t.r 1), .int .i64 (t.r 2), .int .i64 (t.r 3), .int .i64 (t.r 4), .int .i64 (t.r 5), .int .i64 (t.r 6), .int .i64 (t.r 7), .slice fa fn fc, .int .i64 t.st, .int .i64 t.ft, .slice la ln lc]] w' (fun e w2 => e = .returned (.agg #[.int .i64 u.pc, .int .i64 (u.r 0), .int .i64 (u.r 1), .int .i64 (u.r 2), .int .i64 (u.r 3), .int .i64 (u.r 4), .int .i64 (u.r 5), .int .i64 (u.r 6), .int .i64 (u.r 7), .slice fa m9 fc, .int .i64 u.st, .int .i64 u.ft, .slice la m12 lc]) ∧ Below w'.heap.size w' w2) := fun w' => by
    have h := few7_any t fa la fn fc ln lc w' C1 C2
    rw [hm9, hm12] at h
    rw [← hu]; exact h
  rw [hu, hm9, hm12] at FU
  have HFEW := Lib.hid hfew
  have HM := Lib.hid (show m9 ≤ 8 ∧ m12 ≤ 10 ∧ mp ≤ 100 by omega)
  have HM1 := Lib.hid (show (if (100 : Int) < (cn : Int) then (100 : Int) else (cn : Int)) = (mp : Int) by split <;> omega)
  have HM2 := Lib.hid (show mp ≤ cc ∧ cc ≤ 9223372036854775807 from ⟨by have := hz.1; omega, hz.2.1⟩)
  have HFU := Lib.hid FU
  have hct := vs_take hz.2.2.2.1 mp (by omega)
  rw [hds] at hct
  have HCT := Lib.hid hct
  clear hu hm9 hm12 hmp hfew C1 C2 FU F hz hct hds
  obtain ⟨W, hW⟩ : ∃ W, W = w.alloc (Obj.cells #[.int .i64 t.pc, .int .i64 (t.r 0), .int .i64 (t.r 1), .int .i64 (t.r 2), .int .i64 (t.r 3), .int .i64 (t.r 4), .int .i64 (t.r 5), .int .i64 (t.r 6), .int .i64 (t.r 7), .slice fa fn fc, .int .i64 t.st, .int .i64 t.ft, .slice la ln lc] 27) := ⟨_, rfl⟩
  have X : VarN W w.heap.size [.int .i64 t.pc, .int .i64 (t.r 0), .int .i64 (t.r 1), .int .i64 (t.r 2), .int .i64 (t.r 3), .int .i64 (t.r 4), .int .i64 (t.r 5), .int .i64 (t.r 6), .int .i64 (t.r 7), .slice fa fn fc, .int .i64 t.st, .int .i64 t.ft, .slice la ln lc] := by rw [hW]; exact varN_new [.int .i64 t.pc, .int .i64 (t.r 0), .int .i64 (t.r 1), .int .i64 (t.r 2), .int .i64 (t.r 3), .int .i64 (t.r 4), .int .i64 (t.r 5), .int .i64 (t.r 6), .int .i64 (t.r 7), .slice fa fn fc, .int .i64 t.st, .int .i64 t.ft, .slice la ln lc] _ rfl
  have hB : Below w.heap.size w W := by rw [hW]; go_grown
  have HX := Lib.hid X
  have HB0 := Lib.hid hB
  have HW := Lib.hid hW
  clear hW X hB
  go_enter Try.func4, Try.ntmps4
  go_upto_region 1 with fail
  rw [← HW.out]
  refine wp_region_inv (FewR t u w.heap.size fa la ca fn fc ln lc m9 m12 cn cc mp) (by kernel_rfl) (by kernel_rfl) ?_ ?_ ?_
  · intro listed hl
    exact .mk (.slice ca cn cc) undef undef undef undef undef undef undef [.int .i64 t.pc, .int .i64 (t.r 0), .int .i64 (t.r 1), .int .i64 (t.r 2), .int .i64 (t.r 3), .int .i64 (t.r 4), .int .i64 (t.r 5), .int .i64 (t.r 6), .int .i64 (t.r 7), .slice fa fn fc, .int .i64 t.st, .int .i64 t.ft, .slice la ln lc] (by simp only [Act.put, List.setIfInBounds_toArray, List.set_cons_zero, List.set_cons_succ]) (⟨(Below.refl _ _).drew, varN_D HX.out, rfl, fun _ => rfl, fun _ => rfl⟩) (fun h => absurd h (hl 0 (by decide))) (fun h => absurd h (hl 1 (by decide))) (fun h => absurd h (hl 2 (by decide))) (fun h => absurd h (hl 3 (by decide))) (fun h => absurd h (hl 4 (by decide))) (fun h => absurd h (hl 5 (by decide))) (fun h => absurd h (hl 6 (by decide))) (fun h => absurd h (hl 7 (by decide))) (fun h => absurd h (hl 8 (by decide)))
  · show StepsL _ _ _ _ _ _ _
    refine StepsL.cons (k := 0) rfl (fun listed a1 w1 hI hn hw K hK => ?_) ?_
    · cases hI with | mk p2 p15 p16 p17 p18 p19 p20 p21 xs ea hb hf0 hf1 hf2 hf3 hf4 hf5 hf6 hS hU =>
        have h7 : ¬ Up listed 7 := fun h => hn (hS h).1
        have hx := hb.2.2.2.1 h7
        subst hx
        have Hhf0 := Lib.hid hf0
        have Hhf1 := Lib.hid hf1
        have Hhf2 := Lib.hid hf2
        have Hhf3 := Lib.hid hf3
        have Hhf4 := Lib.hid hf4
        have Hhf5 := Lib.hid hf5
        have Hhf6 := Lib.hid hf6
        have HhS := Lib.hid hS
        have HhU := Lib.hid hU
        have Hhb := Lib.hid hb
        have Hhw := Lib.hid hw
        clear hf0 hf1 hf2 hf3 hf4 hf5 hf6 hS hU hb hw
        rw [ea]
        clear ea
        simp only [Act.put, List.setIfInBounds_toArray, List.set_cons_zero, List.set_cons_succ]
        refine step_pos (by rfl) ?_
        refine wp_load_mid 27 _ rfl w.heap.size 0 rfl [.int .i64 t.pc, .int .i64 (t.r 0), .int .i64 (t.r 1), .int .i64 (t.r 2), .int .i64 (t.r 3), .int .i64 (t.r 4), .int .i64 (t.r 5), .int .i64 (t.r 6), .int .i64 (t.r 7), .slice fa fn fc, .int .i64 t.st, .int .i64 t.ft, .slice la ln lc] _ (varN_range Hhb.out.2.1) Try.underlying27 rfl (by kernel_rfl) ?_
        have hf0 := Hhf0.out
        have hf1 := Hhf1.out
        have hf2 := Hhf2.out
        have hf3 := Hhf3.out
        have hf4 := Hhf4.out
        have hf5 := Hhf5.out
        have hf6 := Hhf6.out
        have hS := HhS.out
        have hU := HhU.out
        have hb := Hhb.out
        have hw := Hhw.out
        refine hK.out _ _ ?_
        exact .mk p2 (.agg #[.int .i64 t.pc, .int .i64 (t.r 0), .int .i64 (t.r 1), .int .i64 (t.r 2), .int .i64 (t.r 3), .int .i64 (t.r 4), .int .i64 (t.r 5), .int .i64 (t.r 6), .int .i64 (t.r 7), .slice fa fn fc, .int .i64 t.st, .int .i64 t.ft, .slice la ln lc]) p16 p17 p18 p19 p20 p21 [.int .i64 t.pc, .int .i64 (t.r 0), .int .i64 (t.r 1), .int .i64 (t.r 2), .int .i64 (t.r 3), .int .i64 (t.r 4), .int .i64 (t.r 5), .int .i64 (t.r 6), .int .i64 (t.r 7), .slice fa fn fc, .int .i64 t.st, .int .i64 t.ft, .slice la ln lc] (by simp only [Act.put, List.setIfInBounds_toArray, List.set_cons_zero, List.set_cons_succ]) (⟨hb.1, hb.2.1, hb.2.2.1, fun h => hb.2.2.2.1 (fun hu => h (up_old hu)), fun h => hb.2.2.2.2 (fun hu => h (up_old hu))⟩) (fun _ => rfl) (fun h => hf1 (up_back h (by decide))) (fun h => hf2 (up_back h (by decide))) (fun h => hf3 (up_back h (by decide))) (fun h => hf4 (up_back h (by decide))) (fun h => hf5 (up_back h (by decide))) (fun h => hf6 (up_back h (by decide))) (fun h => ⟨up_old (hS (up_back h (by decide))).1, (hS (up_back h (by decide))).2⟩) (fun h => ⟨up_old (hU (up_back h (by decide))).1, up_old (hU (up_back h (by decide))).2.1, (hU (up_back h (by decide))).2.2⟩)
    refine StepsL.cons (k := 1) rfl (fun listed a1 w1 hI hn hw K hK => ?_) ?_
    · cases hI with | mk p2 p15 p16 p17 p18 p19 p20 p21 xs ea hb hf0 hf1 hf2 hf3 hf4 hf5 hf6 hS hU =>
        have e_f0 := hf0 (hw 0 (by decide))
        subst e_f0
        have Hhf0 := Lib.hid hf0
        have Hhf1 := Lib.hid hf1
        have Hhf2 := Lib.hid hf2
        have Hhf3 := Lib.hid hf3
        have Hhf4 := Lib.hid hf4
        have Hhf5 := Lib.hid hf5
        have Hhf6 := Lib.hid hf6
        have HhS := Lib.hid hS
        have HhU := Lib.hid hU
        have Hhb := Lib.hid hb
        have Hhw := Lib.hid hw
        clear hf0 hf1 hf2 hf3 hf4 hf5 hf6 hS hU hb hw
        rw [ea]
        clear ea
        simp only [Act.put, List.setIfInBounds_toArray, List.set_cons_zero, List.set_cons_succ]
        refine step_pos (by rfl) ?_
        refine wp_calls _ _ _ rfl 8 rfl [.agg #[.int .i64 t.pc, .int .i64 (t.r 0), .int .i64 (t.r 1), .int .i64 (t.r 2), .int .i64 (t.r 3), .int .i64 (t.r 4), .int .i64 (t.r 5), .int .i64 (t.r 6), .int .i64 (t.r 7), .slice fa fn fc, .int .i64 t.st, .int .i64 t.ft, .slice la ln lc]] rfl (by kernel_rfl) ((HFEW.out w1).mono ?_)
        rintro e w2 ⟨rfl, hb2⟩
        refine ⟨_, rfl, ?_⟩
        have hf0 := Hhf0.out
        have hf1 := Hhf1.out
        have hf2 := Hhf2.out
        have hf3 := Hhf3.out
        have hf4 := Hhf4.out
        have hf5 := Hhf5.out
        have hf6 := Hhf6.out
        have hS := HhS.out
        have hU := HhU.out
        have hb := Hhb.out
        have hw := Hhw.out
        refine hK.out _ _ ?_
        exact .mk p2 (.agg #[.int .i64 t.pc, .int .i64 (t.r 0), .int .i64 (t.r 1), .int .i64 (t.r 2), .int .i64 (t.r 3), .int .i64 (t.r 4), .int .i64 (t.r 5), .int .i64 (t.r 6), .int .i64 (t.r 7), .slice fa fn fc, .int .i64 t.st, .int .i64 t.ft, .slice la ln lc]) (.agg #[.int .i64 u.pc, .int .i64 (u.r 0), .int .i64 (u.r 1), .int .i64 (u.r 2), .int .i64 (u.r 3), .int .i64 (u.r 4), .int .i64 (u.r 5), .int .i64 (u.r 6), .int .i64 (u.r 7), .slice fa m9 fc, .int .i64 u.st, .int .i64 u.ft, .slice la m12 lc]) p17 p18 p19 p20 p21 xs (by simp only [Act.put, List.setIfInBounds_toArray, List.set_cons_zero, List.set_cons_succ]) (⟨hb.1.trans (hb2.mono (Nat.le_of_lt (varN_lt hb.2.1 (by rw [hb.2.2.1]; decide)))), varN_B hb2 hb.2.1, hb.2.2.1, fun h => hb.2.2.2.1 (fun hu => h (up_old hu)), fun h => hb.2.2.2.2 (fun hu => h (up_old hu))⟩) (fun _ => rfl) (fun _ => rfl) (fun h => hf2 (up_back h (by decide))) (fun h => hf3 (up_back h (by decide))) (fun h => hf4 (up_back h (by decide))) (fun h => hf5 (up_back h (by decide))) (fun h => hf6 (up_back h (by decide))) (fun h => ⟨up_old (hS (up_back h (by decide))).1, (hS (up_back h (by decide))).2⟩) (fun h => ⟨up_old (hU (up_back h (by decide))).1, up_old (hU (up_back h (by decide))).2.1, (hU (up_back h (by decide))).2.2⟩)
    refine StepsL.cons (k := 2) rfl (fun listed a1 w1 hI hn hw K hK => ?_) ?_
    · cases hI with | mk p2 p15 p16 p17 p18 p19 p20 p21 xs ea hb hf0 hf1 hf2 hf3 hf4 hf5 hf6 hS hU =>
        have h8 : ¬ Up listed 8 := fun h => hn (hU h).1
        have hx := hb.2.2.2.2 h8
        subst hx
        have Hhf0 := Lib.hid hf0
        have Hhf1 := Lib.hid hf1
        have Hhf2 := Lib.hid hf2
        have Hhf3 := Lib.hid hf3
        have Hhf4 := Lib.hid hf4
        have Hhf5 := Lib.hid hf5
        have Hhf6 := Lib.hid hf6
        have HhS := Lib.hid hS
        have HhU := Lib.hid hU
        have Hhb := Lib.hid hb
        have Hhw := Lib.hid hw
        clear hf0 hf1 hf2 hf3 hf4 hf5 hf6 hS hU hb hw
        rw [ea]
        clear ea
        simp only [Act.put, List.setIfInBounds_toArray, List.set_cons_zero, List.set_cons_succ]
        go_simp
        have hf0 := Hhf0.out
        have hf1 := Hhf1.out
        have hf2 := Hhf2.out
        have hf3 := Hhf3.out
        have hf4 := Hhf4.out
        have hf5 := Hhf5.out
        have hf6 := Hhf6.out
        have hS := HhS.out
        have hU := HhU.out
        have hb := Hhb.out
        have hw := Hhw.out
        refine hK.out _ _ ?_
        exact .mk (.slice ca cn cc) p15 p16 (.slice ca cn cc) p18 p19 p20 p21 xs (by simp only [Act.put, List.setIfInBounds_toArray, List.set_cons_zero, List.set_cons_succ]) (⟨hb.1, hb.2.1, hb.2.2.1, fun h => hb.2.2.2.1 (fun hu => h (up_old hu)), fun h => hb.2.2.2.2 (fun hu => h (up_old hu))⟩) (fun h => hf0 (up_back h (by decide))) (fun h => hf1 (up_back h (by decide))) (fun _ => rfl) (fun h => hf3 (up_back h (by decide))) (fun h => hf4 (up_back h (by decide))) (fun h => hf5 (up_back h (by decide))) (fun h => hf6 (up_back h (by decide))) (fun h => ⟨up_old (hS (up_back h (by decide))).1, (hS (up_back h (by decide))).2⟩) (fun h => ⟨up_old (hU (up_back h (by decide))).1, up_old (hU (up_back h (by decide))).2.1, (hU (up_back h (by decide))).2.2⟩)
    refine StepsL.cons (k := 3) rfl (fun listed a1 w1 hI hn hw K hK => ?_) ?_
    · cases hI with | mk p2 p15 p16 p17 p18 p19 p20 p21 xs ea hb hf0 hf1 hf2 hf3 hf4 hf5 hf6 hS hU =>
        have h8 : ¬ Up listed 8 := fun h => hn (hU h).2.1
        have hx := hb.2.2.2.2 h8
        subst hx
        have Hhf0 := Lib.hid hf0
        have Hhf1 := Lib.hid hf1
        have Hhf2 := Lib.hid hf2
        have Hhf3 := Lib.hid hf3
        have Hhf4 := Lib.hid hf4
        have Hhf5 := Lib.hid hf5
        have Hhf6 := Lib.hid hf6
        have HhS := Lib.hid hS
        have HhU := Lib.hid hU
        have Hhb := Lib.hid hb
        have Hhw := Lib.hid hw
        clear hf0 hf1 hf2 hf3 hf4 hf5 hf6 hS hU hb hw
        rw [ea]
        clear ea
        simp only [Act.put, List.setIfInBounds_toArray, List.set_cons_zero, List.set_cons_succ]
        go_simp
        have hf0 := Hhf0.out
        have hf1 := Hhf1.out
        have hf2 := Hhf2.out
        have hf3 := Hhf3.out
        have hf4 := Hhf4.out
        have hf5 := Hhf5.out
        have hf6 := Hhf6.out
        have hS := HhS.out
        have hU := HhU.out
        have hb := Hhb.out
        have hw := Hhw.out
        refine hK.out _ _ ?_
        exact .mk (.slice ca cn cc) p15 p16 p17 (.slice ca cn cc) p19 p20 p21 xs (by simp only [Act.put, List.setIfInBounds_toArray, List.set_cons_zero, List.set_cons_succ]) (⟨hb.1, hb.2.1, hb.2.2.1, fun h => hb.2.2.2.1 (fun hu => h (up_old hu)), fun h => hb.2.2.2.2 (fun hu => h (up_old hu))⟩) (fun h => hf0 (up_back h (by decide))) (fun h => hf1 (up_back h (by decide))) (fun h => hf2 (up_back h (by decide))) (fun _ => rfl) (fun h => hf4 (up_back h (by decide))) (fun h => hf5 (up_back h (by decide))) (fun h => hf6 (up_back h (by decide))) (fun h => ⟨up_old (hS (up_back h (by decide))).1, (hS (up_back h (by decide))).2⟩) (fun h => ⟨up_old (hU (up_back h (by decide))).1, up_old (hU (up_back h (by decide))).2.1, (hU (up_back h (by decide))).2.2⟩)
    refine StepsL.cons (k := 4) rfl (fun listed a1 w1 hI hn hw K hK => ?_) ?_
    · cases hI with | mk p2 p15 p16 p17 p18 p19 p20 p21 xs ea hb hf0 hf1 hf2 hf3 hf4 hf5 hf6 hS hU =>
        have e_f3 := hf3 (hw 3 (by decide))
        subst e_f3
        have Hhf0 := Lib.hid hf0
        have Hhf1 := Lib.hid hf1
        have Hhf2 := Lib.hid hf2
        have Hhf3 := Lib.hid hf3
        have Hhf4 := Lib.hid hf4
        have Hhf5 := Lib.hid hf5
        have Hhf6 := Lib.hid hf6
        have HhS := Lib.hid hS
        have HhU := Lib.hid hU
        have Hhb := Lib.hid hb
        have Hhw := Lib.hid hw
        clear hf0 hf1 hf2 hf3 hf4 hf5 hf6 hS hU hb hw
        rw [ea]
        clear ea
        simp only [Act.put, List.setIfInBounds_toArray, List.set_cons_zero, List.set_cons_succ]
        go_simp
        have hf0 := Hhf0.out
        have hf1 := Hhf1.out
        have hf2 := Hhf2.out
        have hf3 := Hhf3.out
        have hf4 := Hhf4.out
        have hf5 := Hhf5.out
        have hf6 := Hhf6.out
        have hS := HhS.out
        have hU := HhU.out
        have hb := Hhb.out
        have hw := Hhw.out
        refine hK.out _ _ ?_
        exact .mk p2 p15 p16 p17 (.slice ca cn cc) (.int .i64 cn) p20 p21 xs (by simp only [Act.put, List.setIfInBounds_toArray, List.set_cons_zero, List.set_cons_succ]) (⟨hb.1, hb.2.1, hb.2.2.1, fun h => hb.2.2.2.1 (fun hu => h (up_old hu)), fun h => hb.2.2.2.2 (fun hu => h (up_old hu))⟩) (fun h => hf0 (up_back h (by decide))) (fun h => hf1 (up_back h (by decide))) (fun h => hf2 (up_back h (by decide))) (fun _ => rfl) (fun _ => rfl) (fun h => hf5 (up_back h (by decide))) (fun h => hf6 (up_back h (by decide))) (fun h => ⟨up_old (hS (up_back h (by decide))).1, (hS (up_back h (by decide))).2⟩) (fun h => ⟨up_old (hU (up_back h (by decide))).1, up_old (hU (up_back h (by decide))).2.1, (hU (up_back h (by decide))).2.2⟩)
    refine StepsL.cons (k := 5) rfl (fun listed a1 w1 hI hn hw K hK => ?_) ?_
    · cases hI with | mk p2 p15 p16 p17 p18 p19 p20 p21 xs ea hb hf0 hf1 hf2 hf3 hf4 hf5 hf6 hS hU =>
        have e_f4 := hf4 (hw 4 (by decide))
        subst e_f4
        have Hhf0 := Lib.hid hf0
        have Hhf1 := Lib.hid hf1
        have Hhf2 := Lib.hid hf2
        have Hhf3 := Lib.hid hf3
        have Hhf4 := Lib.hid hf4
        have Hhf5 := Lib.hid hf5
        have Hhf6 := Lib.hid hf6
        have HhS := Lib.hid hS
        have HhU := Lib.hid hU
        have Hhb := Lib.hid hb
        have Hhw := Lib.hid hw
        clear hf0 hf1 hf2 hf3 hf4 hf5 hf6 hS hU hb hw
        rw [ea]
        clear ea
        simp only [Act.put, List.setIfInBounds_toArray, List.set_cons_zero, List.set_cons_succ]
        go_simp
        have hf0 := Hhf0.out
        have hf1 := Hhf1.out
        have hf2 := Hhf2.out
        have hf3 := Hhf3.out
        have hf4 := Hhf4.out
        have hf5 := Hhf5.out
        have hf6 := Hhf6.out
        have hS := HhS.out
        have hU := HhU.out
        have hb := Hhb.out
        have hw := Hhw.out
        refine hK.out _ _ ?_
        exact .mk p2 p15 p16 p17 p18 (.int .i64 cn) (.int .i64 mp) p21 xs (by simp only [Act.put, List.setIfInBounds_toArray, List.set_cons_zero, List.set_cons_succ, HM1.out]) (⟨hb.1, hb.2.1, hb.2.2.1, fun h => hb.2.2.2.1 (fun hu => h (up_old hu)), fun h => hb.2.2.2.2 (fun hu => h (up_old hu))⟩) (fun h => hf0 (up_back h (by decide))) (fun h => hf1 (up_back h (by decide))) (fun h => hf2 (up_back h (by decide))) (fun h => hf3 (up_back h (by decide))) (fun _ => rfl) (fun _ => rfl) (fun h => hf6 (up_back h (by decide))) (fun h => ⟨up_old (hS (up_back h (by decide))).1, (hS (up_back h (by decide))).2⟩) (fun h => ⟨up_old (hU (up_back h (by decide))).1, up_old (hU (up_back h (by decide))).2.1, (hU (up_back h (by decide))).2.2⟩)
    refine StepsL.cons (k := 6) rfl (fun listed a1 w1 hI hn hw K hK => ?_) ?_
    · cases hI with | mk p2 p15 p16 p17 p18 p19 p20 p21 xs ea hb hf0 hf1 hf2 hf3 hf4 hf5 hf6 hS hU =>
        have e_f2 := hf2 (hw 2 (by decide))
        have e_f5 := hf5 (hw 5 (by decide))
        subst e_f2 e_f5
        have hm2 := HM2.out
        have Hhf0 := Lib.hid hf0
        have Hhf1 := Lib.hid hf1
        have Hhf2 := Lib.hid hf2
        have Hhf3 := Lib.hid hf3
        have Hhf4 := Lib.hid hf4
        have Hhf5 := Lib.hid hf5
        have Hhf6 := Lib.hid hf6
        have HhS := Lib.hid hS
        have HhU := Lib.hid hU
        have Hhb := Lib.hid hb
        have Hhw := Lib.hid hw
        clear hf0 hf1 hf2 hf3 hf4 hf5 hf6 hS hU hb hw
        rw [ea]
        clear ea
        simp only [Act.put, List.setIfInBounds_toArray, List.set_cons_zero, List.set_cons_succ]
        go_simp
        have hf0 := Hhf0.out
        have hf1 := Hhf1.out
        have hf2 := Hhf2.out
        have hf3 := Hhf3.out
        have hf4 := Hhf4.out
        have hf5 := Hhf5.out
        have hf6 := Hhf6.out
        have hS := HhS.out
        have hU := HhU.out
        have hb := Hhb.out
        have hw := Hhw.out
        refine hK.out _ _ ?_
        exact .mk p2 p15 p16 (.slice ca cn cc) p18 p19 (.int .i64 mp) (.slice ca mp cc) xs (by simp only [Act.put, List.setIfInBounds_toArray, List.set_cons_zero, List.set_cons_succ]) (⟨hb.1, hb.2.1, hb.2.2.1, fun h => hb.2.2.2.1 (fun hu => h (up_old hu)), fun h => hb.2.2.2.2 (fun hu => h (up_old hu))⟩) (fun h => hf0 (up_back h (by decide))) (fun h => hf1 (up_back h (by decide))) (fun _ => rfl) (fun h => hf3 (up_back h (by decide))) (fun h => hf4 (up_back h (by decide))) (fun _ => rfl) (fun _ => rfl) (fun h => ⟨up_old (hS (up_back h (by decide))).1, (hS (up_back h (by decide))).2⟩) (fun h => ⟨up_old (hU (up_back h (by decide))).1, up_old (hU (up_back h (by decide))).2.1, (hU (up_back h (by decide))).2.2⟩)
    refine StepsL.cons (k := 7) rfl (fun listed a1 w1 hI hn hw K hK => ?_) ?_
    · cases hI with | mk p2 p15 p16 p17 p18 p19 p20 p21 xs ea hb hf0 hf1 hf2 hf3 hf4 hf5 hf6 hS hU =>
        have e_f1 := hf1 (hw 1 (by decide))
        subst e_f1
        have hl13 := hb.2.2.1
        have Hhf0 := Lib.hid hf0
        have Hhf1 := Lib.hid hf1
        have Hhf2 := Lib.hid hf2
        have Hhf3 := Lib.hid hf3
        have Hhf4 := Lib.hid hf4
        have Hhf5 := Lib.hid hf5
        have Hhf6 := Lib.hid hf6
        have HhS := Lib.hid hS
        have HhU := Lib.hid hU
        have Hhb := Lib.hid hb
        have Hhw := Lib.hid hw
        clear hf0 hf1 hf2 hf3 hf4 hf5 hf6 hS hU hb hw
        rw [ea]
        clear ea
        simp only [Act.put, List.setIfInBounds_toArray, List.set_cons_zero, List.set_cons_succ]
        refine step_pos (by rfl) ?_
        refine wp_store_var 27 _ _ rfl w.heap.size #[.int .i64 u.pc, .int .i64 (u.r 0), .int .i64 (u.r 1), .int .i64 (u.r 2), .int .i64 (u.r 3), .int .i64 (u.r 4), .int .i64 (u.r 5), .int .i64 (u.r 6), .int .i64 (u.r 7), .slice fa m9 fc, .int .i64 u.st, .int .i64 u.ft, .slice la m12 lc] rfl rfl xs Hhb.out.2.1 Hhb.out.2.2.1.symm (by kernel_rfl) (one_thr _ _ _ _ _ _ _) ?_
        intro U HU
        have hf0 := Hhf0.out
        have hf1 := Hhf1.out
        have hf2 := Hhf2.out
        have hf3 := Hhf3.out
        have hf4 := Hhf4.out
        have hf5 := Hhf5.out
        have hf6 := Hhf6.out
        have hS := HhS.out
        have hU := HhU.out
        have hb := Hhb.out
        have hw := Hhw.out
        refine hK.out _ _ ?_
        exact .mk p2 p15 (.agg #[.int .i64 u.pc, .int .i64 (u.r 0), .int .i64 (u.r 1), .int .i64 (u.r 2), .int .i64 (u.r 3), .int .i64 (u.r 4), .int .i64 (u.r 5), .int .i64 (u.r 6), .int .i64 (u.r 7), .slice fa m9 fc, .int .i64 u.st, .int .i64 u.ft, .slice la m12 lc]) p17 p18 p19 p20 p21 [.int .i64 u.pc, .int .i64 (u.r 0), .int .i64 (u.r 1), .int .i64 (u.r 2), .int .i64 (u.r 3), .int .i64 (u.r 4), .int .i64 (u.r 5), .int .i64 (u.r 6), .int .i64 (u.r 7), .slice fa m9 fc, .int .i64 u.st, .int .i64 u.ft, .slice la m12 lc] (by simp only [Act.put, List.setIfInBounds_toArray, List.set_cons_zero, List.set_cons_succ]) (⟨below_set HU (Nat.le_refl _) hb.1, by rw [HU.out]; exact varN_all (xs := [.int .i64 u.pc, .int .i64 (u.r 0), .int .i64 (u.r 1), .int .i64 (u.r 2), .int .i64 (u.r 3), .int .i64 (u.r 4), .int .i64 (u.r 5), .int .i64 (u.r 6), .int .i64 (u.r 7), .slice fa m9 fc, .int .i64 u.st, .int .i64 u.ft, .slice la m12 lc]) hb.2.1 hb.2.2.1.symm, rfl, fun h => absurd up_self h, fun h => hb.2.2.2.2 (fun hu => h (up_old hu))⟩) (fun h => hf0 (up_back h (by decide))) (fun _ => rfl) (fun h => hf2 (up_back h (by decide))) (fun h => hf3 (up_back h (by decide))) (fun h => hf4 (up_back h (by decide))) (fun h => hf5 (up_back h (by decide))) (fun h => hf6 (up_back h (by decide))) (fun _ => ⟨up_old (hw 0 (by decide)), rfl⟩) (fun h => ⟨up_old (hU (up_back h (by decide))).1, up_old (hU (up_back h (by decide))).2.1, (hU (up_back h (by decide))).2.2⟩)
    refine StepsL.cons (k := 8) rfl (fun listed a1 w1 hI hn hw K hK => ?_) ?_
    · cases hI with | mk p2 p15 p16 p17 p18 p19 p20 p21 xs ea hb hf0 hf1 hf2 hf3 hf4 hf5 hf6 hS hU =>
        have e_f6 := hf6 (hw 6 (by decide))
        subst e_f6
        have Hhf0 := Lib.hid hf0
        have Hhf1 := Lib.hid hf1
        have Hhf2 := Lib.hid hf2
        have Hhf3 := Lib.hid hf3
        have Hhf4 := Lib.hid hf4
        have Hhf5 := Lib.hid hf5
        have Hhf6 := Lib.hid hf6
        have HhS := Lib.hid hS
        have HhU := Lib.hid hU
        have Hhb := Lib.hid hb
        have Hhw := Lib.hid hw
        clear hf0 hf1 hf2 hf3 hf4 hf5 hf6 hS hU hb hw
        rw [ea]
        clear ea
        simp only [Act.put, List.setIfInBounds_toArray, List.set_cons_zero, List.set_cons_succ]
        go_simp
        have hf0 := Hhf0.out
        have hf1 := Hhf1.out
        have hf2 := Hhf2.out
        have hf3 := Hhf3.out
        have hf4 := Hhf4.out
        have hf5 := Hhf5.out
        have hf6 := Hhf6.out
        have hS := HhS.out
        have hU := HhU.out
        have hb := Hhb.out
        have hw := Hhw.out
        refine hK.out _ _ ?_
        exact .mk (.slice ca mp cc) p15 p16 p17 p18 p19 p20 (.slice ca mp cc) xs (by simp only [Act.put, List.setIfInBounds_toArray, List.set_cons_zero, List.set_cons_succ]) (⟨hb.1, hb.2.1, hb.2.2.1, fun h => hb.2.2.2.1 (fun hu => h (up_old hu)), fun h => absurd up_self h⟩) (fun h => hf0 (up_back h (by decide))) (fun h => hf1 (up_back h (by decide))) (fun h => hf2 (up_back h (by decide))) (fun h => hf3 (up_back h (by decide))) (fun h => hf4 (up_back h (by decide))) (fun h => hf5 (up_back h (by decide))) (fun _ => rfl) (fun h => ⟨up_old (hS (up_back h (by decide))).1, (hS (up_back h (by decide))).2⟩) (fun _ => ⟨up_old (hw 2 (by decide)), up_old (hw 3 (by decide)), rfl⟩)
    exact StepsL.nil
  · intro listed a1 w1 hI hu
    cases hI with | mk p2 p15 p16 p17 p18 p19 p20 p21 xs ea hb hf0 hf1 hf2 hf3 hf4 hf5 hf6 hS hU =>
      have e1 := (hU (hu 8)).2.2
      have e7 := (hS (hu 7)).2
      subst e1 e7
      have HB1 := Lib.hid (HB0.out.trans hb.1)
      have X1 := Lib.hid hb.2.1
      have T1 := Lib.hid (thF_low HB1.out HFU.out)
      clear hf0 hf1 hf2 hf3 hf4 hf5 hf6 hS hU hb hu HX HB0 HW HFEW
      rw [ea]
      clear ea
      simp only [Act.put, List.setIfInBounds_toArray, List.set_cons_zero, List.set_cons_succ]
      obtain ⟨z, hz⟩ : ∃ z, rnT u self ds most = z := ⟨_, rfl⟩
      obtain ⟨n, hn⟩ : ∃ n, rnN u self ds most = n := ⟨_, rfl⟩
      obtain ⟨x, hx⟩ : ∃ x, rnE u self most = x := ⟨_, rfl⟩
      have HZ := Lib.hid hz
      have HN := Lib.hid hn
      have HXE := Lib.hid hx
      have HZL := Lib.hid (show z.fs.length ≤ 8 by rw [← hz]; exact rnT_len u self ds most (by have := T1.out.fs.1; have := HM.out; omega))
      clear hz hn hx
      go_wp2_with (refine wpList_load_mid rfl 27 _ rfl w.heap.size 0 rfl [.int .i64 u.pc, .int .i64 (u.r 0), .int .i64 (u.r 1), .int .i64 (u.r 2), .int .i64 (u.r 3), .int .i64 (u.r 4), .int .i64 (u.r 5), .int .i64 (u.r 6), .int .i64 (u.r 7), .slice fa m9 fc, .int .i64 u.st, .int .i64 u.ft, .slice la m12 lc] _ (varN_range X1.out) Try.underlying27 rfl (by kernel_rfl) ?_)
      have h0 := run_any u self ca mp cc ds most fa la m9 fc m12 lc w1 T1.out (vs_any (vs_keep (kept_low HB1.out (fun _ h => h)) (vs_old HCT.out))) (by have := HM.out; omega)
      rw [HZ.out, HN.out, HXE.out] at h0
      refine h0.mono ?_
      clear h0
      rintro e v2 ⟨fb, bn, gc, lb, dn, hc, rfl, Q1, hb⟩
      have HB2 := Lib.hid (below_from HB1.out hb)
      have X2 := Lib.hid (varN_B hb X1.out)
      have T2 := Lib.hid (thF_B hb T1.out)
      clear hb X1 T1
      have Z1 := Lib.hid Q1.f
      have HBN := Lib.hid (show bn ≤ 8 by have := Q1.fs.1; have := HZL.out; omega)
      clear Q1
      go_upto_region 3 with (refine wpList_store_var rfl 27 _ _ rfl v2.heap.size #[.int .i64 z.pc, .int .i64 (z.r 0), .int .i64 (z.r 1), .int .i64 (z.r 2), .int .i64 (z.r 3), .int .i64 (z.r 4), .int .i64 (z.r 5), .int .i64 (z.r 6), .int .i64 (z.r 7), .slice fb bn gc, .int .i64 z.st, .int .i64 z.ft, .slice lb dn hc] rfl rfl _ (varN_new [.int .i64 0, .int .i64 0, .int .i64 0, .int .i64 0, .int .i64 0, .int .i64 0, .int .i64 0, .int .i64 0, .int .i64 0, .slice none 0 0, .int .i64 0, .int .i64 0, .slice none 0 0] v2.heap.size rfl) rfl (by kernel_rfl) (one_thr _ _ _ _ _ _ _) ?_; intro U HU)
      obtain ⟨U3, hUU⟩ : ∃ Z, Z = U := ⟨_, rfl⟩
      rw [← hUU] at HU ⊢
      clear hUU U
      have hb : Below v2.heap.size v2 U3 := by rw [HU.out]; exact below_setN (Nat.le_refl _) ((Below.refl _ _).alloc (Nat.le_refl _) _)
      have A0 := Lib.hid (show VarN U3 v2.heap.size [.int .i64 z.pc, .int .i64 (z.r 0), .int .i64 (z.r 1), .int .i64 (z.r 2), .int .i64 (z.r 3), .int .i64 (z.r 4), .int .i64 (z.r 5), .int .i64 (z.r 6), .int .i64 (z.r 7), .slice fb bn gc, .int .i64 z.st, .int .i64 z.ft, .slice lb dn hc] by rw [HU.out]; exact varN_all (xs := [.int .i64 z.pc, .int .i64 (z.r 0), .int .i64 (z.r 1), .int .i64 (z.r 2), .int .i64 (z.r 3), .int .i64 (z.r 4), .int .i64 (z.r 5), .int .i64 (z.r 6), .int .i64 (z.r 7), .slice fb bn gc, .int .i64 z.st, .int .i64 z.ft, .slice lb dn hc]) (varN_new [.int .i64 0, .int .i64 0, .int .i64 0, .int .i64 0, .int .i64 0, .int .i64 0, .int .i64 0, .int .i64 0, .int .i64 0, .slice none 0 0, .int .i64 0, .int .i64 0, .slice none 0 0] v2.heap.size rfl) rfl)
      have HB3 := Lib.hid (below_from HB2.out hb)
      have X3 := Lib.hid (varN_B hb X2.out)
      have T3 := Lib.hid (thF_B hb T2.out)
      have Z3 := Lib.hid (thF_B hb Z1.out)
      clear hb HU X2 T2 Z1
      cases hr : rightT u with
      | false =>
        have HR := Lib.hid hr
        clear hr
        obtain rfl : x = 1 := by rw [← HXE.out]; exact (by rw [rnE, if_pos (.inl (by rw [mayT7, HR.out]; rfl))])
        obtain rfl : z = zThr := by rw [← HZ.out, rnT, if_neg (by rw [HXE.out]; decide)]
        obtain rfl : n = 0 := by rw [← HN.out, rnN, if_neg (by rw [HXE.out]; decide)]
        go_wp2_with (first | (refine wpList_load_mid rfl 27 _ rfl w.heap.size 0 rfl [.int .i64 u.pc, .int .i64 (u.r 0), .int .i64 (u.r 1), .int .i64 (u.r 2), .int .i64 (u.r 3), .int .i64 (u.r 4), .int .i64 (u.r 5), .int .i64 (u.r 6), .int .i64 (u.r 7), .slice fa m9 fc, .int .i64 u.st, .int .i64 u.ft, .slice la m12 lc] _ (varN_range X3.out) Try.underlying27 rfl (by kernel_rfl) ?_) | (refine wpList_load_mid rfl 27 _ rfl v2.heap.size 0 rfl [.int .i64 z.pc, .int .i64 (z.r 0), .int .i64 (z.r 1), .int .i64 (z.r 2), .int .i64 (z.r 3), .int .i64 (z.r 4), .int .i64 (z.r 5), .int .i64 (z.r 6), .int .i64 (z.r 7), .slice fb bn gc, .int .i64 z.st, .int .i64 z.ft, .slice lb dn hc] _ (varN_range A0.out) Try.underlying27 rfl (by kernel_rfl) ?_))
        have h0 := refRight6_any u fa la m9 fc m12 lc U3 T3.out
        rw [HR.out] at h0
        refine h0.mono ?_
        clear h0
        rintro e v4 ⟨rfl, hb⟩
        have HB4 := Lib.hid (below_from HB3.out hb)
        have X4 := Lib.hid (varN_B hb X3.out)
        have A4 := Lib.hid (varN_B hb A0.out)
        have T4 := Lib.hid (thF_B hb T3.out)
        have Z4 := Lib.hid (thF_B hb Z3.out)
        clear hb X3 A0 T3 Z3
        go_upto_region 9 with (first | (refine wpList_load_mid rfl 27 _ rfl w.heap.size 0 rfl [.int .i64 u.pc, .int .i64 (u.r 0), .int .i64 (u.r 1), .int .i64 (u.r 2), .int .i64 (u.r 3), .int .i64 (u.r 4), .int .i64 (u.r 5), .int .i64 (u.r 6), .int .i64 (u.r 7), .slice fa m9 fc, .int .i64 u.st, .int .i64 u.ft, .slice la m12 lc] _ (varN_range X4.out) Try.underlying27 rfl (by kernel_rfl) ?_) | (refine wpList_load_mid rfl 27 _ rfl v2.heap.size 0 rfl [.int .i64 z.pc, .int .i64 (z.r 0), .int .i64 (z.r 1), .int .i64 (z.r 2), .int .i64 (z.r 3), .int .i64 (z.r 4), .int .i64 (z.r 5), .int .i64 (z.r 6), .int .i64 (z.r 7), .slice fb bn gc, .int .i64 z.st, .int .i64 z.ft, .slice lb dn hc] _ (varN_range A4.out) Try.underlying27 rfl (by kernel_rfl) ?_))
        go_wp2_with (first | (refine wpList_load_mid rfl 27 _ rfl w.heap.size 0 rfl [.int .i64 u.pc, .int .i64 (u.r 0), .int .i64 (u.r 1), .int .i64 (u.r 2), .int .i64 (u.r 3), .int .i64 (u.r 4), .int .i64 (u.r 5), .int .i64 (u.r 6), .int .i64 (u.r 7), .slice fa m9 fc, .int .i64 u.st, .int .i64 u.ft, .slice la m12 lc] _ (varN_range X4.out) Try.underlying27 rfl (by kernel_rfl) ?_) | (refine wpList_load_mid rfl 27 _ rfl v2.heap.size 0 rfl [.int .i64 z.pc, .int .i64 (z.r 0), .int .i64 (z.r 1), .int .i64 (z.r 2), .int .i64 (z.r 3), .int .i64 (z.r 4), .int .i64 (z.r 5), .int .i64 (z.r 6), .int .i64 (z.r 7), .slice fb bn gc, .int .i64 z.st, .int .i64 z.ft, .slice lb dn hc] _ (varN_range A4.out) Try.underlying27 rfl (by kernel_rfl) ?_))
        have h0 := alive7_any v4
        refine h0.mono ?_
        clear h0
        rintro e v5 ⟨rfl, hb⟩
        have HB5 := Lib.hid (below_from HB4.out hb)
        have X5 := Lib.hid (varN_B hb X4.out)
        have A5 := Lib.hid (varN_B hb A4.out)
        have T5 := Lib.hid (thF_B hb T4.out)
        have Z5 := Lib.hid (thF_B hb Z4.out)
        clear hb X4 A4 T4 Z4
        have ka0 := (A5.out 0 _ rfl).1
        have ka1 := (A5.out 1 _ rfl).1
        have ka2 := (A5.out 2 _ rfl).1
        have ka3 := (A5.out 3 _ rfl).1
        have ka4 := (A5.out 4 _ rfl).1
        have ka5 := (A5.out 5 _ rfl).1
        have ka6 := (A5.out 6 _ rfl).1
        have ka7 := (A5.out 7 _ rfl).1
        have ka8 := (A5.out 8 _ rfl).1
        have ka9 := (A5.out 9 _ rfl).1
        have ka10 := (A5.out 10 _ rfl).1
        have ka11 := (A5.out 11 _ rfl).1
        have ka12 := (A5.out 12 _ rfl).1
        go_wp2_with (first | (refine wpList_load_mid rfl 27 _ rfl w.heap.size 0 rfl [.int .i64 u.pc, .int .i64 (u.r 0), .int .i64 (u.r 1), .int .i64 (u.r 2), .int .i64 (u.r 3), .int .i64 (u.r 4), .int .i64 (u.r 5), .int .i64 (u.r 6), .int .i64 (u.r 7), .slice fa m9 fc, .int .i64 u.st, .int .i64 u.ft, .slice la m12 lc] _ (varN_range X5.out) Try.underlying27 rfl (by kernel_rfl) ?_) | (refine wpList_load_mid rfl 27 _ rfl v2.heap.size 0 rfl [.int .i64 z.pc, .int .i64 (z.r 0), .int .i64 (z.r 1), .int .i64 (z.r 2), .int .i64 (z.r 3), .int .i64 (z.r 4), .int .i64 (z.r 5), .int .i64 (z.r 6), .int .i64 (z.r 7), .slice fb bn gc, .int .i64 z.st, .int .i64 z.ft, .slice lb dn hc] _ (varN_range A5.out) Try.underlying27 rfl (by kernel_rfl) ?_))
        have h0 := refSame6_any zThr zThr fb lb bn gc dn hc none none 0 0 0 0 v5 Z5.out (thF_zero _) (by have := HBN.out; omega)
        rw [sameT_self] at h0
        refine h0.mono ?_
        clear h0
        rintro e v6 ⟨rfl, hb⟩
        have HB6 := Lib.hid (below_from HB5.out hb)
        have X6 := Lib.hid (varN_B hb X5.out)
        have A6 := Lib.hid (varN_B hb A5.out)
        have T6 := Lib.hid (thF_B hb T5.out)
        have Z6 := Lib.hid (thF_B hb Z5.out)
        clear hb X5 A5 T5 Z5 ka0 ka1 ka2 ka3 ka4 ka5 ka6 ka7 ka8 ka9 ka10 ka11 ka12
        go_wp2_with (first | (refine wpList_load_mid rfl 27 _ rfl w.heap.size 0 rfl [.int .i64 u.pc, .int .i64 (u.r 0), .int .i64 (u.r 1), .int .i64 (u.r 2), .int .i64 (u.r 3), .int .i64 (u.r 4), .int .i64 (u.r 5), .int .i64 (u.r 6), .int .i64 (u.r 7), .slice fa m9 fc, .int .i64 u.st, .int .i64 u.ft, .slice la m12 lc] _ (varN_range X6.out) Try.underlying27 rfl (by kernel_rfl) ?_) | (refine wpList_load_mid rfl 27 _ rfl v2.heap.size 0 rfl [.int .i64 z.pc, .int .i64 (z.r 0), .int .i64 (z.r 1), .int .i64 (z.r 2), .int .i64 (z.r 3), .int .i64 (z.r 4), .int .i64 (z.r 5), .int .i64 (z.r 6), .int .i64 (z.r 7), .slice fb bn gc, .int .i64 z.st, .int .i64 z.ft, .slice lb dn hc] _ (varN_range A6.out) Try.underlying27 rfl (by kernel_rfl) ?_))
        go_ret
        exact boolPost_mk rfl HB6.out
      | true =>
        have HR := Lib.hid hr
        clear hr
        go_wp2_with (first | (refine wpList_load_mid rfl 27 _ rfl w.heap.size 0 rfl [.int .i64 u.pc, .int .i64 (u.r 0), .int .i64 (u.r 1), .int .i64 (u.r 2), .int .i64 (u.r 3), .int .i64 (u.r 4), .int .i64 (u.r 5), .int .i64 (u.r 6), .int .i64 (u.r 7), .slice fa m9 fc, .int .i64 u.st, .int .i64 u.ft, .slice la m12 lc] _ (varN_range X3.out) Try.underlying27 rfl (by kernel_rfl) ?_) | (refine wpList_load_mid rfl 27 _ rfl v2.heap.size 0 rfl [.int .i64 z.pc, .int .i64 (z.r 0), .int .i64 (z.r 1), .int .i64 (z.r 2), .int .i64 (z.r 3), .int .i64 (z.r 4), .int .i64 (z.r 5), .int .i64 (z.r 6), .int .i64 (z.r 7), .slice fb bn gc, .int .i64 z.st, .int .i64 z.ft, .slice lb dn hc] _ (varN_range A0.out) Try.underlying27 rfl (by kernel_rfl) ?_))
        have h0 := refRight6_any u fa la m9 fc m12 lc U3 T3.out
        rw [HR.out] at h0
        refine h0.mono ?_
        clear h0
        rintro e v4 ⟨rfl, hb⟩
        have HB4 := Lib.hid (below_from HB3.out hb)
        have X4 := Lib.hid (varN_B hb X3.out)
        have A4 := Lib.hid (varN_B hb A0.out)
        have T4 := Lib.hid (thF_B hb T3.out)
        have Z4 := Lib.hid (thF_B hb Z3.out)
        clear hb X3 A0 T3 Z3
        by_cases hs1 : self < 0
        · skip
          have HS := Lib.hid hs1
          obtain rfl : x = 1 := by rw [← HXE.out]; exact (by rw [rnE, if_pos (.inl (by rw [mayT7, HR.out, Bool.true_and, decide_eq_false]; have := HS.out; omega))])
          obtain rfl : z = zThr := by rw [← HZ.out, rnT, if_neg (by rw [HXE.out]; decide)]
          obtain rfl : n = 0 := by rw [← HN.out, rnN, if_neg (by rw [HXE.out]; decide)]
          go_upto_region 9 with (first | (refine wpList_load_mid rfl 27 _ rfl w.heap.size 0 rfl [.int .i64 u.pc, .int .i64 (u.r 0), .int .i64 (u.r 1), .int .i64 (u.r 2), .int .i64 (u.r 3), .int .i64 (u.r 4), .int .i64 (u.r 5), .int .i64 (u.r 6), .int .i64 (u.r 7), .slice fa m9 fc, .int .i64 u.st, .int .i64 u.ft, .slice la m12 lc] _ (varN_range X4.out) Try.underlying27 rfl (by kernel_rfl) ?_) | (refine wpList_load_mid rfl 27 _ rfl v2.heap.size 0 rfl [.int .i64 z.pc, .int .i64 (z.r 0), .int .i64 (z.r 1), .int .i64 (z.r 2), .int .i64 (z.r 3), .int .i64 (z.r 4), .int .i64 (z.r 5), .int .i64 (z.r 6), .int .i64 (z.r 7), .slice fb bn gc, .int .i64 z.st, .int .i64 z.ft, .slice lb dn hc] _ (varN_range A4.out) Try.underlying27 rfl (by kernel_rfl) ?_))
          go_wp2_with (first | (refine wpList_load_mid rfl 27 _ rfl w.heap.size 0 rfl [.int .i64 u.pc, .int .i64 (u.r 0), .int .i64 (u.r 1), .int .i64 (u.r 2), .int .i64 (u.r 3), .int .i64 (u.r 4), .int .i64 (u.r 5), .int .i64 (u.r 6), .int .i64 (u.r 7), .slice fa m9 fc, .int .i64 u.st, .int .i64 u.ft, .slice la m12 lc] _ (varN_range X4.out) Try.underlying27 rfl (by kernel_rfl) ?_) | (refine wpList_load_mid rfl 27 _ rfl v2.heap.size 0 rfl [.int .i64 z.pc, .int .i64 (z.r 0), .int .i64 (z.r 1), .int .i64 (z.r 2), .int .i64 (z.r 3), .int .i64 (z.r 4), .int .i64 (z.r 5), .int .i64 (z.r 6), .int .i64 (z.r 7), .slice fb bn gc, .int .i64 z.st, .int .i64 z.ft, .slice lb dn hc] _ (varN_range A4.out) Try.underlying27 rfl (by kernel_rfl) ?_))
          have h0 := alive7_any v4
          refine h0.mono ?_
          clear h0
          rintro e v5 ⟨rfl, hb⟩
          have HB5 := Lib.hid (below_from HB4.out hb)
          have X5 := Lib.hid (varN_B hb X4.out)
          have A5 := Lib.hid (varN_B hb A4.out)
          have T5 := Lib.hid (thF_B hb T4.out)
          have Z5 := Lib.hid (thF_B hb Z4.out)
          clear hb X4 A4 T4 Z4
          have ka0 := (A5.out 0 _ rfl).1
          have ka1 := (A5.out 1 _ rfl).1
          have ka2 := (A5.out 2 _ rfl).1
          have ka3 := (A5.out 3 _ rfl).1
          have ka4 := (A5.out 4 _ rfl).1
          have ka5 := (A5.out 5 _ rfl).1
          have ka6 := (A5.out 6 _ rfl).1
          have ka7 := (A5.out 7 _ rfl).1
          have ka8 := (A5.out 8 _ rfl).1
          have ka9 := (A5.out 9 _ rfl).1
          have ka10 := (A5.out 10 _ rfl).1
          have ka11 := (A5.out 11 _ rfl).1
          have ka12 := (A5.out 12 _ rfl).1
          go_wp2_with (first | (refine wpList_load_mid rfl 27 _ rfl w.heap.size 0 rfl [.int .i64 u.pc, .int .i64 (u.r 0), .int .i64 (u.r 1), .int .i64 (u.r 2), .int .i64 (u.r 3), .int .i64 (u.r 4), .int .i64 (u.r 5), .int .i64 (u.r 6), .int .i64 (u.r 7), .slice fa m9 fc, .int .i64 u.st, .int .i64 u.ft, .slice la m12 lc] _ (varN_range X5.out) Try.underlying27 rfl (by kernel_rfl) ?_) | (refine wpList_load_mid rfl 27 _ rfl v2.heap.size 0 rfl [.int .i64 z.pc, .int .i64 (z.r 0), .int .i64 (z.r 1), .int .i64 (z.r 2), .int .i64 (z.r 3), .int .i64 (z.r 4), .int .i64 (z.r 5), .int .i64 (z.r 6), .int .i64 (z.r 7), .slice fb bn gc, .int .i64 z.st, .int .i64 z.ft, .slice lb dn hc] _ (varN_range A5.out) Try.underlying27 rfl (by kernel_rfl) ?_))
          have h0 := refSame6_any zThr zThr fb lb bn gc dn hc none none 0 0 0 0 v5 Z5.out (thF_zero _) (by have := HBN.out; omega)
          rw [sameT_self] at h0
          refine h0.mono ?_
          clear h0
          rintro e v6 ⟨rfl, hb⟩
          have HB6 := Lib.hid (below_from HB5.out hb)
          have X6 := Lib.hid (varN_B hb X5.out)
          have A6 := Lib.hid (varN_B hb A5.out)
          have T6 := Lib.hid (thF_B hb T5.out)
          have Z6 := Lib.hid (thF_B hb Z5.out)
          clear hb X5 A5 T5 Z5 ka0 ka1 ka2 ka3 ka4 ka5 ka6 ka7 ka8 ka9 ka10 ka11 ka12
          go_wp2_with (first | (refine wpList_load_mid rfl 27 _ rfl w.heap.size 0 rfl [.int .i64 u.pc, .int .i64 (u.r 0), .int .i64 (u.r 1), .int .i64 (u.r 2), .int .i64 (u.r 3), .int .i64 (u.r 4), .int .i64 (u.r 5), .int .i64 (u.r 6), .int .i64 (u.r 7), .slice fa m9 fc, .int .i64 u.st, .int .i64 u.ft, .slice la m12 lc] _ (varN_range X6.out) Try.underlying27 rfl (by kernel_rfl) ?_) | (refine wpList_load_mid rfl 27 _ rfl v2.heap.size 0 rfl [.int .i64 z.pc, .int .i64 (z.r 0), .int .i64 (z.r 1), .int .i64 (z.r 2), .int .i64 (z.r 3), .int .i64 (z.r 4), .int .i64 (z.r 5), .int .i64 (z.r 6), .int .i64 (z.r 7), .slice fb bn gc, .int .i64 z.st, .int .i64 z.ft, .slice lb dn hc] _ (varN_range A6.out) Try.underlying27 rfl (by kernel_rfl) ?_))
          go_ret
          exact boolPost_mk rfl HB6.out
        · by_cases hs2 : 7 < self
          · skip
            have HS := Lib.hid hs2
            obtain rfl : x = 1 := by rw [← HXE.out]; exact (by rw [rnE, if_pos (.inl (by rw [mayT7, HR.out, Bool.true_and, decide_eq_false]; have := HS.out; omega))])
            obtain rfl : z = zThr := by rw [← HZ.out, rnT, if_neg (by rw [HXE.out]; decide)]
            obtain rfl : n = 0 := by rw [← HN.out, rnN, if_neg (by rw [HXE.out]; decide)]
            go_upto_region 9 with (first | (refine wpList_load_mid rfl 27 _ rfl w.heap.size 0 rfl [.int .i64 u.pc, .int .i64 (u.r 0), .int .i64 (u.r 1), .int .i64 (u.r 2), .int .i64 (u.r 3), .int .i64 (u.r 4), .int .i64 (u.r 5), .int .i64 (u.r 6), .int .i64 (u.r 7), .slice fa m9 fc, .int .i64 u.st, .int .i64 u.ft, .slice la m12 lc] _ (varN_range X4.out) Try.underlying27 rfl (by kernel_rfl) ?_) | (refine wpList_load_mid rfl 27 _ rfl v2.heap.size 0 rfl [.int .i64 z.pc, .int .i64 (z.r 0), .int .i64 (z.r 1), .int .i64 (z.r 2), .int .i64 (z.r 3), .int .i64 (z.r 4), .int .i64 (z.r 5), .int .i64 (z.r 6), .int .i64 (z.r 7), .slice fb bn gc, .int .i64 z.st, .int .i64 z.ft, .slice lb dn hc] _ (varN_range A4.out) Try.underlying27 rfl (by kernel_rfl) ?_))
            go_wp2_with (first | (refine wpList_load_mid rfl 27 _ rfl w.heap.size 0 rfl [.int .i64 u.pc, .int .i64 (u.r 0), .int .i64 (u.r 1), .int .i64 (u.r 2), .int .i64 (u.r 3), .int .i64 (u.r 4), .int .i64 (u.r 5), .int .i64 (u.r 6), .int .i64 (u.r 7), .slice fa m9 fc, .int .i64 u.st, .int .i64 u.ft, .slice la m12 lc] _ (varN_range X4.out) Try.underlying27 rfl (by kernel_rfl) ?_) | (refine wpList_load_mid rfl 27 _ rfl v2.heap.size 0 rfl [.int .i64 z.pc, .int .i64 (z.r 0), .int .i64 (z.r 1), .int .i64 (z.r 2), .int .i64 (z.r 3), .int .i64 (z.r 4), .int .i64 (z.r 5), .int .i64 (z.r 6), .int .i64 (z.r 7), .slice fb bn gc, .int .i64 z.st, .int .i64 z.ft, .slice lb dn hc] _ (varN_range A4.out) Try.underlying27 rfl (by kernel_rfl) ?_))
            have h0 := alive7_any v4
            refine h0.mono ?_
            clear h0
            rintro e v5 ⟨rfl, hb⟩
            have HB5 := Lib.hid (below_from HB4.out hb)
            have X5 := Lib.hid (varN_B hb X4.out)
            have A5 := Lib.hid (varN_B hb A4.out)
            have T5 := Lib.hid (thF_B hb T4.out)
            have Z5 := Lib.hid (thF_B hb Z4.out)
            clear hb X4 A4 T4 Z4
            have ka0 := (A5.out 0 _ rfl).1
            have ka1 := (A5.out 1 _ rfl).1
            have ka2 := (A5.out 2 _ rfl).1
            have ka3 := (A5.out 3 _ rfl).1
            have ka4 := (A5.out 4 _ rfl).1
            have ka5 := (A5.out 5 _ rfl).1
            have ka6 := (A5.out 6 _ rfl).1
            have ka7 := (A5.out 7 _ rfl).1
            have ka8 := (A5.out 8 _ rfl).1
            have ka9 := (A5.out 9 _ rfl).1
            have ka10 := (A5.out 10 _ rfl).1
            have ka11 := (A5.out 11 _ rfl).1
            have ka12 := (A5.out 12 _ rfl).1
            go_wp2_with (first | (refine wpList_load_mid rfl 27 _ rfl w.heap.size 0 rfl [.int .i64 u.pc, .int .i64 (u.r 0), .int .i64 (u.r 1), .int .i64 (u.r 2), .int .i64 (u.r 3), .int .i64 (u.r 4), .int .i64 (u.r 5), .int .i64 (u.r 6), .int .i64 (u.r 7), .slice fa m9 fc, .int .i64 u.st, .int .i64 u.ft, .slice la m12 lc] _ (varN_range X5.out) Try.underlying27 rfl (by kernel_rfl) ?_) | (refine wpList_load_mid rfl 27 _ rfl v2.heap.size 0 rfl [.int .i64 z.pc, .int .i64 (z.r 0), .int .i64 (z.r 1), .int .i64 (z.r 2), .int .i64 (z.r 3), .int .i64 (z.r 4), .int .i64 (z.r 5), .int .i64 (z.r 6), .int .i64 (z.r 7), .slice fb bn gc, .int .i64 z.st, .int .i64 z.ft, .slice lb dn hc] _ (varN_range A5.out) Try.underlying27 rfl (by kernel_rfl) ?_))
            have h0 := refSame6_any zThr zThr fb lb bn gc dn hc none none 0 0 0 0 v5 Z5.out (thF_zero _) (by have := HBN.out; omega)
            rw [sameT_self] at h0
            refine h0.mono ?_
            clear h0
            rintro e v6 ⟨rfl, hb⟩
            have HB6 := Lib.hid (below_from HB5.out hb)
            have X6 := Lib.hid (varN_B hb X5.out)
            have A6 := Lib.hid (varN_B hb A5.out)
            have T6 := Lib.hid (thF_B hb T5.out)
            have Z6 := Lib.hid (thF_B hb Z5.out)
            clear hb X5 A5 T5 Z5 ka0 ka1 ka2 ka3 ka4 ka5 ka6 ka7 ka8 ka9 ka10 ka11 ka12
            go_wp2_with (first | (refine wpList_load_mid rfl 27 _ rfl w.heap.size 0 rfl [.int .i64 u.pc, .int .i64 (u.r 0), .int .i64 (u.r 1), .int .i64 (u.r 2), .int .i64 (u.r 3), .int .i64 (u.r 4), .int .i64 (u.r 5), .int .i64 (u.r 6), .int .i64 (u.r 7), .slice fa m9 fc, .int .i64 u.st, .int .i64 u.ft, .slice la m12 lc] _ (varN_range X6.out) Try.underlying27 rfl (by kernel_rfl) ?_) | (refine wpList_load_mid rfl 27 _ rfl v2.heap.size 0 rfl [.int .i64 z.pc, .int .i64 (z.r 0), .int .i64 (z.r 1), .int .i64 (z.r 2), .int .i64 (z.r 3), .int .i64 (z.r 4), .int .i64 (z.r 5), .int .i64 (z.r 6), .int .i64 (z.r 7), .slice fb bn gc, .int .i64 z.st, .int .i64 z.ft, .slice lb dn hc] _ (varN_range A6.out) Try.underlying27 rfl (by kernel_rfl) ?_))
            go_ret
            exact boolPost_mk rfl HB6.out
          · by_cases hs3 : most < 0
            · skip
              have HS := Lib.hid hs3
              obtain rfl : x = 1 := by rw [← HXE.out]; exact (by rw [rnE, if_pos (.inr (by have := HS.out; omega))])
              obtain rfl : z = zThr := by rw [← HZ.out, rnT, if_neg (by rw [HXE.out]; decide)]
              obtain rfl : n = 0 := by rw [← HN.out, rnN, if_neg (by rw [HXE.out]; decide)]
              go_upto_region 9 with (first | (refine wpList_load_mid rfl 27 _ rfl w.heap.size 0 rfl [.int .i64 u.pc, .int .i64 (u.r 0), .int .i64 (u.r 1), .int .i64 (u.r 2), .int .i64 (u.r 3), .int .i64 (u.r 4), .int .i64 (u.r 5), .int .i64 (u.r 6), .int .i64 (u.r 7), .slice fa m9 fc, .int .i64 u.st, .int .i64 u.ft, .slice la m12 lc] _ (varN_range X4.out) Try.underlying27 rfl (by kernel_rfl) ?_) | (refine wpList_load_mid rfl 27 _ rfl v2.heap.size 0 rfl [.int .i64 z.pc, .int .i64 (z.r 0), .int .i64 (z.r 1), .int .i64 (z.r 2), .int .i64 (z.r 3), .int .i64 (z.r 4), .int .i64 (z.r 5), .int .i64 (z.r 6), .int .i64 (z.r 7), .slice fb bn gc, .int .i64 z.st, .int .i64 z.ft, .slice lb dn hc] _ (varN_range A4.out) Try.underlying27 rfl (by kernel_rfl) ?_))
              go_wp2_with (first | (refine wpList_load_mid rfl 27 _ rfl w.heap.size 0 rfl [.int .i64 u.pc, .int .i64 (u.r 0), .int .i64 (u.r 1), .int .i64 (u.r 2), .int .i64 (u.r 3), .int .i64 (u.r 4), .int .i64 (u.r 5), .int .i64 (u.r 6), .int .i64 (u.r 7), .slice fa m9 fc, .int .i64 u.st, .int .i64 u.ft, .slice la m12 lc] _ (varN_range X4.out) Try.underlying27 rfl (by kernel_rfl) ?_) | (refine wpList_load_mid rfl 27 _ rfl v2.heap.size 0 rfl [.int .i64 z.pc, .int .i64 (z.r 0), .int .i64 (z.r 1), .int .i64 (z.r 2), .int .i64 (z.r 3), .int .i64 (z.r 4), .int .i64 (z.r 5), .int .i64 (z.r 6), .int .i64 (z.r 7), .slice fb bn gc, .int .i64 z.st, .int .i64 z.ft, .slice lb dn hc] _ (varN_range A4.out) Try.underlying27 rfl (by kernel_rfl) ?_))
              have h0 := alive7_any v4
              refine h0.mono ?_
              clear h0
              rintro e v5 ⟨rfl, hb⟩
              have HB5 := Lib.hid (below_from HB4.out hb)
              have X5 := Lib.hid (varN_B hb X4.out)
              have A5 := Lib.hid (varN_B hb A4.out)
              have T5 := Lib.hid (thF_B hb T4.out)
              have Z5 := Lib.hid (thF_B hb Z4.out)
              clear hb X4 A4 T4 Z4
              have ka0 := (A5.out 0 _ rfl).1
              have ka1 := (A5.out 1 _ rfl).1
              have ka2 := (A5.out 2 _ rfl).1
              have ka3 := (A5.out 3 _ rfl).1
              have ka4 := (A5.out 4 _ rfl).1
              have ka5 := (A5.out 5 _ rfl).1
              have ka6 := (A5.out 6 _ rfl).1
              have ka7 := (A5.out 7 _ rfl).1
              have ka8 := (A5.out 8 _ rfl).1
              have ka9 := (A5.out 9 _ rfl).1
              have ka10 := (A5.out 10 _ rfl).1
              have ka11 := (A5.out 11 _ rfl).1
              have ka12 := (A5.out 12 _ rfl).1
              go_wp2_with (first | (refine wpList_load_mid rfl 27 _ rfl w.heap.size 0 rfl [.int .i64 u.pc, .int .i64 (u.r 0), .int .i64 (u.r 1), .int .i64 (u.r 2), .int .i64 (u.r 3), .int .i64 (u.r 4), .int .i64 (u.r 5), .int .i64 (u.r 6), .int .i64 (u.r 7), .slice fa m9 fc, .int .i64 u.st, .int .i64 u.ft, .slice la m12 lc] _ (varN_range X5.out) Try.underlying27 rfl (by kernel_rfl) ?_) | (refine wpList_load_mid rfl 27 _ rfl v2.heap.size 0 rfl [.int .i64 z.pc, .int .i64 (z.r 0), .int .i64 (z.r 1), .int .i64 (z.r 2), .int .i64 (z.r 3), .int .i64 (z.r 4), .int .i64 (z.r 5), .int .i64 (z.r 6), .int .i64 (z.r 7), .slice fb bn gc, .int .i64 z.st, .int .i64 z.ft, .slice lb dn hc] _ (varN_range A5.out) Try.underlying27 rfl (by kernel_rfl) ?_))
              have h0 := refSame6_any zThr zThr fb lb bn gc dn hc none none 0 0 0 0 v5 Z5.out (thF_zero _) (by have := HBN.out; omega)
              rw [sameT_self] at h0
              refine h0.mono ?_
              clear h0
              rintro e v6 ⟨rfl, hb⟩
              have HB6 := Lib.hid (below_from HB5.out hb)
              have X6 := Lib.hid (varN_B hb X5.out)
              have A6 := Lib.hid (varN_B hb A5.out)
              have T6 := Lib.hid (thF_B hb T5.out)
              have Z6 := Lib.hid (thF_B hb Z5.out)
              clear hb X5 A5 T5 Z5 ka0 ka1 ka2 ka3 ka4 ka5 ka6 ka7 ka8 ka9 ka10 ka11 ka12
              go_wp2_with (first | (refine wpList_load_mid rfl 27 _ rfl w.heap.size 0 rfl [.int .i64 u.pc, .int .i64 (u.r 0), .int .i64 (u.r 1), .int .i64 (u.r 2), .int .i64 (u.r 3), .int .i64 (u.r 4), .int .i64 (u.r 5), .int .i64 (u.r 6), .int .i64 (u.r 7), .slice fa m9 fc, .int .i64 u.st, .int .i64 u.ft, .slice la m12 lc] _ (varN_range X6.out) Try.underlying27 rfl (by kernel_rfl) ?_) | (refine wpList_load_mid rfl 27 _ rfl v2.heap.size 0 rfl [.int .i64 z.pc, .int .i64 (z.r 0), .int .i64 (z.r 1), .int .i64 (z.r 2), .int .i64 (z.r 3), .int .i64 (z.r 4), .int .i64 (z.r 5), .int .i64 (z.r 6), .int .i64 (z.r 7), .slice fb bn gc, .int .i64 z.st, .int .i64 z.ft, .slice lb dn hc] _ (varN_range A6.out) Try.underlying27 rfl (by kernel_rfl) ?_))
              go_ret
              exact boolPost_mk rfl HB6.out
            · by_cases hs4 : 1000 < most
              · skip
                have HS := Lib.hid hs4
                obtain rfl : x = 1 := by rw [← HXE.out]; exact (by rw [rnE, if_pos (.inr (by have := HS.out; omega))])
                obtain rfl : z = zThr := by rw [← HZ.out, rnT, if_neg (by rw [HXE.out]; decide)]
                obtain rfl : n = 0 := by rw [← HN.out, rnN, if_neg (by rw [HXE.out]; decide)]
                go_upto_region 9 with (first | (refine wpList_load_mid rfl 27 _ rfl w.heap.size 0 rfl [.int .i64 u.pc, .int .i64 (u.r 0), .int .i64 (u.r 1), .int .i64 (u.r 2), .int .i64 (u.r 3), .int .i64 (u.r 4), .int .i64 (u.r 5), .int .i64 (u.r 6), .int .i64 (u.r 7), .slice fa m9 fc, .int .i64 u.st, .int .i64 u.ft, .slice la m12 lc] _ (varN_range X4.out) Try.underlying27 rfl (by kernel_rfl) ?_) | (refine wpList_load_mid rfl 27 _ rfl v2.heap.size 0 rfl [.int .i64 z.pc, .int .i64 (z.r 0), .int .i64 (z.r 1), .int .i64 (z.r 2), .int .i64 (z.r 3), .int .i64 (z.r 4), .int .i64 (z.r 5), .int .i64 (z.r 6), .int .i64 (z.r 7), .slice fb bn gc, .int .i64 z.st, .int .i64 z.ft, .slice lb dn hc] _ (varN_range A4.out) Try.underlying27 rfl (by kernel_rfl) ?_))
                go_wp2_with (first | (refine wpList_load_mid rfl 27 _ rfl w.heap.size 0 rfl [.int .i64 u.pc, .int .i64 (u.r 0), .int .i64 (u.r 1), .int .i64 (u.r 2), .int .i64 (u.r 3), .int .i64 (u.r 4), .int .i64 (u.r 5), .int .i64 (u.r 6), .int .i64 (u.r 7), .slice fa m9 fc, .int .i64 u.st, .int .i64 u.ft, .slice la m12 lc] _ (varN_range X4.out) Try.underlying27 rfl (by kernel_rfl) ?_) | (refine wpList_load_mid rfl 27 _ rfl v2.heap.size 0 rfl [.int .i64 z.pc, .int .i64 (z.r 0), .int .i64 (z.r 1), .int .i64 (z.r 2), .int .i64 (z.r 3), .int .i64 (z.r 4), .int .i64 (z.r 5), .int .i64 (z.r 6), .int .i64 (z.r 7), .slice fb bn gc, .int .i64 z.st, .int .i64 z.ft, .slice lb dn hc] _ (varN_range A4.out) Try.underlying27 rfl (by kernel_rfl) ?_))
                have h0 := alive7_any v4
                refine h0.mono ?_
                clear h0
                rintro e v5 ⟨rfl, hb⟩
                have HB5 := Lib.hid (below_from HB4.out hb)
                have X5 := Lib.hid (varN_B hb X4.out)
                have A5 := Lib.hid (varN_B hb A4.out)
                have T5 := Lib.hid (thF_B hb T4.out)
                have Z5 := Lib.hid (thF_B hb Z4.out)
                clear hb X4 A4 T4 Z4
                have ka0 := (A5.out 0 _ rfl).1
                have ka1 := (A5.out 1 _ rfl).1
                have ka2 := (A5.out 2 _ rfl).1
                have ka3 := (A5.out 3 _ rfl).1
                have ka4 := (A5.out 4 _ rfl).1
                have ka5 := (A5.out 5 _ rfl).1
                have ka6 := (A5.out 6 _ rfl).1
                have ka7 := (A5.out 7 _ rfl).1
                have ka8 := (A5.out 8 _ rfl).1
                have ka9 := (A5.out 9 _ rfl).1
                have ka10 := (A5.out 10 _ rfl).1
                have ka11 := (A5.out 11 _ rfl).1
                have ka12 := (A5.out 12 _ rfl).1
                go_wp2_with (first | (refine wpList_load_mid rfl 27 _ rfl w.heap.size 0 rfl [.int .i64 u.pc, .int .i64 (u.r 0), .int .i64 (u.r 1), .int .i64 (u.r 2), .int .i64 (u.r 3), .int .i64 (u.r 4), .int .i64 (u.r 5), .int .i64 (u.r 6), .int .i64 (u.r 7), .slice fa m9 fc, .int .i64 u.st, .int .i64 u.ft, .slice la m12 lc] _ (varN_range X5.out) Try.underlying27 rfl (by kernel_rfl) ?_) | (refine wpList_load_mid rfl 27 _ rfl v2.heap.size 0 rfl [.int .i64 z.pc, .int .i64 (z.r 0), .int .i64 (z.r 1), .int .i64 (z.r 2), .int .i64 (z.r 3), .int .i64 (z.r 4), .int .i64 (z.r 5), .int .i64 (z.r 6), .int .i64 (z.r 7), .slice fb bn gc, .int .i64 z.st, .int .i64 z.ft, .slice lb dn hc] _ (varN_range A5.out) Try.underlying27 rfl (by kernel_rfl) ?_))
                have h0 := refSame6_any zThr zThr fb lb bn gc dn hc none none 0 0 0 0 v5 Z5.out (thF_zero _) (by have := HBN.out; omega)
                rw [sameT_self] at h0
                refine h0.mono ?_
                clear h0
                rintro e v6 ⟨rfl, hb⟩
                have HB6 := Lib.hid (below_from HB5.out hb)
                have X6 := Lib.hid (varN_B hb X5.out)
                have A6 := Lib.hid (varN_B hb A5.out)
                have T6 := Lib.hid (thF_B hb T5.out)
                have Z6 := Lib.hid (thF_B hb Z5.out)
                clear hb X5 A5 T5 Z5 ka0 ka1 ka2 ka3 ka4 ka5 ka6 ka7 ka8 ka9 ka10 ka11 ka12
                go_wp2_with (first | (refine wpList_load_mid rfl 27 _ rfl w.heap.size 0 rfl [.int .i64 u.pc, .int .i64 (u.r 0), .int .i64 (u.r 1), .int .i64 (u.r 2), .int .i64 (u.r 3), .int .i64 (u.r 4), .int .i64 (u.r 5), .int .i64 (u.r 6), .int .i64 (u.r 7), .slice fa m9 fc, .int .i64 u.st, .int .i64 u.ft, .slice la m12 lc] _ (varN_range X6.out) Try.underlying27 rfl (by kernel_rfl) ?_) | (refine wpList_load_mid rfl 27 _ rfl v2.heap.size 0 rfl [.int .i64 z.pc, .int .i64 (z.r 0), .int .i64 (z.r 1), .int .i64 (z.r 2), .int .i64 (z.r 3), .int .i64 (z.r 4), .int .i64 (z.r 5), .int .i64 (z.r 6), .int .i64 (z.r 7), .slice fb bn gc, .int .i64 z.st, .int .i64 z.ft, .slice lb dn hc] _ (varN_range A6.out) Try.underlying27 rfl (by kernel_rfl) ?_))
                go_ret
                exact boolPost_mk rfl HB6.out
              · skip
                have HM7 := Lib.hid (show mayT7 u self = true by rw [mayT7, HR.out, Bool.true_and, decide_eq_true]; omega)
                have HMO := Lib.hid (show 0 ≤ most ∧ most ≤ 1000 by omega)
                have HAP := Lib.hid (show rnE u self most = if readyT u = false then 9 else 0 by
                  rw [rnE, if_neg (fun h => h.elim (fun h => by rw [HM7.out] at h; cases h) (fun h => h HMO.out))])
                cases hy : readyT u with
                | false =>
                  have HY := Lib.hid hy
                  clear hy
                  obtain rfl : x = 9 := by rw [← HXE.out]; exact (by rw [HAP.out, if_pos HY.out])
                  obtain rfl : z = zThr := by rw [← HZ.out, rnT, if_neg (by rw [HXE.out]; decide)]
                  obtain rfl : n = 0 := by rw [← HN.out, rnN, if_neg (by rw [HXE.out]; decide)]
                  go_wp2_with (first | (refine wpList_load_mid rfl 27 _ rfl w.heap.size 0 rfl [.int .i64 u.pc, .int .i64 (u.r 0), .int .i64 (u.r 1), .int .i64 (u.r 2), .int .i64 (u.r 3), .int .i64 (u.r 4), .int .i64 (u.r 5), .int .i64 (u.r 6), .int .i64 (u.r 7), .slice fa m9 fc, .int .i64 u.st, .int .i64 u.ft, .slice la m12 lc] _ (varN_range X4.out) Try.underlying27 rfl (by kernel_rfl) ?_) | (refine wpList_load_mid rfl 27 _ rfl v2.heap.size 0 rfl [.int .i64 z.pc, .int .i64 (z.r 0), .int .i64 (z.r 1), .int .i64 (z.r 2), .int .i64 (z.r 3), .int .i64 (z.r 4), .int .i64 (z.r 5), .int .i64 (z.r 6), .int .i64 (z.r 7), .slice fb bn gc, .int .i64 z.st, .int .i64 z.ft, .slice lb dn hc] _ (varN_range A4.out) Try.underlying27 rfl (by kernel_rfl) ?_))
                  have h0 := refReady_any u fa la m9 fc m12 lc v4 T4.out.lf.1
                  rw [HY.out] at h0
                  refine h0.mono ?_
                  clear h0
                  rintro e v5 ⟨rfl, hb⟩
                  have HB5 := Lib.hid (below_from HB4.out hb)
                  have X5 := Lib.hid (varN_B hb X4.out)
                  have A5 := Lib.hid (varN_B hb A4.out)
                  have T5 := Lib.hid (thF_B hb T4.out)
                  have Z5 := Lib.hid (thF_B hb Z4.out)
                  clear hb X4 A4 T4 Z4
                  go_upto_region 9 with (first | (refine wpList_load_mid rfl 27 _ rfl w.heap.size 0 rfl [.int .i64 u.pc, .int .i64 (u.r 0), .int .i64 (u.r 1), .int .i64 (u.r 2), .int .i64 (u.r 3), .int .i64 (u.r 4), .int .i64 (u.r 5), .int .i64 (u.r 6), .int .i64 (u.r 7), .slice fa m9 fc, .int .i64 u.st, .int .i64 u.ft, .slice la m12 lc] _ (varN_range X5.out) Try.underlying27 rfl (by kernel_rfl) ?_) | (refine wpList_load_mid rfl 27 _ rfl v2.heap.size 0 rfl [.int .i64 z.pc, .int .i64 (z.r 0), .int .i64 (z.r 1), .int .i64 (z.r 2), .int .i64 (z.r 3), .int .i64 (z.r 4), .int .i64 (z.r 5), .int .i64 (z.r 6), .int .i64 (z.r 7), .slice fb bn gc, .int .i64 z.st, .int .i64 z.ft, .slice lb dn hc] _ (varN_range A5.out) Try.underlying27 rfl (by kernel_rfl) ?_))
                  go_wp2_with (first | (refine wpList_load_mid rfl 27 _ rfl w.heap.size 0 rfl [.int .i64 u.pc, .int .i64 (u.r 0), .int .i64 (u.r 1), .int .i64 (u.r 2), .int .i64 (u.r 3), .int .i64 (u.r 4), .int .i64 (u.r 5), .int .i64 (u.r 6), .int .i64 (u.r 7), .slice fa m9 fc, .int .i64 u.st, .int .i64 u.ft, .slice la m12 lc] _ (varN_range X5.out) Try.underlying27 rfl (by kernel_rfl) ?_) | (refine wpList_load_mid rfl 27 _ rfl v2.heap.size 0 rfl [.int .i64 z.pc, .int .i64 (z.r 0), .int .i64 (z.r 1), .int .i64 (z.r 2), .int .i64 (z.r 3), .int .i64 (z.r 4), .int .i64 (z.r 5), .int .i64 (z.r 6), .int .i64 (z.r 7), .slice fb bn gc, .int .i64 z.st, .int .i64 z.ft, .slice lb dn hc] _ (varN_range A5.out) Try.underlying27 rfl (by kernel_rfl) ?_))
                  have h0 := alive7_any v5
                  refine h0.mono ?_
                  clear h0
                  rintro e v6 ⟨rfl, hb⟩
                  have HB6 := Lib.hid (below_from HB5.out hb)
                  have X6 := Lib.hid (varN_B hb X5.out)
                  have A6 := Lib.hid (varN_B hb A5.out)
                  have T6 := Lib.hid (thF_B hb T5.out)
                  have Z6 := Lib.hid (thF_B hb Z5.out)
                  clear hb X5 A5 T5 Z5
                  have ka0 := (A6.out 0 _ rfl).1
                  have ka1 := (A6.out 1 _ rfl).1
                  have ka2 := (A6.out 2 _ rfl).1
                  have ka3 := (A6.out 3 _ rfl).1
                  have ka4 := (A6.out 4 _ rfl).1
                  have ka5 := (A6.out 5 _ rfl).1
                  have ka6 := (A6.out 6 _ rfl).1
                  have ka7 := (A6.out 7 _ rfl).1
                  have ka8 := (A6.out 8 _ rfl).1
                  have ka9 := (A6.out 9 _ rfl).1
                  have ka10 := (A6.out 10 _ rfl).1
                  have ka11 := (A6.out 11 _ rfl).1
                  have ka12 := (A6.out 12 _ rfl).1
                  go_wp2_with (first | (refine wpList_load_mid rfl 27 _ rfl w.heap.size 0 rfl [.int .i64 u.pc, .int .i64 (u.r 0), .int .i64 (u.r 1), .int .i64 (u.r 2), .int .i64 (u.r 3), .int .i64 (u.r 4), .int .i64 (u.r 5), .int .i64 (u.r 6), .int .i64 (u.r 7), .slice fa m9 fc, .int .i64 u.st, .int .i64 u.ft, .slice la m12 lc] _ (varN_range X6.out) Try.underlying27 rfl (by kernel_rfl) ?_) | (refine wpList_load_mid rfl 27 _ rfl v2.heap.size 0 rfl [.int .i64 z.pc, .int .i64 (z.r 0), .int .i64 (z.r 1), .int .i64 (z.r 2), .int .i64 (z.r 3), .int .i64 (z.r 4), .int .i64 (z.r 5), .int .i64 (z.r 6), .int .i64 (z.r 7), .slice fb bn gc, .int .i64 z.st, .int .i64 z.ft, .slice lb dn hc] _ (varN_range A6.out) Try.underlying27 rfl (by kernel_rfl) ?_))
                  have h0 := refSame6_any zThr zThr fb lb bn gc dn hc none none 0 0 0 0 v6 Z6.out (thF_zero _) (by have := HBN.out; omega)
                  rw [sameT_self] at h0
                  refine h0.mono ?_
                  clear h0
                  rintro e v7 ⟨rfl, hb⟩
                  have HB7 := Lib.hid (below_from HB6.out hb)
                  have X7 := Lib.hid (varN_B hb X6.out)
                  have A7 := Lib.hid (varN_B hb A6.out)
                  have T7 := Lib.hid (thF_B hb T6.out)
                  have Z7 := Lib.hid (thF_B hb Z6.out)
                  clear hb X6 A6 T6 Z6 ka0 ka1 ka2 ka3 ka4 ka5 ka6 ka7 ka8 ka9 ka10 ka11 ka12
                  go_wp2_with (first | (refine wpList_load_mid rfl 27 _ rfl w.heap.size 0 rfl [.int .i64 u.pc, .int .i64 (u.r 0), .int .i64 (u.r 1), .int .i64 (u.r 2), .int .i64 (u.r 3), .int .i64 (u.r 4), .int .i64 (u.r 5), .int .i64 (u.r 6), .int .i64 (u.r 7), .slice fa m9 fc, .int .i64 u.st, .int .i64 u.ft, .slice la m12 lc] _ (varN_range X7.out) Try.underlying27 rfl (by kernel_rfl) ?_) | (refine wpList_load_mid rfl 27 _ rfl v2.heap.size 0 rfl [.int .i64 z.pc, .int .i64 (z.r 0), .int .i64 (z.r 1), .int .i64 (z.r 2), .int .i64 (z.r 3), .int .i64 (z.r 4), .int .i64 (z.r 5), .int .i64 (z.r 6), .int .i64 (z.r 7), .slice fb bn gc, .int .i64 z.st, .int .i64 z.ft, .slice lb dn hc] _ (varN_range A7.out) Try.underlying27 rfl (by kernel_rfl) ?_))
                  go_ret
                  exact boolPost_mk rfl HB7.out
                | true =>
                  have HY := Lib.hid hy
                  clear hy
                  have hx0 : x = 0 := by rw [← HXE.out, HAP.out, if_neg (by rw [HY.out]; decide)]
                  subst hx0
                  obtain ⟨m, hm⟩ : ∃ m : Nat, most = m := ⟨most.toNat, by have := HMO.out; omega⟩
                  subst hm
                  have HZN := Lib.hid (show (runN7 self ds m u).1 = z ∧ (runN7 self ds m u).2 = n by
                    refine ⟨?_, ?_⟩
                    · rw [← HZ.out, rnT, if_pos HXE.out]; rfl
                    · rw [← HN.out, rnN, if_pos HXE.out]; rfl)
                  go_wp2_with (first | (refine wpList_load_mid rfl 27 _ rfl w.heap.size 0 rfl [.int .i64 u.pc, .int .i64 (u.r 0), .int .i64 (u.r 1), .int .i64 (u.r 2), .int .i64 (u.r 3), .int .i64 (u.r 4), .int .i64 (u.r 5), .int .i64 (u.r 6), .int .i64 (u.r 7), .slice fa m9 fc, .int .i64 u.st, .int .i64 u.ft, .slice la m12 lc] _ (varN_range X4.out) Try.underlying27 rfl (by kernel_rfl) ?_) | (refine wpList_load_mid rfl 27 _ rfl v2.heap.size 0 rfl [.int .i64 z.pc, .int .i64 (z.r 0), .int .i64 (z.r 1), .int .i64 (z.r 2), .int .i64 (z.r 3), .int .i64 (z.r 4), .int .i64 (z.r 5), .int .i64 (z.r 6), .int .i64 (z.r 7), .slice fb bn gc, .int .i64 z.st, .int .i64 z.ft, .slice lb dn hc] _ (varN_range A4.out) Try.underlying27 rfl (by kernel_rfl) ?_))
                  have h0 := refReady_any u fa la m9 fc m12 lc v4 T4.out.lf.1
                  rw [HY.out] at h0
                  refine h0.mono ?_
                  clear h0
                  rintro e v5 ⟨rfl, hb⟩
                  have HB5 := Lib.hid (below_from HB4.out hb)
                  have X5 := Lib.hid (varN_B hb X4.out)
                  have A5 := Lib.hid (varN_B hb A4.out)
                  have T5 := Lib.hid (thF_B hb T4.out)
                  have Z5 := Lib.hid (thF_B hb Z4.out)
                  clear hb X4 A4 T4 Z4
                  clear hs1 hs2 hs3 hs4
                  go_wp2_with (first | (refine wpList_load_mid rfl 27 _ rfl w.heap.size 0 rfl [.int .i64 u.pc, .int .i64 (u.r 0), .int .i64 (u.r 1), .int .i64 (u.r 2), .int .i64 (u.r 3), .int .i64 (u.r 4), .int .i64 (u.r 5), .int .i64 (u.r 6), .int .i64 (u.r 7), .slice fa m9 fc, .int .i64 u.st, .int .i64 u.ft, .slice la m12 lc] _ (varN_range X5.out) Try.underlying27 rfl (by kernel_rfl) ?_) | (refine wpList_load_mid rfl 27 _ rfl v2.heap.size 0 rfl [.int .i64 z.pc, .int .i64 (z.r 0), .int .i64 (z.r 1), .int .i64 (z.r 2), .int .i64 (z.r 3), .int .i64 (z.r 4), .int .i64 (z.r 5), .int .i64 (z.r 6), .int .i64 (z.r 7), .slice fb bn gc, .int .i64 z.st, .int .i64 z.ft, .slice lb dn hc] _ (varN_range A5.out) Try.underlying27 rfl (by kernel_rfl) ?_))
                  have h0 := refRun_any u self ca mp cc ds m fa la m9 fc m12 lc v5 T5.out (vs_any (vs_keep (kept_low HB5.out (fun _ h => h)) (vs_old HCT.out))) (by have := HM.out; omega) (by have := HMO.out; omega) HM7.out HY.out
                  rw [HZN.out.1, HZN.out.2] at h0
                  refine h0.mono ?_
                  clear h0
                  rintro e v6 ⟨fd, bn2, ge, ld, dn2, he, rfl, Q1, hb⟩
                  have HB6 := Lib.hid (below_from HB5.out hb)
                  have X6 := Lib.hid (varN_B hb X5.out)
                  have A6 := Lib.hid (varN_B hb A5.out)
                  have T6 := Lib.hid (thF_B hb T5.out)
                  have Z6 := Lib.hid (thF_B hb Z5.out)
                  clear hb X5 A5 T5 Z5
                  have Y1 := Lib.hid Q1
                  clear Q1
                  go_upto_region 11 with (refine wpList_store_var rfl 27 _ _ rfl v6.heap.size #[.int .i64 z.pc, .int .i64 (z.r 0), .int .i64 (z.r 1), .int .i64 (z.r 2), .int .i64 (z.r 3), .int .i64 (z.r 4), .int .i64 (z.r 5), .int .i64 (z.r 6), .int .i64 (z.r 7), .slice fd bn2 ge, .int .i64 z.st, .int .i64 z.ft, .slice ld dn2 he] rfl rfl _ (varN_new [.int .i64 0, .int .i64 0, .int .i64 0, .int .i64 0, .int .i64 0, .int .i64 0, .int .i64 0, .int .i64 0, .int .i64 0, .slice none 0 0, .int .i64 0, .int .i64 0, .slice none 0 0] v6.heap.size rfl) rfl (by kernel_rfl) (one_thr _ _ _ _ _ _ _) ?_; intro U HU)
                  obtain ⟨U7, hUU⟩ : ∃ Z, Z = U := ⟨_, rfl⟩
                  rw [← hUU] at HU ⊢
                  clear hUU U
                  have hb : Below v6.heap.size v6 U7 := by rw [HU.out]; exact below_setN (Nat.le_refl _) ((Below.refl _ _).alloc (Nat.le_refl _) _)
                  have D0 := Lib.hid (show VarN U7 v6.heap.size [.int .i64 z.pc, .int .i64 (z.r 0), .int .i64 (z.r 1), .int .i64 (z.r 2), .int .i64 (z.r 3), .int .i64 (z.r 4), .int .i64 (z.r 5), .int .i64 (z.r 6), .int .i64 (z.r 7), .slice fd bn2 ge, .int .i64 z.st, .int .i64 z.ft, .slice ld dn2 he] by rw [HU.out]; exact varN_all (xs := [.int .i64 z.pc, .int .i64 (z.r 0), .int .i64 (z.r 1), .int .i64 (z.r 2), .int .i64 (z.r 3), .int .i64 (z.r 4), .int .i64 (z.r 5), .int .i64 (z.r 6), .int .i64 (z.r 7), .slice fd bn2 ge, .int .i64 z.st, .int .i64 z.ft, .slice ld dn2 he]) (varN_new [.int .i64 0, .int .i64 0, .int .i64 0, .int .i64 0, .int .i64 0, .int .i64 0, .int .i64 0, .int .i64 0, .int .i64 0, .slice none 0 0, .int .i64 0, .int .i64 0, .slice none 0 0] v6.heap.size rfl) rfl)
                  have HB7 := Lib.hid (below_from HB6.out hb)
                  have X7 := Lib.hid (varN_B hb X6.out)
                  have A7 := Lib.hid (varN_B hb A6.out)
                  have T7 := Lib.hid (thF_B hb T6.out)
                  have Z7 := Lib.hid (thF_B hb Z6.out)
                  have Y7 := Lib.hid (thF_B hb Y1.out)
                  clear hb HU X6 A6 T6 Z6 Y1
                  go_wp2_with (first | (refine wpList_load_mid rfl 27 _ rfl w.heap.size 0 rfl [.int .i64 u.pc, .int .i64 (u.r 0), .int .i64 (u.r 1), .int .i64 (u.r 2), .int .i64 (u.r 3), .int .i64 (u.r 4), .int .i64 (u.r 5), .int .i64 (u.r 6), .int .i64 (u.r 7), .slice fa m9 fc, .int .i64 u.st, .int .i64 u.ft, .slice la m12 lc] _ (varN_range X7.out) Try.underlying27 rfl (by kernel_rfl) ?_) | (refine wpList_load_mid rfl 27 _ rfl v2.heap.size 0 rfl [.int .i64 z.pc, .int .i64 (z.r 0), .int .i64 (z.r 1), .int .i64 (z.r 2), .int .i64 (z.r 3), .int .i64 (z.r 4), .int .i64 (z.r 5), .int .i64 (z.r 6), .int .i64 (z.r 7), .slice fb bn gc, .int .i64 z.st, .int .i64 z.ft, .slice lb dn hc] _ (varN_range A7.out) Try.underlying27 rfl (by kernel_rfl) ?_) | (refine wpList_load_mid rfl 27 _ rfl v6.heap.size 0 rfl [.int .i64 z.pc, .int .i64 (z.r 0), .int .i64 (z.r 1), .int .i64 (z.r 2), .int .i64 (z.r 3), .int .i64 (z.r 4), .int .i64 (z.r 5), .int .i64 (z.r 6), .int .i64 (z.r 7), .slice fd bn2 ge, .int .i64 z.st, .int .i64 z.ft, .slice ld dn2 he] _ (varN_range D0.out) Try.underlying27 rfl (by kernel_rfl) ?_))
                  have h0 := alive7_any U7
                  refine h0.mono ?_
                  clear h0
                  rintro e v8 ⟨rfl, hb⟩
                  have HB8 := Lib.hid (below_from HB7.out hb)
                  have X8 := Lib.hid (varN_B hb X7.out)
                  have A8 := Lib.hid (varN_B hb A7.out)
                  have D8 := Lib.hid (varN_B hb D0.out)
                  have T8 := Lib.hid (thF_B hb T7.out)
                  have Z8 := Lib.hid (thF_B hb Z7.out)
                  have Y8 := Lib.hid (thF_B hb Y7.out)
                  clear hb X7 A7 D0 T7 Z7 Y7
                  have ka0 := (A8.out 0 _ rfl).1
                  have ka1 := (A8.out 1 _ rfl).1
                  have ka2 := (A8.out 2 _ rfl).1
                  have ka3 := (A8.out 3 _ rfl).1
                  have ka4 := (A8.out 4 _ rfl).1
                  have ka5 := (A8.out 5 _ rfl).1
                  have ka6 := (A8.out 6 _ rfl).1
                  have ka7 := (A8.out 7 _ rfl).1
                  have ka8 := (A8.out 8 _ rfl).1
                  have ka9 := (A8.out 9 _ rfl).1
                  have ka10 := (A8.out 10 _ rfl).1
                  have ka11 := (A8.out 11 _ rfl).1
                  have ka12 := (A8.out 12 _ rfl).1
                  have kb0 := (D8.out 0 _ rfl).1
                  have kb1 := (D8.out 1 _ rfl).1
                  have kb2 := (D8.out 2 _ rfl).1
                  have kb3 := (D8.out 3 _ rfl).1
                  have kb4 := (D8.out 4 _ rfl).1
                  have kb5 := (D8.out 5 _ rfl).1
                  have kb6 := (D8.out 6 _ rfl).1
                  have kb7 := (D8.out 7 _ rfl).1
                  have kb8 := (D8.out 8 _ rfl).1
                  have kb9 := (D8.out 9 _ rfl).1
                  have kb10 := (D8.out 10 _ rfl).1
                  have kb11 := (D8.out 11 _ rfl).1
                  have kb12 := (D8.out 12 _ rfl).1
                  go_wp2_with (first | (refine wpList_load_mid rfl 27 _ rfl w.heap.size 0 rfl [.int .i64 u.pc, .int .i64 (u.r 0), .int .i64 (u.r 1), .int .i64 (u.r 2), .int .i64 (u.r 3), .int .i64 (u.r 4), .int .i64 (u.r 5), .int .i64 (u.r 6), .int .i64 (u.r 7), .slice fa m9 fc, .int .i64 u.st, .int .i64 u.ft, .slice la m12 lc] _ (varN_range X8.out) Try.underlying27 rfl (by kernel_rfl) ?_) | (refine wpList_load_mid rfl 27 _ rfl v2.heap.size 0 rfl [.int .i64 z.pc, .int .i64 (z.r 0), .int .i64 (z.r 1), .int .i64 (z.r 2), .int .i64 (z.r 3), .int .i64 (z.r 4), .int .i64 (z.r 5), .int .i64 (z.r 6), .int .i64 (z.r 7), .slice fb bn gc, .int .i64 z.st, .int .i64 z.ft, .slice lb dn hc] _ (varN_range A8.out) Try.underlying27 rfl (by kernel_rfl) ?_) | (refine wpList_load_mid rfl 27 _ rfl v6.heap.size 0 rfl [.int .i64 z.pc, .int .i64 (z.r 0), .int .i64 (z.r 1), .int .i64 (z.r 2), .int .i64 (z.r 3), .int .i64 (z.r 4), .int .i64 (z.r 5), .int .i64 (z.r 6), .int .i64 (z.r 7), .slice fd bn2 ge, .int .i64 z.st, .int .i64 z.ft, .slice ld dn2 he] _ (varN_range D8.out) Try.underlying27 rfl (by kernel_rfl) ?_))
                  have h0 := refSame6_any z z fb lb bn gc dn hc fd ld bn2 ge dn2 he v8 Z8.out Y8.out (by have := HBN.out; omega)
                  rw [sameT_self] at h0
                  refine h0.mono ?_
                  clear h0
                  rintro e v9 ⟨rfl, hb⟩
                  have HB9 := Lib.hid (below_from HB8.out hb)
                  have X9 := Lib.hid (varN_B hb X8.out)
                  have A9 := Lib.hid (varN_B hb A8.out)
                  have D9 := Lib.hid (varN_B hb D8.out)
                  have T9 := Lib.hid (thF_B hb T8.out)
                  have Z9 := Lib.hid (thF_B hb Z8.out)
                  have Y9 := Lib.hid (thF_B hb Y8.out)
                  clear hb X8 A8 D8 T8 Z8 Y8 ka0 ka1 ka2 ka3 ka4 ka5 ka6 ka7 ka8 ka9 ka10 ka11 ka12 kb0 kb1 kb2 kb3 kb4 kb5 kb6 kb7 kb8 kb9 kb10 kb11 kb12
                  go_wp2_with (first | (refine wpList_load_mid rfl 27 _ rfl w.heap.size 0 rfl [.int .i64 u.pc, .int .i64 (u.r 0), .int .i64 (u.r 1), .int .i64 (u.r 2), .int .i64 (u.r 3), .int .i64 (u.r 4), .int .i64 (u.r 5), .int .i64 (u.r 6), .int .i64 (u.r 7), .slice fa m9 fc, .int .i64 u.st, .int .i64 u.ft, .slice la m12 lc] _ (varN_range X9.out) Try.underlying27 rfl (by kernel_rfl) ?_) | (refine wpList_load_mid rfl 27 _ rfl v2.heap.size 0 rfl [.int .i64 z.pc, .int .i64 (z.r 0), .int .i64 (z.r 1), .int .i64 (z.r 2), .int .i64 (z.r 3), .int .i64 (z.r 4), .int .i64 (z.r 5), .int .i64 (z.r 6), .int .i64 (z.r 7), .slice fb bn gc, .int .i64 z.st, .int .i64 z.ft, .slice lb dn hc] _ (varN_range A9.out) Try.underlying27 rfl (by kernel_rfl) ?_) | (refine wpList_load_mid rfl 27 _ rfl v6.heap.size 0 rfl [.int .i64 z.pc, .int .i64 (z.r 0), .int .i64 (z.r 1), .int .i64 (z.r 2), .int .i64 (z.r 3), .int .i64 (z.r 4), .int .i64 (z.r 5), .int .i64 (z.r 6), .int .i64 (z.r 7), .slice fd bn2 ge, .int .i64 z.st, .int .i64 z.ft, .slice ld dn2 he] _ (varN_range D9.out) Try.underlying27 rfl (by kernel_rfl) ?_))
                  go_ret
                  exact boolPost_mk rfl HB9.out
end Go.Proofs.Ytjddflnecfokaaa
