/- The walk of FrameNests. -/
import Derived.Test.YtpdghgpmjadnnaaFrQ
namespace Go.Proofs.Ytpdghgpmjadnnaa
open Go.ChangeShapes Go.WideShapes Go.ChangeAt Go.RowKit
open Gen

set_option maxRecDepth 100000 in
set_option maxHeartbeats 8000000 in
theorem FrameNests_walk (t : Thr) (fa la : Option Addr) (fn fc ln lc : Nat) (pa : Option Addr) (pn pc : Nat) (zs : List Int) (w : World) (F : ThF w fa fn fc la ln lc t) (hz : IsVs repInt (fun z => (Lit.int .i64 z).wf = true) w pa pn pc zs) :
    Calls Try.prog 5 #[.agg #[.int .i64 t.pc, .int .i64 (t.r 0), .int .i64 (t.r 1), .int .i64 (t.r 2), .int .i64 (t.r 3), .int .i64 (t.r 4), .int .i64 (t.r 5), .int .i64 (t.r 6), .int .i64 (t.r 7), .slice fa fn fc, .int .i64 t.st, .int .i64 t.ft, .slice la ln lc], .slice pa pn pc] w (BoolPost true w) := by
  obtain ⟨W, hW⟩ : ∃ W, W = w.alloc (Obj.cells #[.int .i64 t.pc, .int .i64 (t.r 0), .int .i64 (t.r 1), .int .i64 (t.r 2), .int .i64 (t.r 3), .int .i64 (t.r 4), .int .i64 (t.r 5), .int .i64 (t.r 6), .int .i64 (t.r 7), .slice fa fn fc, .int .i64 t.st, .int .i64 t.ft, .slice la ln lc] 27) := ⟨_, rfl⟩
  have X : VarN W w.heap.size [.int .i64 t.pc, .int .i64 (t.r 0), .int .i64 (t.r 1), .int .i64 (t.r 2), .int .i64 (t.r 3), .int .i64 (t.r 4), .int .i64 (t.r 5), .int .i64 (t.r 6), .int .i64 (t.r 7), .slice fa fn fc, .int .i64 t.st, .int .i64 t.ft, .slice la ln lc] := by rw [hW]; exact varN_new [.int .i64 t.pc, .int .i64 (t.r 0), .int .i64 (t.r 1), .int .i64 (t.r 2), .int .i64 (t.r 3), .int .i64 (t.r 4), .int .i64 (t.r 5), .int .i64 (t.r 6), .int .i64 (t.r 7), .slice fa fn fc, .int .i64 t.st, .int .i64 t.ft, .slice la ln lc] _ rfl
  have hB : Below w.heap.size w W := by rw [hW]; go_grown
  have C1 := F.fcap
  have C2 := F.lcap
  have FU := few_F F
  obtain ⟨u, hu⟩ : ∃ u : Thr, cutT t (min fn 8) (min ln 10) = u := ⟨_, rfl⟩
  obtain ⟨m9, hm9⟩ : ∃ m, min fn 8 = m := ⟨_, rfl⟩
  obtain ⟨m12, hm12⟩ : ∃ m, min ln 10 = m := ⟨_, rfl⟩
  obtain ⟨mp, hmp⟩ : ∃ m, min pn 9 = m := ⟨_, rfl⟩
  have e1 : t.pc = u.pc := by rw [← hu]; rfl
  have e2 : t.r = u.r := by rw [← hu]; rfl
  have e3 : t.st = u.st := by rw [← hu]; rfl
  have e4 : t.ft = u.ft := by rw [← hu]; rfl
  have hfew : ∀ w', Calls Try.prog 6 #[.agg #[.int .i64 t.pc, .int .i64 (t.r 0), .int .i64 (t.r 1), .int .i64 (t.r 2), .int .i64 (t.r 3), .int .i64 (t.r 4), .int .i64 (t.r 5), .int .i64 (t.r 6), .int .i64 (t.r 7), .slice fa fn fc, .int .i64 t.st, .int .i64 t.ft, .slice la ln lc]] w' (fun e w2 => e = .returned (.agg #[.int .i64 u.pc, .int .i64 (u.r 0), .int .i64 (u.r 1), .int .i64 (u.r 2), .int .i64 (u.r 3), .int .i64 (u.r 4), .int .i64 (u.r 5), .int .i64 (u.r 6), .int .i64 (u.r 7), .slice fa m9 fc, .int .i64 u.st, .int .i64 u.ft, .slice la m12 lc]) ∧ Below w'.heap.size w' w2) := fun w' => by
    have h := few6_any t fa la fn fc ln lc w' C1 C2
    rw [hm9, hm12] at h
    rw [← e1, ← e2, ← e3, ← e4]; exact h
  have HM1 := Lib.hid (show (if (9 : Int) < (pn : Int) then (9 : Int) else (pn : Int)) = (mp : Int) by split <;> omega)
  have HM2 := Lib.hid (show mp ≤ pc ∧ pc ≤ 9223372036854775807 from ⟨by have := hz.1; omega, hz.2.1⟩)
  have HM9 := Lib.hid (show mp ≤ 9 ∧ mp ≤ pn by omega)
  rw [hu, hm9, hm12] at FU
  have HX := Lib.hid X
  have HB := Lib.hid hB
  have HW := Lib.hid hW
  have HU := Lib.hid FU
  have HP := Lib.hid (vs_old (vs_take hz.2.2.2.1 mp (by omega)))
  clear hW X hB F FU hu hm9 hm12 hmp C1 C2 e1 e2 e3 e4 hz
  go_enter Try.func5, Try.ntmps5
  go_upto_region 1 with fail
  rw [← HW.out]
  refine wp_region_inv (NestInv t u w.heap.size fa la pa fn fc ln lc m9 m12 pn pc mp) (by kernel_rfl) (by kernel_rfl) ?_ ?_ ?_
  · intro listed hl
    exact .mk (.slice pa pn pc) undef undef undef undef undef undef undef [.int .i64 t.pc, .int .i64 (t.r 0), .int .i64 (t.r 1), .int .i64 (t.r 2), .int .i64 (t.r 3), .int .i64 (t.r 4), .int .i64 (t.r 5), .int .i64 (t.r 6), .int .i64 (t.r 7), .slice fa fn fc, .int .i64 t.st, .int .i64 t.ft, .slice la ln lc] (by simp only [Act.put, List.setIfInBounds_toArray, List.set_cons_zero, List.set_cons_succ]) (⟨(Below.refl _ _).drew, varN_D HX.out, rfl, fun _ => rfl, fun _ => rfl⟩) (fun h => absurd h (hl 0 (by decide))) (fun h => absurd h (hl 1 (by decide))) (fun h => absurd h (hl 2 (by decide))) (fun h => absurd h (hl 3 (by decide))) (fun h => absurd h (hl 4 (by decide))) (fun h => absurd h (hl 5 (by decide))) (fun h => absurd h (hl 6 (by decide))) (fun h => absurd h (hl 7 (by decide))) (fun h => absurd h (hl 8 (by decide)))
  · show StepsL _ _ _ _ _ _ _
    refine StepsL.cons (k := 0) rfl (fun listed a1 w1 hI hn hw K hK => ?_) ?_
    · cases hI with | mk p1 p16 p17 p18 p19 p20 p21 p22 xs ea hb hf0 hf1 hf2 hf3 hf4 hf5 hf6 hS hU =>
        have h7 : ¬ Up listed 7 := fun h => hn (hS h).1
        have hx := hb.2.2.2.1 h7
        subst hx
        have k0 := (hb.2.1 0 _ rfl).1
        have k1 := (hb.2.1 1 _ rfl).1
        have k2 := (hb.2.1 2 _ rfl).1
        have k3 := (hb.2.1 3 _ rfl).1
        have k4 := (hb.2.1 4 _ rfl).1
        have k5 := (hb.2.1 5 _ rfl).1
        have k6 := (hb.2.1 6 _ rfl).1
        have k7 := (hb.2.1 7 _ rfl).1
        have k8 := (hb.2.1 8 _ rfl).1
        have k9 := (hb.2.1 9 _ rfl).1
        have k10 := (hb.2.1 10 _ rfl).1
        have k11 := (hb.2.1 11 _ rfl).1
        have k12 := (hb.2.1 12 _ rfl).1
        have Hhf0 := Lib.hid hf0
        have Hhf1 := Lib.hid hf1
        have Hhf2 := Lib.hid hf2
        have Hhf3 := Lib.hid hf3
        have Hhf4 := Lib.hid hf4
        have Hhf5 := Lib.hid hf5
        have Hhf6 := Lib.hid hf6
        have HhS := Lib.hid hS
        have HhU := Lib.hid hU
        have Hhb := Lib.hid hb
        have Hhw := Lib.hid hw
        clear hf0 hf1 hf2 hf3 hf4 hf5 hf6 hS hU hb hw
        rw [ea]
        clear ea
        simp only [Act.put, List.setIfInBounds_toArray, List.set_cons_zero, List.set_cons_succ]
        go_simp
        have hf0 := Hhf0.out
        have hf1 := Hhf1.out
        have hf2 := Hhf2.out
        have hf3 := Hhf3.out
        have hf4 := Hhf4.out
        have hf5 := Hhf5.out
        have hf6 := Hhf6.out
        have hS := HhS.out
        have hU := HhU.out
        have hb := Hhb.out
        have hw := Hhw.out
        refine hK.out _ _ ?_
        exact .mk p1 (.agg #[.int .i64 t.pc, .int .i64 (t.r 0), .int .i64 (t.r 1), .int .i64 (t.r 2), .int .i64 (t.r 3), .int .i64 (t.r 4), .int .i64 (t.r 5), .int .i64 (t.r 6), .int .i64 (t.r 7), .slice fa fn fc, .int .i64 t.st, .int .i64 t.ft, .slice la ln lc]) p17 p18 p19 p20 p21 p22 [.int .i64 t.pc, .int .i64 (t.r 0), .int .i64 (t.r 1), .int .i64 (t.r 2), .int .i64 (t.r 3), .int .i64 (t.r 4), .int .i64 (t.r 5), .int .i64 (t.r 6), .int .i64 (t.r 7), .slice fa fn fc, .int .i64 t.st, .int .i64 t.ft, .slice la ln lc] (by simp only [Act.put, List.setIfInBounds_toArray, List.set_cons_zero, List.set_cons_succ]) (⟨hb.1, hb.2.1, hb.2.2.1, fun h => hb.2.2.2.1 (fun hu => h (up_old hu)), fun h => hb.2.2.2.2 (fun hu => h (up_old hu))⟩) (fun _ => rfl) (fun h => hf1 (up_back h (by decide))) (fun h => hf2 (up_back h (by decide))) (fun h => hf3 (up_back h (by decide))) (fun h => hf4 (up_back h (by decide))) (fun h => hf5 (up_back h (by decide))) (fun h => hf6 (up_back h (by decide))) (fun h => ⟨up_old (hS (up_back h (by decide))).1, (hS (up_back h (by decide))).2⟩) (fun h => ⟨up_old (hU (up_back h (by decide))).1, up_old (hU (up_back h (by decide))).2.1, (hU (up_back h (by decide))).2.2⟩)
    refine StepsL.cons (k := 1) rfl (fun listed a1 w1 hI hn hw K hK => ?_) ?_
    · cases hI with | mk p1 p16 p17 p18 p19 p20 p21 p22 xs ea hb hf0 hf1 hf2 hf3 hf4 hf5 hf6 hS hU =>
        have e_f0 := hf0 (hw 0 (by decide))
        subst e_f0
        have Hhf0 := Lib.hid hf0
        have Hhf1 := Lib.hid hf1
        have Hhf2 := Lib.hid hf2
        have Hhf3 := Lib.hid hf3
        have Hhf4 := Lib.hid hf4
        have Hhf5 := Lib.hid hf5
        have Hhf6 := Lib.hid hf6
        have HhS := Lib.hid hS
        have HhU := Lib.hid hU
        have Hhb := Lib.hid hb
        have Hhw := Lib.hid hw
        clear hf0 hf1 hf2 hf3 hf4 hf5 hf6 hS hU hb hw
        rw [ea]
        clear ea
        simp only [Act.put, List.setIfInBounds_toArray, List.set_cons_zero, List.set_cons_succ]
        go_simp
        refine (hfew _).mono ?_
        rintro e w2 ⟨rfl, hb2⟩
        have hf0 := Hhf0.out
        have hf1 := Hhf1.out
        have hf2 := Hhf2.out
        have hf3 := Hhf3.out
        have hf4 := Hhf4.out
        have hf5 := Hhf5.out
        have hf6 := Hhf6.out
        have hS := HhS.out
        have hU := HhU.out
        have hb := Hhb.out
        have hw := Hhw.out
        refine hK.out _ _ ?_
        exact .mk p1 (.agg #[.int .i64 t.pc, .int .i64 (t.r 0), .int .i64 (t.r 1), .int .i64 (t.r 2), .int .i64 (t.r 3), .int .i64 (t.r 4), .int .i64 (t.r 5), .int .i64 (t.r 6), .int .i64 (t.r 7), .slice fa fn fc, .int .i64 t.st, .int .i64 t.ft, .slice la ln lc]) (.agg #[.int .i64 u.pc, .int .i64 (u.r 0), .int .i64 (u.r 1), .int .i64 (u.r 2), .int .i64 (u.r 3), .int .i64 (u.r 4), .int .i64 (u.r 5), .int .i64 (u.r 6), .int .i64 (u.r 7), .slice fa m9 fc, .int .i64 u.st, .int .i64 u.ft, .slice la m12 lc]) p18 p19 p20 p21 p22 xs (by simp only [Act.put, List.setIfInBounds_toArray, List.set_cons_zero, List.set_cons_succ]) (⟨hb.1.trans (hb2.mono (Nat.le_of_lt (varN_lt hb.2.1 (by rw [hb.2.2.1]; decide)))), varN_B hb2 hb.2.1, hb.2.2.1, fun h => hb.2.2.2.1 (fun hu => h (up_old hu)), fun h => hb.2.2.2.2 (fun hu => h (up_old hu))⟩) (fun _ => rfl) (fun _ => rfl) (fun h => hf2 (up_back h (by decide))) (fun h => hf3 (up_back h (by decide))) (fun h => hf4 (up_back h (by decide))) (fun h => hf5 (up_back h (by decide))) (fun h => hf6 (up_back h (by decide))) (fun h => ⟨up_old (hS (up_back h (by decide))).1, (hS (up_back h (by decide))).2⟩) (fun h => ⟨up_old (hU (up_back h (by decide))).1, up_old (hU (up_back h (by decide))).2.1, (hU (up_back h (by decide))).2.2⟩)
    refine StepsL.cons (k := 2) rfl (fun listed a1 w1 hI hn hw K hK => ?_) ?_
    · cases hI with | mk p1 p16 p17 p18 p19 p20 p21 p22 xs ea hb hf0 hf1 hf2 hf3 hf4 hf5 hf6 hS hU =>
        have h8 : ¬ Up listed 8 := fun h => hn (hU h).1
        have hx := hb.2.2.2.2 h8
        subst hx
        have Hhf0 := Lib.hid hf0
        have Hhf1 := Lib.hid hf1
        have Hhf2 := Lib.hid hf2
        have Hhf3 := Lib.hid hf3
        have Hhf4 := Lib.hid hf4
        have Hhf5 := Lib.hid hf5
        have Hhf6 := Lib.hid hf6
        have HhS := Lib.hid hS
        have HhU := Lib.hid hU
        have Hhb := Lib.hid hb
        have Hhw := Lib.hid hw
        clear hf0 hf1 hf2 hf3 hf4 hf5 hf6 hS hU hb hw
        rw [ea]
        clear ea
        simp only [Act.put, List.setIfInBounds_toArray, List.set_cons_zero, List.set_cons_succ]
        go_simp
        have hf0 := Hhf0.out
        have hf1 := Hhf1.out
        have hf2 := Hhf2.out
        have hf3 := Hhf3.out
        have hf4 := Hhf4.out
        have hf5 := Hhf5.out
        have hf6 := Hhf6.out
        have hS := HhS.out
        have hU := HhU.out
        have hb := Hhb.out
        have hw := Hhw.out
        refine hK.out _ _ ?_
        exact .mk (.slice pa pn pc) p16 p17 (.slice pa pn pc) p19 p20 p21 p22 xs (by simp only [Act.put, List.setIfInBounds_toArray, List.set_cons_zero, List.set_cons_succ]) (⟨hb.1, hb.2.1, hb.2.2.1, fun h => hb.2.2.2.1 (fun hu => h (up_old hu)), fun h => hb.2.2.2.2 (fun hu => h (up_old hu))⟩) (fun h => hf0 (up_back h (by decide))) (fun h => hf1 (up_back h (by decide))) (fun _ => rfl) (fun h => hf3 (up_back h (by decide))) (fun h => hf4 (up_back h (by decide))) (fun h => hf5 (up_back h (by decide))) (fun h => hf6 (up_back h (by decide))) (fun h => ⟨up_old (hS (up_back h (by decide))).1, (hS (up_back h (by decide))).2⟩) (fun h => ⟨up_old (hU (up_back h (by decide))).1, up_old (hU (up_back h (by decide))).2.1, (hU (up_back h (by decide))).2.2⟩)
    refine StepsL.cons (k := 3) rfl (fun listed a1 w1 hI hn hw K hK => ?_) ?_
    · cases hI with | mk p1 p16 p17 p18 p19 p20 p21 p22 xs ea hb hf0 hf1 hf2 hf3 hf4 hf5 hf6 hS hU =>
        have h8 : ¬ Up listed 8 := fun h => hn (hU h).2.1
        have hx := hb.2.2.2.2 h8
        subst hx
        have Hhf0 := Lib.hid hf0
        have Hhf1 := Lib.hid hf1
        have Hhf2 := Lib.hid hf2
        have Hhf3 := Lib.hid hf3
        have Hhf4 := Lib.hid hf4
        have Hhf5 := Lib.hid hf5
        have Hhf6 := Lib.hid hf6
        have HhS := Lib.hid hS
        have HhU := Lib.hid hU
        have Hhb := Lib.hid hb
        have Hhw := Lib.hid hw
        clear hf0 hf1 hf2 hf3 hf4 hf5 hf6 hS hU hb hw
        rw [ea]
        clear ea
        simp only [Act.put, List.setIfInBounds_toArray, List.set_cons_zero, List.set_cons_succ]
        go_simp
        have hf0 := Hhf0.out
        have hf1 := Hhf1.out
        have hf2 := Hhf2.out
        have hf3 := Hhf3.out
        have hf4 := Hhf4.out
        have hf5 := Hhf5.out
        have hf6 := Hhf6.out
        have hS := HhS.out
        have hU := HhU.out
        have hb := Hhb.out
        have hw := Hhw.out
        refine hK.out _ _ ?_
        exact .mk (.slice pa pn pc) p16 p17 p18 (.slice pa pn pc) p20 p21 p22 xs (by simp only [Act.put, List.setIfInBounds_toArray, List.set_cons_zero, List.set_cons_succ]) (⟨hb.1, hb.2.1, hb.2.2.1, fun h => hb.2.2.2.1 (fun hu => h (up_old hu)), fun h => hb.2.2.2.2 (fun hu => h (up_old hu))⟩) (fun h => hf0 (up_back h (by decide))) (fun h => hf1 (up_back h (by decide))) (fun h => hf2 (up_back h (by decide))) (fun _ => rfl) (fun h => hf4 (up_back h (by decide))) (fun h => hf5 (up_back h (by decide))) (fun h => hf6 (up_back h (by decide))) (fun h => ⟨up_old (hS (up_back h (by decide))).1, (hS (up_back h (by decide))).2⟩) (fun h => ⟨up_old (hU (up_back h (by decide))).1, up_old (hU (up_back h (by decide))).2.1, (hU (up_back h (by decide))).2.2⟩)
    refine StepsL.cons (k := 4) rfl (fun listed a1 w1 hI hn hw K hK => ?_) ?_
    · cases hI with | mk p1 p16 p17 p18 p19 p20 p21 p22 xs ea hb hf0 hf1 hf2 hf3 hf4 hf5 hf6 hS hU =>
        have e_f3 := hf3 (hw 3 (by decide))
        subst e_f3
        have Hhf0 := Lib.hid hf0
        have Hhf1 := Lib.hid hf1
        have Hhf2 := Lib.hid hf2
        have Hhf3 := Lib.hid hf3
        have Hhf4 := Lib.hid hf4
        have Hhf5 := Lib.hid hf5
        have Hhf6 := Lib.hid hf6
        have HhS := Lib.hid hS
        have HhU := Lib.hid hU
        have Hhb := Lib.hid hb
        have Hhw := Lib.hid hw
        clear hf0 hf1 hf2 hf3 hf4 hf5 hf6 hS hU hb hw
        rw [ea]
        clear ea
        simp only [Act.put, List.setIfInBounds_toArray, List.set_cons_zero, List.set_cons_succ]
        go_simp
        have hf0 := Hhf0.out
        have hf1 := Hhf1.out
        have hf2 := Hhf2.out
        have hf3 := Hhf3.out
        have hf4 := Hhf4.out
        have hf5 := Hhf5.out
        have hf6 := Hhf6.out
        have hS := HhS.out
        have hU := HhU.out
        have hb := Hhb.out
        have hw := Hhw.out
        refine hK.out _ _ ?_
        exact .mk p1 p16 p17 p18 (.slice pa pn pc) (.int .i64 pn) p21 p22 xs (by simp only [Act.put, List.setIfInBounds_toArray, List.set_cons_zero, List.set_cons_succ]) (⟨hb.1, hb.2.1, hb.2.2.1, fun h => hb.2.2.2.1 (fun hu => h (up_old hu)), fun h => hb.2.2.2.2 (fun hu => h (up_old hu))⟩) (fun h => hf0 (up_back h (by decide))) (fun h => hf1 (up_back h (by decide))) (fun h => hf2 (up_back h (by decide))) (fun _ => rfl) (fun _ => rfl) (fun h => hf5 (up_back h (by decide))) (fun h => hf6 (up_back h (by decide))) (fun h => ⟨up_old (hS (up_back h (by decide))).1, (hS (up_back h (by decide))).2⟩) (fun h => ⟨up_old (hU (up_back h (by decide))).1, up_old (hU (up_back h (by decide))).2.1, (hU (up_back h (by decide))).2.2⟩)
    refine StepsL.cons (k := 5) rfl (fun listed a1 w1 hI hn hw K hK => ?_) ?_
    · cases hI with | mk p1 p16 p17 p18 p19 p20 p21 p22 xs ea hb hf0 hf1 hf2 hf3 hf4 hf5 hf6 hS hU =>
        have e_f4 := hf4 (hw 4 (by decide))
        subst e_f4
        have Hhf0 := Lib.hid hf0
        have Hhf1 := Lib.hid hf1
        have Hhf2 := Lib.hid hf2
        have Hhf3 := Lib.hid hf3
        have Hhf4 := Lib.hid hf4
        have Hhf5 := Lib.hid hf5
        have Hhf6 := Lib.hid hf6
        have HhS := Lib.hid hS
        have HhU := Lib.hid hU
        have Hhb := Lib.hid hb
        have Hhw := Lib.hid hw
        clear hf0 hf1 hf2 hf3 hf4 hf5 hf6 hS hU hb hw
        rw [ea]
        clear ea
        simp only [Act.put, List.setIfInBounds_toArray, List.set_cons_zero, List.set_cons_succ]
        go_simp
        have hf0 := Hhf0.out
        have hf1 := Hhf1.out
        have hf2 := Hhf2.out
        have hf3 := Hhf3.out
        have hf4 := Hhf4.out
        have hf5 := Hhf5.out
        have hf6 := Hhf6.out
        have hS := HhS.out
        have hU := HhU.out
        have hb := Hhb.out
        have hw := Hhw.out
        refine hK.out _ _ ?_
        exact .mk p1 p16 p17 p18 p19 (.int .i64 pn) (.int .i64 mp) p22 xs (by simp only [Act.put, List.setIfInBounds_toArray, List.set_cons_zero, List.set_cons_succ, HM1.out]) (⟨hb.1, hb.2.1, hb.2.2.1, fun h => hb.2.2.2.1 (fun hu => h (up_old hu)), fun h => hb.2.2.2.2 (fun hu => h (up_old hu))⟩) (fun h => hf0 (up_back h (by decide))) (fun h => hf1 (up_back h (by decide))) (fun h => hf2 (up_back h (by decide))) (fun h => hf3 (up_back h (by decide))) (fun _ => rfl) (fun _ => rfl) (fun h => hf6 (up_back h (by decide))) (fun h => ⟨up_old (hS (up_back h (by decide))).1, (hS (up_back h (by decide))).2⟩) (fun h => ⟨up_old (hU (up_back h (by decide))).1, up_old (hU (up_back h (by decide))).2.1, (hU (up_back h (by decide))).2.2⟩)
    refine StepsL.cons (k := 6) rfl (fun listed a1 w1 hI hn hw K hK => ?_) ?_
    · cases hI with | mk p1 p16 p17 p18 p19 p20 p21 p22 xs ea hb hf0 hf1 hf2 hf3 hf4 hf5 hf6 hS hU =>
        have e_f2 := hf2 (hw 2 (by decide))
        have e_f5 := hf5 (hw 5 (by decide))
        subst e_f2 e_f5
        have hm2 := HM2.out
        have Hhf0 := Lib.hid hf0
        have Hhf1 := Lib.hid hf1
        have Hhf2 := Lib.hid hf2
        have Hhf3 := Lib.hid hf3
        have Hhf4 := Lib.hid hf4
        have Hhf5 := Lib.hid hf5
        have Hhf6 := Lib.hid hf6
        have HhS := Lib.hid hS
        have HhU := Lib.hid hU
        have Hhb := Lib.hid hb
        have Hhw := Lib.hid hw
        clear hf0 hf1 hf2 hf3 hf4 hf5 hf6 hS hU hb hw
        rw [ea]
        clear ea
        simp only [Act.put, List.setIfInBounds_toArray, List.set_cons_zero, List.set_cons_succ]
        go_simp
        have hf0 := Hhf0.out
        have hf1 := Hhf1.out
        have hf2 := Hhf2.out
        have hf3 := Hhf3.out
        have hf4 := Hhf4.out
        have hf5 := Hhf5.out
        have hf6 := Hhf6.out
        have hS := HhS.out
        have hU := HhU.out
        have hb := Hhb.out
        have hw := Hhw.out
        refine hK.out _ _ ?_
        exact .mk p1 p16 p17 (.slice pa pn pc) p19 p20 (.int .i64 mp) (.slice pa mp pc) xs (by simp only [Act.put, List.setIfInBounds_toArray, List.set_cons_zero, List.set_cons_succ]) (⟨hb.1, hb.2.1, hb.2.2.1, fun h => hb.2.2.2.1 (fun hu => h (up_old hu)), fun h => hb.2.2.2.2 (fun hu => h (up_old hu))⟩) (fun h => hf0 (up_back h (by decide))) (fun h => hf1 (up_back h (by decide))) (fun _ => rfl) (fun h => hf3 (up_back h (by decide))) (fun h => hf4 (up_back h (by decide))) (fun _ => rfl) (fun _ => rfl) (fun h => ⟨up_old (hS (up_back h (by decide))).1, (hS (up_back h (by decide))).2⟩) (fun h => ⟨up_old (hU (up_back h (by decide))).1, up_old (hU (up_back h (by decide))).2.1, (hU (up_back h (by decide))).2.2⟩)
    refine StepsL.cons (k := 7) rfl (fun listed a1 w1 hI hn hw K hK => ?_) ?_
    · cases hI with | mk p1 p16 p17 p18 p19 p20 p21 p22 xs ea hb hf0 hf1 hf2 hf3 hf4 hf5 hf6 hS hU =>
        have e_f1 := hf1 (hw 1 (by decide))
        subst e_f1
        have hl13 := hb.2.2.1
        match xs, hl13, hb with
        | [x0, x1, x2, x3, x4, x5, x6, x7, x8, x9, x10, x11, x12], hl13, hb =>
        obtain ⟨y0, g0⟩ := hb.2.1 0 _ rfl
        obtain ⟨y1, g1⟩ := hb.2.1 1 _ rfl
        obtain ⟨y2, g2⟩ := hb.2.1 2 _ rfl
        obtain ⟨y3, g3⟩ := hb.2.1 3 _ rfl
        obtain ⟨y4, g4⟩ := hb.2.1 4 _ rfl
        obtain ⟨y5, g5⟩ := hb.2.1 5 _ rfl
        obtain ⟨y6, g6⟩ := hb.2.1 6 _ rfl
        obtain ⟨y7, g7⟩ := hb.2.1 7 _ rfl
        obtain ⟨y8, g8⟩ := hb.2.1 8 _ rfl
        obtain ⟨y9, g9⟩ := hb.2.1 9 _ rfl
        obtain ⟨y10, g10⟩ := hb.2.1 10 _ rfl
        obtain ⟨y11, g11⟩ := hb.2.1 11 _ rfl
        obtain ⟨y12, g12⟩ := hb.2.1 12 _ rfl
        have Hhf0 := Lib.hid hf0
        have Hhf1 := Lib.hid hf1
        have Hhf2 := Lib.hid hf2
        have Hhf3 := Lib.hid hf3
        have Hhf4 := Lib.hid hf4
        have Hhf5 := Lib.hid hf5
        have Hhf6 := Lib.hid hf6
        have HhS := Lib.hid hS
        have HhU := Lib.hid hU
        have Hhb := Lib.hid hb
        have Hhw := Lib.hid hw
        clear hf0 hf1 hf2 hf3 hf4 hf5 hf6 hS hU hb hw
        rw [ea]
        clear ea
        simp only [Act.put, List.setIfInBounds_toArray, List.set_cons_zero, List.set_cons_succ]
        go_simp
        have hf0 := Hhf0.out
        have hf1 := Hhf1.out
        have hf2 := Hhf2.out
        have hf3 := Hhf3.out
        have hf4 := Hhf4.out
        have hf5 := Hhf5.out
        have hf6 := Hhf6.out
        have hS := HhS.out
        have hU := HhU.out
        have hb := Hhb.out
        have hw := Hhw.out
        refine hK.out _ _ ?_
        exact .mk p1 p16 (.agg #[.int .i64 u.pc, .int .i64 (u.r 0), .int .i64 (u.r 1), .int .i64 (u.r 2), .int .i64 (u.r 3), .int .i64 (u.r 4), .int .i64 (u.r 5), .int .i64 (u.r 6), .int .i64 (u.r 7), .slice fa m9 fc, .int .i64 u.st, .int .i64 u.ft, .slice la m12 lc]) p18 p19 p20 p21 p22 [.int .i64 u.pc, .int .i64 (u.r 0), .int .i64 (u.r 1), .int .i64 (u.r 2), .int .i64 (u.r 3), .int .i64 (u.r 4), .int .i64 (u.r 5), .int .i64 (u.r 6), .int .i64 (u.r 7), .slice fa m9 fc, .int .i64 u.st, .int .i64 u.ft, .slice la m12 lc] (by simp only [Act.put, List.setIfInBounds_toArray, List.set_cons_zero, List.set_cons_succ]) (⟨below_setN (g := w.heap.size) (xs := [.int .i64 u.pc, .int .i64 (u.r 0), .int .i64 (u.r 1), .int .i64 (u.r 2), .int .i64 (u.r 3), .int .i64 (u.r 4), .int .i64 (u.r 5), .int .i64 (u.r 6), .int .i64 (u.r 7), .slice fa m9 fc, .int .i64 u.st, .int .i64 u.ft, .slice la m12 lc]) (k := 0) (Nat.le_refl _) hb.1, varN_all (xs := [.int .i64 u.pc, .int .i64 (u.r 0), .int .i64 (u.r 1), .int .i64 (u.r 2), .int .i64 (u.r 3), .int .i64 (u.r 4), .int .i64 (u.r 5), .int .i64 (u.r 6), .int .i64 (u.r 7), .slice fa m9 fc, .int .i64 u.st, .int .i64 u.ft, .slice la m12 lc]) hb.2.1 rfl, rfl, fun h => absurd up_self h, fun h => hb.2.2.2.2 (fun hu => h (up_old hu))⟩) (fun h => hf0 (up_back h (by decide))) (fun _ => rfl) (fun h => hf2 (up_back h (by decide))) (fun h => hf3 (up_back h (by decide))) (fun h => hf4 (up_back h (by decide))) (fun h => hf5 (up_back h (by decide))) (fun h => hf6 (up_back h (by decide))) (fun _ => ⟨up_old (hw 0 (by decide)), rfl⟩) (fun h => ⟨up_old (hU (up_back h (by decide))).1, up_old (hU (up_back h (by decide))).2.1, (hU (up_back h (by decide))).2.2⟩)
    refine StepsL.cons (k := 8) rfl (fun listed a1 w1 hI hn hw K hK => ?_) ?_
    · cases hI with | mk p1 p16 p17 p18 p19 p20 p21 p22 xs ea hb hf0 hf1 hf2 hf3 hf4 hf5 hf6 hS hU =>
        have e_f6 := hf6 (hw 6 (by decide))
        subst e_f6
        have Hhf0 := Lib.hid hf0
        have Hhf1 := Lib.hid hf1
        have Hhf2 := Lib.hid hf2
        have Hhf3 := Lib.hid hf3
        have Hhf4 := Lib.hid hf4
        have Hhf5 := Lib.hid hf5
        have Hhf6 := Lib.hid hf6
        have HhS := Lib.hid hS
        have HhU := Lib.hid hU
        have Hhb := Lib.hid hb
        have Hhw := Lib.hid hw
        clear hf0 hf1 hf2 hf3 hf4 hf5 hf6 hS hU hb hw
        rw [ea]
        clear ea
        simp only [Act.put, List.setIfInBounds_toArray, List.set_cons_zero, List.set_cons_succ]
        go_simp
        have hf0 := Hhf0.out
        have hf1 := Hhf1.out
        have hf2 := Hhf2.out
        have hf3 := Hhf3.out
        have hf4 := Hhf4.out
        have hf5 := Hhf5.out
        have hf6 := Hhf6.out
        have hS := HhS.out
        have hU := HhU.out
        have hb := Hhb.out
        have hw := Hhw.out
        refine hK.out _ _ ?_
        exact .mk (.slice pa mp pc) p16 p17 p18 p19 p20 p21 (.slice pa mp pc) xs (by simp only [Act.put, List.setIfInBounds_toArray, List.set_cons_zero, List.set_cons_succ]) (⟨hb.1, hb.2.1, hb.2.2.1, fun h => hb.2.2.2.1 (fun hu => h (up_old hu)), fun h => absurd up_self h⟩) (fun h => hf0 (up_back h (by decide))) (fun h => hf1 (up_back h (by decide))) (fun h => hf2 (up_back h (by decide))) (fun h => hf3 (up_back h (by decide))) (fun h => hf4 (up_back h (by decide))) (fun h => hf5 (up_back h (by decide))) (fun _ => rfl) (fun h => ⟨up_old (hS (up_back h (by decide))).1, (hS (up_back h (by decide))).2⟩) (fun _ => ⟨up_old (hw 2 (by decide)), up_old (hw 3 (by decide)), rfl⟩)
    exact StepsL.nil
  · intro listed a1 w1 hI hu
    cases hI with | mk p1 p16 p17 p18 p19 p20 p21 p22 xs ea hb hf0 hf1 hf2 hf3 hf4 hf5 hf6 hS hU =>
      have e1 := (hU (hu 8)).2.2
      have e7 := (hS (hu 7)).2
      subst e1 e7
      have HB1 := Lib.hid (HB.out.trans hb.1)
      have HX1 := Lib.hid hb.2.1
      clear hf0 hf1 hf2 hf3 hf4 hf5 hf6 hS hU hb hu hfew HM1 HX HB HW
      rw [ea]
      clear ea
      simp only [Act.put, List.setIfInBounds_toArray, List.set_cons_zero, List.set_cons_succ]
      have FU1 := thF_low HB1.out HU.out
      have H9 := Lib.hid FU1.fs.1
      have k0 := (HX1.out 0 _ rfl).1
      have k1 := (HX1.out 1 _ rfl).1
      have k2 := (HX1.out 2 _ rfl).1
      have k3 := (HX1.out 3 _ rfl).1
      have k4 := (HX1.out 4 _ rfl).1
      have k5 := (HX1.out 5 _ rfl).1
      have k6 := (HX1.out 6 _ rfl).1
      have k7 := (HX1.out 7 _ rfl).1
      have k8 := (HX1.out 8 _ rfl).1
      have k9 := (HX1.out 9 _ rfl).1
      have k10 := (HX1.out 10 _ rfl).1
      have k11 := (HX1.out 11 _ rfl).1
      have k12 := (HX1.out 12 _ rfl).1
      go_upto_region 2 with fail
      cases hr : rightT u with
      | false =>
        have HR := Lib.hid hr
        clear hr
        go_wp2_with fail
        refine (frRight_any u fa la m9 fc m12 lc _ FU1).mono ?_
        rintro e w2 ⟨rfl, hb2⟩
        rw [HR.out]
        have HB2 := Lib.hid (below_from HB1.out hb2)
        clear hb2
        go_wp2_with fail
        refine (alive6_any _).mono ?_
        rintro e w3 ⟨rfl, hb3⟩
        have HB3 := Lib.hid (below_from HB2.out hb3)
        clear hb3
        go_wp2
        go_ret
        exact boolPost_mk rfl HB3.out
      | true =>
        have HR := Lib.hid hr
        clear hr
        go_wp2_with fail
        refine (frRight_any u fa la m9 fc m12 lc _ FU1).mono ?_
        rintro e w2 ⟨rfl, hb2⟩
        rw [HR.out]
        have HB2 := Lib.hid (below_from HB1.out hb2)
        have HX2 := Lib.hid (varN_B hb2 HX1.out)
        clear hb2 k0 k1 k2 k3 k4 k5 k6 k7 k8 k9 k10 k11 k12 FU1
        by_cases hc : m9 = 0 ∧ u.pc ≤ 999
        · obtain ⟨h9, hpc⟩ := hc
          subst h9
          have hpc0 := rightT_pc HR.out
          have i0 : ¬ (1000 : Int) ≤ u.pc := by omega
          have FU2 := thF_low HB2.out HU.out
          have HA0 : Hid (LoopA w u w.heap.size 0 (.slice none 0 0) w2 [] u.pc u fa fc la m12 lc) :=
            ⟨rfl, places_nil, ⟨hpc0.1, hpc⟩, nest_self H9.out, HX2.out, ⟨FU2.fcap, vs_mono (fun b hb => ⟨by have : b < w.heap.size := hb; omega, by simp [Value.ownBlock]⟩) (thQ_keep (kept_low HB2.out (fun _ h => h)) (thQ_old HU.out)).fs, FU2.lcap, vs_mono (fun b hb => ⟨by have : b < w.heap.size := hb; omega, by simp [Value.ownBlock]⟩) (thQ_keep (kept_low HB2.out (fun _ h => h)) (thQ_old HU.out)).lf⟩, World.ownsRow_nil _ _ _ _, HB2.out⟩
          clear FU2 hpc0
          have k0 := (HX2.out 0 _ rfl).1
          have k1 := (HX2.out 1 _ rfl).1
          have k2 := (HX2.out 2 _ rfl).1
          have k3 := (HX2.out 3 _ rfl).1
          have k4 := (HX2.out 4 _ rfl).1
          have k5 := (HX2.out 5 _ rfl).1
          have k6 := (HX2.out 6 _ rfl).1
          have k7 := (HX2.out 7 _ rfl).1
          have k8 := (HX2.out 8 _ rfl).1
          have k9 := (HX2.out 9 _ rfl).1
          have k10 := (HX2.out 10 _ rfl).1
          have k11 := (HX2.out 11 _ rfl).1
          have k12 := (HX2.out 12 _ rfl).1
          go_upto_region 5 with fail
          clear k0 k1 k2 k3 k4 k5 k6 k7 k8 k9 k10 k11 k12
          go_wp2
          go_loopw [40, 5] (fun i fv wr => ∃ (k : Nat) (l : List Int) (pc' : Int) (T : Thr) (fa' : Option Addr) (fc' : Nat) (la' : Option Addr) (ln' lc' : Nat), k ≤ mp ∧ i = .int .i64 k ∧ Hid (LoopA w u w.heap.size k fv wr l pc' T fa' fc' la' ln' lc')) (fun i _ _ => mp - (intOf i).toNat)
          case atStart => exact ⟨0, [], u.pc, u, fa, fc, la, m12, lc, Nat.zero_le _, rfl, HA0⟩
          case round =>
            obtain ⟨k, l, pc1, T, ta, tc, tl, tn, tm, hk, rfl, hA⟩ := hrel
            clear HA0 HX2 HB2 HX1 HB1 i0 H9
            obtain ⟨ra, rc, e5⟩ := own_form hA.out.o
            subst e5
            have g6 : k ≤ 6 := by have := hA.out.hl; have := hA.out.pl.1; omega
            have hgz := varN_lt hA.out.x (by simp)
            by_cases hlt : k < mp
            · have VP := vs_any (vs_keep (kept_low hA.out.b (fun _ h => h)) HP.out)
              obtain ⟨b, o, p, rfl, hx, g0⟩ := int_at VP hlt
              obtain ⟨tg, htg⟩ : ∃ tg : Int, (p.tmod 1000 + 1000).tmod 1000 = tg := ⟨_, rfl⟩
              have hr1 := rem_1000 p
              rw [htg] at hr1
              have HRG := Lib.hid hr1
              have hwp := wrap_1000 p
              have i1 : (0 : Int) ≤ k := by omega
              have i2 : (k : Int) < mp := by omega
              clear hx hr1 VP
              have HXT := Lib.hid hA.out.x
              have k0 := (HXT.out 0 _ rfl).1
              have k1 := (HXT.out 1 _ rfl).1
              have k2 := (HXT.out 2 _ rfl).1
              have k3 := (HXT.out 3 _ rfl).1
              have k4 := (HXT.out 4 _ rfl).1
              have k5 := (HXT.out 5 _ rfl).1
              have k6 := (HXT.out 6 _ rfl).1
              have k7 := (HXT.out 7 _ rfl).1
              have k8 := (HXT.out 8 _ rfl).1
              have k9 := (HXT.out 9 _ rfl).1
              have k10 := (HXT.out 10 _ rfl).1
              have k11 := (HXT.out 11 _ rfl).1
              have k12 := (HXT.out 12 _ rfl).1
              clear HXT
              go_upto_region 9 with fail
              clear hwp htg g0
              have FT : ThF wr ta k tc tl tn tm T := hA.out.f.f
              by_cases h6 : k = 6
              · have h0 : Calls Try.prog 7 #[.agg #[.int .i64 T.pc, .int .i64 (T.r 0), .int .i64 (T.r 1), .int .i64 (T.r 2), .int .i64 (T.r 3), .int .i64 (T.r 4), .int .i64 (T.r 5), .int .i64 (T.r 6), .int .i64 (T.r 7), .slice ta k tc, .int .i64 T.st, .int .i64 T.ft, .slice tl tn tm], .int .i64 tg] wr (ThPost zThr 13 wr) := by
                  have h := frCall_any T tg ta tl k tc tn tm wr FT
                  have h1 : callE T tg = 13 := by rw [hA.out.hT, nest_callE HR.out hA.out.hp hA.out.pl HRG.out, if_pos (by rw [hA.out.hl]; exact h6)]
                  rw [h1, callT_no (by rw [h1]; decide)] at h
                  exact h
                subst h6
                go_wp2_with fail
                with_reducible refine h0.mono ?_
                clear h0 FT k0 k1 k2 k3 k4 k5 k6 k7 k8 k9 k10 k11 k12
                rintro e w4 ⟨nf, nc, nl, nm, rfl, FN, hb⟩
                obtain ⟨V, hV⟩ : ∃ V, V = w4.alloc (Obj.cells #[.int .i64 zThr.pc, .int .i64 (zThr.r 0), .int .i64 (zThr.r 1), .int .i64 (zThr.r 2), .int .i64 (zThr.r 3), .int .i64 (zThr.r 4), .int .i64 (zThr.r 5), .int .i64 (zThr.r 6), .int .i64 (zThr.r 7), .slice nf zThr.fs.length nc, .int .i64 zThr.st, .int .i64 zThr.ft, .slice nl zThr.lf.length nm] 27) := ⟨_, rfl⟩
                have hbA : Below w4.heap.size w4 V := by rw [hV]; exact (Below.refl _ _).alloc (Nat.le_refl _) _
                have Q1 : VarN V w4.heap.size [.int .i64 zThr.pc, .int .i64 (zThr.r 0), .int .i64 (zThr.r 1), .int .i64 (zThr.r 2), .int .i64 (zThr.r 3), .int .i64 (zThr.r 4), .int .i64 (zThr.r 5), .int .i64 (zThr.r 6), .int .i64 (zThr.r 7), .slice nf zThr.fs.length nc, .int .i64 zThr.st, .int .i64 zThr.ft, .slice nl zThr.lf.length nm] := by rw [hV]; exact varN_new [.int .i64 zThr.pc, .int .i64 (zThr.r 0), .int .i64 (zThr.r 1), .int .i64 (zThr.r 2), .int .i64 (zThr.r 3), .int .i64 (zThr.r 4), .int .i64 (zThr.r 5), .int .i64 (zThr.r 6), .int .i64 (zThr.r 7), .slice nf zThr.fs.length nc, .int .i64 zThr.st, .int .i64 zThr.ft, .slice nl zThr.lf.length nm] _ rfl
                have HBV := Lib.hid (below_from (below_from hA.out.b hb) hbA)
                have HQ := Lib.hid Q1
                have HV := Lib.hid hV
                clear hV Q1 hbA hb FN
                go_upto_region 11 with fail
                rw [← HV.out]
                clear HV
                go_wp2_with fail
                refine (alive6_any _).mono ?_
                rintro e w5 ⟨rfl, hb5⟩
                have HB5 := Lib.hid (below_from HBV.out hb5)
                have q9 := (varN_B hb5 HQ.out 9 _ rfl).1
                have hz0 : zThr.fs.length = 0 := rfl
                rw [hz0] at q9
                clear hb5
                go_wp2
                go_ret
                exact boolPost_mk rfl HB5.out
              · have h0 : Calls Try.prog 7 #[.agg #[.int .i64 T.pc, .int .i64 (T.r 0), .int .i64 (T.r 1), .int .i64 (T.r 2), .int .i64 (T.r 3), .int .i64 (T.r 4), .int .i64 (T.r 5), .int .i64 (T.r 6), .int .i64 (T.r 7), .slice ta k tc, .int .i64 T.st, .int .i64 T.ft, .slice tl tn tm], .int .i64 tg] wr (ThPostF (nestT u tg (l ++ [pc1])) 0 wr) := by
                  have h := frCallF_any T tg ta tl k tc tn tm wr FT
                  have hn6 : l.length ≠ 6 := by rw [hA.out.hl]; exact h6
                  have h1 : callE T tg = 0 := by rw [hA.out.hT, nest_callE HR.out hA.out.hp hA.out.pl HRG.out, if_neg hn6]
                  have h2 : callT T tg = nestT u tg (l ++ [pc1]) := by rw [hA.out.hT]; exact nest_callT HR.out hA.out.hp hA.out.pl HRG.out hn6
                  rw [h1, h2] at h
                  exact h
                obtain ⟨T2, hT2⟩ : ∃ T2, nestT u tg (l ++ [pc1]) = T2 := ⟨_, rfl⟩
                rw [hT2] at h0
                have hpT2 : T2.pc = tg := by rw [← hT2]; rfl
                have hlT2 : T2.fs.length = k + 1 := by rw [← hT2, nest_len, List.length_append, hA.out.hl]; rfl
                have HT2 := Lib.hid hT2
                clear hT2
                go_wp2_with fail
                with_reducible refine h0.mono ?_
                clear h0 FT k0 k1 k2 k3 k4 k5 k6 k7 k8 k9 k10 k11 k12
                rintro e w4 ⟨nf, nc, nl, nm, rfl, FN, hb⟩
                rw [hlT2] at FN
                rw [hlT2]
                obtain ⟨nn, hnn⟩ : ∃ n, T2.lf.length = n := ⟨_, rfl⟩
                rw [hnn] at FN
                rw [hnn]
                have hsz := hb.size
                obtain ⟨V, hV⟩ : ∃ V, V = w4.alloc (Obj.cells #[.int .i64 T2.pc, .int .i64 (T2.r 0), .int .i64 (T2.r 1), .int .i64 (T2.r 2), .int .i64 (T2.r 3), .int .i64 (T2.r 4), .int .i64 (T2.r 5), .int .i64 (T2.r 6), .int .i64 (T2.r 7), .slice nf (k + 1) nc, .int .i64 T2.st, .int .i64 T2.ft, .slice nl nn nm] 27) := ⟨_, rfl⟩
                have hbA : Below w4.heap.size w4 V := by rw [hV]; exact (Below.refl _ _).alloc (Nat.le_refl _) _
                have hzV : V.heap.size = w4.heap.size + 1 := by rw [hV]; simp
                have Q1 : VarN V w4.heap.size [.int .i64 T2.pc, .int .i64 (T2.r 0), .int .i64 (T2.r 1), .int .i64 (T2.r 2), .int .i64 (T2.r 3), .int .i64 (T2.r 4), .int .i64 (T2.r 5), .int .i64 (T2.r 6), .int .i64 (T2.r 7), .slice nf (k + 1) nc, .int .i64 T2.st, .int .i64 T2.ft, .slice nl nn nm] := by rw [hV]; exact varN_new [.int .i64 T2.pc, .int .i64 (T2.r 0), .int .i64 (T2.r 1), .int .i64 (T2.r 2), .int .i64 (T2.r 3), .int .i64 (T2.r 4), .int .i64 (T2.r 5), .int .i64 (T2.r 6), .int .i64 (T2.r 7), .slice nf (k + 1) nc, .int .i64 T2.st, .int .i64 T2.ft, .slice nl nn nm] _ rfl
                have X1 := varN_B hbA (varN_B hb hA.out.x)
                have O1 := own_below (own_below hA.out.o hb) hbA
                have B1 := below_from (below_from hA.out.b hb) hbA
                have F1 := thQ_keep (kept_B hbA) (thQ_und FN)
                have HQ := Lib.hid Q1
                have HX := Lib.hid X1
                have HO := Lib.hid O1
                have HBV := Lib.hid B1
                have HFV := Lib.hid F1
                have HSZ := Lib.hid (And.intro hsz hzV)
                have HGZ := Lib.hid hgz
                have HTP := Lib.hid hpT2
                have HOB := Lib.hid (show ∀ b, (Value.slice ra k rc).ownBlock = some b → b < wr.heap.size from fun b e => (own_block hA.out.o e).2)
                have HV := Lib.hid hV
                clear hV Q1 X1 O1 B1 F1 FN hb hbA hsz hzV hgz hlT2 hnn
                have qk : ((k : Int) == 6) = false := by simp; omega
                have qz : (T2.pc != tg) = false := by simp [hpT2]
                clear hpT2
                go_upto_region 12 with fail
                rw [← HV.out]
                have k0 := (HQ.out 0 _ rfl).1
                have k1 := (HQ.out 1 _ rfl).1
                have k2 := (HQ.out 2 _ rfl).1
                have k3 := (HQ.out 3 _ rfl).1
                have k4 := (HQ.out 4 _ rfl).1
                have k5 := (HQ.out 5 _ rfl).1
                have k6 := (HQ.out 6 _ rfl).1
                have k7 := (HQ.out 7 _ rfl).1
                have k8 := (HQ.out 8 _ rfl).1
                have k9 := (HQ.out 9 _ rfl).1
                have k10 := (HQ.out 10 _ rfl).1
                have k11 := (HQ.out 11 _ rfl).1
                have k12 := (HQ.out 12 _ rfl).1
                go_upto_region 14 with fail
                clear k0 k1 k2 k3 k4 k5 k6 k7 k8 k9 k10 k11 k12 qk qz
                have x0 := (HX.out 0 _ rfl).1
                have O1 := HO.out
                obtain ⟨i0, hi, hz0, hz1, hz2⟩ := info_parts Try.infoI3
                have HI := Lib.hid (And.intro hi (And.intro hz0 (And.intro hz1 hz2)))
                clear hi hz0 hz1 hz2
                go_wp2_with (at_builtin; refine wpList_append_own_at _ rfl _ _ 25 rfl (w.heap.size + 1) 3 i0 (.int .i64 0) 1 8 Try.underlying25 HI.out.1 HI.out.2.1 HI.out.2.2.1 HI.out.2.2.2 rfl (by decide) (.slice ra k rc) k (l.map (Value.int .i64)) rfl (O1.alloc _) ⟨V.heap.size, 0, none⟩ 1 1 [.int .i64 T.pc] rfl rfl (cell_one_new _ _ _) ?c3 ?c4 ?c5 ?c6 ?_)
                case c3 => intro u hu; simp at hu; subst hu; rfl
                case c4 => unfold maxLen; omega
                case c5 => omega
                case c6 => have h1 := HSZ.out; have h2 := HGZ.out; simp; omega
                intro v3 W3 O3 hg3 _ hat
                have hsz := HSZ.out
                have hgz := HGZ.out
                have X3 := varN_grown hg3 (fun e => by have := own_block O1 e; omega) (varN_A _ HX.out)
                have Q3 := varN_grown hg3 (fun e => by have := HOB.out _ e; omega) (varN_A _ HQ.out)
                have F3 := thQ_keep (kept_grown hg3 (fun b hb e => by have := HOB.out b e; omega)) (thQ_keep (kept_A _ _) HFV.out)
                have B3 := (HBV.out.alloc HBV.out.size (Obj.cells #[.int .i64 T.pc] 3)).grown hg3 (HBV.out.alloc HBV.out.size _).size (fun b hb => by have := own_block O1 hb; omega)
                have F4 : ThQ (fun b => b ≠ w.heap.size ∧ v3.ownBlock ≠ some b) W3 nf (k + 1) nc nl nn nm T2 := thQ_mono (fun b hb => by
                  refine ⟨by omega, fun e => ?_⟩
                  rcases hat with h1 | h1
                  · rw [h1] at e
                    have := HOB.out b e
                    omega
                  · rw [h1] at e
                    injection e with e
                    omega) F3
                have HX3 := Lib.hid X3
                have HQ3 := Lib.hid Q3
                have HF4 := Lib.hid F4
                have HB3 := Lib.hid B3
                have HO3 : Hid (W3.ownsRow (w.heap.size + 1) 3 1 v3 (k + 1) ((l ++ [pc1]).map (Value.int .i64))) := by
                  have e1 : T.pc = pc1 := by rw [hA.out.hT]; rfl
                  rw [List.map_append, ← e1]; exact O3
                clear X3 Q3 F3 F4 B3 O3 hg3 hat hsz hgz x0 O1 HX HQ HFV HBV HO
                go_upto_region 15 with fail
                have k0 := (HQ3.out 0 _ rfl).1
                have k1 := (HQ3.out 1 _ rfl).1
                have k2 := (HQ3.out 2 _ rfl).1
                have k3 := (HQ3.out 3 _ rfl).1
                have k4 := (HQ3.out 4 _ rfl).1
                have k5 := (HQ3.out 5 _ rfl).1
                have k6 := (HQ3.out 6 _ rfl).1
                have k7 := (HQ3.out 7 _ rfl).1
                have k8 := (HQ3.out 8 _ rfl).1
                have k9 := (HQ3.out 9 _ rfl).1
                have k10 := (HQ3.out 10 _ rfl).1
                have k11 := (HQ3.out 11 _ rfl).1
                have k12 := (HQ3.out 12 _ rfl).1
                obtain ⟨y0, g0⟩ := HX3.out 0 _ rfl
                obtain ⟨y1, g1⟩ := HX3.out 1 _ rfl
                obtain ⟨y2, g2⟩ := HX3.out 2 _ rfl
                obtain ⟨y3, g3⟩ := HX3.out 3 _ rfl
                obtain ⟨y4, g4⟩ := HX3.out 4 _ rfl
                obtain ⟨y5, g5⟩ := HX3.out 5 _ rfl
                obtain ⟨y6, g6⟩ := HX3.out 6 _ rfl
                obtain ⟨y7, g7⟩ := HX3.out 7 _ rfl
                obtain ⟨y8, g8⟩ := HX3.out 8 _ rfl
                obtain ⟨y9, g9⟩ := HX3.out 9 _ rfl
                obtain ⟨y10, g10⟩ := HX3.out 10 _ rfl
                obtain ⟨y11, g11⟩ := HX3.out 11 _ rfl
                obtain ⟨y12, g12⟩ := HX3.out 12 _ rfl
                go_wp2
                go_roundw
                case rel =>
                  refine ⟨k + 1, l ++ [pc1], tg, T2, nf, nc, nl, nn, nm, by omega, by go_num, ?_⟩
                  exact (show LoopA w u w.heap.size (k + 1) v3 (setN W3 w.heap.size 0 [.int .i64 T2.pc, .int .i64 (T2.r 0), .int .i64 (T2.r 1), .int .i64 (T2.r 2), .int .i64 (T2.r 3), .int .i64 (T2.r 4), .int .i64 (T2.r 5), .int .i64 (T2.r 6), .int .i64 (T2.r 7), .slice nf (k + 1) nc, .int .i64 T2.st, .int .i64 T2.ft, .slice nl nn nm]) (l ++ [pc1]) tg T2 nf nc nl nn nm from
                    ⟨by rw [List.length_append, hA.out.hl]; rfl, places_app hA.out.pl (by rw [hA.out.hl]; exact h6) hA.out.hp, HRG.out, HT2.out.symm, varN_all HX3.out rfl, thQ_keep (kept_setN (fun b hb => hb.1)) HF4.out, own_setN (own_fresh (p := ⟨w.heap.size, 0, none⟩) HO3.out (.inr (by show w.heap.size < _; omega))) HO3.out, below_setN (Nat.le_refl _) HB3.out⟩)
                case measure => simp [intOf]; omega
            · obtain rfl : k = mp := by omega
              have R0 := vs_own (r := repInt) hA.out.o (flat_map1 (Value.int .i64) l) (Q := fun b => b ≠ w.heap.size) (fun b hb _ => by omega)
              obtain ⟨ra', rc', e6, r1, r2, r3, r4⟩ := R0
              injection e6 with e6 _ e7
              subst e6 e7
              have i3 : (-9223372036854775808 : Int) ≤ k := by omega
              have HL0 := Lib.hid hA.out.hl
              have HPL := Lib.hid hA.out.pl
              have hB0 : Hid (LoopB w u w.heap.size k k l ra wr pc1 T ta tc tl tn tm) :=
                ⟨Nat.le_refl _, ⟨hA.out.hp.1, by have := hA.out.hp.2; omega⟩, by rw [List.take_of_length_le (by rw [hA.out.hl]; exact Nat.le_refl _)]; exact hA.out.hT, hA.out.x, thQ_mono (fun b hb => hb.1) hA.out.f, r4, hA.out.b⟩
              clear r1 r2 r3 r4 hA i3 hgz
              go_wp2
              go_loopw [11] (fun i wr => ∃ (j : Nat) (pc' : Int) (T : Thr) (fa' : Option Addr) (fc' : Nat) (la' : Option Addr) (ln' lc' : Nat), j ≤ k ∧ i = .int .i64 ((j : Int) - 1) ∧ Hid (LoopB w u w.heap.size k j l ra wr pc' T fa' fc' la' ln' lc')) (fun i _ => (intOf i + 1).toNat)
              case atStart => exact ⟨k, pc1, T, ta, tc, tl, tn, tm, Nat.le_refl _, rfl, hB0⟩
              case round =>
                clear hB0
                obtain ⟨j, pc2, T2, ta, tc, tl, tn, tm, hj, rfl, hA⟩ := hrel
                obtain ⟨wo, hwo⟩ : ∃ wo : World, wo = wr := ⟨_, rfl⟩
                subst hwo
                have hgz := varN_lt hA.out.x (by simp)
                have FT : ThF wo ta j tc tl tn tm T2 := hA.out.f.f
                by_cases h0 : j = 0
                · subst h0
                  have i1 : ¬ (0 : Int) ≤ ((0 : Nat) : Int) - 1 := by omega
                  have HX := Lib.hid hA.out.x
                  have hc : Calls Try.prog 8 #[.agg #[.int .i64 T2.pc, .int .i64 (T2.r 0), .int .i64 (T2.r 1), .int .i64 (T2.r 2), .int .i64 (T2.r 3), .int .i64 (T2.r 4), .int .i64 (T2.r 5), .int .i64 (T2.r 6), .int .i64 (T2.r 7), .slice ta 0 tc, .int .i64 T2.st, .int .i64 T2.ft, .slice tl tn tm]] wo (ThPost zThr 8 wo) := by
                    have h := frBack_any T2 ta tl 0 tc tn tm wo FT
                    have hT : T2 = nestT u pc2 [] := hA.out.hT
                    have h1 := nest_back_none (pc := pc2) HR.out hA.out.hp
                    rw [← hT] at h1
                    rw [h1.1, h1.2] at h
                    exact h
                  have k0 := (HX.out 0 _ rfl).1
                  have k1 := (HX.out 1 _ rfl).1
                  have k2 := (HX.out 2 _ rfl).1
                  have k3 := (HX.out 3 _ rfl).1
                  have k4 := (HX.out 4 _ rfl).1
                  have k5 := (HX.out 5 _ rfl).1
                  have k6 := (HX.out 6 _ rfl).1
                  have k7 := (HX.out 7 _ rfl).1
                  have k8 := (HX.out 8 _ rfl).1
                  have k9 := (HX.out 9 _ rfl).1
                  have k10 := (HX.out 10 _ rfl).1
                  have k11 := (HX.out 11 _ rfl).1
                  have k12 := (HX.out 12 _ rfl).1
                  go_wp2_with fail
                  with_reducible refine hc.mono ?_
                  clear hc FT k0 k1 k2 k3 k4 k5 k6 k7 k8 k9 k10 k11 k12
                  rintro e w4 ⟨nf, nc, nl, nm, rfl, FN, hb⟩
                  obtain ⟨V, hV⟩ : ∃ V, V = w4.alloc (Obj.cells #[.int .i64 zThr.pc, .int .i64 (zThr.r 0), .int .i64 (zThr.r 1), .int .i64 (zThr.r 2), .int .i64 (zThr.r 3), .int .i64 (zThr.r 4), .int .i64 (zThr.r 5), .int .i64 (zThr.r 6), .int .i64 (zThr.r 7), .slice nf zThr.fs.length nc, .int .i64 zThr.st, .int .i64 zThr.ft, .slice nl zThr.lf.length nm] 27) := ⟨_, rfl⟩
                  have hbA : Below w4.heap.size w4 V := by rw [hV]; exact (Below.refl _ _).alloc (Nat.le_refl _) _
                  have HBV := Lib.hid (below_from (below_from hA.out.b hb) hbA)
                  have HV := Lib.hid hV
                  clear hV hbA hb FN
                  go_upto_region 25 with fail
                  rw [← HV.out]
                  clear HV
                  go_wp2_with fail
                  refine (alive6_any _).mono ?_
                  rintro e w5 ⟨rfl, hb5⟩
                  have HB5 := Lib.hid (below_from HBV.out hb5)
                  clear hb5
                  go_wp2
                  go_ret
                  exact boolPost_mk rfl HB5.out
                · obtain ⟨j', rfl⟩ : ∃ j', j = j' + 1 := ⟨j - 1, by omega⟩
                  obtain ⟨b, o, p, rfl, hx, g0⟩ := int_at (vs_any hA.out.r) (show j' < k by omega)
                  have i1 : (0 : Int) ≤ ((j' + 1 : Nat) : Int) - 1 := by omega
                  have ij : ((j' + 1 : Nat) : Int) - 1 = (j' : Int) := by omega
                  have htk : l.take (j' + 1) = l.take j' ++ [p] := by rw [List.take_add_one, hx]; rfl
                  have hpl := places_take HPL.out (j' + 1)
                  rw [htk] at hpl
                  have hpp := hpl.2 p (by simp)
                  have hc : Calls Try.prog 8 #[.agg #[.int .i64 T2.pc, .int .i64 (T2.r 0), .int .i64 (T2.r 1), .int .i64 (T2.r 2), .int .i64 (T2.r 3), .int .i64 (T2.r 4), .int .i64 (T2.r 5), .int .i64 (T2.r 6), .int .i64 (T2.r 7), .slice ta (j' + 1) tc, .int .i64 T2.st, .int .i64 T2.ft, .slice tl tn tm]] wo (ThPostF (nestT u (p + 1) (l.take j')) 0 wo) := by
                    have h := frBackF_any T2 ta tl (j' + 1) tc tn tm wo FT
                    have hT : T2 = nestT u pc2 (l.take (j' + 1)) := hA.out.hT
                    rw [htk] at hT
                    have h1 := nest_back (pc := pc2) HR.out hA.out.hp hpl
                    rw [← hT] at h1
                    rw [h1.1, h1.2] at h
                    exact h
                  obtain ⟨T3, hT3⟩ : ∃ T3, nestT u (p + 1) (l.take j') = T3 := ⟨_, rfl⟩
                  rw [hT3] at hc
                  have hpT : T3.pc = p + 1 := by rw [← hT3]; rfl
                  have hlT : T3.fs.length = j' := by rw [← hT3, nest_len, List.length_take, HL0.out]; omega
                  have HT3 := Lib.hid hT3
                  have HPP := Lib.hid hpp
                  have HX := Lib.hid hA.out.x
                  have HTP := Lib.hid hpT
                  clear hT3 hx htk hpl hpp FT h0 hpT
                  have k0 := (HX.out 0 _ rfl).1
                  have k1 := (HX.out 1 _ rfl).1
                  have k2 := (HX.out 2 _ rfl).1
                  have k3 := (HX.out 3 _ rfl).1
                  have k4 := (HX.out 4 _ rfl).1
                  have k5 := (HX.out 5 _ rfl).1
                  have k6 := (HX.out 6 _ rfl).1
                  have k7 := (HX.out 7 _ rfl).1
                  have k8 := (HX.out 8 _ rfl).1
                  have k9 := (HX.out 9 _ rfl).1
                  have k10 := (HX.out 10 _ rfl).1
                  have k11 := (HX.out 11 _ rfl).1
                  have k12 := (HX.out 12 _ rfl).1
                  go_wp2_with fail
                  with_reducible refine hc.mono ?_
                  clear hc k0 k1 k2 k3 k4 k5 k6 k7 k8 k9 k10 k11 k12
                  rintro e w4 ⟨nf, nc, nl, nm, rfl, FN, hb⟩
                  rw [hlT] at FN
                  rw [hlT]
                  obtain ⟨nn, hnn⟩ : ∃ n, T3.lf.length = n := ⟨_, rfl⟩
                  rw [hnn] at FN
                  rw [hnn]
                  have hsz := hb.size
                  obtain ⟨V, hV⟩ : ∃ V, V = w4.alloc (Obj.cells #[.int .i64 T3.pc, .int .i64 (T3.r 0), .int .i64 (T3.r 1), .int .i64 (T3.r 2), .int .i64 (T3.r 3), .int .i64 (T3.r 4), .int .i64 (T3.r 5), .int .i64 (T3.r 6), .int .i64 (T3.r 7), .slice nf j' nc, .int .i64 T3.st, .int .i64 T3.ft, .slice nl nn nm] 27) := ⟨_, rfl⟩
                  have hbA : Below w4.heap.size w4 V := by rw [hV]; exact (Below.refl _ _).alloc (Nat.le_refl _) _
                  have Q1 : VarN V w4.heap.size [.int .i64 T3.pc, .int .i64 (T3.r 0), .int .i64 (T3.r 1), .int .i64 (T3.r 2), .int .i64 (T3.r 3), .int .i64 (T3.r 4), .int .i64 (T3.r 5), .int .i64 (T3.r 6), .int .i64 (T3.r 7), .slice nf j' nc, .int .i64 T3.st, .int .i64 T3.ft, .slice nl nn nm] := by rw [hV]; exact varN_new [.int .i64 T3.pc, .int .i64 (T3.r 0), .int .i64 (T3.r 1), .int .i64 (T3.r 2), .int .i64 (T3.r 3), .int .i64 (T3.r 4), .int .i64 (T3.r 5), .int .i64 (T3.r 6), .int .i64 (T3.r 7), .slice nf j' nc, .int .i64 T3.st, .int .i64 T3.ft, .slice nl nn nm] _ rfl
                  have X1 := varN_B hbA (varN_B hb hA.out.x)
                  have B1 := below_from (below_from hA.out.b hb) hbA
                  have F1 := thQ_keep (kept_B hbA) FN
                  have R1 := vs_B hbA (vs_B hb hA.out.r)
                  have g1 := cellB hbA (cellB hb g0)
                  have HV := Lib.hid hV
                  have HQ := Lib.hid Q1
                  have HX1 := Lib.hid X1
                  have HB1' := Lib.hid B1
                  have HF1 := Lib.hid (thQ_mono (Q' := fun b => b ≠ w.heap.size) (fun b hb => by omega) F1)
                  have HR1 := Lib.hid R1
                  clear hV Q1 X1 B1 F1 FN hb hbA hsz hgz hnn hlT g0 R1 HX hA
                  go_upto_region 21 with fail
                  rw [← HV.out]
                  clear HV
                  have q0 := (HQ.out 0 _ rfl).1
                  have hw1 : wrap64 (p + 1) = p + 1 := IntWalk.wrap64_in _ (by have := HPP.out; omega)
                  have hw2 : IntKind.i64.wrap (p + 1) = p + 1 := IntWalk.i64_in _ (by have := HPP.out; omega)
                  have i2 : (j' : Int) < k := by omega
                  rw [HTP.out] at q0
                  go_wp2_with fail
                  go_quiet (fail)
                  have HX2 := Lib.hid (varN_drews (nq := nq) HX1.out)
                  have HQ2 := Lib.hid (varN_drews (nq := nq) HQ.out)
                  have HF2 := Lib.hid (thQ_keep (kept_drews nq) HF1.out)
                  have HR2 := Lib.hid (vs_keep (kept_drews nq) HR1.out)
                  have HB2' := Lib.hid (below_drews HB1'.out nq)
                  clear HX1 HQ HF1 HR1 HB1' q0 g1 hw1 hw2
                  have k0 := (HQ2.out 0 _ rfl).1
                  have k1 := (HQ2.out 1 _ rfl).1
                  have k2 := (HQ2.out 2 _ rfl).1
                  have k3 := (HQ2.out 3 _ rfl).1
                  have k4 := (HQ2.out 4 _ rfl).1
                  have k5 := (HQ2.out 5 _ rfl).1
                  have k6 := (HQ2.out 6 _ rfl).1
                  have k7 := (HQ2.out 7 _ rfl).1
                  have k8 := (HQ2.out 8 _ rfl).1
                  have k9 := (HQ2.out 9 _ rfl).1
                  have k10 := (HQ2.out 10 _ rfl).1
                  have k11 := (HQ2.out 11 _ rfl).1
                  have k12 := (HQ2.out 12 _ rfl).1
                  obtain ⟨y0, g0⟩ := HX2.out 0 _ rfl
                  obtain ⟨y1, g1⟩ := HX2.out 1 _ rfl
                  obtain ⟨y2, g2⟩ := HX2.out 2 _ rfl
                  obtain ⟨y3, g3⟩ := HX2.out 3 _ rfl
                  obtain ⟨y4, g4⟩ := HX2.out 4 _ rfl
                  obtain ⟨y5, g5⟩ := HX2.out 5 _ rfl
                  obtain ⟨y6, g6⟩ := HX2.out 6 _ rfl
                  obtain ⟨y7, g7⟩ := HX2.out 7 _ rfl
                  obtain ⟨y8, g8⟩ := HX2.out 8 _ rfl
                  obtain ⟨y9, g9⟩ := HX2.out 9 _ rfl
                  obtain ⟨y10, g10⟩ := HX2.out 10 _ rfl
                  obtain ⟨y11, g11⟩ := HX2.out 11 _ rfl
                  obtain ⟨y12, g12⟩ := HX2.out 12 _ rfl
                  go_wp2
                  go_roundw
                  case rel =>
                    refine ⟨j', p + 1, T3, nf, nc, nl, nn, nm, by omega, by first | go_num | rfl | (congr 1; omega), ?_⟩
                    exact (show LoopB w u w.heap.size k j' l (some ⟨b, o, none⟩) (setN (V.drewN nq) w.heap.size 0 [.int .i64 T3.pc, .int .i64 (T3.r 0), .int .i64 (T3.r 1), .int .i64 (T3.r 2), .int .i64 (T3.r 3), .int .i64 (T3.r 4), .int .i64 (T3.r 5), .int .i64 (T3.r 6), .int .i64 (T3.r 7), .slice nf j' nc, .int .i64 T3.st, .int .i64 T3.ft, .slice nl nn nm]) (p + 1) T3 nf nc nl nn nm from
                      ⟨by omega, ⟨by have := HPP.out; omega, by have := HPP.out; omega⟩, HT3.out.symm, varN_all HX2.out rfl, thQ_keep (kept_setN (fun b hb => hb)) HF2.out, vs_keep (kept_setN (fun b hb => hb)) HR2.out, below_setN (Nat.le_refl _) HB2'.out⟩)
                  case measure => simp [intOf]
        · have hcc : 0 < m9 ∨ (m9 = 0 ∧ 1000 ≤ u.pc) := by omega
          have k0 := (HX2.out 0 _ rfl).1
          have k1 := (HX2.out 1 _ rfl).1
          have k2 := (HX2.out 2 _ rfl).1
          have k3 := (HX2.out 3 _ rfl).1
          have k4 := (HX2.out 4 _ rfl).1
          have k5 := (HX2.out 5 _ rfl).1
          have k6 := (HX2.out 6 _ rfl).1
          have k7 := (HX2.out 7 _ rfl).1
          have k8 := (HX2.out 8 _ rfl).1
          have k9 := (HX2.out 9 _ rfl).1
          have k10 := (HX2.out 10 _ rfl).1
          have k11 := (HX2.out 11 _ rfl).1
          have k12 := (HX2.out 12 _ rfl).1
          rcases hcc with h1 | ⟨h1, h2⟩
          · have i0 : (0 : Int) < m9 := by omega
            go_wp2_with fail
            refine (alive6_any _).mono ?_
            rintro e w3 ⟨rfl, hb3⟩
            have HB3 := Lib.hid (below_from HB2.out hb3)
            clear hb3
            go_wp2
            go_ret
            exact boolPost_mk rfl HB3.out
          · subst h1
            have i0 : (1000 : Int) ≤ u.pc := h2
            go_wp2_with fail
            refine (alive6_any _).mono ?_
            rintro e w3 ⟨rfl, hb3⟩
            have HB3 := Lib.hid (below_from HB2.out hb3)
            clear hb3
            go_wp2
            go_ret
            exact boolPost_mk rfl HB3.out
end Go.Proofs.Ytpdghgpmjadnnaa
