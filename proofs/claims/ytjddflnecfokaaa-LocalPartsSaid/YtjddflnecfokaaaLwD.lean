/- The walk of LocalParts. -/
import Derived.Test.YtjddflnecfokaaaLwP
namespace Go.Proofs.Ytjddflnecfokaaa
open Go.ChangeShapes Go.WideShapes Go.ChangeAt Go.RowKit
open Gen

set_option maxRecDepth 100000 in
set_option maxHeartbeats 16000000 in
theorem LocalParts_walk (t : Thr) (self : Int) (ca : Option Addr) (cn cc : Nat) (c : List In4) (a3 a4 : Int) (fa la : Option Addr) (fn fc ln lc : Nat) (w : World) (F : ThF w fa fn fc la ln lc t) (hz : IsVs repIn (fun _ => True) w ca cn cc c) :
    Calls Try.prog 7 #[.agg #[.int .i64 t.pc, .int .i64 (t.r 0), .int .i64 (t.r 1), .int .i64 (t.r 2), .int .i64 (t.r 3), .int .i64 (t.r 4), .int .i64 (t.r 5), .int .i64 (t.r 6), .int .i64 (t.r 7), .slice fa fn fc, .int .i64 t.st, .int .i64 t.ft, .slice la ln lc], .int .i64 self, .slice ca cn cc, .int .i64 a3, .int .i64 a4] w (BoolPost true w) := by
  have FU := few_F F
  have C1 := F.fcap
  have C2 := F.lcap
  obtain ⟨u, hu⟩ : ∃ u : Thr, cutT t (min fn 8) (min ln 10) = u := ⟨_, rfl⟩
  obtain ⟨m9, hm9⟩ : ∃ m, min fn 8 = m := ⟨_, rfl⟩
  obtain ⟨m12, hm12⟩ : ∃ m, min ln 10 = m := ⟨_, rfl⟩
  obtain ⟨mp, hmp⟩ : ∃ m, min cn 100 = m := ⟨_, rfl⟩
  obtain ⟨ds, hds⟩ : ∃ ds, c.take mp = ds := ⟨_, rfl⟩
  have hfew : ∀ w', Calls Try.prog 8 #[.agg #[.int .i64 t.pc, .int .i64 (t.r 0), .int .i64 (t.r 1), .int .i64 (t.r 2), .int .i64 (t.r 3), .int .i64 (t.r 4), .int .i64 (t.r 5), .int .i64 (t.r 6), .int .i64 (t.r 7), .slice fa fn fc, .int .i64 t.st, .int .i64 t.ft, .slice la ln lc]] w' (fun e w2 => e = .returned (.agg #[.int .i64 u.pc, .int .i64 (u.r 0), .int .i64 (u.r 1), .int .i64 (u.r 2), .int .i64 (u.r 3), .int .i64 (u.r 4), .int .i64 (u.r 5), .int .i64 (u.r 6), .int .i64 (u.r 7), .slice fa m9 fc, .int .i64 u.st, .int .i64 u.ft, .slice la m12 lc]) ∧ Below w'.heap.size w' w2) := fun w' => by
    have h := few7_any t fa la fn fc ln lc w' C1 C2
    rw [hm9, hm12] at h
    rw [← hu]; exact h
  rw [hu, hm9, hm12] at FU
  have HFEW := Lib.hid hfew
  have HM := Lib.hid (show m9 ≤ 8 ∧ m12 ≤ 10 ∧ mp ≤ 100 by omega)
  have HM1 := Lib.hid (show (if (100 : Int) < (cn : Int) then (100 : Int) else (cn : Int)) = (mp : Int) by split <;> omega)
  have HM2 := Lib.hid (show mp ≤ cc ∧ cc ≤ 9223372036854775807 from ⟨by have := hz.1; omega, hz.2.1⟩)
  have HFU := Lib.hid FU
  have hct := vs_take hz.2.2.2.1 mp (by omega)
  rw [hds] at hct
  have HCT := Lib.hid hct
  clear hu hm9 hm12 hmp hfew C1 C2 FU F hz hct hds
  obtain ⟨W, hW⟩ : ∃ W, W = w.alloc (Obj.cells #[.int .i64 t.pc, .int .i64 (t.r 0), .int .i64 (t.r 1), .int .i64 (t.r 2), .int .i64 (t.r 3), .int .i64 (t.r 4), .int .i64 (t.r 5), .int .i64 (t.r 6), .int .i64 (t.r 7), .slice fa fn fc, .int .i64 t.st, .int .i64 t.ft, .slice la ln lc] 27) := ⟨_, rfl⟩
  have X : VarN W w.heap.size [.int .i64 t.pc, .int .i64 (t.r 0), .int .i64 (t.r 1), .int .i64 (t.r 2), .int .i64 (t.r 3), .int .i64 (t.r 4), .int .i64 (t.r 5), .int .i64 (t.r 6), .int .i64 (t.r 7), .slice fa fn fc, .int .i64 t.st, .int .i64 t.ft, .slice la ln lc] := by rw [hW]; exact varN_new [.int .i64 t.pc, .int .i64 (t.r 0), .int .i64 (t.r 1), .int .i64 (t.r 2), .int .i64 (t.r 3), .int .i64 (t.r 4), .int .i64 (t.r 5), .int .i64 (t.r 6), .int .i64 (t.r 7), .slice fa fn fc, .int .i64 t.st, .int .i64 t.ft, .slice la ln lc] _ rfl
  have hB : Below w.heap.size w W := by rw [hW]; go_grown
  have HX := Lib.hid X
  have HB0 := Lib.hid hB
  have HW := Lib.hid hW
  clear hW X hB
  go_enter Try.func7, Try.ntmps7
  go_upto_region 1 with fail
  rw [← HW.out]
  refine wp_region_inv (FewP t u w.heap.size fa la ca fn fc ln lc m9 m12 cn cc mp a3 a4) (by kernel_rfl) (by kernel_rfl) ?_ ?_ ?_
  · intro listed hl
    exact .mk (.slice ca cn cc) (.int .i64 a3) (.int .i64 a4) undef undef undef undef undef undef undef undef undef undef undef undef undef undef undef [.int .i64 t.pc, .int .i64 (t.r 0), .int .i64 (t.r 1), .int .i64 (t.r 2), .int .i64 (t.r 3), .int .i64 (t.r 4), .int .i64 (t.r 5), .int .i64 (t.r 6), .int .i64 (t.r 7), .slice fa fn fc, .int .i64 t.st, .int .i64 t.ft, .slice la ln lc] (by simp only [Act.put, List.setIfInBounds_toArray, List.set_cons_zero, List.set_cons_succ]) (⟨(Below.refl _ _).drew, varN_D HX.out, rfl, fun _ => rfl, fun _ => rfl, fun _ => rfl, fun _ => rfl⟩) (fun h => absurd h (hl 0 (by decide))) (fun h => absurd h (hl 1 (by decide))) (fun h => absurd h (hl 2 (by decide))) (fun h => absurd h (hl 3 (by decide))) (fun h => absurd h (hl 4 (by decide))) (fun h => absurd h (hl 5 (by decide))) (fun h => absurd h (hl 6 (by decide))) (fun h => absurd h (hl 7 (by decide))) (fun h => absurd h (hl 8 (by decide))) (fun h => absurd h (hl 9 (by decide))) (fun h => absurd h (hl 10 (by decide))) (fun h => absurd h (hl 11 (by decide))) (fun h => absurd h (hl 12 (by decide))) (fun h => absurd h (hl 13 (by decide))) (fun h => absurd h (hl 14 (by decide))) (fun h => absurd h (hl 15 (by decide))) (fun h => absurd h (hl 16 (by decide))) (fun h => absurd h (hl 17 (by decide))) (fun h => absurd h (hl 18 (by decide)))
  · show StepsL _ _ _ _ _ _ _
    refine StepsL.cons (k := 0) rfl (fun listed a1 w1 hI hn hw K hK => ?_) ?_
    · cases hI with | mk p2 p3 p4 p20 p21 p22 p23 p24 p25 p26 p27 p28 p29 p30 p31 p32 p33 p34 xs ea hb hf0 hf1 hf2 hf3 hf4 hf5 hf6 hf7 hf8 hf9 hf10 hf11 hf12 hf13 hf14 hS hU hV hW =>
        have h7 : ¬ Up listed 15 := fun h => hn (hS h).1
        have hx := hb.2.2.2.1 h7
        subst hx
        have Hhf0 := Lib.hid hf0
        have Hhf1 := Lib.hid hf1
        have Hhf2 := Lib.hid hf2
        have Hhf3 := Lib.hid hf3
        have Hhf4 := Lib.hid hf4
        have Hhf5 := Lib.hid hf5
        have Hhf6 := Lib.hid hf6
        have Hhf7 := Lib.hid hf7
        have Hhf8 := Lib.hid hf8
        have Hhf9 := Lib.hid hf9
        have Hhf10 := Lib.hid hf10
        have Hhf11 := Lib.hid hf11
        have Hhf12 := Lib.hid hf12
        have Hhf13 := Lib.hid hf13
        have Hhf14 := Lib.hid hf14
        have HhS := Lib.hid hS
        have HhU := Lib.hid hU
        have HhV := Lib.hid hV
        have HhW := Lib.hid hW
        have Hhb := Lib.hid hb
        have Hhw := Lib.hid hw
        clear hf0 hf1 hf2 hf3 hf4 hf5 hf6 hf7 hf8 hf9 hf10 hf11 hf12 hf13 hf14 hS hU hV hW hb hw
        rw [ea]
        clear ea
        simp only [Act.put, List.setIfInBounds_toArray, List.set_cons_zero, List.set_cons_succ]
        refine step_pos (by rfl) ?_
        refine wp_load_mid 27 _ rfl w.heap.size 0 rfl [.int .i64 t.pc, .int .i64 (t.r 0), .int .i64 (t.r 1), .int .i64 (t.r 2), .int .i64 (t.r 3), .int .i64 (t.r 4), .int .i64 (t.r 5), .int .i64 (t.r 6), .int .i64 (t.r 7), .slice fa fn fc, .int .i64 t.st, .int .i64 t.ft, .slice la ln lc] _ (varN_range Hhb.out.2.1) Try.underlying27 rfl (by kernel_rfl) ?_
        have hf0 := Hhf0.out
        have hf1 := Hhf1.out
        have hf2 := Hhf2.out
        have hf3 := Hhf3.out
        have hf4 := Hhf4.out
        have hf5 := Hhf5.out
        have hf6 := Hhf6.out
        have hf7 := Hhf7.out
        have hf8 := Hhf8.out
        have hf9 := Hhf9.out
        have hf10 := Hhf10.out
        have hf11 := Hhf11.out
        have hf12 := Hhf12.out
        have hf13 := Hhf13.out
        have hf14 := Hhf14.out
        have hS := HhS.out
        have hU := HhU.out
        have hV := HhV.out
        have hW := HhW.out
        have hb := Hhb.out
        have hw := Hhw.out
        refine hK.out _ _ ?_
        exact .mk p2 p3 p4 (.agg #[.int .i64 t.pc, .int .i64 (t.r 0), .int .i64 (t.r 1), .int .i64 (t.r 2), .int .i64 (t.r 3), .int .i64 (t.r 4), .int .i64 (t.r 5), .int .i64 (t.r 6), .int .i64 (t.r 7), .slice fa fn fc, .int .i64 t.st, .int .i64 t.ft, .slice la ln lc]) p21 p22 p23 p24 p25 p26 p27 p28 p29 p30 p31 p32 p33 p34 [.int .i64 t.pc, .int .i64 (t.r 0), .int .i64 (t.r 1), .int .i64 (t.r 2), .int .i64 (t.r 3), .int .i64 (t.r 4), .int .i64 (t.r 5), .int .i64 (t.r 6), .int .i64 (t.r 7), .slice fa fn fc, .int .i64 t.st, .int .i64 t.ft, .slice la ln lc] (by simp only [Act.put, List.setIfInBounds_toArray, List.set_cons_zero, List.set_cons_succ]) (⟨hb.1, hb.2.1, hb.2.2.1, fun h => hb.2.2.2.1 (fun hu => h (up_old hu)), fun h => hb.2.2.2.2.1 (fun hu => h (up_old hu)), fun h => hb.2.2.2.2.2.1 (fun hu => h (up_old hu)), fun h => hb.2.2.2.2.2.2 (fun hu => h (up_old hu))⟩) (fun _ => rfl) (fun h => hf1 (up_back h (by decide))) (fun h => hf2 (up_back h (by decide))) (fun h => hf3 (up_back h (by decide))) (fun h => hf4 (up_back h (by decide))) (fun h => hf5 (up_back h (by decide))) (fun h => hf6 (up_back h (by decide))) (fun h => hf7 (up_back h (by decide))) (fun h => hf8 (up_back h (by decide))) (fun h => hf9 (up_back h (by decide))) (fun h => hf10 (up_back h (by decide))) (fun h => hf11 (up_back h (by decide))) (fun h => hf12 (up_back h (by decide))) (fun h => hf13 (up_back h (by decide))) (fun h => hf14 (up_back h (by decide))) (fun h => ⟨up_old (hS (up_back h (by decide))).1, (hS (up_back h (by decide))).2⟩) (fun h => ⟨up_old (hU (up_back h (by decide))).1, up_old (hU (up_back h (by decide))).2.1, (hU (up_back h (by decide))).2.2⟩) (fun h => ⟨up_old (hV (up_back h (by decide))).1, (hV (up_back h (by decide))).2⟩) (fun h => ⟨up_old (hW (up_back h (by decide))).1, (hW (up_back h (by decide))).2⟩)
    refine StepsL.cons (k := 1) rfl (fun listed a1 w1 hI hn hw K hK => ?_) ?_
    · cases hI with | mk p2 p3 p4 p20 p21 p22 p23 p24 p25 p26 p27 p28 p29 p30 p31 p32 p33 p34 xs ea hb hf0 hf1 hf2 hf3 hf4 hf5 hf6 hf7 hf8 hf9 hf10 hf11 hf12 hf13 hf14 hS hU hV hW =>
        have e_f0 := hf0 (hw 0 (by decide))
        subst e_f0
        have Hhf0 := Lib.hid hf0
        have Hhf1 := Lib.hid hf1
        have Hhf2 := Lib.hid hf2
        have Hhf3 := Lib.hid hf3
        have Hhf4 := Lib.hid hf4
        have Hhf5 := Lib.hid hf5
        have Hhf6 := Lib.hid hf6
        have Hhf7 := Lib.hid hf7
        have Hhf8 := Lib.hid hf8
        have Hhf9 := Lib.hid hf9
        have Hhf10 := Lib.hid hf10
        have Hhf11 := Lib.hid hf11
        have Hhf12 := Lib.hid hf12
        have Hhf13 := Lib.hid hf13
        have Hhf14 := Lib.hid hf14
        have HhS := Lib.hid hS
        have HhU := Lib.hid hU
        have HhV := Lib.hid hV
        have HhW := Lib.hid hW
        have Hhb := Lib.hid hb
        have Hhw := Lib.hid hw
        clear hf0 hf1 hf2 hf3 hf4 hf5 hf6 hf7 hf8 hf9 hf10 hf11 hf12 hf13 hf14 hS hU hV hW hb hw
        rw [ea]
        clear ea
        simp only [Act.put, List.setIfInBounds_toArray, List.set_cons_zero, List.set_cons_succ]
        refine step_pos (by rfl) ?_
        refine wp_calls _ _ _ rfl 8 rfl [.agg #[.int .i64 t.pc, .int .i64 (t.r 0), .int .i64 (t.r 1), .int .i64 (t.r 2), .int .i64 (t.r 3), .int .i64 (t.r 4), .int .i64 (t.r 5), .int .i64 (t.r 6), .int .i64 (t.r 7), .slice fa fn fc, .int .i64 t.st, .int .i64 t.ft, .slice la ln lc]] rfl (by kernel_rfl) ((HFEW.out w1).mono ?_)
        rintro e w2 ⟨rfl, hb2⟩
        refine ⟨_, rfl, ?_⟩
        have hf0 := Hhf0.out
        have hf1 := Hhf1.out
        have hf2 := Hhf2.out
        have hf3 := Hhf3.out
        have hf4 := Hhf4.out
        have hf5 := Hhf5.out
        have hf6 := Hhf6.out
        have hf7 := Hhf7.out
        have hf8 := Hhf8.out
        have hf9 := Hhf9.out
        have hf10 := Hhf10.out
        have hf11 := Hhf11.out
        have hf12 := Hhf12.out
        have hf13 := Hhf13.out
        have hf14 := Hhf14.out
        have hS := HhS.out
        have hU := HhU.out
        have hV := HhV.out
        have hW := HhW.out
        have hb := Hhb.out
        have hw := Hhw.out
        refine hK.out _ _ ?_
        exact .mk p2 p3 p4 (.agg #[.int .i64 t.pc, .int .i64 (t.r 0), .int .i64 (t.r 1), .int .i64 (t.r 2), .int .i64 (t.r 3), .int .i64 (t.r 4), .int .i64 (t.r 5), .int .i64 (t.r 6), .int .i64 (t.r 7), .slice fa fn fc, .int .i64 t.st, .int .i64 t.ft, .slice la ln lc]) (.agg #[.int .i64 u.pc, .int .i64 (u.r 0), .int .i64 (u.r 1), .int .i64 (u.r 2), .int .i64 (u.r 3), .int .i64 (u.r 4), .int .i64 (u.r 5), .int .i64 (u.r 6), .int .i64 (u.r 7), .slice fa m9 fc, .int .i64 u.st, .int .i64 u.ft, .slice la m12 lc]) p22 p23 p24 p25 p26 p27 p28 p29 p30 p31 p32 p33 p34 xs (by simp only [Act.put, List.setIfInBounds_toArray, List.set_cons_zero, List.set_cons_succ]) (⟨hb.1.trans (hb2.mono (Nat.le_of_lt (varN_lt hb.2.1 (by rw [hb.2.2.1]; decide)))), varN_B hb2 hb.2.1, hb.2.2.1, fun h => hb.2.2.2.1 (fun hu => h (up_old hu)), fun h => hb.2.2.2.2.1 (fun hu => h (up_old hu)), fun h => hb.2.2.2.2.2.1 (fun hu => h (up_old hu)), fun h => hb.2.2.2.2.2.2 (fun hu => h (up_old hu))⟩) (fun _ => rfl) (fun _ => rfl) (fun h => hf2 (up_back h (by decide))) (fun h => hf3 (up_back h (by decide))) (fun h => hf4 (up_back h (by decide))) (fun h => hf5 (up_back h (by decide))) (fun h => hf6 (up_back h (by decide))) (fun h => hf7 (up_back h (by decide))) (fun h => hf8 (up_back h (by decide))) (fun h => hf9 (up_back h (by decide))) (fun h => hf10 (up_back h (by decide))) (fun h => hf11 (up_back h (by decide))) (fun h => hf12 (up_back h (by decide))) (fun h => hf13 (up_back h (by decide))) (fun h => hf14 (up_back h (by decide))) (fun h => ⟨up_old (hS (up_back h (by decide))).1, (hS (up_back h (by decide))).2⟩) (fun h => ⟨up_old (hU (up_back h (by decide))).1, up_old (hU (up_back h (by decide))).2.1, (hU (up_back h (by decide))).2.2⟩) (fun h => ⟨up_old (hV (up_back h (by decide))).1, (hV (up_back h (by decide))).2⟩) (fun h => ⟨up_old (hW (up_back h (by decide))).1, (hW (up_back h (by decide))).2⟩)
    refine StepsL.cons (k := 2) rfl (fun listed a1 w1 hI hn hw K hK => ?_) ?_
    · cases hI with | mk p2 p3 p4 p20 p21 p22 p23 p24 p25 p26 p27 p28 p29 p30 p31 p32 p33 p34 xs ea hb hf0 hf1 hf2 hf3 hf4 hf5 hf6 hf7 hf8 hf9 hf10 hf11 hf12 hf13 hf14 hS hU hV hW =>
        have h8 : ¬ Up listed 16 := fun h => hn (hU h).1
        have hx := hb.2.2.2.2.1 h8
        subst hx
        have Hhf0 := Lib.hid hf0
        have Hhf1 := Lib.hid hf1
        have Hhf2 := Lib.hid hf2
        have Hhf3 := Lib.hid hf3
        have Hhf4 := Lib.hid hf4
        have Hhf5 := Lib.hid hf5
        have Hhf6 := Lib.hid hf6
        have Hhf7 := Lib.hid hf7
        have Hhf8 := Lib.hid hf8
        have Hhf9 := Lib.hid hf9
        have Hhf10 := Lib.hid hf10
        have Hhf11 := Lib.hid hf11
        have Hhf12 := Lib.hid hf12
        have Hhf13 := Lib.hid hf13
        have Hhf14 := Lib.hid hf14
        have HhS := Lib.hid hS
        have HhU := Lib.hid hU
        have HhV := Lib.hid hV
        have HhW := Lib.hid hW
        have Hhb := Lib.hid hb
        have Hhw := Lib.hid hw
        clear hf0 hf1 hf2 hf3 hf4 hf5 hf6 hf7 hf8 hf9 hf10 hf11 hf12 hf13 hf14 hS hU hV hW hb hw
        rw [ea]
        clear ea
        simp only [Act.put, List.setIfInBounds_toArray, List.set_cons_zero, List.set_cons_succ]
        go_simp
        have hf0 := Hhf0.out
        have hf1 := Hhf1.out
        have hf2 := Hhf2.out
        have hf3 := Hhf3.out
        have hf4 := Hhf4.out
        have hf5 := Hhf5.out
        have hf6 := Hhf6.out
        have hf7 := Hhf7.out
        have hf8 := Hhf8.out
        have hf9 := Hhf9.out
        have hf10 := Hhf10.out
        have hf11 := Hhf11.out
        have hf12 := Hhf12.out
        have hf13 := Hhf13.out
        have hf14 := Hhf14.out
        have hS := HhS.out
        have hU := HhU.out
        have hV := HhV.out
        have hW := HhW.out
        have hb := Hhb.out
        have hw := Hhw.out
        refine hK.out _ _ ?_
        exact .mk (.slice ca cn cc) p3 p4 p20 p21 (.slice ca cn cc) p23 p24 p25 p26 p27 p28 p29 p30 p31 p32 p33 p34 xs (by simp only [Act.put, List.setIfInBounds_toArray, List.set_cons_zero, List.set_cons_succ]) (⟨hb.1, hb.2.1, hb.2.2.1, fun h => hb.2.2.2.1 (fun hu => h (up_old hu)), fun h => hb.2.2.2.2.1 (fun hu => h (up_old hu)), fun h => hb.2.2.2.2.2.1 (fun hu => h (up_old hu)), fun h => hb.2.2.2.2.2.2 (fun hu => h (up_old hu))⟩) (fun h => hf0 (up_back h (by decide))) (fun h => hf1 (up_back h (by decide))) (fun _ => rfl) (fun h => hf3 (up_back h (by decide))) (fun h => hf4 (up_back h (by decide))) (fun h => hf5 (up_back h (by decide))) (fun h => hf6 (up_back h (by decide))) (fun h => hf7 (up_back h (by decide))) (fun h => hf8 (up_back h (by decide))) (fun h => hf9 (up_back h (by decide))) (fun h => hf10 (up_back h (by decide))) (fun h => hf11 (up_back h (by decide))) (fun h => hf12 (up_back h (by decide))) (fun h => hf13 (up_back h (by decide))) (fun h => hf14 (up_back h (by decide))) (fun h => ⟨up_old (hS (up_back h (by decide))).1, (hS (up_back h (by decide))).2⟩) (fun h => ⟨up_old (hU (up_back h (by decide))).1, up_old (hU (up_back h (by decide))).2.1, (hU (up_back h (by decide))).2.2⟩) (fun h => ⟨up_old (hV (up_back h (by decide))).1, (hV (up_back h (by decide))).2⟩) (fun h => ⟨up_old (hW (up_back h (by decide))).1, (hW (up_back h (by decide))).2⟩)
    refine StepsL.cons (k := 3) rfl (fun listed a1 w1 hI hn hw K hK => ?_) ?_
    · cases hI with | mk p2 p3 p4 p20 p21 p22 p23 p24 p25 p26 p27 p28 p29 p30 p31 p32 p33 p34 xs ea hb hf0 hf1 hf2 hf3 hf4 hf5 hf6 hf7 hf8 hf9 hf10 hf11 hf12 hf13 hf14 hS hU hV hW =>
        have h8 : ¬ Up listed 16 := fun h => hn (hU h).2.1
        have hx := hb.2.2.2.2.1 h8
        subst hx
        have Hhf0 := Lib.hid hf0
        have Hhf1 := Lib.hid hf1
        have Hhf2 := Lib.hid hf2
        have Hhf3 := Lib.hid hf3
        have Hhf4 := Lib.hid hf4
        have Hhf5 := Lib.hid hf5
        have Hhf6 := Lib.hid hf6
        have Hhf7 := Lib.hid hf7
        have Hhf8 := Lib.hid hf8
        have Hhf9 := Lib.hid hf9
        have Hhf10 := Lib.hid hf10
        have Hhf11 := Lib.hid hf11
        have Hhf12 := Lib.hid hf12
        have Hhf13 := Lib.hid hf13
        have Hhf14 := Lib.hid hf14
        have HhS := Lib.hid hS
        have HhU := Lib.hid hU
        have HhV := Lib.hid hV
        have HhW := Lib.hid hW
        have Hhb := Lib.hid hb
        have Hhw := Lib.hid hw
        clear hf0 hf1 hf2 hf3 hf4 hf5 hf6 hf7 hf8 hf9 hf10 hf11 hf12 hf13 hf14 hS hU hV hW hb hw
        rw [ea]
        clear ea
        simp only [Act.put, List.setIfInBounds_toArray, List.set_cons_zero, List.set_cons_succ]
        go_simp
        have hf0 := Hhf0.out
        have hf1 := Hhf1.out
        have hf2 := Hhf2.out
        have hf3 := Hhf3.out
        have hf4 := Hhf4.out
        have hf5 := Hhf5.out
        have hf6 := Hhf6.out
        have hf7 := Hhf7.out
        have hf8 := Hhf8.out
        have hf9 := Hhf9.out
        have hf10 := Hhf10.out
        have hf11 := Hhf11.out
        have hf12 := Hhf12.out
        have hf13 := Hhf13.out
        have hf14 := Hhf14.out
        have hS := HhS.out
        have hU := HhU.out
        have hV := HhV.out
        have hW := HhW.out
        have hb := Hhb.out
        have hw := Hhw.out
        refine hK.out _ _ ?_
        exact .mk (.slice ca cn cc) p3 p4 p20 p21 p22 (.slice ca cn cc) p24 p25 p26 p27 p28 p29 p30 p31 p32 p33 p34 xs (by simp only [Act.put, List.setIfInBounds_toArray, List.set_cons_zero, List.set_cons_succ]) (⟨hb.1, hb.2.1, hb.2.2.1, fun h => hb.2.2.2.1 (fun hu => h (up_old hu)), fun h => hb.2.2.2.2.1 (fun hu => h (up_old hu)), fun h => hb.2.2.2.2.2.1 (fun hu => h (up_old hu)), fun h => hb.2.2.2.2.2.2 (fun hu => h (up_old hu))⟩) (fun h => hf0 (up_back h (by decide))) (fun h => hf1 (up_back h (by decide))) (fun h => hf2 (up_back h (by decide))) (fun _ => rfl) (fun h => hf4 (up_back h (by decide))) (fun h => hf5 (up_back h (by decide))) (fun h => hf6 (up_back h (by decide))) (fun h => hf7 (up_back h (by decide))) (fun h => hf8 (up_back h (by decide))) (fun h => hf9 (up_back h (by decide))) (fun h => hf10 (up_back h (by decide))) (fun h => hf11 (up_back h (by decide))) (fun h => hf12 (up_back h (by decide))) (fun h => hf13 (up_back h (by decide))) (fun h => hf14 (up_back h (by decide))) (fun h => ⟨up_old (hS (up_back h (by decide))).1, (hS (up_back h (by decide))).2⟩) (fun h => ⟨up_old (hU (up_back h (by decide))).1, up_old (hU (up_back h (by decide))).2.1, (hU (up_back h (by decide))).2.2⟩) (fun h => ⟨up_old (hV (up_back h (by decide))).1, (hV (up_back h (by decide))).2⟩) (fun h => ⟨up_old (hW (up_back h (by decide))).1, (hW (up_back h (by decide))).2⟩)
    refine StepsL.cons (k := 4) rfl (fun listed a1 w1 hI hn hw K hK => ?_) ?_
    · cases hI with | mk p2 p3 p4 p20 p21 p22 p23 p24 p25 p26 p27 p28 p29 p30 p31 p32 p33 p34 xs ea hb hf0 hf1 hf2 hf3 hf4 hf5 hf6 hf7 hf8 hf9 hf10 hf11 hf12 hf13 hf14 hS hU hV hW =>
        have e_f3 := hf3 (hw 3 (by decide))
        subst e_f3
        have Hhf0 := Lib.hid hf0
        have Hhf1 := Lib.hid hf1
        have Hhf2 := Lib.hid hf2
        have Hhf3 := Lib.hid hf3
        have Hhf4 := Lib.hid hf4
        have Hhf5 := Lib.hid hf5
        have Hhf6 := Lib.hid hf6
        have Hhf7 := Lib.hid hf7
        have Hhf8 := Lib.hid hf8
        have Hhf9 := Lib.hid hf9
        have Hhf10 := Lib.hid hf10
        have Hhf11 := Lib.hid hf11
        have Hhf12 := Lib.hid hf12
        have Hhf13 := Lib.hid hf13
        have Hhf14 := Lib.hid hf14
        have HhS := Lib.hid hS
        have HhU := Lib.hid hU
        have HhV := Lib.hid hV
        have HhW := Lib.hid hW
        have Hhb := Lib.hid hb
        have Hhw := Lib.hid hw
        clear hf0 hf1 hf2 hf3 hf4 hf5 hf6 hf7 hf8 hf9 hf10 hf11 hf12 hf13 hf14 hS hU hV hW hb hw
        rw [ea]
        clear ea
        simp only [Act.put, List.setIfInBounds_toArray, List.set_cons_zero, List.set_cons_succ]
        go_simp
        have hf0 := Hhf0.out
        have hf1 := Hhf1.out
        have hf2 := Hhf2.out
        have hf3 := Hhf3.out
        have hf4 := Hhf4.out
        have hf5 := Hhf5.out
        have hf6 := Hhf6.out
        have hf7 := Hhf7.out
        have hf8 := Hhf8.out
        have hf9 := Hhf9.out
        have hf10 := Hhf10.out
        have hf11 := Hhf11.out
        have hf12 := Hhf12.out
        have hf13 := Hhf13.out
        have hf14 := Hhf14.out
        have hS := HhS.out
        have hU := HhU.out
        have hV := HhV.out
        have hW := HhW.out
        have hb := Hhb.out
        have hw := Hhw.out
        refine hK.out _ _ ?_
        exact .mk p2 p3 p4 p20 p21 p22 (.slice ca cn cc) (.int .i64 cn) p25 p26 p27 p28 p29 p30 p31 p32 p33 p34 xs (by simp only [Act.put, List.setIfInBounds_toArray, List.set_cons_zero, List.set_cons_succ]) (⟨hb.1, hb.2.1, hb.2.2.1, fun h => hb.2.2.2.1 (fun hu => h (up_old hu)), fun h => hb.2.2.2.2.1 (fun hu => h (up_old hu)), fun h => hb.2.2.2.2.2.1 (fun hu => h (up_old hu)), fun h => hb.2.2.2.2.2.2 (fun hu => h (up_old hu))⟩) (fun h => hf0 (up_back h (by decide))) (fun h => hf1 (up_back h (by decide))) (fun h => hf2 (up_back h (by decide))) (fun _ => rfl) (fun _ => rfl) (fun h => hf5 (up_back h (by decide))) (fun h => hf6 (up_back h (by decide))) (fun h => hf7 (up_back h (by decide))) (fun h => hf8 (up_back h (by decide))) (fun h => hf9 (up_back h (by decide))) (fun h => hf10 (up_back h (by decide))) (fun h => hf11 (up_back h (by decide))) (fun h => hf12 (up_back h (by decide))) (fun h => hf13 (up_back h (by decide))) (fun h => hf14 (up_back h (by decide))) (fun h => ⟨up_old (hS (up_back h (by decide))).1, (hS (up_back h (by decide))).2⟩) (fun h => ⟨up_old (hU (up_back h (by decide))).1, up_old (hU (up_back h (by decide))).2.1, (hU (up_back h (by decide))).2.2⟩) (fun h => ⟨up_old (hV (up_back h (by decide))).1, (hV (up_back h (by decide))).2⟩) (fun h => ⟨up_old (hW (up_back h (by decide))).1, (hW (up_back h (by decide))).2⟩)
    refine StepsL.cons (k := 5) rfl (fun listed a1 w1 hI hn hw K hK => ?_) ?_
    · cases hI with | mk p2 p3 p4 p20 p21 p22 p23 p24 p25 p26 p27 p28 p29 p30 p31 p32 p33 p34 xs ea hb hf0 hf1 hf2 hf3 hf4 hf5 hf6 hf7 hf8 hf9 hf10 hf11 hf12 hf13 hf14 hS hU hV hW =>
        have e_f4 := hf4 (hw 4 (by decide))
        subst e_f4
        have Hhf0 := Lib.hid hf0
        have Hhf1 := Lib.hid hf1
        have Hhf2 := Lib.hid hf2
        have Hhf3 := Lib.hid hf3
        have Hhf4 := Lib.hid hf4
        have Hhf5 := Lib.hid hf5
        have Hhf6 := Lib.hid hf6
        have Hhf7 := Lib.hid hf7
        have Hhf8 := Lib.hid hf8
        have Hhf9 := Lib.hid hf9
        have Hhf10 := Lib.hid hf10
        have Hhf11 := Lib.hid hf11
        have Hhf12 := Lib.hid hf12
        have Hhf13 := Lib.hid hf13
        have Hhf14 := Lib.hid hf14
        have HhS := Lib.hid hS
        have HhU := Lib.hid hU
        have HhV := Lib.hid hV
        have HhW := Lib.hid hW
        have Hhb := Lib.hid hb
        have Hhw := Lib.hid hw
        clear hf0 hf1 hf2 hf3 hf4 hf5 hf6 hf7 hf8 hf9 hf10 hf11 hf12 hf13 hf14 hS hU hV hW hb hw
        rw [ea]
        clear ea
        simp only [Act.put, List.setIfInBounds_toArray, List.set_cons_zero, List.set_cons_succ]
        go_simp
        have hf0 := Hhf0.out
        have hf1 := Hhf1.out
        have hf2 := Hhf2.out
        have hf3 := Hhf3.out
        have hf4 := Hhf4.out
        have hf5 := Hhf5.out
        have hf6 := Hhf6.out
        have hf7 := Hhf7.out
        have hf8 := Hhf8.out
        have hf9 := Hhf9.out
        have hf10 := Hhf10.out
        have hf11 := Hhf11.out
        have hf12 := Hhf12.out
        have hf13 := Hhf13.out
        have hf14 := Hhf14.out
        have hS := HhS.out
        have hU := HhU.out
        have hV := HhV.out
        have hW := HhW.out
        have hb := Hhb.out
        have hw := Hhw.out
        refine hK.out _ _ ?_
        exact .mk p2 p3 p4 p20 p21 p22 p23 (.int .i64 cn) (.int .i64 mp) p26 p27 p28 p29 p30 p31 p32 p33 p34 xs (by simp only [Act.put, List.setIfInBounds_toArray, List.set_cons_zero, List.set_cons_succ, HM1.out]) (⟨hb.1, hb.2.1, hb.2.2.1, fun h => hb.2.2.2.1 (fun hu => h (up_old hu)), fun h => hb.2.2.2.2.1 (fun hu => h (up_old hu)), fun h => hb.2.2.2.2.2.1 (fun hu => h (up_old hu)), fun h => hb.2.2.2.2.2.2 (fun hu => h (up_old hu))⟩) (fun h => hf0 (up_back h (by decide))) (fun h => hf1 (up_back h (by decide))) (fun h => hf2 (up_back h (by decide))) (fun h => hf3 (up_back h (by decide))) (fun _ => rfl) (fun _ => rfl) (fun h => hf6 (up_back h (by decide))) (fun h => hf7 (up_back h (by decide))) (fun h => hf8 (up_back h (by decide))) (fun h => hf9 (up_back h (by decide))) (fun h => hf10 (up_back h (by decide))) (fun h => hf11 (up_back h (by decide))) (fun h => hf12 (up_back h (by decide))) (fun h => hf13 (up_back h (by decide))) (fun h => hf14 (up_back h (by decide))) (fun h => ⟨up_old (hS (up_back h (by decide))).1, (hS (up_back h (by decide))).2⟩) (fun h => ⟨up_old (hU (up_back h (by decide))).1, up_old (hU (up_back h (by decide))).2.1, (hU (up_back h (by decide))).2.2⟩) (fun h => ⟨up_old (hV (up_back h (by decide))).1, (hV (up_back h (by decide))).2⟩) (fun h => ⟨up_old (hW (up_back h (by decide))).1, (hW (up_back h (by decide))).2⟩)
    refine StepsL.cons (k := 6) rfl (fun listed a1 w1 hI hn hw K hK => ?_) ?_
    · cases hI with | mk p2 p3 p4 p20 p21 p22 p23 p24 p25 p26 p27 p28 p29 p30 p31 p32 p33 p34 xs ea hb hf0 hf1 hf2 hf3 hf4 hf5 hf6 hf7 hf8 hf9 hf10 hf11 hf12 hf13 hf14 hS hU hV hW =>
        have e_f2 := hf2 (hw 2 (by decide))
        have e_f5 := hf5 (hw 5 (by decide))
        subst e_f2 e_f5
        have hm2 := HM2.out
        have Hhf0 := Lib.hid hf0
        have Hhf1 := Lib.hid hf1
        have Hhf2 := Lib.hid hf2
        have Hhf3 := Lib.hid hf3
        have Hhf4 := Lib.hid hf4
        have Hhf5 := Lib.hid hf5
        have Hhf6 := Lib.hid hf6
        have Hhf7 := Lib.hid hf7
        have Hhf8 := Lib.hid hf8
        have Hhf9 := Lib.hid hf9
        have Hhf10 := Lib.hid hf10
        have Hhf11 := Lib.hid hf11
        have Hhf12 := Lib.hid hf12
        have Hhf13 := Lib.hid hf13
        have Hhf14 := Lib.hid hf14
        have HhS := Lib.hid hS
        have HhU := Lib.hid hU
        have HhV := Lib.hid hV
        have HhW := Lib.hid hW
        have Hhb := Lib.hid hb
        have Hhw := Lib.hid hw
        clear hf0 hf1 hf2 hf3 hf4 hf5 hf6 hf7 hf8 hf9 hf10 hf11 hf12 hf13 hf14 hS hU hV hW hb hw
        rw [ea]
        clear ea
        simp only [Act.put, List.setIfInBounds_toArray, List.set_cons_zero, List.set_cons_succ]
        go_simp
        have hf0 := Hhf0.out
        have hf1 := Hhf1.out
        have hf2 := Hhf2.out
        have hf3 := Hhf3.out
        have hf4 := Hhf4.out
        have hf5 := Hhf5.out
        have hf6 := Hhf6.out
        have hf7 := Hhf7.out
        have hf8 := Hhf8.out
        have hf9 := Hhf9.out
        have hf10 := Hhf10.out
        have hf11 := Hhf11.out
        have hf12 := Hhf12.out
        have hf13 := Hhf13.out
        have hf14 := Hhf14.out
        have hS := HhS.out
        have hU := HhU.out
        have hV := HhV.out
        have hW := HhW.out
        have hb := Hhb.out
        have hw := Hhw.out
        refine hK.out _ _ ?_
        exact .mk p2 p3 p4 p20 p21 (.slice ca cn cc) p23 p24 (.int .i64 mp) (.slice ca mp cc) p27 p28 p29 p30 p31 p32 p33 p34 xs (by simp only [Act.put, List.setIfInBounds_toArray, List.set_cons_zero, List.set_cons_succ]) (⟨hb.1, hb.2.1, hb.2.2.1, fun h => hb.2.2.2.1 (fun hu => h (up_old hu)), fun h => hb.2.2.2.2.1 (fun hu => h (up_old hu)), fun h => hb.2.2.2.2.2.1 (fun hu => h (up_old hu)), fun h => hb.2.2.2.2.2.2 (fun hu => h (up_old hu))⟩) (fun h => hf0 (up_back h (by decide))) (fun h => hf1 (up_back h (by decide))) (fun _ => rfl) (fun h => hf3 (up_back h (by decide))) (fun h => hf4 (up_back h (by decide))) (fun _ => rfl) (fun _ => rfl) (fun h => hf7 (up_back h (by decide))) (fun h => hf8 (up_back h (by decide))) (fun h => hf9 (up_back h (by decide))) (fun h => hf10 (up_back h (by decide))) (fun h => hf11 (up_back h (by decide))) (fun h => hf12 (up_back h (by decide))) (fun h => hf13 (up_back h (by decide))) (fun h => hf14 (up_back h (by decide))) (fun h => ⟨up_old (hS (up_back h (by decide))).1, (hS (up_back h (by decide))).2⟩) (fun h => ⟨up_old (hU (up_back h (by decide))).1, up_old (hU (up_back h (by decide))).2.1, (hU (up_back h (by decide))).2.2⟩) (fun h => ⟨up_old (hV (up_back h (by decide))).1, (hV (up_back h (by decide))).2⟩) (fun h => ⟨up_old (hW (up_back h (by decide))).1, (hW (up_back h (by decide))).2⟩)
    refine StepsL.cons (k := 7) rfl (fun listed a1 w1 hI hn hw K hK => ?_) ?_
    · cases hI with | mk p2 p3 p4 p20 p21 p22 p23 p24 p25 p26 p27 p28 p29 p30 p31 p32 p33 p34 xs ea hb hf0 hf1 hf2 hf3 hf4 hf5 hf6 hf7 hf8 hf9 hf10 hf11 hf12 hf13 hf14 hS hU hV hW =>
        have h8 : ¬ Up listed 17 := fun h => hn (hV h).1
        have hx := hb.2.2.2.2.2.1 h8
        subst hx
        have Hhf0 := Lib.hid hf0
        have Hhf1 := Lib.hid hf1
        have Hhf2 := Lib.hid hf2
        have Hhf3 := Lib.hid hf3
        have Hhf4 := Lib.hid hf4
        have Hhf5 := Lib.hid hf5
        have Hhf6 := Lib.hid hf6
        have Hhf7 := Lib.hid hf7
        have Hhf8 := Lib.hid hf8
        have Hhf9 := Lib.hid hf9
        have Hhf10 := Lib.hid hf10
        have Hhf11 := Lib.hid hf11
        have Hhf12 := Lib.hid hf12
        have Hhf13 := Lib.hid hf13
        have Hhf14 := Lib.hid hf14
        have HhS := Lib.hid hS
        have HhU := Lib.hid hU
        have HhV := Lib.hid hV
        have HhW := Lib.hid hW
        have Hhb := Lib.hid hb
        have Hhw := Lib.hid hw
        clear hf0 hf1 hf2 hf3 hf4 hf5 hf6 hf7 hf8 hf9 hf10 hf11 hf12 hf13 hf14 hS hU hV hW hb hw
        rw [ea]
        clear ea
        simp only [Act.put, List.setIfInBounds_toArray, List.set_cons_zero, List.set_cons_succ]
        go_simp
        have hf0 := Hhf0.out
        have hf1 := Hhf1.out
        have hf2 := Hhf2.out
        have hf3 := Hhf3.out
        have hf4 := Hhf4.out
        have hf5 := Hhf5.out
        have hf6 := Hhf6.out
        have hf7 := Hhf7.out
        have hf8 := Hhf8.out
        have hf9 := Hhf9.out
        have hf10 := Hhf10.out
        have hf11 := Hhf11.out
        have hf12 := Hhf12.out
        have hf13 := Hhf13.out
        have hf14 := Hhf14.out
        have hS := HhS.out
        have hU := HhU.out
        have hV := HhV.out
        have hW := HhW.out
        have hb := Hhb.out
        have hw := Hhw.out
        refine hK.out _ _ ?_
        exact .mk p2 (.int .i64 a3) p4 p20 p21 p22 p23 p24 p25 p26 (.int .i64 a3) p28 p29 p30 p31 p32 p33 p34 xs (by simp only [Act.put, List.setIfInBounds_toArray, List.set_cons_zero, List.set_cons_succ]) (⟨hb.1, hb.2.1, hb.2.2.1, fun h => hb.2.2.2.1 (fun hu => h (up_old hu)), fun h => hb.2.2.2.2.1 (fun hu => h (up_old hu)), fun h => hb.2.2.2.2.2.1 (fun hu => h (up_old hu)), fun h => hb.2.2.2.2.2.2 (fun hu => h (up_old hu))⟩) (fun h => hf0 (up_back h (by decide))) (fun h => hf1 (up_back h (by decide))) (fun h => hf2 (up_back h (by decide))) (fun h => hf3 (up_back h (by decide))) (fun h => hf4 (up_back h (by decide))) (fun h => hf5 (up_back h (by decide))) (fun h => hf6 (up_back h (by decide))) (fun _ => rfl) (fun h => hf8 (up_back h (by decide))) (fun h => hf9 (up_back h (by decide))) (fun h => hf10 (up_back h (by decide))) (fun h => hf11 (up_back h (by decide))) (fun h => hf12 (up_back h (by decide))) (fun h => hf13 (up_back h (by decide))) (fun h => hf14 (up_back h (by decide))) (fun h => ⟨up_old (hS (up_back h (by decide))).1, (hS (up_back h (by decide))).2⟩) (fun h => ⟨up_old (hU (up_back h (by decide))).1, up_old (hU (up_back h (by decide))).2.1, (hU (up_back h (by decide))).2.2⟩) (fun h => ⟨up_old (hV (up_back h (by decide))).1, (hV (up_back h (by decide))).2⟩) (fun h => ⟨up_old (hW (up_back h (by decide))).1, (hW (up_back h (by decide))).2⟩)
    refine StepsL.cons (k := 8) rfl (fun listed a1 w1 hI hn hw K hK => ?_) ?_
    · cases hI with | mk p2 p3 p4 p20 p21 p22 p23 p24 p25 p26 p27 p28 p29 p30 p31 p32 p33 p34 xs ea hb hf0 hf1 hf2 hf3 hf4 hf5 hf6 hf7 hf8 hf9 hf10 hf11 hf12 hf13 hf14 hS hU hV hW =>
        have e_f7 := hf7 (hw 7 (by decide))
        subst e_f7
        have Hhf0 := Lib.hid hf0
        have Hhf1 := Lib.hid hf1
        have Hhf2 := Lib.hid hf2
        have Hhf3 := Lib.hid hf3
        have Hhf4 := Lib.hid hf4
        have Hhf5 := Lib.hid hf5
        have Hhf6 := Lib.hid hf6
        have Hhf7 := Lib.hid hf7
        have Hhf8 := Lib.hid hf8
        have Hhf9 := Lib.hid hf9
        have Hhf10 := Lib.hid hf10
        have Hhf11 := Lib.hid hf11
        have Hhf12 := Lib.hid hf12
        have Hhf13 := Lib.hid hf13
        have Hhf14 := Lib.hid hf14
        have HhS := Lib.hid hS
        have HhU := Lib.hid hU
        have HhV := Lib.hid hV
        have HhW := Lib.hid hW
        have Hhb := Lib.hid hb
        have Hhw := Lib.hid hw
        clear hf0 hf1 hf2 hf3 hf4 hf5 hf6 hf7 hf8 hf9 hf10 hf11 hf12 hf13 hf14 hS hU hV hW hb hw
        rw [ea]
        clear ea
        simp only [Act.put, List.setIfInBounds_toArray, List.set_cons_zero, List.set_cons_succ]
        go_simp
        have hf0 := Hhf0.out
        have hf1 := Hhf1.out
        have hf2 := Hhf2.out
        have hf3 := Hhf3.out
        have hf4 := Hhf4.out
        have hf5 := Hhf5.out
        have hf6 := Hhf6.out
        have hf7 := Hhf7.out
        have hf8 := Hhf8.out
        have hf9 := Hhf9.out
        have hf10 := Hhf10.out
        have hf11 := Hhf11.out
        have hf12 := Hhf12.out
        have hf13 := Hhf13.out
        have hf14 := Hhf14.out
        have hS := HhS.out
        have hU := HhU.out
        have hV := HhV.out
        have hW := HhW.out
        have hb := Hhb.out
        have hw := Hhw.out
        refine hK.out _ _ ?_
        exact .mk p2 p3 p4 p20 p21 p22 p23 p24 p25 p26 (.int .i64 a3) (.int .i64 (a3.tmod 200)) p29 p30 p31 p32 p33 p34 xs (by simp only [Act.put, List.setIfInBounds_toArray, List.set_cons_zero, List.set_cons_succ]) (⟨hb.1, hb.2.1, hb.2.2.1, fun h => hb.2.2.2.1 (fun hu => h (up_old hu)), fun h => hb.2.2.2.2.1 (fun hu => h (up_old hu)), fun h => hb.2.2.2.2.2.1 (fun hu => h (up_old hu)), fun h => hb.2.2.2.2.2.2 (fun hu => h (up_old hu))⟩) (fun h => hf0 (up_back h (by decide))) (fun h => hf1 (up_back h (by decide))) (fun h => hf2 (up_back h (by decide))) (fun h => hf3 (up_back h (by decide))) (fun h => hf4 (up_back h (by decide))) (fun h => hf5 (up_back h (by decide))) (fun h => hf6 (up_back h (by decide))) (fun _ => rfl) (fun _ => rfl) (fun h => hf9 (up_back h (by decide))) (fun h => hf10 (up_back h (by decide))) (fun h => hf11 (up_back h (by decide))) (fun h => hf12 (up_back h (by decide))) (fun h => hf13 (up_back h (by decide))) (fun h => hf14 (up_back h (by decide))) (fun h => ⟨up_old (hS (up_back h (by decide))).1, (hS (up_back h (by decide))).2⟩) (fun h => ⟨up_old (hU (up_back h (by decide))).1, up_old (hU (up_back h (by decide))).2.1, (hU (up_back h (by decide))).2.2⟩) (fun h => ⟨up_old (hV (up_back h (by decide))).1, (hV (up_back h (by decide))).2⟩) (fun h => ⟨up_old (hW (up_back h (by decide))).1, (hW (up_back h (by decide))).2⟩)
    refine StepsL.cons (k := 9) rfl (fun listed a1 w1 hI hn hw K hK => ?_) ?_
    · cases hI with | mk p2 p3 p4 p20 p21 p22 p23 p24 p25 p26 p27 p28 p29 p30 p31 p32 p33 p34 xs ea hb hf0 hf1 hf2 hf3 hf4 hf5 hf6 hf7 hf8 hf9 hf10 hf11 hf12 hf13 hf14 hS hU hV hW =>
        have e_f8 := hf8 (hw 8 (by decide))
        subst e_f8
        have hwp := wrap_200 a3
        have Hhf0 := Lib.hid hf0
        have Hhf1 := Lib.hid hf1
        have Hhf2 := Lib.hid hf2
        have Hhf3 := Lib.hid hf3
        have Hhf4 := Lib.hid hf4
        have Hhf5 := Lib.hid hf5
        have Hhf6 := Lib.hid hf6
        have Hhf7 := Lib.hid hf7
        have Hhf8 := Lib.hid hf8
        have Hhf9 := Lib.hid hf9
        have Hhf10 := Lib.hid hf10
        have Hhf11 := Lib.hid hf11
        have Hhf12 := Lib.hid hf12
        have Hhf13 := Lib.hid hf13
        have Hhf14 := Lib.hid hf14
        have HhS := Lib.hid hS
        have HhU := Lib.hid hU
        have HhV := Lib.hid hV
        have HhW := Lib.hid hW
        have Hhb := Lib.hid hb
        have Hhw := Lib.hid hw
        clear hf0 hf1 hf2 hf3 hf4 hf5 hf6 hf7 hf8 hf9 hf10 hf11 hf12 hf13 hf14 hS hU hV hW hb hw
        rw [ea]
        clear ea
        simp only [Act.put, List.setIfInBounds_toArray, List.set_cons_zero, List.set_cons_succ]
        go_simp
        have hf0 := Hhf0.out
        have hf1 := Hhf1.out
        have hf2 := Hhf2.out
        have hf3 := Hhf3.out
        have hf4 := Hhf4.out
        have hf5 := Hhf5.out
        have hf6 := Hhf6.out
        have hf7 := Hhf7.out
        have hf8 := Hhf8.out
        have hf9 := Hhf9.out
        have hf10 := Hhf10.out
        have hf11 := Hhf11.out
        have hf12 := Hhf12.out
        have hf13 := Hhf13.out
        have hf14 := Hhf14.out
        have hS := HhS.out
        have hU := HhU.out
        have hV := HhV.out
        have hW := HhW.out
        have hb := Hhb.out
        have hw := Hhw.out
        refine hK.out _ _ ?_
        exact .mk p2 p3 p4 p20 p21 p22 p23 p24 p25 p26 p27 (.int .i64 (a3.tmod 200)) (.int .i64 (a3.tmod 200 + 200)) p30 p31 p32 p33 p34 xs (by simp only [Act.put, List.setIfInBounds_toArray, List.set_cons_zero, List.set_cons_succ, IntWalk.i64_left, wrap_200]) (⟨hb.1, hb.2.1, hb.2.2.1, fun h => hb.2.2.2.1 (fun hu => h (up_old hu)), fun h => hb.2.2.2.2.1 (fun hu => h (up_old hu)), fun h => hb.2.2.2.2.2.1 (fun hu => h (up_old hu)), fun h => hb.2.2.2.2.2.2 (fun hu => h (up_old hu))⟩) (fun h => hf0 (up_back h (by decide))) (fun h => hf1 (up_back h (by decide))) (fun h => hf2 (up_back h (by decide))) (fun h => hf3 (up_back h (by decide))) (fun h => hf4 (up_back h (by decide))) (fun h => hf5 (up_back h (by decide))) (fun h => hf6 (up_back h (by decide))) (fun h => hf7 (up_back h (by decide))) (fun _ => rfl) (fun _ => rfl) (fun h => hf10 (up_back h (by decide))) (fun h => hf11 (up_back h (by decide))) (fun h => hf12 (up_back h (by decide))) (fun h => hf13 (up_back h (by decide))) (fun h => hf14 (up_back h (by decide))) (fun h => ⟨up_old (hS (up_back h (by decide))).1, (hS (up_back h (by decide))).2⟩) (fun h => ⟨up_old (hU (up_back h (by decide))).1, up_old (hU (up_back h (by decide))).2.1, (hU (up_back h (by decide))).2.2⟩) (fun h => ⟨up_old (hV (up_back h (by decide))).1, (hV (up_back h (by decide))).2⟩) (fun h => ⟨up_old (hW (up_back h (by decide))).1, (hW (up_back h (by decide))).2⟩)
    refine StepsL.cons (k := 10) rfl (fun listed a1 w1 hI hn hw K hK => ?_) ?_
    · cases hI with | mk p2 p3 p4 p20 p21 p22 p23 p24 p25 p26 p27 p28 p29 p30 p31 p32 p33 p34 xs ea hb hf0 hf1 hf2 hf3 hf4 hf5 hf6 hf7 hf8 hf9 hf10 hf11 hf12 hf13 hf14 hS hU hV hW =>
        have e_f9 := hf9 (hw 9 (by decide))
        subst e_f9
        have Hhf0 := Lib.hid hf0
        have Hhf1 := Lib.hid hf1
        have Hhf2 := Lib.hid hf2
        have Hhf3 := Lib.hid hf3
        have Hhf4 := Lib.hid hf4
        have Hhf5 := Lib.hid hf5
        have Hhf6 := Lib.hid hf6
        have Hhf7 := Lib.hid hf7
        have Hhf8 := Lib.hid hf8
        have Hhf9 := Lib.hid hf9
        have Hhf10 := Lib.hid hf10
        have Hhf11 := Lib.hid hf11
        have Hhf12 := Lib.hid hf12
        have Hhf13 := Lib.hid hf13
        have Hhf14 := Lib.hid hf14
        have HhS := Lib.hid hS
        have HhU := Lib.hid hU
        have HhV := Lib.hid hV
        have HhW := Lib.hid hW
        have Hhb := Lib.hid hb
        have Hhw := Lib.hid hw
        clear hf0 hf1 hf2 hf3 hf4 hf5 hf6 hf7 hf8 hf9 hf10 hf11 hf12 hf13 hf14 hS hU hV hW hb hw
        rw [ea]
        clear ea
        simp only [Act.put, List.setIfInBounds_toArray, List.set_cons_zero, List.set_cons_succ]
        go_simp
        have hf0 := Hhf0.out
        have hf1 := Hhf1.out
        have hf2 := Hhf2.out
        have hf3 := Hhf3.out
        have hf4 := Hhf4.out
        have hf5 := Hhf5.out
        have hf6 := Hhf6.out
        have hf7 := Hhf7.out
        have hf8 := Hhf8.out
        have hf9 := Hhf9.out
        have hf10 := Hhf10.out
        have hf11 := Hhf11.out
        have hf12 := Hhf12.out
        have hf13 := Hhf13.out
        have hf14 := Hhf14.out
        have hS := HhS.out
        have hU := HhU.out
        have hV := HhV.out
        have hW := HhW.out
        have hb := Hhb.out
        have hw := Hhw.out
        refine hK.out _ _ ?_
        exact .mk p2 p3 p4 p20 p21 p22 p23 p24 p25 p26 p27 p28 (.int .i64 (a3.tmod 200 + 200)) (.int .i64 ((a3.tmod 200 + 200).tmod 200)) p31 p32 p33 p34 xs (by simp only [Act.put, List.setIfInBounds_toArray, List.set_cons_zero, List.set_cons_succ]) (⟨hb.1, hb.2.1, hb.2.2.1, fun h => hb.2.2.2.1 (fun hu => h (up_old hu)), fun h => hb.2.2.2.2.1 (fun hu => h (up_old hu)), fun h => hb.2.2.2.2.2.1 (fun hu => h (up_old hu)), fun h => hb.2.2.2.2.2.2 (fun hu => h (up_old hu))⟩) (fun h => hf0 (up_back h (by decide))) (fun h => hf1 (up_back h (by decide))) (fun h => hf2 (up_back h (by decide))) (fun h => hf3 (up_back h (by decide))) (fun h => hf4 (up_back h (by decide))) (fun h => hf5 (up_back h (by decide))) (fun h => hf6 (up_back h (by decide))) (fun h => hf7 (up_back h (by decide))) (fun h => hf8 (up_back h (by decide))) (fun _ => rfl) (fun _ => rfl) (fun h => hf11 (up_back h (by decide))) (fun h => hf12 (up_back h (by decide))) (fun h => hf13 (up_back h (by decide))) (fun h => hf14 (up_back h (by decide))) (fun h => ⟨up_old (hS (up_back h (by decide))).1, (hS (up_back h (by decide))).2⟩) (fun h => ⟨up_old (hU (up_back h (by decide))).1, up_old (hU (up_back h (by decide))).2.1, (hU (up_back h (by decide))).2.2⟩) (fun h => ⟨up_old (hV (up_back h (by decide))).1, (hV (up_back h (by decide))).2⟩) (fun h => ⟨up_old (hW (up_back h (by decide))).1, (hW (up_back h (by decide))).2⟩)
    refine StepsL.cons (k := 11) rfl (fun listed a1 w1 hI hn hw K hK => ?_) ?_
    · cases hI with | mk p2 p3 p4 p20 p21 p22 p23 p24 p25 p26 p27 p28 p29 p30 p31 p32 p33 p34 xs ea hb hf0 hf1 hf2 hf3 hf4 hf5 hf6 hf7 hf8 hf9 hf10 hf11 hf12 hf13 hf14 hS hU hV hW =>
        have h8 : ¬ Up listed 18 := fun h => hn (hW h).1
        have hx := hb.2.2.2.2.2.2 h8
        subst hx
        have Hhf0 := Lib.hid hf0
        have Hhf1 := Lib.hid hf1
        have Hhf2 := Lib.hid hf2
        have Hhf3 := Lib.hid hf3
        have Hhf4 := Lib.hid hf4
        have Hhf5 := Lib.hid hf5
        have Hhf6 := Lib.hid hf6
        have Hhf7 := Lib.hid hf7
        have Hhf8 := Lib.hid hf8
        have Hhf9 := Lib.hid hf9
        have Hhf10 := Lib.hid hf10
        have Hhf11 := Lib.hid hf11
        have Hhf12 := Lib.hid hf12
        have Hhf13 := Lib.hid hf13
        have Hhf14 := Lib.hid hf14
        have HhS := Lib.hid hS
        have HhU := Lib.hid hU
        have HhV := Lib.hid hV
        have HhW := Lib.hid hW
        have Hhb := Lib.hid hb
        have Hhw := Lib.hid hw
        clear hf0 hf1 hf2 hf3 hf4 hf5 hf6 hf7 hf8 hf9 hf10 hf11 hf12 hf13 hf14 hS hU hV hW hb hw
        rw [ea]
        clear ea
        simp only [Act.put, List.setIfInBounds_toArray, List.set_cons_zero, List.set_cons_succ]
        go_simp
        have hf0 := Hhf0.out
        have hf1 := Hhf1.out
        have hf2 := Hhf2.out
        have hf3 := Hhf3.out
        have hf4 := Hhf4.out
        have hf5 := Hhf5.out
        have hf6 := Hhf6.out
        have hf7 := Hhf7.out
        have hf8 := Hhf8.out
        have hf9 := Hhf9.out
        have hf10 := Hhf10.out
        have hf11 := Hhf11.out
        have hf12 := Hhf12.out
        have hf13 := Hhf13.out
        have hf14 := Hhf14.out
        have hS := HhS.out
        have hU := HhU.out
        have hV := HhV.out
        have hW := HhW.out
        have hb := Hhb.out
        have hw := Hhw.out
        refine hK.out _ _ ?_
        exact .mk p2 p3 (.int .i64 a4) p20 p21 p22 p23 p24 p25 p26 p27 p28 p29 p30 (.int .i64 a4) p32 p33 p34 xs (by simp only [Act.put, List.setIfInBounds_toArray, List.set_cons_zero, List.set_cons_succ]) (⟨hb.1, hb.2.1, hb.2.2.1, fun h => hb.2.2.2.1 (fun hu => h (up_old hu)), fun h => hb.2.2.2.2.1 (fun hu => h (up_old hu)), fun h => hb.2.2.2.2.2.1 (fun hu => h (up_old hu)), fun h => hb.2.2.2.2.2.2 (fun hu => h (up_old hu))⟩) (fun h => hf0 (up_back h (by decide))) (fun h => hf1 (up_back h (by decide))) (fun h => hf2 (up_back h (by decide))) (fun h => hf3 (up_back h (by decide))) (fun h => hf4 (up_back h (by decide))) (fun h => hf5 (up_back h (by decide))) (fun h => hf6 (up_back h (by decide))) (fun h => hf7 (up_back h (by decide))) (fun h => hf8 (up_back h (by decide))) (fun h => hf9 (up_back h (by decide))) (fun h => hf10 (up_back h (by decide))) (fun _ => rfl) (fun h => hf12 (up_back h (by decide))) (fun h => hf13 (up_back h (by decide))) (fun h => hf14 (up_back h (by decide))) (fun h => ⟨up_old (hS (up_back h (by decide))).1, (hS (up_back h (by decide))).2⟩) (fun h => ⟨up_old (hU (up_back h (by decide))).1, up_old (hU (up_back h (by decide))).2.1, (hU (up_back h (by decide))).2.2⟩) (fun h => ⟨up_old (hV (up_back h (by decide))).1, (hV (up_back h (by decide))).2⟩) (fun h => ⟨up_old (hW (up_back h (by decide))).1, (hW (up_back h (by decide))).2⟩)
    refine StepsL.cons (k := 12) rfl (fun listed a1 w1 hI hn hw K hK => ?_) ?_
    · cases hI with | mk p2 p3 p4 p20 p21 p22 p23 p24 p25 p26 p27 p28 p29 p30 p31 p32 p33 p34 xs ea hb hf0 hf1 hf2 hf3 hf4 hf5 hf6 hf7 hf8 hf9 hf10 hf11 hf12 hf13 hf14 hS hU hV hW =>
        have e_f11 := hf11 (hw 11 (by decide))
        subst e_f11
        have Hhf0 := Lib.hid hf0
        have Hhf1 := Lib.hid hf1
        have Hhf2 := Lib.hid hf2
        have Hhf3 := Lib.hid hf3
        have Hhf4 := Lib.hid hf4
        have Hhf5 := Lib.hid hf5
        have Hhf6 := Lib.hid hf6
        have Hhf7 := Lib.hid hf7
        have Hhf8 := Lib.hid hf8
        have Hhf9 := Lib.hid hf9
        have Hhf10 := Lib.hid hf10
        have Hhf11 := Lib.hid hf11
        have Hhf12 := Lib.hid hf12
        have Hhf13 := Lib.hid hf13
        have Hhf14 := Lib.hid hf14
        have HhS := Lib.hid hS
        have HhU := Lib.hid hU
        have HhV := Lib.hid hV
        have HhW := Lib.hid hW
        have Hhb := Lib.hid hb
        have Hhw := Lib.hid hw
        clear hf0 hf1 hf2 hf3 hf4 hf5 hf6 hf7 hf8 hf9 hf10 hf11 hf12 hf13 hf14 hS hU hV hW hb hw
        rw [ea]
        clear ea
        simp only [Act.put, List.setIfInBounds_toArray, List.set_cons_zero, List.set_cons_succ]
        go_simp
        have hf0 := Hhf0.out
        have hf1 := Hhf1.out
        have hf2 := Hhf2.out
        have hf3 := Hhf3.out
        have hf4 := Hhf4.out
        have hf5 := Hhf5.out
        have hf6 := Hhf6.out
        have hf7 := Hhf7.out
        have hf8 := Hhf8.out
        have hf9 := Hhf9.out
        have hf10 := Hhf10.out
        have hf11 := Hhf11.out
        have hf12 := Hhf12.out
        have hf13 := Hhf13.out
        have hf14 := Hhf14.out
        have hS := HhS.out
        have hU := HhU.out
        have hV := HhV.out
        have hW := HhW.out
        have hb := Hhb.out
        have hw := Hhw.out
        refine hK.out _ _ ?_
        exact .mk p2 p3 p4 p20 p21 p22 p23 p24 p25 p26 p27 p28 p29 p30 (.int .i64 a4) (.int .i64 (a4.tmod 200)) p33 p34 xs (by simp only [Act.put, List.setIfInBounds_toArray, List.set_cons_zero, List.set_cons_succ]) (⟨hb.1, hb.2.1, hb.2.2.1, fun h => hb.2.2.2.1 (fun hu => h (up_old hu)), fun h => hb.2.2.2.2.1 (fun hu => h (up_old hu)), fun h => hb.2.2.2.2.2.1 (fun hu => h (up_old hu)), fun h => hb.2.2.2.2.2.2 (fun hu => h (up_old hu))⟩) (fun h => hf0 (up_back h (by decide))) (fun h => hf1 (up_back h (by decide))) (fun h => hf2 (up_back h (by decide))) (fun h => hf3 (up_back h (by decide))) (fun h => hf4 (up_back h (by decide))) (fun h => hf5 (up_back h (by decide))) (fun h => hf6 (up_back h (by decide))) (fun h => hf7 (up_back h (by decide))) (fun h => hf8 (up_back h (by decide))) (fun h => hf9 (up_back h (by decide))) (fun h => hf10 (up_back h (by decide))) (fun _ => rfl) (fun _ => rfl) (fun h => hf13 (up_back h (by decide))) (fun h => hf14 (up_back h (by decide))) (fun h => ⟨up_old (hS (up_back h (by decide))).1, (hS (up_back h (by decide))).2⟩) (fun h => ⟨up_old (hU (up_back h (by decide))).1, up_old (hU (up_back h (by decide))).2.1, (hU (up_back h (by decide))).2.2⟩) (fun h => ⟨up_old (hV (up_back h (by decide))).1, (hV (up_back h (by decide))).2⟩) (fun h => ⟨up_old (hW (up_back h (by decide))).1, (hW (up_back h (by decide))).2⟩)
    refine StepsL.cons (k := 13) rfl (fun listed a1 w1 hI hn hw K hK => ?_) ?_
    · cases hI with | mk p2 p3 p4 p20 p21 p22 p23 p24 p25 p26 p27 p28 p29 p30 p31 p32 p33 p34 xs ea hb hf0 hf1 hf2 hf3 hf4 hf5 hf6 hf7 hf8 hf9 hf10 hf11 hf12 hf13 hf14 hS hU hV hW =>
        have e_f12 := hf12 (hw 12 (by decide))
        subst e_f12
        have hwp := wrap_200 a4
        have Hhf0 := Lib.hid hf0
        have Hhf1 := Lib.hid hf1
        have Hhf2 := Lib.hid hf2
        have Hhf3 := Lib.hid hf3
        have Hhf4 := Lib.hid hf4
        have Hhf5 := Lib.hid hf5
        have Hhf6 := Lib.hid hf6
        have Hhf7 := Lib.hid hf7
        have Hhf8 := Lib.hid hf8
        have Hhf9 := Lib.hid hf9
        have Hhf10 := Lib.hid hf10
        have Hhf11 := Lib.hid hf11
        have Hhf12 := Lib.hid hf12
        have Hhf13 := Lib.hid hf13
        have Hhf14 := Lib.hid hf14
        have HhS := Lib.hid hS
        have HhU := Lib.hid hU
        have HhV := Lib.hid hV
        have HhW := Lib.hid hW
        have Hhb := Lib.hid hb
        have Hhw := Lib.hid hw
        clear hf0 hf1 hf2 hf3 hf4 hf5 hf6 hf7 hf8 hf9 hf10 hf11 hf12 hf13 hf14 hS hU hV hW hb hw
        rw [ea]
        clear ea
        simp only [Act.put, List.setIfInBounds_toArray, List.set_cons_zero, List.set_cons_succ]
        go_simp
        have hf0 := Hhf0.out
        have hf1 := Hhf1.out
        have hf2 := Hhf2.out
        have hf3 := Hhf3.out
        have hf4 := Hhf4.out
        have hf5 := Hhf5.out
        have hf6 := Hhf6.out
        have hf7 := Hhf7.out
        have hf8 := Hhf8.out
        have hf9 := Hhf9.out
        have hf10 := Hhf10.out
        have hf11 := Hhf11.out
        have hf12 := Hhf12.out
        have hf13 := Hhf13.out
        have hf14 := Hhf14.out
        have hS := HhS.out
        have hU := HhU.out
        have hV := HhV.out
        have hW := HhW.out
        have hb := Hhb.out
        have hw := Hhw.out
        refine hK.out _ _ ?_
        exact .mk p2 p3 p4 p20 p21 p22 p23 p24 p25 p26 p27 p28 p29 p30 p31 (.int .i64 (a4.tmod 200)) (.int .i64 (a4.tmod 200 + 200)) p34 xs (by simp only [Act.put, List.setIfInBounds_toArray, List.set_cons_zero, List.set_cons_succ, IntWalk.i64_left, wrap_200]) (⟨hb.1, hb.2.1, hb.2.2.1, fun h => hb.2.2.2.1 (fun hu => h (up_old hu)), fun h => hb.2.2.2.2.1 (fun hu => h (up_old hu)), fun h => hb.2.2.2.2.2.1 (fun hu => h (up_old hu)), fun h => hb.2.2.2.2.2.2 (fun hu => h (up_old hu))⟩) (fun h => hf0 (up_back h (by decide))) (fun h => hf1 (up_back h (by decide))) (fun h => hf2 (up_back h (by decide))) (fun h => hf3 (up_back h (by decide))) (fun h => hf4 (up_back h (by decide))) (fun h => hf5 (up_back h (by decide))) (fun h => hf6 (up_back h (by decide))) (fun h => hf7 (up_back h (by decide))) (fun h => hf8 (up_back h (by decide))) (fun h => hf9 (up_back h (by decide))) (fun h => hf10 (up_back h (by decide))) (fun h => hf11 (up_back h (by decide))) (fun _ => rfl) (fun _ => rfl) (fun h => hf14 (up_back h (by decide))) (fun h => ⟨up_old (hS (up_back h (by decide))).1, (hS (up_back h (by decide))).2⟩) (fun h => ⟨up_old (hU (up_back h (by decide))).1, up_old (hU (up_back h (by decide))).2.1, (hU (up_back h (by decide))).2.2⟩) (fun h => ⟨up_old (hV (up_back h (by decide))).1, (hV (up_back h (by decide))).2⟩) (fun h => ⟨up_old (hW (up_back h (by decide))).1, (hW (up_back h (by decide))).2⟩)
    refine StepsL.cons (k := 14) rfl (fun listed a1 w1 hI hn hw K hK => ?_) ?_
    · cases hI with | mk p2 p3 p4 p20 p21 p22 p23 p24 p25 p26 p27 p28 p29 p30 p31 p32 p33 p34 xs ea hb hf0 hf1 hf2 hf3 hf4 hf5 hf6 hf7 hf8 hf9 hf10 hf11 hf12 hf13 hf14 hS hU hV hW =>
        have e_f13 := hf13 (hw 13 (by decide))
        subst e_f13
        have Hhf0 := Lib.hid hf0
        have Hhf1 := Lib.hid hf1
        have Hhf2 := Lib.hid hf2
        have Hhf3 := Lib.hid hf3
        have Hhf4 := Lib.hid hf4
        have Hhf5 := Lib.hid hf5
        have Hhf6 := Lib.hid hf6
        have Hhf7 := Lib.hid hf7
        have Hhf8 := Lib.hid hf8
        have Hhf9 := Lib.hid hf9
        have Hhf10 := Lib.hid hf10
        have Hhf11 := Lib.hid hf11
        have Hhf12 := Lib.hid hf12
        have Hhf13 := Lib.hid hf13
        have Hhf14 := Lib.hid hf14
        have HhS := Lib.hid hS
        have HhU := Lib.hid hU
        have HhV := Lib.hid hV
        have HhW := Lib.hid hW
        have Hhb := Lib.hid hb
        have Hhw := Lib.hid hw
        clear hf0 hf1 hf2 hf3 hf4 hf5 hf6 hf7 hf8 hf9 hf10 hf11 hf12 hf13 hf14 hS hU hV hW hb hw
        rw [ea]
        clear ea
        simp only [Act.put, List.setIfInBounds_toArray, List.set_cons_zero, List.set_cons_succ]
        go_simp
        have hf0 := Hhf0.out
        have hf1 := Hhf1.out
        have hf2 := Hhf2.out
        have hf3 := Hhf3.out
        have hf4 := Hhf4.out
        have hf5 := Hhf5.out
        have hf6 := Hhf6.out
        have hf7 := Hhf7.out
        have hf8 := Hhf8.out
        have hf9 := Hhf9.out
        have hf10 := Hhf10.out
        have hf11 := Hhf11.out
        have hf12 := Hhf12.out
        have hf13 := Hhf13.out
        have hf14 := Hhf14.out
        have hS := HhS.out
        have hU := HhU.out
        have hV := HhV.out
        have hW := HhW.out
        have hb := Hhb.out
        have hw := Hhw.out
        refine hK.out _ _ ?_
        exact .mk p2 p3 p4 p20 p21 p22 p23 p24 p25 p26 p27 p28 p29 p30 p31 p32 (.int .i64 (a4.tmod 200 + 200)) (.int .i64 ((a4.tmod 200 + 200).tmod 200)) xs (by simp only [Act.put, List.setIfInBounds_toArray, List.set_cons_zero, List.set_cons_succ]) (⟨hb.1, hb.2.1, hb.2.2.1, fun h => hb.2.2.2.1 (fun hu => h (up_old hu)), fun h => hb.2.2.2.2.1 (fun hu => h (up_old hu)), fun h => hb.2.2.2.2.2.1 (fun hu => h (up_old hu)), fun h => hb.2.2.2.2.2.2 (fun hu => h (up_old hu))⟩) (fun h => hf0 (up_back h (by decide))) (fun h => hf1 (up_back h (by decide))) (fun h => hf2 (up_back h (by decide))) (fun h => hf3 (up_back h (by decide))) (fun h => hf4 (up_back h (by decide))) (fun h => hf5 (up_back h (by decide))) (fun h => hf6 (up_back h (by decide))) (fun h => hf7 (up_back h (by decide))) (fun h => hf8 (up_back h (by decide))) (fun h => hf9 (up_back h (by decide))) (fun h => hf10 (up_back h (by decide))) (fun h => hf11 (up_back h (by decide))) (fun h => hf12 (up_back h (by decide))) (fun _ => rfl) (fun _ => rfl) (fun h => ⟨up_old (hS (up_back h (by decide))).1, (hS (up_back h (by decide))).2⟩) (fun h => ⟨up_old (hU (up_back h (by decide))).1, up_old (hU (up_back h (by decide))).2.1, (hU (up_back h (by decide))).2.2⟩) (fun h => ⟨up_old (hV (up_back h (by decide))).1, (hV (up_back h (by decide))).2⟩) (fun h => ⟨up_old (hW (up_back h (by decide))).1, (hW (up_back h (by decide))).2⟩)
    refine StepsL.cons (k := 15) rfl (fun listed a1 w1 hI hn hw K hK => ?_) ?_
    · cases hI with | mk p2 p3 p4 p20 p21 p22 p23 p24 p25 p26 p27 p28 p29 p30 p31 p32 p33 p34 xs ea hb hf0 hf1 hf2 hf3 hf4 hf5 hf6 hf7 hf8 hf9 hf10 hf11 hf12 hf13 hf14 hS hU hV hW =>
        have e_f1 := hf1 (hw 1 (by decide))
        subst e_f1
        have hl13 := hb.2.2.1
        have Hhf0 := Lib.hid hf0
        have Hhf1 := Lib.hid hf1
        have Hhf2 := Lib.hid hf2
        have Hhf3 := Lib.hid hf3
        have Hhf4 := Lib.hid hf4
        have Hhf5 := Lib.hid hf5
        have Hhf6 := Lib.hid hf6
        have Hhf7 := Lib.hid hf7
        have Hhf8 := Lib.hid hf8
        have Hhf9 := Lib.hid hf9
        have Hhf10 := Lib.hid hf10
        have Hhf11 := Lib.hid hf11
        have Hhf12 := Lib.hid hf12
        have Hhf13 := Lib.hid hf13
        have Hhf14 := Lib.hid hf14
        have HhS := Lib.hid hS
        have HhU := Lib.hid hU
        have HhV := Lib.hid hV
        have HhW := Lib.hid hW
        have Hhb := Lib.hid hb
        have Hhw := Lib.hid hw
        clear hf0 hf1 hf2 hf3 hf4 hf5 hf6 hf7 hf8 hf9 hf10 hf11 hf12 hf13 hf14 hS hU hV hW hb hw
        rw [ea]
        clear ea
        simp only [Act.put, List.setIfInBounds_toArray, List.set_cons_zero, List.set_cons_succ]
        refine step_pos (by rfl) ?_
        refine wp_store_var 27 _ _ rfl w.heap.size #[.int .i64 u.pc, .int .i64 (u.r 0), .int .i64 (u.r 1), .int .i64 (u.r 2), .int .i64 (u.r 3), .int .i64 (u.r 4), .int .i64 (u.r 5), .int .i64 (u.r 6), .int .i64 (u.r 7), .slice fa m9 fc, .int .i64 u.st, .int .i64 u.ft, .slice la m12 lc] rfl rfl xs Hhb.out.2.1 Hhb.out.2.2.1.symm (by kernel_rfl) (one_thr _ _ _ _ _ _ _) ?_
        intro U HU
        have hf0 := Hhf0.out
        have hf1 := Hhf1.out
        have hf2 := Hhf2.out
        have hf3 := Hhf3.out
        have hf4 := Hhf4.out
        have hf5 := Hhf5.out
        have hf6 := Hhf6.out
        have hf7 := Hhf7.out
        have hf8 := Hhf8.out
        have hf9 := Hhf9.out
        have hf10 := Hhf10.out
        have hf11 := Hhf11.out
        have hf12 := Hhf12.out
        have hf13 := Hhf13.out
        have hf14 := Hhf14.out
        have hS := HhS.out
        have hU := HhU.out
        have hV := HhV.out
        have hW := HhW.out
        have hb := Hhb.out
        have hw := Hhw.out
        refine hK.out _ _ ?_
        exact .mk p2 p3 p4 p20 (.agg #[.int .i64 u.pc, .int .i64 (u.r 0), .int .i64 (u.r 1), .int .i64 (u.r 2), .int .i64 (u.r 3), .int .i64 (u.r 4), .int .i64 (u.r 5), .int .i64 (u.r 6), .int .i64 (u.r 7), .slice fa m9 fc, .int .i64 u.st, .int .i64 u.ft, .slice la m12 lc]) p22 p23 p24 p25 p26 p27 p28 p29 p30 p31 p32 p33 p34 [.int .i64 u.pc, .int .i64 (u.r 0), .int .i64 (u.r 1), .int .i64 (u.r 2), .int .i64 (u.r 3), .int .i64 (u.r 4), .int .i64 (u.r 5), .int .i64 (u.r 6), .int .i64 (u.r 7), .slice fa m9 fc, .int .i64 u.st, .int .i64 u.ft, .slice la m12 lc] (by simp only [Act.put, List.setIfInBounds_toArray, List.set_cons_zero, List.set_cons_succ]) (⟨below_set HU (Nat.le_refl _) hb.1, by rw [HU.out]; exact varN_all (xs := [.int .i64 u.pc, .int .i64 (u.r 0), .int .i64 (u.r 1), .int .i64 (u.r 2), .int .i64 (u.r 3), .int .i64 (u.r 4), .int .i64 (u.r 5), .int .i64 (u.r 6), .int .i64 (u.r 7), .slice fa m9 fc, .int .i64 u.st, .int .i64 u.ft, .slice la m12 lc]) hb.2.1 hb.2.2.1.symm, rfl, fun h => absurd up_self h, fun h => hb.2.2.2.2.1 (fun hu => h (up_old hu)), fun h => hb.2.2.2.2.2.1 (fun hu => h (up_old hu)), fun h => hb.2.2.2.2.2.2 (fun hu => h (up_old hu))⟩) (fun h => hf0 (up_back h (by decide))) (fun _ => rfl) (fun h => hf2 (up_back h (by decide))) (fun h => hf3 (up_back h (by decide))) (fun h => hf4 (up_back h (by decide))) (fun h => hf5 (up_back h (by decide))) (fun h => hf6 (up_back h (by decide))) (fun h => hf7 (up_back h (by decide))) (fun h => hf8 (up_back h (by decide))) (fun h => hf9 (up_back h (by decide))) (fun h => hf10 (up_back h (by decide))) (fun h => hf11 (up_back h (by decide))) (fun h => hf12 (up_back h (by decide))) (fun h => hf13 (up_back h (by decide))) (fun h => hf14 (up_back h (by decide))) (fun _ => ⟨up_old (hw 0 (by decide)), rfl⟩) (fun h => ⟨up_old (hU (up_back h (by decide))).1, up_old (hU (up_back h (by decide))).2.1, (hU (up_back h (by decide))).2.2⟩) (fun h => ⟨up_old (hV (up_back h (by decide))).1, (hV (up_back h (by decide))).2⟩) (fun h => ⟨up_old (hW (up_back h (by decide))).1, (hW (up_back h (by decide))).2⟩)
    refine StepsL.cons (k := 16) rfl (fun listed a1 w1 hI hn hw K hK => ?_) ?_
    · cases hI with | mk p2 p3 p4 p20 p21 p22 p23 p24 p25 p26 p27 p28 p29 p30 p31 p32 p33 p34 xs ea hb hf0 hf1 hf2 hf3 hf4 hf5 hf6 hf7 hf8 hf9 hf10 hf11 hf12 hf13 hf14 hS hU hV hW =>
        have e_f6 := hf6 (hw 6 (by decide))
        subst e_f6
        have Hhf0 := Lib.hid hf0
        have Hhf1 := Lib.hid hf1
        have Hhf2 := Lib.hid hf2
        have Hhf3 := Lib.hid hf3
        have Hhf4 := Lib.hid hf4
        have Hhf5 := Lib.hid hf5
        have Hhf6 := Lib.hid hf6
        have Hhf7 := Lib.hid hf7
        have Hhf8 := Lib.hid hf8
        have Hhf9 := Lib.hid hf9
        have Hhf10 := Lib.hid hf10
        have Hhf11 := Lib.hid hf11
        have Hhf12 := Lib.hid hf12
        have Hhf13 := Lib.hid hf13
        have Hhf14 := Lib.hid hf14
        have HhS := Lib.hid hS
        have HhU := Lib.hid hU
        have HhV := Lib.hid hV
        have HhW := Lib.hid hW
        have Hhb := Lib.hid hb
        have Hhw := Lib.hid hw
        clear hf0 hf1 hf2 hf3 hf4 hf5 hf6 hf7 hf8 hf9 hf10 hf11 hf12 hf13 hf14 hS hU hV hW hb hw
        rw [ea]
        clear ea
        simp only [Act.put, List.setIfInBounds_toArray, List.set_cons_zero, List.set_cons_succ]
        go_simp
        have hf0 := Hhf0.out
        have hf1 := Hhf1.out
        have hf2 := Hhf2.out
        have hf3 := Hhf3.out
        have hf4 := Hhf4.out
        have hf5 := Hhf5.out
        have hf6 := Hhf6.out
        have hf7 := Hhf7.out
        have hf8 := Hhf8.out
        have hf9 := Hhf9.out
        have hf10 := Hhf10.out
        have hf11 := Hhf11.out
        have hf12 := Hhf12.out
        have hf13 := Hhf13.out
        have hf14 := Hhf14.out
        have hS := HhS.out
        have hU := HhU.out
        have hV := HhV.out
        have hW := HhW.out
        have hb := Hhb.out
        have hw := Hhw.out
        refine hK.out _ _ ?_
        exact .mk (.slice ca mp cc) p3 p4 p20 p21 p22 p23 p24 p25 (.slice ca mp cc) p27 p28 p29 p30 p31 p32 p33 p34 xs (by simp only [Act.put, List.setIfInBounds_toArray, List.set_cons_zero, List.set_cons_succ]) (⟨hb.1, hb.2.1, hb.2.2.1, fun h => hb.2.2.2.1 (fun hu => h (up_old hu)), fun h => absurd up_self h, fun h => hb.2.2.2.2.2.1 (fun hu => h (up_old hu)), fun h => hb.2.2.2.2.2.2 (fun hu => h (up_old hu))⟩) (fun h => hf0 (up_back h (by decide))) (fun h => hf1 (up_back h (by decide))) (fun h => hf2 (up_back h (by decide))) (fun h => hf3 (up_back h (by decide))) (fun h => hf4 (up_back h (by decide))) (fun h => hf5 (up_back h (by decide))) (fun _ => rfl) (fun h => hf7 (up_back h (by decide))) (fun h => hf8 (up_back h (by decide))) (fun h => hf9 (up_back h (by decide))) (fun h => hf10 (up_back h (by decide))) (fun h => hf11 (up_back h (by decide))) (fun h => hf12 (up_back h (by decide))) (fun h => hf13 (up_back h (by decide))) (fun h => hf14 (up_back h (by decide))) (fun h => ⟨up_old (hS (up_back h (by decide))).1, (hS (up_back h (by decide))).2⟩) (fun _ => ⟨up_old (hw 2 (by decide)), up_old (hw 3 (by decide)), rfl⟩) (fun h => ⟨up_old (hV (up_back h (by decide))).1, (hV (up_back h (by decide))).2⟩) (fun h => ⟨up_old (hW (up_back h (by decide))).1, (hW (up_back h (by decide))).2⟩)
    refine StepsL.cons (k := 17) rfl (fun listed a1 w1 hI hn hw K hK => ?_) ?_
    · cases hI with | mk p2 p3 p4 p20 p21 p22 p23 p24 p25 p26 p27 p28 p29 p30 p31 p32 p33 p34 xs ea hb hf0 hf1 hf2 hf3 hf4 hf5 hf6 hf7 hf8 hf9 hf10 hf11 hf12 hf13 hf14 hS hU hV hW =>
        have e_f10 := hf10 (hw 10 (by decide))
        subst e_f10
        have Hhf0 := Lib.hid hf0
        have Hhf1 := Lib.hid hf1
        have Hhf2 := Lib.hid hf2
        have Hhf3 := Lib.hid hf3
        have Hhf4 := Lib.hid hf4
        have Hhf5 := Lib.hid hf5
        have Hhf6 := Lib.hid hf6
        have Hhf7 := Lib.hid hf7
        have Hhf8 := Lib.hid hf8
        have Hhf9 := Lib.hid hf9
        have Hhf10 := Lib.hid hf10
        have Hhf11 := Lib.hid hf11
        have Hhf12 := Lib.hid hf12
        have Hhf13 := Lib.hid hf13
        have Hhf14 := Lib.hid hf14
        have HhS := Lib.hid hS
        have HhU := Lib.hid hU
        have HhV := Lib.hid hV
        have HhW := Lib.hid hW
        have Hhb := Lib.hid hb
        have Hhw := Lib.hid hw
        clear hf0 hf1 hf2 hf3 hf4 hf5 hf6 hf7 hf8 hf9 hf10 hf11 hf12 hf13 hf14 hS hU hV hW hb hw
        rw [ea]
        clear ea
        simp only [Act.put, List.setIfInBounds_toArray, List.set_cons_zero, List.set_cons_succ]
        go_simp
        have hf0 := Hhf0.out
        have hf1 := Hhf1.out
        have hf2 := Hhf2.out
        have hf3 := Hhf3.out
        have hf4 := Hhf4.out
        have hf5 := Hhf5.out
        have hf6 := Hhf6.out
        have hf7 := Hhf7.out
        have hf8 := Hhf8.out
        have hf9 := Hhf9.out
        have hf10 := Hhf10.out
        have hf11 := Hhf11.out
        have hf12 := Hhf12.out
        have hf13 := Hhf13.out
        have hf14 := Hhf14.out
        have hS := HhS.out
        have hU := HhU.out
        have hV := HhV.out
        have hW := HhW.out
        have hb := Hhb.out
        have hw := Hhw.out
        refine hK.out _ _ ?_
        exact .mk p2 (.int .i64 ((a3.tmod 200 + 200).tmod 200)) p4 p20 p21 p22 p23 p24 p25 p26 p27 p28 p29 (.int .i64 ((a3.tmod 200 + 200).tmod 200)) p31 p32 p33 p34 xs (by simp only [Act.put, List.setIfInBounds_toArray, List.set_cons_zero, List.set_cons_succ]) (⟨hb.1, hb.2.1, hb.2.2.1, fun h => hb.2.2.2.1 (fun hu => h (up_old hu)), fun h => hb.2.2.2.2.1 (fun hu => h (up_old hu)), fun h => absurd up_self h, fun h => hb.2.2.2.2.2.2 (fun hu => h (up_old hu))⟩) (fun h => hf0 (up_back h (by decide))) (fun h => hf1 (up_back h (by decide))) (fun h => hf2 (up_back h (by decide))) (fun h => hf3 (up_back h (by decide))) (fun h => hf4 (up_back h (by decide))) (fun h => hf5 (up_back h (by decide))) (fun h => hf6 (up_back h (by decide))) (fun h => hf7 (up_back h (by decide))) (fun h => hf8 (up_back h (by decide))) (fun h => hf9 (up_back h (by decide))) (fun _ => rfl) (fun h => hf11 (up_back h (by decide))) (fun h => hf12 (up_back h (by decide))) (fun h => hf13 (up_back h (by decide))) (fun h => hf14 (up_back h (by decide))) (fun h => ⟨up_old (hS (up_back h (by decide))).1, (hS (up_back h (by decide))).2⟩) (fun h => ⟨up_old (hU (up_back h (by decide))).1, up_old (hU (up_back h (by decide))).2.1, (hU (up_back h (by decide))).2.2⟩) (fun _ => ⟨up_old (hw 7 (by decide)), rfl⟩) (fun h => ⟨up_old (hW (up_back h (by decide))).1, (hW (up_back h (by decide))).2⟩)
    refine StepsL.cons (k := 18) rfl (fun listed a1 w1 hI hn hw K hK => ?_) ?_
    · cases hI with | mk p2 p3 p4 p20 p21 p22 p23 p24 p25 p26 p27 p28 p29 p30 p31 p32 p33 p34 xs ea hb hf0 hf1 hf2 hf3 hf4 hf5 hf6 hf7 hf8 hf9 hf10 hf11 hf12 hf13 hf14 hS hU hV hW =>
        have e_f14 := hf14 (hw 14 (by decide))
        subst e_f14
        have Hhf0 := Lib.hid hf0
        have Hhf1 := Lib.hid hf1
        have Hhf2 := Lib.hid hf2
        have Hhf3 := Lib.hid hf3
        have Hhf4 := Lib.hid hf4
        have Hhf5 := Lib.hid hf5
        have Hhf6 := Lib.hid hf6
        have Hhf7 := Lib.hid hf7
        have Hhf8 := Lib.hid hf8
        have Hhf9 := Lib.hid hf9
        have Hhf10 := Lib.hid hf10
        have Hhf11 := Lib.hid hf11
        have Hhf12 := Lib.hid hf12
        have Hhf13 := Lib.hid hf13
        have Hhf14 := Lib.hid hf14
        have HhS := Lib.hid hS
        have HhU := Lib.hid hU
        have HhV := Lib.hid hV
        have HhW := Lib.hid hW
        have Hhb := Lib.hid hb
        have Hhw := Lib.hid hw
        clear hf0 hf1 hf2 hf3 hf4 hf5 hf6 hf7 hf8 hf9 hf10 hf11 hf12 hf13 hf14 hS hU hV hW hb hw
        rw [ea]
        clear ea
        simp only [Act.put, List.setIfInBounds_toArray, List.set_cons_zero, List.set_cons_succ]
        go_simp
        have hf0 := Hhf0.out
        have hf1 := Hhf1.out
        have hf2 := Hhf2.out
        have hf3 := Hhf3.out
        have hf4 := Hhf4.out
        have hf5 := Hhf5.out
        have hf6 := Hhf6.out
        have hf7 := Hhf7.out
        have hf8 := Hhf8.out
        have hf9 := Hhf9.out
        have hf10 := Hhf10.out
        have hf11 := Hhf11.out
        have hf12 := Hhf12.out
        have hf13 := Hhf13.out
        have hf14 := Hhf14.out
        have hS := HhS.out
        have hU := HhU.out
        have hV := HhV.out
        have hW := HhW.out
        have hb := Hhb.out
        have hw := Hhw.out
        refine hK.out _ _ ?_
        exact .mk p2 p3 (.int .i64 ((a4.tmod 200 + 200).tmod 200)) p20 p21 p22 p23 p24 p25 p26 p27 p28 p29 p30 p31 p32 p33 (.int .i64 ((a4.tmod 200 + 200).tmod 200)) xs (by simp only [Act.put, List.setIfInBounds_toArray, List.set_cons_zero, List.set_cons_succ]) (⟨hb.1, hb.2.1, hb.2.2.1, fun h => hb.2.2.2.1 (fun hu => h (up_old hu)), fun h => hb.2.2.2.2.1 (fun hu => h (up_old hu)), fun h => hb.2.2.2.2.2.1 (fun hu => h (up_old hu)), fun h => absurd up_self h⟩) (fun h => hf0 (up_back h (by decide))) (fun h => hf1 (up_back h (by decide))) (fun h => hf2 (up_back h (by decide))) (fun h => hf3 (up_back h (by decide))) (fun h => hf4 (up_back h (by decide))) (fun h => hf5 (up_back h (by decide))) (fun h => hf6 (up_back h (by decide))) (fun h => hf7 (up_back h (by decide))) (fun h => hf8 (up_back h (by decide))) (fun h => hf9 (up_back h (by decide))) (fun h => hf10 (up_back h (by decide))) (fun h => hf11 (up_back h (by decide))) (fun h => hf12 (up_back h (by decide))) (fun h => hf13 (up_back h (by decide))) (fun _ => rfl) (fun h => ⟨up_old (hS (up_back h (by decide))).1, (hS (up_back h (by decide))).2⟩) (fun h => ⟨up_old (hU (up_back h (by decide))).1, up_old (hU (up_back h (by decide))).2.1, (hU (up_back h (by decide))).2.2⟩) (fun h => ⟨up_old (hV (up_back h (by decide))).1, (hV (up_back h (by decide))).2⟩) (fun _ => ⟨up_old (hw 11 (by decide)), rfl⟩)
    exact StepsL.nil
  · intro listed a1 w1 hI hu
    cases hI with | mk p2 p3 p4 p20 p21 p22 p23 p24 p25 p26 p27 p28 p29 p30 p31 p32 p33 p34 xs ea hb hf0 hf1 hf2 hf3 hf4 hf5 hf6 hf7 hf8 hf9 hf10 hf11 hf12 hf13 hf14 hS hU hV hW =>
      have e1 := (hU (hu 16)).2.2
      have e7 := (hS (hu 15)).2
      subst e1 e7
      have eV := (hV (hu 17)).2
      subst eV
      have eW := (hW (hu 18)).2
      subst eW
      have HB1 := Lib.hid (HB0.out.trans hb.1)
      have X1 := Lib.hid hb.2.1
      have T1 := Lib.hid (thF_low HB1.out HFU.out)
      clear hf0 hf1 hf2 hf3 hf4 hf5 hf6 hf7 hf8 hf9 hf10 hf11 hf12 hf13 hf14 hS hU hV hW hb hu HX HB0 HW HFEW
      rw [ea]
      clear ea
      simp only [Act.put, List.setIfInBounds_toArray, List.set_cons_zero, List.set_cons_succ]
      obtain ⟨o1, ho1⟩ : ∃ o : Int, (a3.tmod 200 + 200).tmod 200 = o := ⟨_, rfl⟩
      obtain ⟨o2, ho2⟩ : ∃ o : Int, (a4.tmod 200 + 200).tmod 200 = o := ⟨_, rfl⟩
      have hr1 := rem_200 a3
      have hr2 := rem_200 a4
      rw [ho1] at hr1 ⊢
      rw [ho2] at hr2 ⊢
      clear ho1 ho2
      obtain ⟨one, hone⟩ : ∃ m : Nat, o1 = m := ⟨o1.toNat, by omega⟩
      obtain ⟨two, htwo⟩ : ∃ m : Nat, o2 = m := ⟨o2.toNat, by omega⟩
      subst hone
      subst htwo
      have HO := Lib.hid (show one ≤ 199 ∧ two ≤ 199 by omega)
      clear hr1 hr2
      obtain ⟨z, hz⟩ : ∃ z, rnT u self ds one = z := ⟨_, rfl⟩
      obtain ⟨n, hn⟩ : ∃ n, rnN u self ds one = n := ⟨_, rfl⟩
      obtain ⟨x, hx⟩ : ∃ x, rnE u self one = x := ⟨_, rfl⟩
      have HZ := Lib.hid hz
      have HN := Lib.hid hn
      have HXE := Lib.hid hx
      have HZL := Lib.hid (show z.fs.length ≤ 8 by rw [← hz]; exact rnT_len u self ds one (by have := T1.out.fs.1; have := HM.out; omega))
      clear hz hn hx
      go_wp2_with (refine wpList_load_mid rfl 27 _ rfl w.heap.size 0 rfl [.int .i64 u.pc, .int .i64 (u.r 0), .int .i64 (u.r 1), .int .i64 (u.r 2), .int .i64 (u.r 3), .int .i64 (u.r 4), .int .i64 (u.r 5), .int .i64 (u.r 6), .int .i64 (u.r 7), .slice fa m9 fc, .int .i64 u.st, .int .i64 u.ft, .slice la m12 lc] _ (varN_range X1.out) Try.underlying27 rfl (by kernel_rfl) ?_)
      have h0 := run_any u self ca mp cc ds one fa la m9 fc m12 lc w1 T1.out (vs_any (vs_keep (kept_low HB1.out (fun _ h => h)) (vs_old HCT.out))) (by have := HM.out; omega)
      rw [HZ.out, HN.out, HXE.out] at h0
      refine h0.mono ?_
      clear h0
      rintro e v2 ⟨fb, bn, gc, lb, dn, hc, rfl, Q1, hb⟩
      have HB2 := Lib.hid (below_from HB1.out hb)
      have X2 := Lib.hid (varN_B hb X1.out)
      have T2 := Lib.hid (thF_B hb T1.out)
      clear hb X1 T1
      have Z1 := Lib.hid Q1.f
      have HBN := Lib.hid (show bn ≤ 8 by have := Q1.fs.1; have := HZL.out; omega)
      clear Q1
      go_upto_region 3 with (refine wpList_store_var rfl 27 _ _ rfl v2.heap.size #[.int .i64 z.pc, .int .i64 (z.r 0), .int .i64 (z.r 1), .int .i64 (z.r 2), .int .i64 (z.r 3), .int .i64 (z.r 4), .int .i64 (z.r 5), .int .i64 (z.r 6), .int .i64 (z.r 7), .slice fb bn gc, .int .i64 z.st, .int .i64 z.ft, .slice lb dn hc] rfl rfl _ (varN_new [.int .i64 0, .int .i64 0, .int .i64 0, .int .i64 0, .int .i64 0, .int .i64 0, .int .i64 0, .int .i64 0, .int .i64 0, .slice none 0 0, .int .i64 0, .int .i64 0, .slice none 0 0] v2.heap.size rfl) rfl (by kernel_rfl) (one_thr _ _ _ _ _ _ _) ?_; intro U HU)
      obtain ⟨U3, hUU⟩ : ∃ Z, Z = U := ⟨_, rfl⟩
      rw [← hUU] at HU ⊢
      clear hUU U
      have hb : Below v2.heap.size v2 U3 := by rw [HU.out]; exact below_setN (Nat.le_refl _) ((Below.refl _ _).alloc (Nat.le_refl _) _)
      have A0 := Lib.hid (show VarN U3 v2.heap.size [.int .i64 z.pc, .int .i64 (z.r 0), .int .i64 (z.r 1), .int .i64 (z.r 2), .int .i64 (z.r 3), .int .i64 (z.r 4), .int .i64 (z.r 5), .int .i64 (z.r 6), .int .i64 (z.r 7), .slice fb bn gc, .int .i64 z.st, .int .i64 z.ft, .slice lb dn hc] by rw [HU.out]; exact varN_all (xs := [.int .i64 z.pc, .int .i64 (z.r 0), .int .i64 (z.r 1), .int .i64 (z.r 2), .int .i64 (z.r 3), .int .i64 (z.r 4), .int .i64 (z.r 5), .int .i64 (z.r 6), .int .i64 (z.r 7), .slice fb bn gc, .int .i64 z.st, .int .i64 z.ft, .slice lb dn hc]) (varN_new [.int .i64 0, .int .i64 0, .int .i64 0, .int .i64 0, .int .i64 0, .int .i64 0, .int .i64 0, .int .i64 0, .int .i64 0, .slice none 0 0, .int .i64 0, .int .i64 0, .slice none 0 0] v2.heap.size rfl) rfl)
      have HB3 := Lib.hid (below_from HB2.out hb)
      have X3 := Lib.hid (varN_B hb X2.out)
      have T3 := Lib.hid (thF_B hb T2.out)
      have Z3 := Lib.hid (thF_B hb Z1.out)
      clear hb HU X2 T2 Z1
      by_cases hx0 : x = 0
      · skip
        subst hx0
        have HP := Lib.hid (parts_math (u := u) (self := self) (c := ds) (one := one) (two := two) HO.out.1 HO.out.2 HXE.out)
        rw [HZ.out, HN.out] at HP
        obtain ⟨y, hy⟩ : ∃ y, rnT z self ds two = y := ⟨_, rfl⟩
        obtain ⟨k, hk⟩ : ∃ k, rnN z self ds two = k := ⟨_, rfl⟩
        have HY := Lib.hid hy
        have HK := Lib.hid hk
        rw [hy, hk] at HP
        have HYL := Lib.hid (show y.fs.length ≤ 8 by rw [← hy]; exact rnT_len z self ds two HZL.out)
        clear hy hk
        go_wp2_with (first | (refine wpList_load_mid rfl 27 _ rfl w.heap.size 0 rfl [.int .i64 u.pc, .int .i64 (u.r 0), .int .i64 (u.r 1), .int .i64 (u.r 2), .int .i64 (u.r 3), .int .i64 (u.r 4), .int .i64 (u.r 5), .int .i64 (u.r 6), .int .i64 (u.r 7), .slice fa m9 fc, .int .i64 u.st, .int .i64 u.ft, .slice la m12 lc] _ (varN_range X3.out) Try.underlying27 rfl (by kernel_rfl) ?_) | (refine wpList_load_mid rfl 27 _ rfl v2.heap.size 0 rfl [.int .i64 z.pc, .int .i64 (z.r 0), .int .i64 (z.r 1), .int .i64 (z.r 2), .int .i64 (z.r 3), .int .i64 (z.r 4), .int .i64 (z.r 5), .int .i64 (z.r 6), .int .i64 (z.r 7), .slice fb bn gc, .int .i64 z.st, .int .i64 z.ft, .slice lb dn hc] _ (varN_range A0.out) Try.underlying27 rfl (by kernel_rfl) ?_))
        have h0 := run_any z self ca mp cc ds two fb lb bn gc dn hc U3 Z3.out (vs_any (vs_keep (kept_low HB3.out (fun _ h => h)) (vs_old HCT.out))) (by have := HM.out; omega)
        rw [HY.out, HK.out, HP.out.1] at h0
        refine h0.mono ?_
        clear h0
        rintro e v4 ⟨fd, bn2, ge, ld, dn2, he, rfl, Q1, hb⟩
        have HB4 := Lib.hid (below_from HB3.out hb)
        have X4 := Lib.hid (varN_B hb X3.out)
        have A4 := Lib.hid (varN_B hb A0.out)
        have T4 := Lib.hid (thF_B hb T3.out)
        have Z4 := Lib.hid (thF_B hb Z3.out)
        clear hb X3 A0 T3 Z3
        have Y1 := Lib.hid Q1.f
        have HBN2 := Lib.hid (show bn2 ≤ 8 by have := Q1.fs.1; have := HYL.out; omega)
        clear Q1
        go_upto_region 6 with (refine wpList_store_var rfl 27 _ _ rfl v4.heap.size #[.int .i64 y.pc, .int .i64 (y.r 0), .int .i64 (y.r 1), .int .i64 (y.r 2), .int .i64 (y.r 3), .int .i64 (y.r 4), .int .i64 (y.r 5), .int .i64 (y.r 6), .int .i64 (y.r 7), .slice fd bn2 ge, .int .i64 y.st, .int .i64 y.ft, .slice ld dn2 he] rfl rfl _ (varN_new [.int .i64 0, .int .i64 0, .int .i64 0, .int .i64 0, .int .i64 0, .int .i64 0, .int .i64 0, .int .i64 0, .int .i64 0, .slice none 0 0, .int .i64 0, .int .i64 0, .slice none 0 0] v4.heap.size rfl) rfl (by kernel_rfl) (one_thr _ _ _ _ _ _ _) ?_; intro U HU)
        obtain ⟨U5, hUU⟩ : ∃ Z, Z = U := ⟨_, rfl⟩
        rw [← hUU] at HU ⊢
        clear hUU U
        have hb : Below v4.heap.size v4 U5 := by rw [HU.out]; exact below_setN (Nat.le_refl _) ((Below.refl _ _).alloc (Nat.le_refl _) _)
        have B0 := Lib.hid (show VarN U5 v4.heap.size [.int .i64 y.pc, .int .i64 (y.r 0), .int .i64 (y.r 1), .int .i64 (y.r 2), .int .i64 (y.r 3), .int .i64 (y.r 4), .int .i64 (y.r 5), .int .i64 (y.r 6), .int .i64 (y.r 7), .slice fd bn2 ge, .int .i64 y.st, .int .i64 y.ft, .slice ld dn2 he] by rw [HU.out]; exact varN_all (xs := [.int .i64 y.pc, .int .i64 (y.r 0), .int .i64 (y.r 1), .int .i64 (y.r 2), .int .i64 (y.r 3), .int .i64 (y.r 4), .int .i64 (y.r 5), .int .i64 (y.r 6), .int .i64 (y.r 7), .slice fd bn2 ge, .int .i64 y.st, .int .i64 y.ft, .slice ld dn2 he]) (varN_new [.int .i64 0, .int .i64 0, .int .i64 0, .int .i64 0, .int .i64 0, .int .i64 0, .int .i64 0, .int .i64 0, .int .i64 0, .slice none 0 0, .int .i64 0, .int .i64 0, .slice none 0 0] v4.heap.size rfl) rfl)
        have HB5 := Lib.hid (below_from HB4.out hb)
        have X5 := Lib.hid (varN_B hb X4.out)
        have A5 := Lib.hid (varN_B hb A4.out)
        have T5 := Lib.hid (thF_B hb T4.out)
        have Z5 := Lib.hid (thF_B hb Z4.out)
        have Y5 := Lib.hid (thF_B hb Y1.out)
        clear hb HU X4 A4 T4 Z4 Y1
        have p1 : (one : Int) ≤ 199 := by have := HO.out; omega
        have p2 : (two : Int) ≤ 199 := by have := HO.out; omega
        go_wp2_with (first | (refine wpList_load_mid rfl 27 _ rfl w.heap.size 0 rfl [.int .i64 u.pc, .int .i64 (u.r 0), .int .i64 (u.r 1), .int .i64 (u.r 2), .int .i64 (u.r 3), .int .i64 (u.r 4), .int .i64 (u.r 5), .int .i64 (u.r 6), .int .i64 (u.r 7), .slice fa m9 fc, .int .i64 u.st, .int .i64 u.ft, .slice la m12 lc] _ (varN_range X5.out) Try.underlying27 rfl (by kernel_rfl) ?_) | (refine wpList_load_mid rfl 27 _ rfl v2.heap.size 0 rfl [.int .i64 z.pc, .int .i64 (z.r 0), .int .i64 (z.r 1), .int .i64 (z.r 2), .int .i64 (z.r 3), .int .i64 (z.r 4), .int .i64 (z.r 5), .int .i64 (z.r 6), .int .i64 (z.r 7), .slice fb bn gc, .int .i64 z.st, .int .i64 z.ft, .slice lb dn hc] _ (varN_range A5.out) Try.underlying27 rfl (by kernel_rfl) ?_) | (refine wpList_load_mid rfl 27 _ rfl v4.heap.size 0 rfl [.int .i64 y.pc, .int .i64 (y.r 0), .int .i64 (y.r 1), .int .i64 (y.r 2), .int .i64 (y.r 3), .int .i64 (y.r 4), .int .i64 (y.r 5), .int .i64 (y.r 6), .int .i64 (y.r 7), .slice fd bn2 ge, .int .i64 y.st, .int .i64 y.ft, .slice ld dn2 he] _ (varN_range B0.out) Try.underlying27 rfl (by kernel_rfl) ?_))
        have h0 := run_any u self ca mp cc ds ((one : Int) + two) fa la m9 fc m12 lc U5 T5.out (vs_any (vs_keep (kept_low HB5.out (fun _ h => h)) (vs_old HCT.out))) (by have := HM.out; omega)
        rw [HP.out.2.1, HP.out.2.2.1, HP.out.2.2.2.1] at h0
        refine h0.mono ?_
        clear h0
        rintro e v6 ⟨fe, bn3, gf, le, dn3, hf, rfl, Q1, hb⟩
        have HB6 := Lib.hid (below_from HB5.out hb)
        have X6 := Lib.hid (varN_B hb X5.out)
        have A6 := Lib.hid (varN_B hb A5.out)
        have B6 := Lib.hid (varN_B hb B0.out)
        have T6 := Lib.hid (thF_B hb T5.out)
        have Z6 := Lib.hid (thF_B hb Z5.out)
        have Y6 := Lib.hid (thF_B hb Y5.out)
        clear hb X5 A5 B0 T5 Z5 Y5
        have V1 := Lib.hid Q1.f
        clear Q1 p1 p2
        go_upto_region 7 with (refine wpList_store_var rfl 27 _ _ rfl v6.heap.size #[.int .i64 y.pc, .int .i64 (y.r 0), .int .i64 (y.r 1), .int .i64 (y.r 2), .int .i64 (y.r 3), .int .i64 (y.r 4), .int .i64 (y.r 5), .int .i64 (y.r 6), .int .i64 (y.r 7), .slice fe bn3 gf, .int .i64 y.st, .int .i64 y.ft, .slice le dn3 hf] rfl rfl _ (varN_new [.int .i64 0, .int .i64 0, .int .i64 0, .int .i64 0, .int .i64 0, .int .i64 0, .int .i64 0, .int .i64 0, .int .i64 0, .slice none 0 0, .int .i64 0, .int .i64 0, .slice none 0 0] v6.heap.size rfl) rfl (by kernel_rfl) (one_thr _ _ _ _ _ _ _) ?_; intro U HU)
        obtain ⟨U7, hUU⟩ : ∃ Z, Z = U := ⟨_, rfl⟩
        rw [← hUU] at HU ⊢
        clear hUU U
        have hb : Below v6.heap.size v6 U7 := by rw [HU.out]; exact below_setN (Nat.le_refl _) ((Below.refl _ _).alloc (Nat.le_refl _) _)
        have C0 := Lib.hid (show VarN U7 v6.heap.size [.int .i64 y.pc, .int .i64 (y.r 0), .int .i64 (y.r 1), .int .i64 (y.r 2), .int .i64 (y.r 3), .int .i64 (y.r 4), .int .i64 (y.r 5), .int .i64 (y.r 6), .int .i64 (y.r 7), .slice fe bn3 gf, .int .i64 y.st, .int .i64 y.ft, .slice le dn3 hf] by rw [HU.out]; exact varN_all (xs := [.int .i64 y.pc, .int .i64 (y.r 0), .int .i64 (y.r 1), .int .i64 (y.r 2), .int .i64 (y.r 3), .int .i64 (y.r 4), .int .i64 (y.r 5), .int .i64 (y.r 6), .int .i64 (y.r 7), .slice fe bn3 gf, .int .i64 y.st, .int .i64 y.ft, .slice le dn3 hf]) (varN_new [.int .i64 0, .int .i64 0, .int .i64 0, .int .i64 0, .int .i64 0, .int .i64 0, .int .i64 0, .int .i64 0, .int .i64 0, .slice none 0 0, .int .i64 0, .int .i64 0, .slice none 0 0] v6.heap.size rfl) rfl)
        have HB7 := Lib.hid (below_from HB6.out hb)
        have X7 := Lib.hid (varN_B hb X6.out)
        have A7 := Lib.hid (varN_B hb A6.out)
        have B7 := Lib.hid (varN_B hb B6.out)
        have T7 := Lib.hid (thF_B hb T6.out)
        have Z7 := Lib.hid (thF_B hb Z6.out)
        have Y7 := Lib.hid (thF_B hb Y6.out)
        have V7 := Lib.hid (thF_B hb V1.out)
        clear hb HU X6 A6 B6 T6 Z6 Y6 V1
        go_wp2_with (first | (refine wpList_load_mid rfl 27 _ rfl w.heap.size 0 rfl [.int .i64 u.pc, .int .i64 (u.r 0), .int .i64 (u.r 1), .int .i64 (u.r 2), .int .i64 (u.r 3), .int .i64 (u.r 4), .int .i64 (u.r 5), .int .i64 (u.r 6), .int .i64 (u.r 7), .slice fa m9 fc, .int .i64 u.st, .int .i64 u.ft, .slice la m12 lc] _ (varN_range X7.out) Try.underlying27 rfl (by kernel_rfl) ?_) | (refine wpList_load_mid rfl 27 _ rfl v2.heap.size 0 rfl [.int .i64 z.pc, .int .i64 (z.r 0), .int .i64 (z.r 1), .int .i64 (z.r 2), .int .i64 (z.r 3), .int .i64 (z.r 4), .int .i64 (z.r 5), .int .i64 (z.r 6), .int .i64 (z.r 7), .slice fb bn gc, .int .i64 z.st, .int .i64 z.ft, .slice lb dn hc] _ (varN_range A7.out) Try.underlying27 rfl (by kernel_rfl) ?_) | (refine wpList_load_mid rfl 27 _ rfl v4.heap.size 0 rfl [.int .i64 y.pc, .int .i64 (y.r 0), .int .i64 (y.r 1), .int .i64 (y.r 2), .int .i64 (y.r 3), .int .i64 (y.r 4), .int .i64 (y.r 5), .int .i64 (y.r 6), .int .i64 (y.r 7), .slice fd bn2 ge, .int .i64 y.st, .int .i64 y.ft, .slice ld dn2 he] _ (varN_range B7.out) Try.underlying27 rfl (by kernel_rfl) ?_) | (refine wpList_load_mid rfl 27 _ rfl v6.heap.size 0 rfl [.int .i64 y.pc, .int .i64 (y.r 0), .int .i64 (y.r 1), .int .i64 (y.r 2), .int .i64 (y.r 3), .int .i64 (y.r 4), .int .i64 (y.r 5), .int .i64 (y.r 6), .int .i64 (y.r 7), .slice fe bn3 gf, .int .i64 y.st, .int .i64 y.ft, .slice le dn3 hf] _ (varN_range C0.out) Try.underlying27 rfl (by kernel_rfl) ?_))
        have h0 := alive7_any U7
        refine h0.mono ?_
        clear h0
        rintro e v8 ⟨rfl, hb⟩
        have HB8 := Lib.hid (below_from HB7.out hb)
        have X8 := Lib.hid (varN_B hb X7.out)
        have A8 := Lib.hid (varN_B hb A7.out)
        have B8 := Lib.hid (varN_B hb B7.out)
        have C8 := Lib.hid (varN_B hb C0.out)
        have T8 := Lib.hid (thF_B hb T7.out)
        have Z8 := Lib.hid (thF_B hb Z7.out)
        have Y8 := Lib.hid (thF_B hb Y7.out)
        have V8 := Lib.hid (thF_B hb V7.out)
        clear hb X7 A7 B7 C0 T7 Z7 Y7 V7
        have q1 : n ≤ one := HP.out.2.2.2.2.1
        have q2 : n = one ∨ k = 0 := HP.out.2.2.2.2.2
        have q3 : (n : Int) ≤ 199 := by have := HO.out; omega
        have q4 : (k : Int) ≤ 199 := by have := HO.out; have := rnN_le z self ds two (by omega); have := HK.out; omega
        have q5 : (n : Int) ≤ one := by omega
        have q6 : (0 : Int) ≤ n := by omega
        have q7 : (0 : Int) ≤ k := by omega
        by_cases hq : n = one
        · skip
          have e1 : ((n : Int) == one) = true := by rw [hq]; simp
          clear q2 hq
          have HQ := Lib.hid (And.intro q1 q1)
          clear q1
          have ka0 := (B8.out 0 _ rfl).1
          have ka1 := (B8.out 1 _ rfl).1
          have ka2 := (B8.out 2 _ rfl).1
          have ka3 := (B8.out 3 _ rfl).1
          have ka4 := (B8.out 4 _ rfl).1
          have ka5 := (B8.out 5 _ rfl).1
          have ka6 := (B8.out 6 _ rfl).1
          have ka7 := (B8.out 7 _ rfl).1
          have ka8 := (B8.out 8 _ rfl).1
          have ka9 := (B8.out 9 _ rfl).1
          have ka10 := (B8.out 10 _ rfl).1
          have ka11 := (B8.out 11 _ rfl).1
          have ka12 := (B8.out 12 _ rfl).1
          have kb0 := (C8.out 0 _ rfl).1
          have kb1 := (C8.out 1 _ rfl).1
          have kb2 := (C8.out 2 _ rfl).1
          have kb3 := (C8.out 3 _ rfl).1
          have kb4 := (C8.out 4 _ rfl).1
          have kb5 := (C8.out 5 _ rfl).1
          have kb6 := (C8.out 6 _ rfl).1
          have kb7 := (C8.out 7 _ rfl).1
          have kb8 := (C8.out 8 _ rfl).1
          have kb9 := (C8.out 9 _ rfl).1
          have kb10 := (C8.out 10 _ rfl).1
          have kb11 := (C8.out 11 _ rfl).1
          have kb12 := (C8.out 12 _ rfl).1
          go_wp2_with (first | (refine wpList_load_mid rfl 27 _ rfl w.heap.size 0 rfl [.int .i64 u.pc, .int .i64 (u.r 0), .int .i64 (u.r 1), .int .i64 (u.r 2), .int .i64 (u.r 3), .int .i64 (u.r 4), .int .i64 (u.r 5), .int .i64 (u.r 6), .int .i64 (u.r 7), .slice fa m9 fc, .int .i64 u.st, .int .i64 u.ft, .slice la m12 lc] _ (varN_range X8.out) Try.underlying27 rfl (by kernel_rfl) ?_) | (refine wpList_load_mid rfl 27 _ rfl v2.heap.size 0 rfl [.int .i64 z.pc, .int .i64 (z.r 0), .int .i64 (z.r 1), .int .i64 (z.r 2), .int .i64 (z.r 3), .int .i64 (z.r 4), .int .i64 (z.r 5), .int .i64 (z.r 6), .int .i64 (z.r 7), .slice fb bn gc, .int .i64 z.st, .int .i64 z.ft, .slice lb dn hc] _ (varN_range A8.out) Try.underlying27 rfl (by kernel_rfl) ?_) | (refine wpList_load_mid rfl 27 _ rfl v4.heap.size 0 rfl [.int .i64 y.pc, .int .i64 (y.r 0), .int .i64 (y.r 1), .int .i64 (y.r 2), .int .i64 (y.r 3), .int .i64 (y.r 4), .int .i64 (y.r 5), .int .i64 (y.r 6), .int .i64 (y.r 7), .slice fd bn2 ge, .int .i64 y.st, .int .i64 y.ft, .slice ld dn2 he] _ (varN_range B8.out) Try.underlying27 rfl (by kernel_rfl) ?_) | (refine wpList_load_mid rfl 27 _ rfl v6.heap.size 0 rfl [.int .i64 y.pc, .int .i64 (y.r 0), .int .i64 (y.r 1), .int .i64 (y.r 2), .int .i64 (y.r 3), .int .i64 (y.r 4), .int .i64 (y.r 5), .int .i64 (y.r 6), .int .i64 (y.r 7), .slice fe bn3 gf, .int .i64 y.st, .int .i64 y.ft, .slice le dn3 hf] _ (varN_range C8.out) Try.underlying27 rfl (by kernel_rfl) ?_))
          have h0 := refSame6_any y y fd ld bn2 ge dn2 he fe le bn3 gf dn3 hf v8 Y8.out V8.out (by have := HBN2.out; omega)
          rw [sameT_self] at h0
          refine h0.mono ?_
          clear h0
          rintro e v9 ⟨rfl, hb⟩
          have HB9 := Lib.hid (below_from HB8.out hb)
          have X9 := Lib.hid (varN_B hb X8.out)
          have A9 := Lib.hid (varN_B hb A8.out)
          have B9 := Lib.hid (varN_B hb B8.out)
          have C9 := Lib.hid (varN_B hb C8.out)
          have T9 := Lib.hid (thF_B hb T8.out)
          have Z9 := Lib.hid (thF_B hb Z8.out)
          have Y9 := Lib.hid (thF_B hb Y8.out)
          have V9 := Lib.hid (thF_B hb V8.out)
          clear hb X8 A8 B8 C8 T8 Z8 Y8 V8 ka0 ka1 ka2 ka3 ka4 ka5 ka6 ka7 ka8 ka9 ka10 ka11 ka12 kb0 kb1 kb2 kb3 kb4 kb5 kb6 kb7 kb8 kb9 kb10 kb11 kb12
          go_wp2_with (first | (refine wpList_load_mid rfl 27 _ rfl w.heap.size 0 rfl [.int .i64 u.pc, .int .i64 (u.r 0), .int .i64 (u.r 1), .int .i64 (u.r 2), .int .i64 (u.r 3), .int .i64 (u.r 4), .int .i64 (u.r 5), .int .i64 (u.r 6), .int .i64 (u.r 7), .slice fa m9 fc, .int .i64 u.st, .int .i64 u.ft, .slice la m12 lc] _ (varN_range X9.out) Try.underlying27 rfl (by kernel_rfl) ?_) | (refine wpList_load_mid rfl 27 _ rfl v2.heap.size 0 rfl [.int .i64 z.pc, .int .i64 (z.r 0), .int .i64 (z.r 1), .int .i64 (z.r 2), .int .i64 (z.r 3), .int .i64 (z.r 4), .int .i64 (z.r 5), .int .i64 (z.r 6), .int .i64 (z.r 7), .slice fb bn gc, .int .i64 z.st, .int .i64 z.ft, .slice lb dn hc] _ (varN_range A9.out) Try.underlying27 rfl (by kernel_rfl) ?_) | (refine wpList_load_mid rfl 27 _ rfl v4.heap.size 0 rfl [.int .i64 y.pc, .int .i64 (y.r 0), .int .i64 (y.r 1), .int .i64 (y.r 2), .int .i64 (y.r 3), .int .i64 (y.r 4), .int .i64 (y.r 5), .int .i64 (y.r 6), .int .i64 (y.r 7), .slice fd bn2 ge, .int .i64 y.st, .int .i64 y.ft, .slice ld dn2 he] _ (varN_range B9.out) Try.underlying27 rfl (by kernel_rfl) ?_) | (refine wpList_load_mid rfl 27 _ rfl v6.heap.size 0 rfl [.int .i64 y.pc, .int .i64 (y.r 0), .int .i64 (y.r 1), .int .i64 (y.r 2), .int .i64 (y.r 3), .int .i64 (y.r 4), .int .i64 (y.r 5), .int .i64 (y.r 6), .int .i64 (y.r 7), .slice fe bn3 gf, .int .i64 y.st, .int .i64 y.ft, .slice le dn3 hf] _ (varN_range C9.out) Try.underlying27 rfl (by kernel_rfl) ?_))
          go_ret
          exact boolPost_mk rfl HB9.out
        · skip
          have e1 : ((n : Int) == one) = false := by simp; omega
          obtain rfl : k = 0 := q2.resolve_left hq
          clear q2 hq
          have HQ := Lib.hid (And.intro q1 q1)
          clear q1
          have ka0 := (B8.out 0 _ rfl).1
          have ka1 := (B8.out 1 _ rfl).1
          have ka2 := (B8.out 2 _ rfl).1
          have ka3 := (B8.out 3 _ rfl).1
          have ka4 := (B8.out 4 _ rfl).1
          have ka5 := (B8.out 5 _ rfl).1
          have ka6 := (B8.out 6 _ rfl).1
          have ka7 := (B8.out 7 _ rfl).1
          have ka8 := (B8.out 8 _ rfl).1
          have ka9 := (B8.out 9 _ rfl).1
          have ka10 := (B8.out 10 _ rfl).1
          have ka11 := (B8.out 11 _ rfl).1
          have ka12 := (B8.out 12 _ rfl).1
          have kb0 := (C8.out 0 _ rfl).1
          have kb1 := (C8.out 1 _ rfl).1
          have kb2 := (C8.out 2 _ rfl).1
          have kb3 := (C8.out 3 _ rfl).1
          have kb4 := (C8.out 4 _ rfl).1
          have kb5 := (C8.out 5 _ rfl).1
          have kb6 := (C8.out 6 _ rfl).1
          have kb7 := (C8.out 7 _ rfl).1
          have kb8 := (C8.out 8 _ rfl).1
          have kb9 := (C8.out 9 _ rfl).1
          have kb10 := (C8.out 10 _ rfl).1
          have kb11 := (C8.out 11 _ rfl).1
          have kb12 := (C8.out 12 _ rfl).1
          go_wp2_with (first | (refine wpList_load_mid rfl 27 _ rfl w.heap.size 0 rfl [.int .i64 u.pc, .int .i64 (u.r 0), .int .i64 (u.r 1), .int .i64 (u.r 2), .int .i64 (u.r 3), .int .i64 (u.r 4), .int .i64 (u.r 5), .int .i64 (u.r 6), .int .i64 (u.r 7), .slice fa m9 fc, .int .i64 u.st, .int .i64 u.ft, .slice la m12 lc] _ (varN_range X8.out) Try.underlying27 rfl (by kernel_rfl) ?_) | (refine wpList_load_mid rfl 27 _ rfl v2.heap.size 0 rfl [.int .i64 z.pc, .int .i64 (z.r 0), .int .i64 (z.r 1), .int .i64 (z.r 2), .int .i64 (z.r 3), .int .i64 (z.r 4), .int .i64 (z.r 5), .int .i64 (z.r 6), .int .i64 (z.r 7), .slice fb bn gc, .int .i64 z.st, .int .i64 z.ft, .slice lb dn hc] _ (varN_range A8.out) Try.underlying27 rfl (by kernel_rfl) ?_) | (refine wpList_load_mid rfl 27 _ rfl v4.heap.size 0 rfl [.int .i64 y.pc, .int .i64 (y.r 0), .int .i64 (y.r 1), .int .i64 (y.r 2), .int .i64 (y.r 3), .int .i64 (y.r 4), .int .i64 (y.r 5), .int .i64 (y.r 6), .int .i64 (y.r 7), .slice fd bn2 ge, .int .i64 y.st, .int .i64 y.ft, .slice ld dn2 he] _ (varN_range B8.out) Try.underlying27 rfl (by kernel_rfl) ?_) | (refine wpList_load_mid rfl 27 _ rfl v6.heap.size 0 rfl [.int .i64 y.pc, .int .i64 (y.r 0), .int .i64 (y.r 1), .int .i64 (y.r 2), .int .i64 (y.r 3), .int .i64 (y.r 4), .int .i64 (y.r 5), .int .i64 (y.r 6), .int .i64 (y.r 7), .slice fe bn3 gf, .int .i64 y.st, .int .i64 y.ft, .slice le dn3 hf] _ (varN_range C8.out) Try.underlying27 rfl (by kernel_rfl) ?_))
          have h0 := refSame6_any y y fd ld bn2 ge dn2 he fe le bn3 gf dn3 hf v8 Y8.out V8.out (by have := HBN2.out; omega)
          rw [sameT_self] at h0
          refine h0.mono ?_
          clear h0
          rintro e v9 ⟨rfl, hb⟩
          have HB9 := Lib.hid (below_from HB8.out hb)
          have X9 := Lib.hid (varN_B hb X8.out)
          have A9 := Lib.hid (varN_B hb A8.out)
          have B9 := Lib.hid (varN_B hb B8.out)
          have C9 := Lib.hid (varN_B hb C8.out)
          have T9 := Lib.hid (thF_B hb T8.out)
          have Z9 := Lib.hid (thF_B hb Z8.out)
          have Y9 := Lib.hid (thF_B hb Y8.out)
          have V9 := Lib.hid (thF_B hb V8.out)
          clear hb X8 A8 B8 C8 T8 Z8 Y8 V8 ka0 ka1 ka2 ka3 ka4 ka5 ka6 ka7 ka8 ka9 ka10 ka11 ka12 kb0 kb1 kb2 kb3 kb4 kb5 kb6 kb7 kb8 kb9 kb10 kb11 kb12
          go_wp2_with (first | (refine wpList_load_mid rfl 27 _ rfl w.heap.size 0 rfl [.int .i64 u.pc, .int .i64 (u.r 0), .int .i64 (u.r 1), .int .i64 (u.r 2), .int .i64 (u.r 3), .int .i64 (u.r 4), .int .i64 (u.r 5), .int .i64 (u.r 6), .int .i64 (u.r 7), .slice fa m9 fc, .int .i64 u.st, .int .i64 u.ft, .slice la m12 lc] _ (varN_range X9.out) Try.underlying27 rfl (by kernel_rfl) ?_) | (refine wpList_load_mid rfl 27 _ rfl v2.heap.size 0 rfl [.int .i64 z.pc, .int .i64 (z.r 0), .int .i64 (z.r 1), .int .i64 (z.r 2), .int .i64 (z.r 3), .int .i64 (z.r 4), .int .i64 (z.r 5), .int .i64 (z.r 6), .int .i64 (z.r 7), .slice fb bn gc, .int .i64 z.st, .int .i64 z.ft, .slice lb dn hc] _ (varN_range A9.out) Try.underlying27 rfl (by kernel_rfl) ?_) | (refine wpList_load_mid rfl 27 _ rfl v4.heap.size 0 rfl [.int .i64 y.pc, .int .i64 (y.r 0), .int .i64 (y.r 1), .int .i64 (y.r 2), .int .i64 (y.r 3), .int .i64 (y.r 4), .int .i64 (y.r 5), .int .i64 (y.r 6), .int .i64 (y.r 7), .slice fd bn2 ge, .int .i64 y.st, .int .i64 y.ft, .slice ld dn2 he] _ (varN_range B9.out) Try.underlying27 rfl (by kernel_rfl) ?_) | (refine wpList_load_mid rfl 27 _ rfl v6.heap.size 0 rfl [.int .i64 y.pc, .int .i64 (y.r 0), .int .i64 (y.r 1), .int .i64 (y.r 2), .int .i64 (y.r 3), .int .i64 (y.r 4), .int .i64 (y.r 5), .int .i64 (y.r 6), .int .i64 (y.r 7), .slice fe bn3 gf, .int .i64 y.st, .int .i64 y.ft, .slice le dn3 hf] _ (varN_range C9.out) Try.underlying27 rfl (by kernel_rfl) ?_))
          go_ret
          exact boolPost_mk rfl HB9.out
      · skip
        have hxn : (x != 0) = true := by simpa using hx0
        obtain rfl : n = 0 := by rw [← HN.out, rnN, if_neg (by rw [HXE.out]; exact hx0)]
        clear hx0
        go_wp2_with (first | (refine wpList_load_mid rfl 27 _ rfl w.heap.size 0 rfl [.int .i64 u.pc, .int .i64 (u.r 0), .int .i64 (u.r 1), .int .i64 (u.r 2), .int .i64 (u.r 3), .int .i64 (u.r 4), .int .i64 (u.r 5), .int .i64 (u.r 6), .int .i64 (u.r 7), .slice fa m9 fc, .int .i64 u.st, .int .i64 u.ft, .slice la m12 lc] _ (varN_range X3.out) Try.underlying27 rfl (by kernel_rfl) ?_) | (refine wpList_load_mid rfl 27 _ rfl v2.heap.size 0 rfl [.int .i64 z.pc, .int .i64 (z.r 0), .int .i64 (z.r 1), .int .i64 (z.r 2), .int .i64 (z.r 3), .int .i64 (z.r 4), .int .i64 (z.r 5), .int .i64 (z.r 6), .int .i64 (z.r 7), .slice fb bn gc, .int .i64 z.st, .int .i64 z.ft, .slice lb dn hc] _ (varN_range A0.out) Try.underlying27 rfl (by kernel_rfl) ?_))
        have h0 := alive7_any U3
        refine h0.mono ?_
        clear h0
        rintro e v4 ⟨rfl, hb⟩
        have HB4 := Lib.hid (below_from HB3.out hb)
        have X4 := Lib.hid (varN_B hb X3.out)
        have A4 := Lib.hid (varN_B hb A0.out)
        have T4 := Lib.hid (thF_B hb T3.out)
        have Z4 := Lib.hid (thF_B hb Z3.out)
        clear hb X3 A0 T3 Z3
        go_wp2_with (first | (refine wpList_load_mid rfl 27 _ rfl w.heap.size 0 rfl [.int .i64 u.pc, .int .i64 (u.r 0), .int .i64 (u.r 1), .int .i64 (u.r 2), .int .i64 (u.r 3), .int .i64 (u.r 4), .int .i64 (u.r 5), .int .i64 (u.r 6), .int .i64 (u.r 7), .slice fa m9 fc, .int .i64 u.st, .int .i64 u.ft, .slice la m12 lc] _ (varN_range X4.out) Try.underlying27 rfl (by kernel_rfl) ?_) | (refine wpList_load_mid rfl 27 _ rfl v2.heap.size 0 rfl [.int .i64 z.pc, .int .i64 (z.r 0), .int .i64 (z.r 1), .int .i64 (z.r 2), .int .i64 (z.r 3), .int .i64 (z.r 4), .int .i64 (z.r 5), .int .i64 (z.r 6), .int .i64 (z.r 7), .slice fb bn gc, .int .i64 z.st, .int .i64 z.ft, .slice lb dn hc] _ (varN_range A4.out) Try.underlying27 rfl (by kernel_rfl) ?_))
        go_ret
        exact boolPost_mk rfl HB4.out
end Go.Proofs.Ytjddflnecfokaaa
