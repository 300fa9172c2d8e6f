/- Package local: sub, and. -/
import Derived.Test.YtjddflnecfokaaaLoF
namespace Go.Proofs.Ytjddflnecfokaaa
open Go.ChangeShapes Go.WideShapes Go.ChangeAt Go.RowKit
open Gen

inductive Inv_sub (t : Thr) (self : Int) (i : In4) (g : Nat) (fa la : Option Addr) (fn fc ln lc : Nat) (z : Thr) (a0 : Act) (w0 : World) (listed : Array Bool) (act' : Act) (w' : World) : Prop
  | mk (p4 p5 p6 p7 p8 p9 p10 p11 p12 p3 : Value) (xs : List Value) (ea : act' = ((((((((((a0.put (some 4) p4).put (some 5) p5).put (some 6) p6).put (some 7) p7).put (some 8) p8).put (some 9) p9).put (some 10) p10).put (some 11) p11).put (some 12) p12).put (some 3) p3)) (hb : Below g w0 w' ∧ VarN w' g [.int .i64 t.pc, .int .i64 (t.r 0), .int .i64 (t.r 1), .int .i64 (t.r 2), .int .i64 (t.r 3), .int .i64 (t.r 4), .int .i64 (t.r 5), .int .i64 (t.r 6), .int .i64 (t.r 7), .slice fa fn fc, .int .i64 t.st, .int .i64 t.ft, .slice la ln lc, .int .i64 self, .int .i64 i.1, .int .i64 i.2.1, .int .i64 i.2.2.1, .int .i64 i.2.2.2] ∧ VarN w' (g + 1) xs ∧ xs.length = 13) (hf0 : Up listed 0 → p4 = .agg #[.int .i64 t.pc, .int .i64 (t.r 0), .int .i64 (t.r 1), .int .i64 (t.r 2), .int .i64 (t.r 3), .int .i64 (t.r 4), .int .i64 (t.r 5), .int .i64 (t.r 6), .int .i64 (t.r 7), .slice fa fn fc, .int .i64 t.st, .int .i64 t.ft, .slice la ln lc, .int .i64 self, .int .i64 i.1, .int .i64 i.2.1, .int .i64 i.2.2.1, .int .i64 i.2.2.2]) (hf1 : Up listed 1 → p5 = .agg #[.int .i64 t.pc, .int .i64 (t.r 0), .int .i64 (t.r 1), .int .i64 (t.r 2), .int .i64 (t.r 3), .int .i64 (t.r 4), .int .i64 (t.r 5), .int .i64 (t.r 6), .int .i64 (t.r 7), .slice fa fn fc, .int .i64 t.st, .int .i64 t.ft, .slice la ln lc, .int .i64 self, .int .i64 i.1, .int .i64 i.2.1, .int .i64 i.2.2.1, .int .i64 i.2.2.2]) (hf2 : Up listed 2 → p6 = .int .i64 (rgt t i.2.2.1)) (hf3 : Up listed 3 → p7 = .agg #[.int .i64 t.pc, .int .i64 (t.r 0), .int .i64 (t.r 1), .int .i64 (t.r 2), .int .i64 (t.r 3), .int .i64 (t.r 4), .int .i64 (t.r 5), .int .i64 (t.r 6), .int .i64 (t.r 7), .slice fa fn fc, .int .i64 t.st, .int .i64 t.ft, .slice la ln lc, .int .i64 self, .int .i64 i.1, .int .i64 i.2.1, .int .i64 i.2.2.1, .int .i64 i.2.2.2]) (hf4 : Up listed 4 → p8 = .int .i64 (rgt t i.2.2.2)) (hf5 : Up listed 5 → p9 = .int .i64 (wrap64 (rgt t i.2.2.1 - rgt t i.2.2.2))) (hf6 : Up listed 6 → p10 = .tuple #[.agg #[.int .i64 z.pc, .int .i64 (z.r 0), .int .i64 (z.r 1), .int .i64 (z.r 2), .int .i64 (z.r 3), .int .i64 (z.r 4), .int .i64 (z.r 5), .int .i64 (z.r 6), .int .i64 (z.r 7), .slice fa fn fc, .int .i64 z.st, .int .i64 z.ft, .slice la ln lc], .int .i64 0]) (hf7 : Up listed 7 → p11 = .agg #[.int .i64 z.pc, .int .i64 (z.r 0), .int .i64 (z.r 1), .int .i64 (z.r 2), .int .i64 (z.r 3), .int .i64 (z.r 4), .int .i64 (z.r 5), .int .i64 (z.r 6), .int .i64 (z.r 7), .slice fa fn fc, .int .i64 z.st, .int .i64 z.ft, .slice la ln lc]) (hf8 : Up listed 8 → p12 = .int .i64 0) (hS : Up listed 9 → xs = [.int .i64 z.pc, .int .i64 (z.r 0), .int .i64 (z.r 1), .int .i64 (z.r 2), .int .i64 (z.r 3), .int .i64 (z.r 4), .int .i64 (z.r 5), .int .i64 (z.r 6), .int .i64 (z.r 7), .slice fa fn fc, .int .i64 z.st, .int .i64 z.ft, .slice la ln lc]) (hf10 : Up listed 10 → p3 = .int .i64 0) : Inv_sub t self i g fa la fn fc ln lc z a0 w0 listed act' w'
set_option maxRecDepth 100000 in
set_option maxHeartbeats 8000000 in
theorem lo_sub_any (t : Thr) (self : Int) (i : In4) (fa la : Option Addr) (fn fc ln lc : Nat) (w : World) (ha : 0 ≤ i.2.1 ∧ i.2.1 ≤ 7) (hb : 0 ≤ i.2.2.1 ∧ i.2.2.1 ≤ 7) (hc : 0 ≤ i.2.2.2 ∧ i.2.2.2 ≤ 7) (hp : 0 ≤ t.pc ∧ t.pc ≤ 1000) :
    Calls Try.prog 37 #[.agg #[.int .i64 t.pc, .int .i64 (t.r 0), .int .i64 (t.r 1), .int .i64 (t.r 2), .int .i64 (t.r 3), .int .i64 (t.r 4), .int .i64 (t.r 5), .int .i64 (t.r 6), .int .i64 (t.r 7), .slice fa fn fc, .int .i64 t.st, .int .i64 t.ft, .slice la ln lc, .int .i64 self, .int .i64 i.1, .int .i64 i.2.1, .int .i64 i.2.2.1, .int .i64 i.2.2.2]] w (ThIs (putT t i.2.1 (wrap64 (rgt t i.2.2.1 - rgt t i.2.2.2))) fa la fn fc ln lc 0 w) := by
  obtain ⟨z, hz⟩ : ∃ z, putT t i.2.1 (wrap64 (rgt t i.2.2.1 - rgt t i.2.2.2)) = z := ⟨_, rfl⟩
  rw [hz]
  obtain ⟨W, hW⟩ : ∃ W, W = (w.alloc (Obj.cells #[.int .i64 t.pc, .int .i64 (t.r 0), .int .i64 (t.r 1), .int .i64 (t.r 2), .int .i64 (t.r 3), .int .i64 (t.r 4), .int .i64 (t.r 5), .int .i64 (t.r 6), .int .i64 (t.r 7), .slice fa fn fc, .int .i64 t.st, .int .i64 t.ft, .slice la ln lc, .int .i64 self, .int .i64 i.1, .int .i64 i.2.1, .int .i64 i.2.2.1, .int .i64 i.2.2.2] 55)).alloc (Obj.cells #[.int .i64 0, .int .i64 0, .int .i64 0, .int .i64 0, .int .i64 0, .int .i64 0, .int .i64 0, .int .i64 0, .int .i64 0, .slice none 0 0, .int .i64 0, .int .i64 0, .slice none 0 0] 27) := ⟨_, rfl⟩
  have X : VarN W w.heap.size [.int .i64 t.pc, .int .i64 (t.r 0), .int .i64 (t.r 1), .int .i64 (t.r 2), .int .i64 (t.r 3), .int .i64 (t.r 4), .int .i64 (t.r 5), .int .i64 (t.r 6), .int .i64 (t.r 7), .slice fa fn fc, .int .i64 t.st, .int .i64 t.ft, .slice la ln lc, .int .i64 self, .int .i64 i.1, .int .i64 i.2.1, .int .i64 i.2.2.1, .int .i64 i.2.2.2] := by rw [hW]; exact varN_A _ (varN_new [.int .i64 t.pc, .int .i64 (t.r 0), .int .i64 (t.r 1), .int .i64 (t.r 2), .int .i64 (t.r 3), .int .i64 (t.r 4), .int .i64 (t.r 5), .int .i64 (t.r 6), .int .i64 (t.r 7), .slice fa fn fc, .int .i64 t.st, .int .i64 t.ft, .slice la ln lc, .int .i64 self, .int .i64 i.1, .int .i64 i.2.1, .int .i64 i.2.2.1, .int .i64 i.2.2.2] _ rfl)
  have R : VarN W (w.heap.size + 1) [.int .i64 0, .int .i64 0, .int .i64 0, .int .i64 0, .int .i64 0, .int .i64 0, .int .i64 0, .int .i64 0, .int .i64 0, .slice none 0 0, .int .i64 0, .int .i64 0, .slice none 0 0] := by rw [hW]; exact varN_new [.int .i64 0, .int .i64 0, .int .i64 0, .int .i64 0, .int .i64 0, .int .i64 0, .int .i64 0, .int .i64 0, .int .i64 0, .slice none 0 0, .int .i64 0, .int .i64 0, .slice none 0 0] _ (by simp)
  have hB : Below w.heap.size w W := by rw [hW]; go_grown
  have HX := Lib.hid X
  have HR := Lib.hid R
  have HB := Lib.hid hB
  have HW := Lib.hid hW
  have HZ := Lib.hid hz
  have HP := Lib.hid hp
  have Ha := Lib.hid ha
  have Hb := Lib.hid hb
  have Hc := Lib.hid hc
  clear hW X R hB hz hp ha hb hc
  go_enter Try.func37, Try.ntmps37
  go_upto_region 1 with fail
  rw [← HW.out]
  refine wp_region_inv (Inv_sub t self i w.heap.size fa la fn fc ln lc z) (by kernel_rfl) (by kernel_rfl) ?_ ?_ ?_
  · intro listed hl
    exact .mk undef undef undef undef undef undef undef undef undef (.int .i64 0) [.int .i64 0, .int .i64 0, .int .i64 0, .int .i64 0, .int .i64 0, .int .i64 0, .int .i64 0, .int .i64 0, .int .i64 0, .slice none 0 0, .int .i64 0, .int .i64 0, .slice none 0 0] (by simp only [Act.put, List.setIfInBounds_toArray, List.set_cons_zero, List.set_cons_succ]) (⟨(Below.refl _ _).drew, varN_D HX.out, varN_D HR.out, rfl⟩) (fun h => absurd h (hl 0 (by decide))) (fun h => absurd h (hl 1 (by decide))) (fun h => absurd h (hl 2 (by decide))) (fun h => absurd h (hl 3 (by decide))) (fun h => absurd h (hl 4 (by decide))) (fun h => absurd h (hl 5 (by decide))) (fun h => absurd h (hl 6 (by decide))) (fun h => absurd h (hl 7 (by decide))) (fun h => absurd h (hl 8 (by decide))) (fun h => absurd h (hl 9 (by decide))) (fun h => absurd h (hl 10 (by decide)))
  · show StepsL _ _ _ _ _ _ _
    refine StepsL.cons (k := 0) rfl (fun listed a1 w1 hI hn hw K hK => ?_) ?_
    · cases hI with | mk p4 p5 p6 p7 p8 p9 p10 p11 p12 p3 xs ea hb hf0 hf1 hf2 hf3 hf4 hf5 hf6 hf7 hf8 hS hf10 =>
        have Hhf0 := Lib.hid hf0
        have Hhf1 := Lib.hid hf1
        have Hhf2 := Lib.hid hf2
        have Hhf3 := Lib.hid hf3
        have Hhf4 := Lib.hid hf4
        have Hhf5 := Lib.hid hf5
        have Hhf6 := Lib.hid hf6
        have Hhf7 := Lib.hid hf7
        have Hhf8 := Lib.hid hf8
        have HhS := Lib.hid hS
        have Hhf10 := Lib.hid hf10
        have Hhb := Lib.hid hb
        have Hhw := Lib.hid hw
        clear hf0 hf1 hf2 hf3 hf4 hf5 hf6 hf7 hf8 hS hf10 hb hw
        rw [ea]
        clear ea
        simp only [Act.put, List.setIfInBounds_toArray, List.set_cons_zero, List.set_cons_succ]
        refine step_pos (by rfl) ?_
        refine wp_load_mid 55 _ rfl w.heap.size 0 rfl [.int .i64 t.pc, .int .i64 (t.r 0), .int .i64 (t.r 1), .int .i64 (t.r 2), .int .i64 (t.r 3), .int .i64 (t.r 4), .int .i64 (t.r 5), .int .i64 (t.r 6), .int .i64 (t.r 7), .slice fa fn fc, .int .i64 t.st, .int .i64 t.ft, .slice la ln lc, .int .i64 self, .int .i64 i.1, .int .i64 i.2.1, .int .i64 i.2.2.1, .int .i64 i.2.2.2] _ (varN_range Hhb.out.2.1) Try.underlying55 rfl (by kernel_rfl) ?_
        have hf0 := Hhf0.out
        have hf1 := Hhf1.out
        have hf2 := Hhf2.out
        have hf3 := Hhf3.out
        have hf4 := Hhf4.out
        have hf5 := Hhf5.out
        have hf6 := Hhf6.out
        have hf7 := Hhf7.out
        have hf8 := Hhf8.out
        have hS := HhS.out
        have hf10 := Hhf10.out
        have hb := Hhb.out
        have hw := Hhw.out
        refine hK.out _ _ ?_
        exact .mk (.agg #[.int .i64 t.pc, .int .i64 (t.r 0), .int .i64 (t.r 1), .int .i64 (t.r 2), .int .i64 (t.r 3), .int .i64 (t.r 4), .int .i64 (t.r 5), .int .i64 (t.r 6), .int .i64 (t.r 7), .slice fa fn fc, .int .i64 t.st, .int .i64 t.ft, .slice la ln lc, .int .i64 self, .int .i64 i.1, .int .i64 i.2.1, .int .i64 i.2.2.1, .int .i64 i.2.2.2]) p5 p6 p7 p8 p9 p10 p11 p12 p3 xs (by simp only [Act.put, List.setIfInBounds_toArray, List.set_cons_zero, List.set_cons_succ]) (hb) (fun _ => rfl) (fun h => hf1 (up_back h (by decide))) (fun h => hf2 (up_back h (by decide))) (fun h => hf3 (up_back h (by decide))) (fun h => hf4 (up_back h (by decide))) (fun h => hf5 (up_back h (by decide))) (fun h => hf6 (up_back h (by decide))) (fun h => hf7 (up_back h (by decide))) (fun h => hf8 (up_back h (by decide))) (fun h => hS (up_back h (by decide))) (fun h => hf10 (up_back h (by decide)))
    refine StepsL.cons (k := 1) rfl (fun listed a1 w1 hI hn hw K hK => ?_) ?_
    · cases hI with | mk p4 p5 p6 p7 p8 p9 p10 p11 p12 p3 xs ea hb hf0 hf1 hf2 hf3 hf4 hf5 hf6 hf7 hf8 hS hf10 =>
        have Hhf0 := Lib.hid hf0
        have Hhf1 := Lib.hid hf1
        have Hhf2 := Lib.hid hf2
        have Hhf3 := Lib.hid hf3
        have Hhf4 := Lib.hid hf4
        have Hhf5 := Lib.hid hf5
        have Hhf6 := Lib.hid hf6
        have Hhf7 := Lib.hid hf7
        have Hhf8 := Lib.hid hf8
        have HhS := Lib.hid hS
        have Hhf10 := Lib.hid hf10
        have Hhb := Lib.hid hb
        have Hhw := Lib.hid hw
        clear hf0 hf1 hf2 hf3 hf4 hf5 hf6 hf7 hf8 hS hf10 hb hw
        rw [ea]
        clear ea
        simp only [Act.put, List.setIfInBounds_toArray, List.set_cons_zero, List.set_cons_succ]
        refine step_pos (by rfl) ?_
        refine wp_load_mid 55 _ rfl w.heap.size 0 rfl [.int .i64 t.pc, .int .i64 (t.r 0), .int .i64 (t.r 1), .int .i64 (t.r 2), .int .i64 (t.r 3), .int .i64 (t.r 4), .int .i64 (t.r 5), .int .i64 (t.r 6), .int .i64 (t.r 7), .slice fa fn fc, .int .i64 t.st, .int .i64 t.ft, .slice la ln lc, .int .i64 self, .int .i64 i.1, .int .i64 i.2.1, .int .i64 i.2.2.1, .int .i64 i.2.2.2] _ (varN_range Hhb.out.2.1) Try.underlying55 rfl (by kernel_rfl) ?_
        have hf0 := Hhf0.out
        have hf1 := Hhf1.out
        have hf2 := Hhf2.out
        have hf3 := Hhf3.out
        have hf4 := Hhf4.out
        have hf5 := Hhf5.out
        have hf6 := Hhf6.out
        have hf7 := Hhf7.out
        have hf8 := Hhf8.out
        have hS := HhS.out
        have hf10 := Hhf10.out
        have hb := Hhb.out
        have hw := Hhw.out
        refine hK.out _ _ ?_
        exact .mk p4 (.agg #[.int .i64 t.pc, .int .i64 (t.r 0), .int .i64 (t.r 1), .int .i64 (t.r 2), .int .i64 (t.r 3), .int .i64 (t.r 4), .int .i64 (t.r 5), .int .i64 (t.r 6), .int .i64 (t.r 7), .slice fa fn fc, .int .i64 t.st, .int .i64 t.ft, .slice la ln lc, .int .i64 self, .int .i64 i.1, .int .i64 i.2.1, .int .i64 i.2.2.1, .int .i64 i.2.2.2]) p6 p7 p8 p9 p10 p11 p12 p3 xs (by simp only [Act.put, List.setIfInBounds_toArray, List.set_cons_zero, List.set_cons_succ]) (hb) (fun h => hf0 (up_back h (by decide))) (fun _ => rfl) (fun h => hf2 (up_back h (by decide))) (fun h => hf3 (up_back h (by decide))) (fun h => hf4 (up_back h (by decide))) (fun h => hf5 (up_back h (by decide))) (fun h => hf6 (up_back h (by decide))) (fun h => hf7 (up_back h (by decide))) (fun h => hf8 (up_back h (by decide))) (fun h => hS (up_back h (by decide))) (fun h => hf10 (up_back h (by decide)))
    refine StepsL.cons (k := 2) rfl (fun listed a1 w1 hI hn hw K hK => ?_) ?_
    · cases hI with | mk p4 p5 p6 p7 p8 p9 p10 p11 p12 p3 xs ea hb hf0 hf1 hf2 hf3 hf4 hf5 hf6 hf7 hf8 hS hf10 =>
        have e_f1 := hf1 (hw 1 (by decide))
        subst e_f1
        have Hhf0 := Lib.hid hf0
        have Hhf1 := Lib.hid hf1
        have Hhf2 := Lib.hid hf2
        have Hhf3 := Lib.hid hf3
        have Hhf4 := Lib.hid hf4
        have Hhf5 := Lib.hid hf5
        have Hhf6 := Lib.hid hf6
        have Hhf7 := Lib.hid hf7
        have Hhf8 := Lib.hid hf8
        have HhS := Lib.hid hS
        have Hhf10 := Lib.hid hf10
        have Hhb := Lib.hid hb
        have Hhw := Lib.hid hw
        clear hf0 hf1 hf2 hf3 hf4 hf5 hf6 hf7 hf8 hS hf10 hb hw
        rw [ea]
        clear ea
        simp only [Act.put, List.setIfInBounds_toArray, List.set_cons_zero, List.set_cons_succ]
        refine step_pos (by rfl) ?_
        refine wp_calls _ _ _ rfl 55 rfl [.agg #[.int .i64 t.pc, .int .i64 (t.r 0), .int .i64 (t.r 1), .int .i64 (t.r 2), .int .i64 (t.r 3), .int .i64 (t.r 4), .int .i64 (t.r 5), .int .i64 (t.r 6), .int .i64 (t.r 7), .slice fa fn fc, .int .i64 t.st, .int .i64 t.ft, .slice la ln lc, .int .i64 self, .int .i64 i.1, .int .i64 i.2.1, .int .i64 i.2.2.1, .int .i64 i.2.2.2]] rfl (by kernel_rfl) ((lo_b_any t self i fa la fn fc ln lc _ Hb.out).mono ?_)
        rintro e w2 ⟨rfl, hb2⟩
        refine ⟨_, rfl, ?_⟩
        have hf0 := Hhf0.out
        have hf1 := Hhf1.out
        have hf2 := Hhf2.out
        have hf3 := Hhf3.out
        have hf4 := Hhf4.out
        have hf5 := Hhf5.out
        have hf6 := Hhf6.out
        have hf7 := Hhf7.out
        have hf8 := Hhf8.out
        have hS := HhS.out
        have hf10 := Hhf10.out
        have hb := Hhb.out
        have hw := Hhw.out
        refine hK.out _ _ ?_
        exact .mk p4 (.agg #[.int .i64 t.pc, .int .i64 (t.r 0), .int .i64 (t.r 1), .int .i64 (t.r 2), .int .i64 (t.r 3), .int .i64 (t.r 4), .int .i64 (t.r 5), .int .i64 (t.r 6), .int .i64 (t.r 7), .slice fa fn fc, .int .i64 t.st, .int .i64 t.ft, .slice la ln lc, .int .i64 self, .int .i64 i.1, .int .i64 i.2.1, .int .i64 i.2.2.1, .int .i64 i.2.2.2]) (.int .i64 (rgt t i.2.2.1)) p7 p8 p9 p10 p11 p12 p3 xs (by simp only [Act.put, List.setIfInBounds_toArray, List.set_cons_zero, List.set_cons_succ]) (⟨hb.1.trans (hb2.mono (Nat.le_of_lt (varN_lt hb.2.1 (by simp)))), varN_B hb2 hb.2.1, varN_B hb2 hb.2.2.1, hb.2.2.2⟩) (fun h => hf0 (up_back h (by decide))) (fun _ => rfl) (fun _ => rfl) (fun h => hf3 (up_back h (by decide))) (fun h => hf4 (up_back h (by decide))) (fun h => hf5 (up_back h (by decide))) (fun h => hf6 (up_back h (by decide))) (fun h => hf7 (up_back h (by decide))) (fun h => hf8 (up_back h (by decide))) (fun h => hS (up_back h (by decide))) (fun h => hf10 (up_back h (by decide)))
    refine StepsL.cons (k := 3) rfl (fun listed a1 w1 hI hn hw K hK => ?_) ?_
    · cases hI with | mk p4 p5 p6 p7 p8 p9 p10 p11 p12 p3 xs ea hb hf0 hf1 hf2 hf3 hf4 hf5 hf6 hf7 hf8 hS hf10 =>
        have Hhf0 := Lib.hid hf0
        have Hhf1 := Lib.hid hf1
        have Hhf2 := Lib.hid hf2
        have Hhf3 := Lib.hid hf3
        have Hhf4 := Lib.hid hf4
        have Hhf5 := Lib.hid hf5
        have Hhf6 := Lib.hid hf6
        have Hhf7 := Lib.hid hf7
        have Hhf8 := Lib.hid hf8
        have HhS := Lib.hid hS
        have Hhf10 := Lib.hid hf10
        have Hhb := Lib.hid hb
        have Hhw := Lib.hid hw
        clear hf0 hf1 hf2 hf3 hf4 hf5 hf6 hf7 hf8 hS hf10 hb hw
        rw [ea]
        clear ea
        simp only [Act.put, List.setIfInBounds_toArray, List.set_cons_zero, List.set_cons_succ]
        refine step_pos (by rfl) ?_
        refine wp_load_mid 55 _ rfl w.heap.size 0 rfl [.int .i64 t.pc, .int .i64 (t.r 0), .int .i64 (t.r 1), .int .i64 (t.r 2), .int .i64 (t.r 3), .int .i64 (t.r 4), .int .i64 (t.r 5), .int .i64 (t.r 6), .int .i64 (t.r 7), .slice fa fn fc, .int .i64 t.st, .int .i64 t.ft, .slice la ln lc, .int .i64 self, .int .i64 i.1, .int .i64 i.2.1, .int .i64 i.2.2.1, .int .i64 i.2.2.2] _ (varN_range Hhb.out.2.1) Try.underlying55 rfl (by kernel_rfl) ?_
        have hf0 := Hhf0.out
        have hf1 := Hhf1.out
        have hf2 := Hhf2.out
        have hf3 := Hhf3.out
        have hf4 := Hhf4.out
        have hf5 := Hhf5.out
        have hf6 := Hhf6.out
        have hf7 := Hhf7.out
        have hf8 := Hhf8.out
        have hS := HhS.out
        have hf10 := Hhf10.out
        have hb := Hhb.out
        have hw := Hhw.out
        refine hK.out _ _ ?_
        exact .mk p4 p5 p6 (.agg #[.int .i64 t.pc, .int .i64 (t.r 0), .int .i64 (t.r 1), .int .i64 (t.r 2), .int .i64 (t.r 3), .int .i64 (t.r 4), .int .i64 (t.r 5), .int .i64 (t.r 6), .int .i64 (t.r 7), .slice fa fn fc, .int .i64 t.st, .int .i64 t.ft, .slice la ln lc, .int .i64 self, .int .i64 i.1, .int .i64 i.2.1, .int .i64 i.2.2.1, .int .i64 i.2.2.2]) p8 p9 p10 p11 p12 p3 xs (by simp only [Act.put, List.setIfInBounds_toArray, List.set_cons_zero, List.set_cons_succ]) (hb) (fun h => hf0 (up_back h (by decide))) (fun h => hf1 (up_back h (by decide))) (fun h => hf2 (up_back h (by decide))) (fun _ => rfl) (fun h => hf4 (up_back h (by decide))) (fun h => hf5 (up_back h (by decide))) (fun h => hf6 (up_back h (by decide))) (fun h => hf7 (up_back h (by decide))) (fun h => hf8 (up_back h (by decide))) (fun h => hS (up_back h (by decide))) (fun h => hf10 (up_back h (by decide)))
    refine StepsL.cons (k := 4) rfl (fun listed a1 w1 hI hn hw K hK => ?_) ?_
    · cases hI with | mk p4 p5 p6 p7 p8 p9 p10 p11 p12 p3 xs ea hb hf0 hf1 hf2 hf3 hf4 hf5 hf6 hf7 hf8 hS hf10 =>
        have e_f3 := hf3 (hw 3 (by decide))
        subst e_f3
        have Hhf0 := Lib.hid hf0
        have Hhf1 := Lib.hid hf1
        have Hhf2 := Lib.hid hf2
        have Hhf3 := Lib.hid hf3
        have Hhf4 := Lib.hid hf4
        have Hhf5 := Lib.hid hf5
        have Hhf6 := Lib.hid hf6
        have Hhf7 := Lib.hid hf7
        have Hhf8 := Lib.hid hf8
        have HhS := Lib.hid hS
        have Hhf10 := Lib.hid hf10
        have Hhb := Lib.hid hb
        have Hhw := Lib.hid hw
        clear hf0 hf1 hf2 hf3 hf4 hf5 hf6 hf7 hf8 hS hf10 hb hw
        rw [ea]
        clear ea
        simp only [Act.put, List.setIfInBounds_toArray, List.set_cons_zero, List.set_cons_succ]
        refine step_pos (by rfl) ?_
        refine wp_calls _ _ _ rfl 56 rfl [.agg #[.int .i64 t.pc, .int .i64 (t.r 0), .int .i64 (t.r 1), .int .i64 (t.r 2), .int .i64 (t.r 3), .int .i64 (t.r 4), .int .i64 (t.r 5), .int .i64 (t.r 6), .int .i64 (t.r 7), .slice fa fn fc, .int .i64 t.st, .int .i64 t.ft, .slice la ln lc, .int .i64 self, .int .i64 i.1, .int .i64 i.2.1, .int .i64 i.2.2.1, .int .i64 i.2.2.2]] rfl (by kernel_rfl) ((lo_c_any t self i fa la fn fc ln lc _ Hc.out).mono ?_)
        rintro e w2 ⟨rfl, hb2⟩
        refine ⟨_, rfl, ?_⟩
        have hf0 := Hhf0.out
        have hf1 := Hhf1.out
        have hf2 := Hhf2.out
        have hf3 := Hhf3.out
        have hf4 := Hhf4.out
        have hf5 := Hhf5.out
        have hf6 := Hhf6.out
        have hf7 := Hhf7.out
        have hf8 := Hhf8.out
        have hS := HhS.out
        have hf10 := Hhf10.out
        have hb := Hhb.out
        have hw := Hhw.out
        refine hK.out _ _ ?_
        exact .mk p4 p5 p6 (.agg #[.int .i64 t.pc, .int .i64 (t.r 0), .int .i64 (t.r 1), .int .i64 (t.r 2), .int .i64 (t.r 3), .int .i64 (t.r 4), .int .i64 (t.r 5), .int .i64 (t.r 6), .int .i64 (t.r 7), .slice fa fn fc, .int .i64 t.st, .int .i64 t.ft, .slice la ln lc, .int .i64 self, .int .i64 i.1, .int .i64 i.2.1, .int .i64 i.2.2.1, .int .i64 i.2.2.2]) (.int .i64 (rgt t i.2.2.2)) p9 p10 p11 p12 p3 xs (by simp only [Act.put, List.setIfInBounds_toArray, List.set_cons_zero, List.set_cons_succ]) (⟨hb.1.trans (hb2.mono (Nat.le_of_lt (varN_lt hb.2.1 (by simp)))), varN_B hb2 hb.2.1, varN_B hb2 hb.2.2.1, hb.2.2.2⟩) (fun h => hf0 (up_back h (by decide))) (fun h => hf1 (up_back h (by decide))) (fun h => hf2 (up_back h (by decide))) (fun _ => rfl) (fun _ => rfl) (fun h => hf5 (up_back h (by decide))) (fun h => hf6 (up_back h (by decide))) (fun h => hf7 (up_back h (by decide))) (fun h => hf8 (up_back h (by decide))) (fun h => hS (up_back h (by decide))) (fun h => hf10 (up_back h (by decide)))
    refine StepsL.cons (k := 5) rfl (fun listed a1 w1 hI hn hw K hK => ?_) ?_
    · cases hI with | mk p4 p5 p6 p7 p8 p9 p10 p11 p12 p3 xs ea hb hf0 hf1 hf2 hf3 hf4 hf5 hf6 hf7 hf8 hS hf10 =>
        have e_f2 := hf2 (hw 2 (by decide))
        have e_f4 := hf4 (hw 4 (by decide))
        subst e_f2 e_f4
        have Hhf0 := Lib.hid hf0
        have Hhf1 := Lib.hid hf1
        have Hhf2 := Lib.hid hf2
        have Hhf3 := Lib.hid hf3
        have Hhf4 := Lib.hid hf4
        have Hhf5 := Lib.hid hf5
        have Hhf6 := Lib.hid hf6
        have Hhf7 := Lib.hid hf7
        have Hhf8 := Lib.hid hf8
        have HhS := Lib.hid hS
        have Hhf10 := Lib.hid hf10
        have Hhb := Lib.hid hb
        have Hhw := Lib.hid hw
        clear hf0 hf1 hf2 hf3 hf4 hf5 hf6 hf7 hf8 hS hf10 hb hw
        rw [ea]
        clear ea
        simp only [Act.put, List.setIfInBounds_toArray, List.set_cons_zero, List.set_cons_succ]
        go_simp
        have hf0 := Hhf0.out
        have hf1 := Hhf1.out
        have hf2 := Hhf2.out
        have hf3 := Hhf3.out
        have hf4 := Hhf4.out
        have hf5 := Hhf5.out
        have hf6 := Hhf6.out
        have hf7 := Hhf7.out
        have hf8 := Hhf8.out
        have hS := HhS.out
        have hf10 := Hhf10.out
        have hb := Hhb.out
        have hw := Hhw.out
        refine hK.out _ _ ?_
        exact .mk p4 p5 (.int .i64 (rgt t i.2.2.1)) p7 (.int .i64 (rgt t i.2.2.2)) (.int .i64 (wrap64 (rgt t i.2.2.1 - rgt t i.2.2.2))) p10 p11 p12 p3 xs (by simp only [Act.put, List.setIfInBounds_toArray, List.set_cons_zero, List.set_cons_succ, IntWalk.i64_left]) (hb) (fun h => hf0 (up_back h (by decide))) (fun h => hf1 (up_back h (by decide))) (fun _ => rfl) (fun h => hf3 (up_back h (by decide))) (fun _ => rfl) (fun _ => rfl) (fun h => hf6 (up_back h (by decide))) (fun h => hf7 (up_back h (by decide))) (fun h => hf8 (up_back h (by decide))) (fun h => hS (up_back h (by decide))) (fun h => hf10 (up_back h (by decide)))
    refine StepsL.cons (k := 6) rfl (fun listed a1 w1 hI hn hw K hK => ?_) ?_
    · cases hI with | mk p4 p5 p6 p7 p8 p9 p10 p11 p12 p3 xs ea hb hf0 hf1 hf2 hf3 hf4 hf5 hf6 hf7 hf8 hS hf10 =>
        have e_f0 := hf0 (hw 0 (by decide))
        have e_f5 := hf5 (hw 5 (by decide))
        subst e_f0 e_f5
        have Hhf0 := Lib.hid hf0
        have Hhf1 := Lib.hid hf1
        have Hhf2 := Lib.hid hf2
        have Hhf3 := Lib.hid hf3
        have Hhf4 := Lib.hid hf4
        have Hhf5 := Lib.hid hf5
        have Hhf6 := Lib.hid hf6
        have Hhf7 := Lib.hid hf7
        have Hhf8 := Lib.hid hf8
        have HhS := Lib.hid hS
        have Hhf10 := Lib.hid hf10
        have Hhb := Lib.hid hb
        have Hhw := Lib.hid hw
        clear hf0 hf1 hf2 hf3 hf4 hf5 hf6 hf7 hf8 hS hf10 hb hw
        rw [ea]
        clear ea
        simp only [Act.put, List.setIfInBounds_toArray, List.set_cons_zero, List.set_cons_succ]
        have h0 := lo_becomes_any t self i (wrap64 (rgt t i.2.2.1 - rgt t i.2.2.2)) fa la fn fc ln lc w1 Ha.out HP.out
        rw [HZ.out] at h0
        refine step_pos (by rfl) ?_
        refine wp_calls _ _ _ rfl 54 rfl [.agg #[.int .i64 t.pc, .int .i64 (t.r 0), .int .i64 (t.r 1), .int .i64 (t.r 2), .int .i64 (t.r 3), .int .i64 (t.r 4), .int .i64 (t.r 5), .int .i64 (t.r 6), .int .i64 (t.r 7), .slice fa fn fc, .int .i64 t.st, .int .i64 t.ft, .slice la ln lc, .int .i64 self, .int .i64 i.1, .int .i64 i.2.1, .int .i64 i.2.2.1, .int .i64 i.2.2.2], .int .i64 (wrap64 (rgt t i.2.2.1 - rgt t i.2.2.2))] rfl (by kernel_rfl) (h0.mono ?_)
        rintro e w2 ⟨rfl, hb2⟩
        refine ⟨_, rfl, ?_⟩
        have hf0 := Hhf0.out
        have hf1 := Hhf1.out
        have hf2 := Hhf2.out
        have hf3 := Hhf3.out
        have hf4 := Hhf4.out
        have hf5 := Hhf5.out
        have hf6 := Hhf6.out
        have hf7 := Hhf7.out
        have hf8 := Hhf8.out
        have hS := HhS.out
        have hf10 := Hhf10.out
        have hb := Hhb.out
        have hw := Hhw.out
        refine hK.out _ _ ?_
        exact .mk (.agg #[.int .i64 t.pc, .int .i64 (t.r 0), .int .i64 (t.r 1), .int .i64 (t.r 2), .int .i64 (t.r 3), .int .i64 (t.r 4), .int .i64 (t.r 5), .int .i64 (t.r 6), .int .i64 (t.r 7), .slice fa fn fc, .int .i64 t.st, .int .i64 t.ft, .slice la ln lc, .int .i64 self, .int .i64 i.1, .int .i64 i.2.1, .int .i64 i.2.2.1, .int .i64 i.2.2.2]) p5 p6 p7 p8 (.int .i64 (wrap64 (rgt t i.2.2.1 - rgt t i.2.2.2))) (.tuple #[.agg #[.int .i64 z.pc, .int .i64 (z.r 0), .int .i64 (z.r 1), .int .i64 (z.r 2), .int .i64 (z.r 3), .int .i64 (z.r 4), .int .i64 (z.r 5), .int .i64 (z.r 6), .int .i64 (z.r 7), .slice fa fn fc, .int .i64 z.st, .int .i64 z.ft, .slice la ln lc], .int .i64 0]) p11 p12 p3 xs (by simp only [Act.put, List.setIfInBounds_toArray, List.set_cons_zero, List.set_cons_succ]) (⟨hb.1.trans (hb2.mono (Nat.le_of_lt (varN_lt hb.2.1 (by simp)))), varN_B hb2 hb.2.1, varN_B hb2 hb.2.2.1, hb.2.2.2⟩) (fun _ => rfl) (fun h => hf1 (up_back h (by decide))) (fun h => hf2 (up_back h (by decide))) (fun h => hf3 (up_back h (by decide))) (fun h => hf4 (up_back h (by decide))) (fun _ => rfl) (fun _ => rfl) (fun h => hf7 (up_back h (by decide))) (fun h => hf8 (up_back h (by decide))) (fun h => hS (up_back h (by decide))) (fun h => hf10 (up_back h (by decide)))
    refine StepsL.cons (k := 7) rfl (fun listed a1 w1 hI hn hw K hK => ?_) ?_
    · cases hI with | mk p4 p5 p6 p7 p8 p9 p10 p11 p12 p3 xs ea hb hf0 hf1 hf2 hf3 hf4 hf5 hf6 hf7 hf8 hS hf10 =>
        have e_f6 := hf6 (hw 6 (by decide))
        subst e_f6
        have Hhf0 := Lib.hid hf0
        have Hhf1 := Lib.hid hf1
        have Hhf2 := Lib.hid hf2
        have Hhf3 := Lib.hid hf3
        have Hhf4 := Lib.hid hf4
        have Hhf5 := Lib.hid hf5
        have Hhf6 := Lib.hid hf6
        have Hhf7 := Lib.hid hf7
        have Hhf8 := Lib.hid hf8
        have HhS := Lib.hid hS
        have Hhf10 := Lib.hid hf10
        have Hhb := Lib.hid hb
        have Hhw := Lib.hid hw
        clear hf0 hf1 hf2 hf3 hf4 hf5 hf6 hf7 hf8 hS hf10 hb hw
        rw [ea]
        clear ea
        simp only [Act.put, List.setIfInBounds_toArray, List.set_cons_zero, List.set_cons_succ]
        go_simp
        have hf0 := Hhf0.out
        have hf1 := Hhf1.out
        have hf2 := Hhf2.out
        have hf3 := Hhf3.out
        have hf4 := Hhf4.out
        have hf5 := Hhf5.out
        have hf6 := Hhf6.out
        have hf7 := Hhf7.out
        have hf8 := Hhf8.out
        have hS := HhS.out
        have hf10 := Hhf10.out
        have hb := Hhb.out
        have hw := Hhw.out
        refine hK.out _ _ ?_
        exact .mk p4 p5 p6 p7 p8 p9 (.tuple #[.agg #[.int .i64 z.pc, .int .i64 (z.r 0), .int .i64 (z.r 1), .int .i64 (z.r 2), .int .i64 (z.r 3), .int .i64 (z.r 4), .int .i64 (z.r 5), .int .i64 (z.r 6), .int .i64 (z.r 7), .slice fa fn fc, .int .i64 z.st, .int .i64 z.ft, .slice la ln lc], .int .i64 0]) (.agg #[.int .i64 z.pc, .int .i64 (z.r 0), .int .i64 (z.r 1), .int .i64 (z.r 2), .int .i64 (z.r 3), .int .i64 (z.r 4), .int .i64 (z.r 5), .int .i64 (z.r 6), .int .i64 (z.r 7), .slice fa fn fc, .int .i64 z.st, .int .i64 z.ft, .slice la ln lc]) p12 p3 xs (by simp only [Act.put, List.setIfInBounds_toArray, List.set_cons_zero, List.set_cons_succ]) (hb) (fun h => hf0 (up_back h (by decide))) (fun h => hf1 (up_back h (by decide))) (fun h => hf2 (up_back h (by decide))) (fun h => hf3 (up_back h (by decide))) (fun h => hf4 (up_back h (by decide))) (fun h => hf5 (up_back h (by decide))) (fun _ => rfl) (fun _ => rfl) (fun h => hf8 (up_back h (by decide))) (fun h => hS (up_back h (by decide))) (fun h => hf10 (up_back h (by decide)))
    refine StepsL.cons (k := 8) rfl (fun listed a1 w1 hI hn hw K hK => ?_) ?_
    · cases hI with | mk p4 p5 p6 p7 p8 p9 p10 p11 p12 p3 xs ea hb hf0 hf1 hf2 hf3 hf4 hf5 hf6 hf7 hf8 hS hf10 =>
        have e_f6 := hf6 (hw 6 (by decide))
        subst e_f6
        have Hhf0 := Lib.hid hf0
        have Hhf1 := Lib.hid hf1
        have Hhf2 := Lib.hid hf2
        have Hhf3 := Lib.hid hf3
        have Hhf4 := Lib.hid hf4
        have Hhf5 := Lib.hid hf5
        have Hhf6 := Lib.hid hf6
        have Hhf7 := Lib.hid hf7
        have Hhf8 := Lib.hid hf8
        have HhS := Lib.hid hS
        have Hhf10 := Lib.hid hf10
        have Hhb := Lib.hid hb
        have Hhw := Lib.hid hw
        clear hf0 hf1 hf2 hf3 hf4 hf5 hf6 hf7 hf8 hS hf10 hb hw
        rw [ea]
        clear ea
        simp only [Act.put, List.setIfInBounds_toArray, List.set_cons_zero, List.set_cons_succ]
        go_simp
        have hf0 := Hhf0.out
        have hf1 := Hhf1.out
        have hf2 := Hhf2.out
        have hf3 := Hhf3.out
        have hf4 := Hhf4.out
        have hf5 := Hhf5.out
        have hf6 := Hhf6.out
        have hf7 := Hhf7.out
        have hf8 := Hhf8.out
        have hS := HhS.out
        have hf10 := Hhf10.out
        have hb := Hhb.out
        have hw := Hhw.out
        refine hK.out _ _ ?_
        exact .mk p4 p5 p6 p7 p8 p9 (.tuple #[.agg #[.int .i64 z.pc, .int .i64 (z.r 0), .int .i64 (z.r 1), .int .i64 (z.r 2), .int .i64 (z.r 3), .int .i64 (z.r 4), .int .i64 (z.r 5), .int .i64 (z.r 6), .int .i64 (z.r 7), .slice fa fn fc, .int .i64 z.st, .int .i64 z.ft, .slice la ln lc], .int .i64 0]) p11 (.int .i64 0) p3 xs (by simp only [Act.put, List.setIfInBounds_toArray, List.set_cons_zero, List.set_cons_succ]) (hb) (fun h => hf0 (up_back h (by decide))) (fun h => hf1 (up_back h (by decide))) (fun h => hf2 (up_back h (by decide))) (fun h => hf3 (up_back h (by decide))) (fun h => hf4 (up_back h (by decide))) (fun h => hf5 (up_back h (by decide))) (fun _ => rfl) (fun h => hf7 (up_back h (by decide))) (fun _ => rfl) (fun h => hS (up_back h (by decide))) (fun h => hf10 (up_back h (by decide)))
    refine StepsL.cons (k := 9) rfl (fun listed a1 w1 hI hn hw K hK => ?_) ?_
    · cases hI with | mk p4 p5 p6 p7 p8 p9 p10 p11 p12 p3 xs ea hb hf0 hf1 hf2 hf3 hf4 hf5 hf6 hf7 hf8 hS hf10 =>
        have e_f7 := hf7 (hw 7 (by decide))
        subst e_f7
        have Hhf0 := Lib.hid hf0
        have Hhf1 := Lib.hid hf1
        have Hhf2 := Lib.hid hf2
        have Hhf3 := Lib.hid hf3
        have Hhf4 := Lib.hid hf4
        have Hhf5 := Lib.hid hf5
        have Hhf6 := Lib.hid hf6
        have Hhf7 := Lib.hid hf7
        have Hhf8 := Lib.hid hf8
        have HhS := Lib.hid hS
        have Hhf10 := Lib.hid hf10
        have Hhb := Lib.hid hb
        have Hhw := Lib.hid hw
        clear hf0 hf1 hf2 hf3 hf4 hf5 hf6 hf7 hf8 hS hf10 hb hw
        rw [ea]
        clear ea
        simp only [Act.put, List.setIfInBounds_toArray, List.set_cons_zero, List.set_cons_succ]
        refine step_pos (by rfl) ?_
        refine wp_store_var 27 _ _ rfl (w.heap.size + 1) #[.int .i64 z.pc, .int .i64 (z.r 0), .int .i64 (z.r 1), .int .i64 (z.r 2), .int .i64 (z.r 3), .int .i64 (z.r 4), .int .i64 (z.r 5), .int .i64 (z.r 6), .int .i64 (z.r 7), .slice fa fn fc, .int .i64 z.st, .int .i64 z.ft, .slice la ln lc] rfl rfl xs Hhb.out.2.2.1 Hhb.out.2.2.2.symm (by kernel_rfl) (one_thr _ _ _ _ _ _ _) ?_
        intro U HU
        have hf0 := Hhf0.out
        have hf1 := Hhf1.out
        have hf2 := Hhf2.out
        have hf3 := Hhf3.out
        have hf4 := Hhf4.out
        have hf5 := Hhf5.out
        have hf6 := Hhf6.out
        have hf7 := Hhf7.out
        have hf8 := Hhf8.out
        have hS := HhS.out
        have hf10 := Hhf10.out
        have hb := Hhb.out
        have hw := Hhw.out
        refine hK.out _ _ ?_
        exact .mk p4 p5 p6 p7 p8 p9 p10 (.agg #[.int .i64 z.pc, .int .i64 (z.r 0), .int .i64 (z.r 1), .int .i64 (z.r 2), .int .i64 (z.r 3), .int .i64 (z.r 4), .int .i64 (z.r 5), .int .i64 (z.r 6), .int .i64 (z.r 7), .slice fa fn fc, .int .i64 z.st, .int .i64 z.ft, .slice la ln lc]) p12 p3 [.int .i64 z.pc, .int .i64 (z.r 0), .int .i64 (z.r 1), .int .i64 (z.r 2), .int .i64 (z.r 3), .int .i64 (z.r 4), .int .i64 (z.r 5), .int .i64 (z.r 6), .int .i64 (z.r 7), .slice fa fn fc, .int .i64 z.st, .int .i64 z.ft, .slice la ln lc] (by simp only [Act.put, List.setIfInBounds_toArray, List.set_cons_zero, List.set_cons_succ]) (⟨below_set HU (Nat.le_succ w.heap.size) hb.1, by rw [HU.out]; exact varN_others (by omega) hb.2.1, by rw [HU.out]; exact varN_all (xs := [.int .i64 z.pc, .int .i64 (z.r 0), .int .i64 (z.r 1), .int .i64 (z.r 2), .int .i64 (z.r 3), .int .i64 (z.r 4), .int .i64 (z.r 5), .int .i64 (z.r 6), .int .i64 (z.r 7), .slice fa fn fc, .int .i64 z.st, .int .i64 z.ft, .slice la ln lc]) hb.2.2.1 hb.2.2.2.symm, rfl⟩) (fun h => hf0 (up_back h (by decide))) (fun h => hf1 (up_back h (by decide))) (fun h => hf2 (up_back h (by decide))) (fun h => hf3 (up_back h (by decide))) (fun h => hf4 (up_back h (by decide))) (fun h => hf5 (up_back h (by decide))) (fun h => hf6 (up_back h (by decide))) (fun _ => rfl) (fun h => hf8 (up_back h (by decide))) (fun _ => rfl) (fun h => hf10 (up_back h (by decide)))
    refine StepsL.cons (k := 10) rfl (fun listed a1 w1 hI hn hw K hK => ?_) ?_
    · cases hI with | mk p4 p5 p6 p7 p8 p9 p10 p11 p12 p3 xs ea hb hf0 hf1 hf2 hf3 hf4 hf5 hf6 hf7 hf8 hS hf10 =>
        have e_f8 := hf8 (hw 8 (by decide))
        subst e_f8
        have Hhf0 := Lib.hid hf0
        have Hhf1 := Lib.hid hf1
        have Hhf2 := Lib.hid hf2
        have Hhf3 := Lib.hid hf3
        have Hhf4 := Lib.hid hf4
        have Hhf5 := Lib.hid hf5
        have Hhf6 := Lib.hid hf6
        have Hhf7 := Lib.hid hf7
        have Hhf8 := Lib.hid hf8
        have HhS := Lib.hid hS
        have Hhf10 := Lib.hid hf10
        have Hhb := Lib.hid hb
        have Hhw := Lib.hid hw
        clear hf0 hf1 hf2 hf3 hf4 hf5 hf6 hf7 hf8 hS hf10 hb hw
        rw [ea]
        clear ea
        simp only [Act.put, List.setIfInBounds_toArray, List.set_cons_zero, List.set_cons_succ]
        go_simp
        have hf0 := Hhf0.out
        have hf1 := Hhf1.out
        have hf2 := Hhf2.out
        have hf3 := Hhf3.out
        have hf4 := Hhf4.out
        have hf5 := Hhf5.out
        have hf6 := Hhf6.out
        have hf7 := Hhf7.out
        have hf8 := Hhf8.out
        have hS := HhS.out
        have hf10 := Hhf10.out
        have hb := Hhb.out
        have hw := Hhw.out
        refine hK.out _ _ ?_
        exact .mk p4 p5 p6 p7 p8 p9 p10 p11 (.int .i64 0) (.int .i64 0) xs (by simp only [Act.put, List.setIfInBounds_toArray, List.set_cons_zero, List.set_cons_succ]) (hb) (fun h => hf0 (up_back h (by decide))) (fun h => hf1 (up_back h (by decide))) (fun h => hf2 (up_back h (by decide))) (fun h => hf3 (up_back h (by decide))) (fun h => hf4 (up_back h (by decide))) (fun h => hf5 (up_back h (by decide))) (fun h => hf6 (up_back h (by decide))) (fun h => hf7 (up_back h (by decide))) (fun _ => rfl) (fun h => hS (up_back h (by decide))) (fun _ => rfl)
    exact StepsL.nil
  · intro listed a1 w1 hI hu
    cases hI with | mk p4 p5 p6 p7 p8 p9 p10 p11 p12 p3 xs ea hb hf0 hf1 hf2 hf3 hf4 hf5 hf6 hf7 hf8 hS hf10 =>
      have e9 := hS (hu 9)
      have e3 := hf10 (hu 10)
      subst e9 e3
      have HB1 := Lib.hid (HB.out.trans hb.1)
      have HR1 := Lib.hid hb.2.2.1
      clear hf0 hf1 hf2 hf3 hf4 hf5 hf6 hf7 hf8 hS hf10 hb hu HX HR HB HW
      rw [ea]
      clear ea
      simp only [Act.put, List.setIfInBounds_toArray, List.set_cons_zero, List.set_cons_succ]
      go_wp2
      refine bp_cell_tmp ⟨w.heap.size + 1, 0, none⟩ rfl rfl rfl (load_thr _ _ z fa la fn fc ln lc HR1.out) ?_
      exact ⟨rfl, HB1.out⟩
inductive Inv_and (t : Thr) (self : Int) (i : In4) (g : Nat) (fa la : Option Addr) (fn fc ln lc : Nat) (z : Thr) (a0 : Act) (w0 : World) (listed : Array Bool) (act' : Act) (w' : World) : Prop
  | mk (p4 p5 p6 p7 p8 p9 p10 p11 p12 p3 : Value) (xs : List Value) (ea : act' = ((((((((((a0.put (some 4) p4).put (some 5) p5).put (some 6) p6).put (some 7) p7).put (some 8) p8).put (some 9) p9).put (some 10) p10).put (some 11) p11).put (some 12) p12).put (some 3) p3)) (hb : Below g w0 w' ∧ VarN w' g [.int .i64 t.pc, .int .i64 (t.r 0), .int .i64 (t.r 1), .int .i64 (t.r 2), .int .i64 (t.r 3), .int .i64 (t.r 4), .int .i64 (t.r 5), .int .i64 (t.r 6), .int .i64 (t.r 7), .slice fa fn fc, .int .i64 t.st, .int .i64 t.ft, .slice la ln lc, .int .i64 self, .int .i64 i.1, .int .i64 i.2.1, .int .i64 i.2.2.1, .int .i64 i.2.2.2] ∧ VarN w' (g + 1) xs ∧ xs.length = 13) (hf0 : Up listed 0 → p4 = .agg #[.int .i64 t.pc, .int .i64 (t.r 0), .int .i64 (t.r 1), .int .i64 (t.r 2), .int .i64 (t.r 3), .int .i64 (t.r 4), .int .i64 (t.r 5), .int .i64 (t.r 6), .int .i64 (t.r 7), .slice fa fn fc, .int .i64 t.st, .int .i64 t.ft, .slice la ln lc, .int .i64 self, .int .i64 i.1, .int .i64 i.2.1, .int .i64 i.2.2.1, .int .i64 i.2.2.2]) (hf1 : Up listed 1 → p5 = .agg #[.int .i64 t.pc, .int .i64 (t.r 0), .int .i64 (t.r 1), .int .i64 (t.r 2), .int .i64 (t.r 3), .int .i64 (t.r 4), .int .i64 (t.r 5), .int .i64 (t.r 6), .int .i64 (t.r 7), .slice fa fn fc, .int .i64 t.st, .int .i64 t.ft, .slice la ln lc, .int .i64 self, .int .i64 i.1, .int .i64 i.2.1, .int .i64 i.2.2.1, .int .i64 i.2.2.2]) (hf2 : Up listed 2 → p6 = .int .i64 (rgt t i.2.2.1)) (hf3 : Up listed 3 → p7 = .agg #[.int .i64 t.pc, .int .i64 (t.r 0), .int .i64 (t.r 1), .int .i64 (t.r 2), .int .i64 (t.r 3), .int .i64 (t.r 4), .int .i64 (t.r 5), .int .i64 (t.r 6), .int .i64 (t.r 7), .slice fa fn fc, .int .i64 t.st, .int .i64 t.ft, .slice la ln lc, .int .i64 self, .int .i64 i.1, .int .i64 i.2.1, .int .i64 i.2.2.1, .int .i64 i.2.2.2]) (hf4 : Up listed 4 → p8 = .int .i64 (rgt t i.2.2.2)) (hf5 : Up listed 5 → p9 = .int .i64 (bits .and .i64 (rgt t i.2.2.1) (rgt t i.2.2.2))) (hf6 : Up listed 6 → p10 = .tuple #[.agg #[.int .i64 z.pc, .int .i64 (z.r 0), .int .i64 (z.r 1), .int .i64 (z.r 2), .int .i64 (z.r 3), .int .i64 (z.r 4), .int .i64 (z.r 5), .int .i64 (z.r 6), .int .i64 (z.r 7), .slice fa fn fc, .int .i64 z.st, .int .i64 z.ft, .slice la ln lc], .int .i64 0]) (hf7 : Up listed 7 → p11 = .agg #[.int .i64 z.pc, .int .i64 (z.r 0), .int .i64 (z.r 1), .int .i64 (z.r 2), .int .i64 (z.r 3), .int .i64 (z.r 4), .int .i64 (z.r 5), .int .i64 (z.r 6), .int .i64 (z.r 7), .slice fa fn fc, .int .i64 z.st, .int .i64 z.ft, .slice la ln lc]) (hf8 : Up listed 8 → p12 = .int .i64 0) (hS : Up listed 9 → xs = [.int .i64 z.pc, .int .i64 (z.r 0), .int .i64 (z.r 1), .int .i64 (z.r 2), .int .i64 (z.r 3), .int .i64 (z.r 4), .int .i64 (z.r 5), .int .i64 (z.r 6), .int .i64 (z.r 7), .slice fa fn fc, .int .i64 z.st, .int .i64 z.ft, .slice la ln lc]) (hf10 : Up listed 10 → p3 = .int .i64 0) : Inv_and t self i g fa la fn fc ln lc z a0 w0 listed act' w'
set_option maxRecDepth 100000 in
set_option maxHeartbeats 8000000 in
theorem lo_and_any (t : Thr) (self : Int) (i : In4) (fa la : Option Addr) (fn fc ln lc : Nat) (w : World) (ha : 0 ≤ i.2.1 ∧ i.2.1 ≤ 7) (hb : 0 ≤ i.2.2.1 ∧ i.2.2.1 ≤ 7) (hc : 0 ≤ i.2.2.2 ∧ i.2.2.2 ≤ 7) (hp : 0 ≤ t.pc ∧ t.pc ≤ 1000) :
    Calls Try.prog 38 #[.agg #[.int .i64 t.pc, .int .i64 (t.r 0), .int .i64 (t.r 1), .int .i64 (t.r 2), .int .i64 (t.r 3), .int .i64 (t.r 4), .int .i64 (t.r 5), .int .i64 (t.r 6), .int .i64 (t.r 7), .slice fa fn fc, .int .i64 t.st, .int .i64 t.ft, .slice la ln lc, .int .i64 self, .int .i64 i.1, .int .i64 i.2.1, .int .i64 i.2.2.1, .int .i64 i.2.2.2]] w (ThIs (putT t i.2.1 (bits .and .i64 (rgt t i.2.2.1) (rgt t i.2.2.2))) fa la fn fc ln lc 0 w) := by
  obtain ⟨z, hz⟩ : ∃ z, putT t i.2.1 (bits .and .i64 (rgt t i.2.2.1) (rgt t i.2.2.2)) = z := ⟨_, rfl⟩
  rw [hz]
  obtain ⟨W, hW⟩ : ∃ W, W = (w.alloc (Obj.cells #[.int .i64 t.pc, .int .i64 (t.r 0), .int .i64 (t.r 1), .int .i64 (t.r 2), .int .i64 (t.r 3), .int .i64 (t.r 4), .int .i64 (t.r 5), .int .i64 (t.r 6), .int .i64 (t.r 7), .slice fa fn fc, .int .i64 t.st, .int .i64 t.ft, .slice la ln lc, .int .i64 self, .int .i64 i.1, .int .i64 i.2.1, .int .i64 i.2.2.1, .int .i64 i.2.2.2] 55)).alloc (Obj.cells #[.int .i64 0, .int .i64 0, .int .i64 0, .int .i64 0, .int .i64 0, .int .i64 0, .int .i64 0, .int .i64 0, .int .i64 0, .slice none 0 0, .int .i64 0, .int .i64 0, .slice none 0 0] 27) := ⟨_, rfl⟩
  have X : VarN W w.heap.size [.int .i64 t.pc, .int .i64 (t.r 0), .int .i64 (t.r 1), .int .i64 (t.r 2), .int .i64 (t.r 3), .int .i64 (t.r 4), .int .i64 (t.r 5), .int .i64 (t.r 6), .int .i64 (t.r 7), .slice fa fn fc, .int .i64 t.st, .int .i64 t.ft, .slice la ln lc, .int .i64 self, .int .i64 i.1, .int .i64 i.2.1, .int .i64 i.2.2.1, .int .i64 i.2.2.2] := by rw [hW]; exact varN_A _ (varN_new [.int .i64 t.pc, .int .i64 (t.r 0), .int .i64 (t.r 1), .int .i64 (t.r 2), .int .i64 (t.r 3), .int .i64 (t.r 4), .int .i64 (t.r 5), .int .i64 (t.r 6), .int .i64 (t.r 7), .slice fa fn fc, .int .i64 t.st, .int .i64 t.ft, .slice la ln lc, .int .i64 self, .int .i64 i.1, .int .i64 i.2.1, .int .i64 i.2.2.1, .int .i64 i.2.2.2] _ rfl)
  have R : VarN W (w.heap.size + 1) [.int .i64 0, .int .i64 0, .int .i64 0, .int .i64 0, .int .i64 0, .int .i64 0, .int .i64 0, .int .i64 0, .int .i64 0, .slice none 0 0, .int .i64 0, .int .i64 0, .slice none 0 0] := by rw [hW]; exact varN_new [.int .i64 0, .int .i64 0, .int .i64 0, .int .i64 0, .int .i64 0, .int .i64 0, .int .i64 0, .int .i64 0, .int .i64 0, .slice none 0 0, .int .i64 0, .int .i64 0, .slice none 0 0] _ (by simp)
  have hB : Below w.heap.size w W := by rw [hW]; go_grown
  have HX := Lib.hid X
  have HR := Lib.hid R
  have HB := Lib.hid hB
  have HW := Lib.hid hW
  have HZ := Lib.hid hz
  have HP := Lib.hid hp
  have Ha := Lib.hid ha
  have Hb := Lib.hid hb
  have Hc := Lib.hid hc
  clear hW X R hB hz hp ha hb hc
  go_enter Try.func38, Try.ntmps38
  go_upto_region 1 with fail
  rw [← HW.out]
  refine wp_region_inv (Inv_and t self i w.heap.size fa la fn fc ln lc z) (by kernel_rfl) (by kernel_rfl) ?_ ?_ ?_
  · intro listed hl
    exact .mk undef undef undef undef undef undef undef undef undef (.int .i64 0) [.int .i64 0, .int .i64 0, .int .i64 0, .int .i64 0, .int .i64 0, .int .i64 0, .int .i64 0, .int .i64 0, .int .i64 0, .slice none 0 0, .int .i64 0, .int .i64 0, .slice none 0 0] (by simp only [Act.put, List.setIfInBounds_toArray, List.set_cons_zero, List.set_cons_succ]) (⟨(Below.refl _ _).drew, varN_D HX.out, varN_D HR.out, rfl⟩) (fun h => absurd h (hl 0 (by decide))) (fun h => absurd h (hl 1 (by decide))) (fun h => absurd h (hl 2 (by decide))) (fun h => absurd h (hl 3 (by decide))) (fun h => absurd h (hl 4 (by decide))) (fun h => absurd h (hl 5 (by decide))) (fun h => absurd h (hl 6 (by decide))) (fun h => absurd h (hl 7 (by decide))) (fun h => absurd h (hl 8 (by decide))) (fun h => absurd h (hl 9 (by decide))) (fun h => absurd h (hl 10 (by decide)))
  · show StepsL _ _ _ _ _ _ _
    refine StepsL.cons (k := 0) rfl (fun listed a1 w1 hI hn hw K hK => ?_) ?_
    · cases hI with | mk p4 p5 p6 p7 p8 p9 p10 p11 p12 p3 xs ea hb hf0 hf1 hf2 hf3 hf4 hf5 hf6 hf7 hf8 hS hf10 =>
        have Hhf0 := Lib.hid hf0
        have Hhf1 := Lib.hid hf1
        have Hhf2 := Lib.hid hf2
        have Hhf3 := Lib.hid hf3
        have Hhf4 := Lib.hid hf4
        have Hhf5 := Lib.hid hf5
        have Hhf6 := Lib.hid hf6
        have Hhf7 := Lib.hid hf7
        have Hhf8 := Lib.hid hf8
        have HhS := Lib.hid hS
        have Hhf10 := Lib.hid hf10
        have Hhb := Lib.hid hb
        have Hhw := Lib.hid hw
        clear hf0 hf1 hf2 hf3 hf4 hf5 hf6 hf7 hf8 hS hf10 hb hw
        rw [ea]
        clear ea
        simp only [Act.put, List.setIfInBounds_toArray, List.set_cons_zero, List.set_cons_succ]
        refine step_pos (by rfl) ?_
        refine wp_load_mid 55 _ rfl w.heap.size 0 rfl [.int .i64 t.pc, .int .i64 (t.r 0), .int .i64 (t.r 1), .int .i64 (t.r 2), .int .i64 (t.r 3), .int .i64 (t.r 4), .int .i64 (t.r 5), .int .i64 (t.r 6), .int .i64 (t.r 7), .slice fa fn fc, .int .i64 t.st, .int .i64 t.ft, .slice la ln lc, .int .i64 self, .int .i64 i.1, .int .i64 i.2.1, .int .i64 i.2.2.1, .int .i64 i.2.2.2] _ (varN_range Hhb.out.2.1) Try.underlying55 rfl (by kernel_rfl) ?_
        have hf0 := Hhf0.out
        have hf1 := Hhf1.out
        have hf2 := Hhf2.out
        have hf3 := Hhf3.out
        have hf4 := Hhf4.out
        have hf5 := Hhf5.out
        have hf6 := Hhf6.out
        have hf7 := Hhf7.out
        have hf8 := Hhf8.out
        have hS := HhS.out
        have hf10 := Hhf10.out
        have hb := Hhb.out
        have hw := Hhw.out
        refine hK.out _ _ ?_
        exact .mk (.agg #[.int .i64 t.pc, .int .i64 (t.r 0), .int .i64 (t.r 1), .int .i64 (t.r 2), .int .i64 (t.r 3), .int .i64 (t.r 4), .int .i64 (t.r 5), .int .i64 (t.r 6), .int .i64 (t.r 7), .slice fa fn fc, .int .i64 t.st, .int .i64 t.ft, .slice la ln lc, .int .i64 self, .int .i64 i.1, .int .i64 i.2.1, .int .i64 i.2.2.1, .int .i64 i.2.2.2]) p5 p6 p7 p8 p9 p10 p11 p12 p3 xs (by simp only [Act.put, List.setIfInBounds_toArray, List.set_cons_zero, List.set_cons_succ]) (hb) (fun _ => rfl) (fun h => hf1 (up_back h (by decide))) (fun h => hf2 (up_back h (by decide))) (fun h => hf3 (up_back h (by decide))) (fun h => hf4 (up_back h (by decide))) (fun h => hf5 (up_back h (by decide))) (fun h => hf6 (up_back h (by decide))) (fun h => hf7 (up_back h (by decide))) (fun h => hf8 (up_back h (by decide))) (fun h => hS (up_back h (by decide))) (fun h => hf10 (up_back h (by decide)))
    refine StepsL.cons (k := 1) rfl (fun listed a1 w1 hI hn hw K hK => ?_) ?_
    · cases hI with | mk p4 p5 p6 p7 p8 p9 p10 p11 p12 p3 xs ea hb hf0 hf1 hf2 hf3 hf4 hf5 hf6 hf7 hf8 hS hf10 =>
        have Hhf0 := Lib.hid hf0
        have Hhf1 := Lib.hid hf1
        have Hhf2 := Lib.hid hf2
        have Hhf3 := Lib.hid hf3
        have Hhf4 := Lib.hid hf4
        have Hhf5 := Lib.hid hf5
        have Hhf6 := Lib.hid hf6
        have Hhf7 := Lib.hid hf7
        have Hhf8 := Lib.hid hf8
        have HhS := Lib.hid hS
        have Hhf10 := Lib.hid hf10
        have Hhb := Lib.hid hb
        have Hhw := Lib.hid hw
        clear hf0 hf1 hf2 hf3 hf4 hf5 hf6 hf7 hf8 hS hf10 hb hw
        rw [ea]
        clear ea
        simp only [Act.put, List.setIfInBounds_toArray, List.set_cons_zero, List.set_cons_succ]
        refine step_pos (by rfl) ?_
        refine wp_load_mid 55 _ rfl w.heap.size 0 rfl [.int .i64 t.pc, .int .i64 (t.r 0), .int .i64 (t.r 1), .int .i64 (t.r 2), .int .i64 (t.r 3), .int .i64 (t.r 4), .int .i64 (t.r 5), .int .i64 (t.r 6), .int .i64 (t.r 7), .slice fa fn fc, .int .i64 t.st, .int .i64 t.ft, .slice la ln lc, .int .i64 self, .int .i64 i.1, .int .i64 i.2.1, .int .i64 i.2.2.1, .int .i64 i.2.2.2] _ (varN_range Hhb.out.2.1) Try.underlying55 rfl (by kernel_rfl) ?_
        have hf0 := Hhf0.out
        have hf1 := Hhf1.out
        have hf2 := Hhf2.out
        have hf3 := Hhf3.out
        have hf4 := Hhf4.out
        have hf5 := Hhf5.out
        have hf6 := Hhf6.out
        have hf7 := Hhf7.out
        have hf8 := Hhf8.out
        have hS := HhS.out
        have hf10 := Hhf10.out
        have hb := Hhb.out
        have hw := Hhw.out
        refine hK.out _ _ ?_
        exact .mk p4 (.agg #[.int .i64 t.pc, .int .i64 (t.r 0), .int .i64 (t.r 1), .int .i64 (t.r 2), .int .i64 (t.r 3), .int .i64 (t.r 4), .int .i64 (t.r 5), .int .i64 (t.r 6), .int .i64 (t.r 7), .slice fa fn fc, .int .i64 t.st, .int .i64 t.ft, .slice la ln lc, .int .i64 self, .int .i64 i.1, .int .i64 i.2.1, .int .i64 i.2.2.1, .int .i64 i.2.2.2]) p6 p7 p8 p9 p10 p11 p12 p3 xs (by simp only [Act.put, List.setIfInBounds_toArray, List.set_cons_zero, List.set_cons_succ]) (hb) (fun h => hf0 (up_back h (by decide))) (fun _ => rfl) (fun h => hf2 (up_back h (by decide))) (fun h => hf3 (up_back h (by decide))) (fun h => hf4 (up_back h (by decide))) (fun h => hf5 (up_back h (by decide))) (fun h => hf6 (up_back h (by decide))) (fun h => hf7 (up_back h (by decide))) (fun h => hf8 (up_back h (by decide))) (fun h => hS (up_back h (by decide))) (fun h => hf10 (up_back h (by decide)))
    refine StepsL.cons (k := 2) rfl (fun listed a1 w1 hI hn hw K hK => ?_) ?_
    · cases hI with | mk p4 p5 p6 p7 p8 p9 p10 p11 p12 p3 xs ea hb hf0 hf1 hf2 hf3 hf4 hf5 hf6 hf7 hf8 hS hf10 =>
        have e_f1 := hf1 (hw 1 (by decide))
        subst e_f1
        have Hhf0 := Lib.hid hf0
        have Hhf1 := Lib.hid hf1
        have Hhf2 := Lib.hid hf2
        have Hhf3 := Lib.hid hf3
        have Hhf4 := Lib.hid hf4
        have Hhf5 := Lib.hid hf5
        have Hhf6 := Lib.hid hf6
        have Hhf7 := Lib.hid hf7
        have Hhf8 := Lib.hid hf8
        have HhS := Lib.hid hS
        have Hhf10 := Lib.hid hf10
        have Hhb := Lib.hid hb
        have Hhw := Lib.hid hw
        clear hf0 hf1 hf2 hf3 hf4 hf5 hf6 hf7 hf8 hS hf10 hb hw
        rw [ea]
        clear ea
        simp only [Act.put, List.setIfInBounds_toArray, List.set_cons_zero, List.set_cons_succ]
        refine step_pos (by rfl) ?_
        refine wp_calls _ _ _ rfl 55 rfl [.agg #[.int .i64 t.pc, .int .i64 (t.r 0), .int .i64 (t.r 1), .int .i64 (t.r 2), .int .i64 (t.r 3), .int .i64 (t.r 4), .int .i64 (t.r 5), .int .i64 (t.r 6), .int .i64 (t.r 7), .slice fa fn fc, .int .i64 t.st, .int .i64 t.ft, .slice la ln lc, .int .i64 self, .int .i64 i.1, .int .i64 i.2.1, .int .i64 i.2.2.1, .int .i64 i.2.2.2]] rfl (by kernel_rfl) ((lo_b_any t self i fa la fn fc ln lc _ Hb.out).mono ?_)
        rintro e w2 ⟨rfl, hb2⟩
        refine ⟨_, rfl, ?_⟩
        have hf0 := Hhf0.out
        have hf1 := Hhf1.out
        have hf2 := Hhf2.out
        have hf3 := Hhf3.out
        have hf4 := Hhf4.out
        have hf5 := Hhf5.out
        have hf6 := Hhf6.out
        have hf7 := Hhf7.out
        have hf8 := Hhf8.out
        have hS := HhS.out
        have hf10 := Hhf10.out
        have hb := Hhb.out
        have hw := Hhw.out
        refine hK.out _ _ ?_
        exact .mk p4 (.agg #[.int .i64 t.pc, .int .i64 (t.r 0), .int .i64 (t.r 1), .int .i64 (t.r 2), .int .i64 (t.r 3), .int .i64 (t.r 4), .int .i64 (t.r 5), .int .i64 (t.r 6), .int .i64 (t.r 7), .slice fa fn fc, .int .i64 t.st, .int .i64 t.ft, .slice la ln lc, .int .i64 self, .int .i64 i.1, .int .i64 i.2.1, .int .i64 i.2.2.1, .int .i64 i.2.2.2]) (.int .i64 (rgt t i.2.2.1)) p7 p8 p9 p10 p11 p12 p3 xs (by simp only [Act.put, List.setIfInBounds_toArray, List.set_cons_zero, List.set_cons_succ]) (⟨hb.1.trans (hb2.mono (Nat.le_of_lt (varN_lt hb.2.1 (by simp)))), varN_B hb2 hb.2.1, varN_B hb2 hb.2.2.1, hb.2.2.2⟩) (fun h => hf0 (up_back h (by decide))) (fun _ => rfl) (fun _ => rfl) (fun h => hf3 (up_back h (by decide))) (fun h => hf4 (up_back h (by decide))) (fun h => hf5 (up_back h (by decide))) (fun h => hf6 (up_back h (by decide))) (fun h => hf7 (up_back h (by decide))) (fun h => hf8 (up_back h (by decide))) (fun h => hS (up_back h (by decide))) (fun h => hf10 (up_back h (by decide)))
    refine StepsL.cons (k := 3) rfl (fun listed a1 w1 hI hn hw K hK => ?_) ?_
    · cases hI with | mk p4 p5 p6 p7 p8 p9 p10 p11 p12 p3 xs ea hb hf0 hf1 hf2 hf3 hf4 hf5 hf6 hf7 hf8 hS hf10 =>
        have Hhf0 := Lib.hid hf0
        have Hhf1 := Lib.hid hf1
        have Hhf2 := Lib.hid hf2
        have Hhf3 := Lib.hid hf3
        have Hhf4 := Lib.hid hf4
        have Hhf5 := Lib.hid hf5
        have Hhf6 := Lib.hid hf6
        have Hhf7 := Lib.hid hf7
        have Hhf8 := Lib.hid hf8
        have HhS := Lib.hid hS
        have Hhf10 := Lib.hid hf10
        have Hhb := Lib.hid hb
        have Hhw := Lib.hid hw
        clear hf0 hf1 hf2 hf3 hf4 hf5 hf6 hf7 hf8 hS hf10 hb hw
        rw [ea]
        clear ea
        simp only [Act.put, List.setIfInBounds_toArray, List.set_cons_zero, List.set_cons_succ]
        refine step_pos (by rfl) ?_
        refine wp_load_mid 55 _ rfl w.heap.size 0 rfl [.int .i64 t.pc, .int .i64 (t.r 0), .int .i64 (t.r 1), .int .i64 (t.r 2), .int .i64 (t.r 3), .int .i64 (t.r 4), .int .i64 (t.r 5), .int .i64 (t.r 6), .int .i64 (t.r 7), .slice fa fn fc, .int .i64 t.st, .int .i64 t.ft, .slice la ln lc, .int .i64 self, .int .i64 i.1, .int .i64 i.2.1, .int .i64 i.2.2.1, .int .i64 i.2.2.2] _ (varN_range Hhb.out.2.1) Try.underlying55 rfl (by kernel_rfl) ?_
        have hf0 := Hhf0.out
        have hf1 := Hhf1.out
        have hf2 := Hhf2.out
        have hf3 := Hhf3.out
        have hf4 := Hhf4.out
        have hf5 := Hhf5.out
        have hf6 := Hhf6.out
        have hf7 := Hhf7.out
        have hf8 := Hhf8.out
        have hS := HhS.out
        have hf10 := Hhf10.out
        have hb := Hhb.out
        have hw := Hhw.out
        refine hK.out _ _ ?_
        exact .mk p4 p5 p6 (.agg #[.int .i64 t.pc, .int .i64 (t.r 0), .int .i64 (t.r 1), .int .i64 (t.r 2), .int .i64 (t.r 3), .int .i64 (t.r 4), .int .i64 (t.r 5), .int .i64 (t.r 6), .int .i64 (t.r 7), .slice fa fn fc, .int .i64 t.st, .int .i64 t.ft, .slice la ln lc, .int .i64 self, .int .i64 i.1, .int .i64 i.2.1, .int .i64 i.2.2.1, .int .i64 i.2.2.2]) p8 p9 p10 p11 p12 p3 xs (by simp only [Act.put, List.setIfInBounds_toArray, List.set_cons_zero, List.set_cons_succ]) (hb) (fun h => hf0 (up_back h (by decide))) (fun h => hf1 (up_back h (by decide))) (fun h => hf2 (up_back h (by decide))) (fun _ => rfl) (fun h => hf4 (up_back h (by decide))) (fun h => hf5 (up_back h (by decide))) (fun h => hf6 (up_back h (by decide))) (fun h => hf7 (up_back h (by decide))) (fun h => hf8 (up_back h (by decide))) (fun h => hS (up_back h (by decide))) (fun h => hf10 (up_back h (by decide)))
    refine StepsL.cons (k := 4) rfl (fun listed a1 w1 hI hn hw K hK => ?_) ?_
    · cases hI with | mk p4 p5 p6 p7 p8 p9 p10 p11 p12 p3 xs ea hb hf0 hf1 hf2 hf3 hf4 hf5 hf6 hf7 hf8 hS hf10 =>
        have e_f3 := hf3 (hw 3 (by decide))
        subst e_f3
        have Hhf0 := Lib.hid hf0
        have Hhf1 := Lib.hid hf1
        have Hhf2 := Lib.hid hf2
        have Hhf3 := Lib.hid hf3
        have Hhf4 := Lib.hid hf4
        have Hhf5 := Lib.hid hf5
        have Hhf6 := Lib.hid hf6
        have Hhf7 := Lib.hid hf7
        have Hhf8 := Lib.hid hf8
        have HhS := Lib.hid hS
        have Hhf10 := Lib.hid hf10
        have Hhb := Lib.hid hb
        have Hhw := Lib.hid hw
        clear hf0 hf1 hf2 hf3 hf4 hf5 hf6 hf7 hf8 hS hf10 hb hw
        rw [ea]
        clear ea
        simp only [Act.put, List.setIfInBounds_toArray, List.set_cons_zero, List.set_cons_succ]
        refine step_pos (by rfl) ?_
        refine wp_calls _ _ _ rfl 56 rfl [.agg #[.int .i64 t.pc, .int .i64 (t.r 0), .int .i64 (t.r 1), .int .i64 (t.r 2), .int .i64 (t.r 3), .int .i64 (t.r 4), .int .i64 (t.r 5), .int .i64 (t.r 6), .int .i64 (t.r 7), .slice fa fn fc, .int .i64 t.st, .int .i64 t.ft, .slice la ln lc, .int .i64 self, .int .i64 i.1, .int .i64 i.2.1, .int .i64 i.2.2.1, .int .i64 i.2.2.2]] rfl (by kernel_rfl) ((lo_c_any t self i fa la fn fc ln lc _ Hc.out).mono ?_)
        rintro e w2 ⟨rfl, hb2⟩
        refine ⟨_, rfl, ?_⟩
        have hf0 := Hhf0.out
        have hf1 := Hhf1.out
        have hf2 := Hhf2.out
        have hf3 := Hhf3.out
        have hf4 := Hhf4.out
        have hf5 := Hhf5.out
        have hf6 := Hhf6.out
        have hf7 := Hhf7.out
        have hf8 := Hhf8.out
        have hS := HhS.out
        have hf10 := Hhf10.out
        have hb := Hhb.out
        have hw := Hhw.out
        refine hK.out _ _ ?_
        exact .mk p4 p5 p6 (.agg #[.int .i64 t.pc, .int .i64 (t.r 0), .int .i64 (t.r 1), .int .i64 (t.r 2), .int .i64 (t.r 3), .int .i64 (t.r 4), .int .i64 (t.r 5), .int .i64 (t.r 6), .int .i64 (t.r 7), .slice fa fn fc, .int .i64 t.st, .int .i64 t.ft, .slice la ln lc, .int .i64 self, .int .i64 i.1, .int .i64 i.2.1, .int .i64 i.2.2.1, .int .i64 i.2.2.2]) (.int .i64 (rgt t i.2.2.2)) p9 p10 p11 p12 p3 xs (by simp only [Act.put, List.setIfInBounds_toArray, List.set_cons_zero, List.set_cons_succ]) (⟨hb.1.trans (hb2.mono (Nat.le_of_lt (varN_lt hb.2.1 (by simp)))), varN_B hb2 hb.2.1, varN_B hb2 hb.2.2.1, hb.2.2.2⟩) (fun h => hf0 (up_back h (by decide))) (fun h => hf1 (up_back h (by decide))) (fun h => hf2 (up_back h (by decide))) (fun _ => rfl) (fun _ => rfl) (fun h => hf5 (up_back h (by decide))) (fun h => hf6 (up_back h (by decide))) (fun h => hf7 (up_back h (by decide))) (fun h => hf8 (up_back h (by decide))) (fun h => hS (up_back h (by decide))) (fun h => hf10 (up_back h (by decide)))
    refine StepsL.cons (k := 5) rfl (fun listed a1 w1 hI hn hw K hK => ?_) ?_
    · cases hI with | mk p4 p5 p6 p7 p8 p9 p10 p11 p12 p3 xs ea hb hf0 hf1 hf2 hf3 hf4 hf5 hf6 hf7 hf8 hS hf10 =>
        have e_f2 := hf2 (hw 2 (by decide))
        have e_f4 := hf4 (hw 4 (by decide))
        subst e_f2 e_f4
        have Hhf0 := Lib.hid hf0
        have Hhf1 := Lib.hid hf1
        have Hhf2 := Lib.hid hf2
        have Hhf3 := Lib.hid hf3
        have Hhf4 := Lib.hid hf4
        have Hhf5 := Lib.hid hf5
        have Hhf6 := Lib.hid hf6
        have Hhf7 := Lib.hid hf7
        have Hhf8 := Lib.hid hf8
        have HhS := Lib.hid hS
        have Hhf10 := Lib.hid hf10
        have Hhb := Lib.hid hb
        have Hhw := Lib.hid hw
        clear hf0 hf1 hf2 hf3 hf4 hf5 hf6 hf7 hf8 hS hf10 hb hw
        rw [ea]
        clear ea
        simp only [Act.put, List.setIfInBounds_toArray, List.set_cons_zero, List.set_cons_succ]
        go_simp
        have hf0 := Hhf0.out
        have hf1 := Hhf1.out
        have hf2 := Hhf2.out
        have hf3 := Hhf3.out
        have hf4 := Hhf4.out
        have hf5 := Hhf5.out
        have hf6 := Hhf6.out
        have hf7 := Hhf7.out
        have hf8 := Hhf8.out
        have hS := HhS.out
        have hf10 := Hhf10.out
        have hb := Hhb.out
        have hw := Hhw.out
        refine hK.out _ _ ?_
        exact .mk p4 p5 (.int .i64 (rgt t i.2.2.1)) p7 (.int .i64 (rgt t i.2.2.2)) (.int .i64 (bits .and .i64 (rgt t i.2.2.1) (rgt t i.2.2.2))) p10 p11 p12 p3 xs (by simp only [Act.put, List.setIfInBounds_toArray, List.set_cons_zero, List.set_cons_succ]) (hb) (fun h => hf0 (up_back h (by decide))) (fun h => hf1 (up_back h (by decide))) (fun _ => rfl) (fun h => hf3 (up_back h (by decide))) (fun _ => rfl) (fun _ => rfl) (fun h => hf6 (up_back h (by decide))) (fun h => hf7 (up_back h (by decide))) (fun h => hf8 (up_back h (by decide))) (fun h => hS (up_back h (by decide))) (fun h => hf10 (up_back h (by decide)))
    refine StepsL.cons (k := 6) rfl (fun listed a1 w1 hI hn hw K hK => ?_) ?_
    · cases hI with | mk p4 p5 p6 p7 p8 p9 p10 p11 p12 p3 xs ea hb hf0 hf1 hf2 hf3 hf4 hf5 hf6 hf7 hf8 hS hf10 =>
        have e_f0 := hf0 (hw 0 (by decide))
        have e_f5 := hf5 (hw 5 (by decide))
        subst e_f0 e_f5
        have Hhf0 := Lib.hid hf0
        have Hhf1 := Lib.hid hf1
        have Hhf2 := Lib.hid hf2
        have Hhf3 := Lib.hid hf3
        have Hhf4 := Lib.hid hf4
        have Hhf5 := Lib.hid hf5
        have Hhf6 := Lib.hid hf6
        have Hhf7 := Lib.hid hf7
        have Hhf8 := Lib.hid hf8
        have HhS := Lib.hid hS
        have Hhf10 := Lib.hid hf10
        have Hhb := Lib.hid hb
        have Hhw := Lib.hid hw
        clear hf0 hf1 hf2 hf3 hf4 hf5 hf6 hf7 hf8 hS hf10 hb hw
        rw [ea]
        clear ea
        simp only [Act.put, List.setIfInBounds_toArray, List.set_cons_zero, List.set_cons_succ]
        have h0 := lo_becomes_any t self i (bits .and .i64 (rgt t i.2.2.1) (rgt t i.2.2.2)) fa la fn fc ln lc w1 Ha.out HP.out
        rw [HZ.out] at h0
        refine step_pos (by rfl) ?_
        refine wp_calls _ _ _ rfl 54 rfl [.agg #[.int .i64 t.pc, .int .i64 (t.r 0), .int .i64 (t.r 1), .int .i64 (t.r 2), .int .i64 (t.r 3), .int .i64 (t.r 4), .int .i64 (t.r 5), .int .i64 (t.r 6), .int .i64 (t.r 7), .slice fa fn fc, .int .i64 t.st, .int .i64 t.ft, .slice la ln lc, .int .i64 self, .int .i64 i.1, .int .i64 i.2.1, .int .i64 i.2.2.1, .int .i64 i.2.2.2], .int .i64 (bits .and .i64 (rgt t i.2.2.1) (rgt t i.2.2.2))] rfl (by kernel_rfl) (h0.mono ?_)
        rintro e w2 ⟨rfl, hb2⟩
        refine ⟨_, rfl, ?_⟩
        have hf0 := Hhf0.out
        have hf1 := Hhf1.out
        have hf2 := Hhf2.out
        have hf3 := Hhf3.out
        have hf4 := Hhf4.out
        have hf5 := Hhf5.out
        have hf6 := Hhf6.out
        have hf7 := Hhf7.out
        have hf8 := Hhf8.out
        have hS := HhS.out
        have hf10 := Hhf10.out
        have hb := Hhb.out
        have hw := Hhw.out
        refine hK.out _ _ ?_
        exact .mk (.agg #[.int .i64 t.pc, .int .i64 (t.r 0), .int .i64 (t.r 1), .int .i64 (t.r 2), .int .i64 (t.r 3), .int .i64 (t.r 4), .int .i64 (t.r 5), .int .i64 (t.r 6), .int .i64 (t.r 7), .slice fa fn fc, .int .i64 t.st, .int .i64 t.ft, .slice la ln lc, .int .i64 self, .int .i64 i.1, .int .i64 i.2.1, .int .i64 i.2.2.1, .int .i64 i.2.2.2]) p5 p6 p7 p8 (.int .i64 (bits .and .i64 (rgt t i.2.2.1) (rgt t i.2.2.2))) (.tuple #[.agg #[.int .i64 z.pc, .int .i64 (z.r 0), .int .i64 (z.r 1), .int .i64 (z.r 2), .int .i64 (z.r 3), .int .i64 (z.r 4), .int .i64 (z.r 5), .int .i64 (z.r 6), .int .i64 (z.r 7), .slice fa fn fc, .int .i64 z.st, .int .i64 z.ft, .slice la ln lc], .int .i64 0]) p11 p12 p3 xs (by simp only [Act.put, List.setIfInBounds_toArray, List.set_cons_zero, List.set_cons_succ]) (⟨hb.1.trans (hb2.mono (Nat.le_of_lt (varN_lt hb.2.1 (by simp)))), varN_B hb2 hb.2.1, varN_B hb2 hb.2.2.1, hb.2.2.2⟩) (fun _ => rfl) (fun h => hf1 (up_back h (by decide))) (fun h => hf2 (up_back h (by decide))) (fun h => hf3 (up_back h (by decide))) (fun h => hf4 (up_back h (by decide))) (fun _ => rfl) (fun _ => rfl) (fun h => hf7 (up_back h (by decide))) (fun h => hf8 (up_back h (by decide))) (fun h => hS (up_back h (by decide))) (fun h => hf10 (up_back h (by decide)))
    refine StepsL.cons (k := 7) rfl (fun listed a1 w1 hI hn hw K hK => ?_) ?_
    · cases hI with | mk p4 p5 p6 p7 p8 p9 p10 p11 p12 p3 xs ea hb hf0 hf1 hf2 hf3 hf4 hf5 hf6 hf7 hf8 hS hf10 =>
        have e_f6 := hf6 (hw 6 (by decide))
        subst e_f6
        have Hhf0 := Lib.hid hf0
        have Hhf1 := Lib.hid hf1
        have Hhf2 := Lib.hid hf2
        have Hhf3 := Lib.hid hf3
        have Hhf4 := Lib.hid hf4
        have Hhf5 := Lib.hid hf5
        have Hhf6 := Lib.hid hf6
        have Hhf7 := Lib.hid hf7
        have Hhf8 := Lib.hid hf8
        have HhS := Lib.hid hS
        have Hhf10 := Lib.hid hf10
        have Hhb := Lib.hid hb
        have Hhw := Lib.hid hw
        clear hf0 hf1 hf2 hf3 hf4 hf5 hf6 hf7 hf8 hS hf10 hb hw
        rw [ea]
        clear ea
        simp only [Act.put, List.setIfInBounds_toArray, List.set_cons_zero, List.set_cons_succ]
        go_simp
        have hf0 := Hhf0.out
        have hf1 := Hhf1.out
        have hf2 := Hhf2.out
        have hf3 := Hhf3.out
        have hf4 := Hhf4.out
        have hf5 := Hhf5.out
        have hf6 := Hhf6.out
        have hf7 := Hhf7.out
        have hf8 := Hhf8.out
        have hS := HhS.out
        have hf10 := Hhf10.out
        have hb := Hhb.out
        have hw := Hhw.out
        refine hK.out _ _ ?_
        exact .mk p4 p5 p6 p7 p8 p9 (.tuple #[.agg #[.int .i64 z.pc, .int .i64 (z.r 0), .int .i64 (z.r 1), .int .i64 (z.r 2), .int .i64 (z.r 3), .int .i64 (z.r 4), .int .i64 (z.r 5), .int .i64 (z.r 6), .int .i64 (z.r 7), .slice fa fn fc, .int .i64 z.st, .int .i64 z.ft, .slice la ln lc], .int .i64 0]) (.agg #[.int .i64 z.pc, .int .i64 (z.r 0), .int .i64 (z.r 1), .int .i64 (z.r 2), .int .i64 (z.r 3), .int .i64 (z.r 4), .int .i64 (z.r 5), .int .i64 (z.r 6), .int .i64 (z.r 7), .slice fa fn fc, .int .i64 z.st, .int .i64 z.ft, .slice la ln lc]) p12 p3 xs (by simp only [Act.put, List.setIfInBounds_toArray, List.set_cons_zero, List.set_cons_succ]) (hb) (fun h => hf0 (up_back h (by decide))) (fun h => hf1 (up_back h (by decide))) (fun h => hf2 (up_back h (by decide))) (fun h => hf3 (up_back h (by decide))) (fun h => hf4 (up_back h (by decide))) (fun h => hf5 (up_back h (by decide))) (fun _ => rfl) (fun _ => rfl) (fun h => hf8 (up_back h (by decide))) (fun h => hS (up_back h (by decide))) (fun h => hf10 (up_back h (by decide)))
    refine StepsL.cons (k := 8) rfl (fun listed a1 w1 hI hn hw K hK => ?_) ?_
    · cases hI with | mk p4 p5 p6 p7 p8 p9 p10 p11 p12 p3 xs ea hb hf0 hf1 hf2 hf3 hf4 hf5 hf6 hf7 hf8 hS hf10 =>
        have e_f6 := hf6 (hw 6 (by decide))
        subst e_f6
        have Hhf0 := Lib.hid hf0
        have Hhf1 := Lib.hid hf1
        have Hhf2 := Lib.hid hf2
        have Hhf3 := Lib.hid hf3
        have Hhf4 := Lib.hid hf4
        have Hhf5 := Lib.hid hf5
        have Hhf6 := Lib.hid hf6
        have Hhf7 := Lib.hid hf7
        have Hhf8 := Lib.hid hf8
        have HhS := Lib.hid hS
        have Hhf10 := Lib.hid hf10
        have Hhb := Lib.hid hb
        have Hhw := Lib.hid hw
        clear hf0 hf1 hf2 hf3 hf4 hf5 hf6 hf7 hf8 hS hf10 hb hw
        rw [ea]
        clear ea
        simp only [Act.put, List.setIfInBounds_toArray, List.set_cons_zero, List.set_cons_succ]
        go_simp
        have hf0 := Hhf0.out
        have hf1 := Hhf1.out
        have hf2 := Hhf2.out
        have hf3 := Hhf3.out
        have hf4 := Hhf4.out
        have hf5 := Hhf5.out
        have hf6 := Hhf6.out
        have hf7 := Hhf7.out
        have hf8 := Hhf8.out
        have hS := HhS.out
        have hf10 := Hhf10.out
        have hb := Hhb.out
        have hw := Hhw.out
        refine hK.out _ _ ?_
        exact .mk p4 p5 p6 p7 p8 p9 (.tuple #[.agg #[.int .i64 z.pc, .int .i64 (z.r 0), .int .i64 (z.r 1), .int .i64 (z.r 2), .int .i64 (z.r 3), .int .i64 (z.r 4), .int .i64 (z.r 5), .int .i64 (z.r 6), .int .i64 (z.r 7), .slice fa fn fc, .int .i64 z.st, .int .i64 z.ft, .slice la ln lc], .int .i64 0]) p11 (.int .i64 0) p3 xs (by simp only [Act.put, List.setIfInBounds_toArray, List.set_cons_zero, List.set_cons_succ]) (hb) (fun h => hf0 (up_back h (by decide))) (fun h => hf1 (up_back h (by decide))) (fun h => hf2 (up_back h (by decide))) (fun h => hf3 (up_back h (by decide))) (fun h => hf4 (up_back h (by decide))) (fun h => hf5 (up_back h (by decide))) (fun _ => rfl) (fun h => hf7 (up_back h (by decide))) (fun _ => rfl) (fun h => hS (up_back h (by decide))) (fun h => hf10 (up_back h (by decide)))
    refine StepsL.cons (k := 9) rfl (fun listed a1 w1 hI hn hw K hK => ?_) ?_
    · cases hI with | mk p4 p5 p6 p7 p8 p9 p10 p11 p12 p3 xs ea hb hf0 hf1 hf2 hf3 hf4 hf5 hf6 hf7 hf8 hS hf10 =>
        have e_f7 := hf7 (hw 7 (by decide))
        subst e_f7
        have Hhf0 := Lib.hid hf0
        have Hhf1 := Lib.hid hf1
        have Hhf2 := Lib.hid hf2
        have Hhf3 := Lib.hid hf3
        have Hhf4 := Lib.hid hf4
        have Hhf5 := Lib.hid hf5
        have Hhf6 := Lib.hid hf6
        have Hhf7 := Lib.hid hf7
        have Hhf8 := Lib.hid hf8
        have HhS := Lib.hid hS
        have Hhf10 := Lib.hid hf10
        have Hhb := Lib.hid hb
        have Hhw := Lib.hid hw
        clear hf0 hf1 hf2 hf3 hf4 hf5 hf6 hf7 hf8 hS hf10 hb hw
        rw [ea]
        clear ea
        simp only [Act.put, List.setIfInBounds_toArray, List.set_cons_zero, List.set_cons_succ]
        refine step_pos (by rfl) ?_
        refine wp_store_var 27 _ _ rfl (w.heap.size + 1) #[.int .i64 z.pc, .int .i64 (z.r 0), .int .i64 (z.r 1), .int .i64 (z.r 2), .int .i64 (z.r 3), .int .i64 (z.r 4), .int .i64 (z.r 5), .int .i64 (z.r 6), .int .i64 (z.r 7), .slice fa fn fc, .int .i64 z.st, .int .i64 z.ft, .slice la ln lc] rfl rfl xs Hhb.out.2.2.1 Hhb.out.2.2.2.symm (by kernel_rfl) (one_thr _ _ _ _ _ _ _) ?_
        intro U HU
        have hf0 := Hhf0.out
        have hf1 := Hhf1.out
        have hf2 := Hhf2.out
        have hf3 := Hhf3.out
        have hf4 := Hhf4.out
        have hf5 := Hhf5.out
        have hf6 := Hhf6.out
        have hf7 := Hhf7.out
        have hf8 := Hhf8.out
        have hS := HhS.out
        have hf10 := Hhf10.out
        have hb := Hhb.out
        have hw := Hhw.out
        refine hK.out _ _ ?_
        exact .mk p4 p5 p6 p7 p8 p9 p10 (.agg #[.int .i64 z.pc, .int .i64 (z.r 0), .int .i64 (z.r 1), .int .i64 (z.r 2), .int .i64 (z.r 3), .int .i64 (z.r 4), .int .i64 (z.r 5), .int .i64 (z.r 6), .int .i64 (z.r 7), .slice fa fn fc, .int .i64 z.st, .int .i64 z.ft, .slice la ln lc]) p12 p3 [.int .i64 z.pc, .int .i64 (z.r 0), .int .i64 (z.r 1), .int .i64 (z.r 2), .int .i64 (z.r 3), .int .i64 (z.r 4), .int .i64 (z.r 5), .int .i64 (z.r 6), .int .i64 (z.r 7), .slice fa fn fc, .int .i64 z.st, .int .i64 z.ft, .slice la ln lc] (by simp only [Act.put, List.setIfInBounds_toArray, List.set_cons_zero, List.set_cons_succ]) (⟨below_set HU (Nat.le_succ w.heap.size) hb.1, by rw [HU.out]; exact varN_others (by omega) hb.2.1, by rw [HU.out]; exact varN_all (xs := [.int .i64 z.pc, .int .i64 (z.r 0), .int .i64 (z.r 1), .int .i64 (z.r 2), .int .i64 (z.r 3), .int .i64 (z.r 4), .int .i64 (z.r 5), .int .i64 (z.r 6), .int .i64 (z.r 7), .slice fa fn fc, .int .i64 z.st, .int .i64 z.ft, .slice la ln lc]) hb.2.2.1 hb.2.2.2.symm, rfl⟩) (fun h => hf0 (up_back h (by decide))) (fun h => hf1 (up_back h (by decide))) (fun h => hf2 (up_back h (by decide))) (fun h => hf3 (up_back h (by decide))) (fun h => hf4 (up_back h (by decide))) (fun h => hf5 (up_back h (by decide))) (fun h => hf6 (up_back h (by decide))) (fun _ => rfl) (fun h => hf8 (up_back h (by decide))) (fun _ => rfl) (fun h => hf10 (up_back h (by decide)))
    refine StepsL.cons (k := 10) rfl (fun listed a1 w1 hI hn hw K hK => ?_) ?_
    · cases hI with | mk p4 p5 p6 p7 p8 p9 p10 p11 p12 p3 xs ea hb hf0 hf1 hf2 hf3 hf4 hf5 hf6 hf7 hf8 hS hf10 =>
        have e_f8 := hf8 (hw 8 (by decide))
        subst e_f8
        have Hhf0 := Lib.hid hf0
        have Hhf1 := Lib.hid hf1
        have Hhf2 := Lib.hid hf2
        have Hhf3 := Lib.hid hf3
        have Hhf4 := Lib.hid hf4
        have Hhf5 := Lib.hid hf5
        have Hhf6 := Lib.hid hf6
        have Hhf7 := Lib.hid hf7
        have Hhf8 := Lib.hid hf8
        have HhS := Lib.hid hS
        have Hhf10 := Lib.hid hf10
        have Hhb := Lib.hid hb
        have Hhw := Lib.hid hw
        clear hf0 hf1 hf2 hf3 hf4 hf5 hf6 hf7 hf8 hS hf10 hb hw
        rw [ea]
        clear ea
        simp only [Act.put, List.setIfInBounds_toArray, List.set_cons_zero, List.set_cons_succ]
        go_simp
        have hf0 := Hhf0.out
        have hf1 := Hhf1.out
        have hf2 := Hhf2.out
        have hf3 := Hhf3.out
        have hf4 := Hhf4.out
        have hf5 := Hhf5.out
        have hf6 := Hhf6.out
        have hf7 := Hhf7.out
        have hf8 := Hhf8.out
        have hS := HhS.out
        have hf10 := Hhf10.out
        have hb := Hhb.out
        have hw := Hhw.out
        refine hK.out _ _ ?_
        exact .mk p4 p5 p6 p7 p8 p9 p10 p11 (.int .i64 0) (.int .i64 0) xs (by simp only [Act.put, List.setIfInBounds_toArray, List.set_cons_zero, List.set_cons_succ]) (hb) (fun h => hf0 (up_back h (by decide))) (fun h => hf1 (up_back h (by decide))) (fun h => hf2 (up_back h (by decide))) (fun h => hf3 (up_back h (by decide))) (fun h => hf4 (up_back h (by decide))) (fun h => hf5 (up_back h (by decide))) (fun h => hf6 (up_back h (by decide))) (fun h => hf7 (up_back h (by decide))) (fun _ => rfl) (fun h => hS (up_back h (by decide))) (fun _ => rfl)
    exact StepsL.nil
  · intro listed a1 w1 hI hu
    cases hI with | mk p4 p5 p6 p7 p8 p9 p10 p11 p12 p3 xs ea hb hf0 hf1 hf2 hf3 hf4 hf5 hf6 hf7 hf8 hS hf10 =>
      have e9 := hS (hu 9)
      have e3 := hf10 (hu 10)
      subst e9 e3
      have HB1 := Lib.hid (HB.out.trans hb.1)
      have HR1 := Lib.hid hb.2.2.1
      clear hf0 hf1 hf2 hf3 hf4 hf5 hf6 hf7 hf8 hS hf10 hb hu HX HR HB HW
      rw [ea]
      clear ea
      simp only [Act.put, List.setIfInBounds_toArray, List.set_cons_zero, List.set_cons_succ]
      go_wp2
      refine bp_cell_tmp ⟨w.heap.size + 1, 0, none⟩ rfl rfl rfl (load_thr _ _ z fa la fn fc ln lc HR1.out) ?_
      exact ⟨rfl, HB1.out⟩
end Go.Proofs.Ytjddflnecfokaaa
