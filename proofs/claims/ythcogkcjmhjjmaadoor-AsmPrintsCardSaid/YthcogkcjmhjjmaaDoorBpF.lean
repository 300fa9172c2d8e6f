/- Package asm: told. -/
import Derived.Test.YthcogkcjmhjjmaaDoorBpD
import Derived.Test.YthcogkcjmhjjmaaDoorAsDg
import Derived.Test.YthcogkcjmhjjmaaDoorReg
namespace Go.Proofs.YthcogkcjmhjjmaaDoor
open Go.ChangeShapes Go.WideShapes Go.ChangeAt Go.RowKit
open Gen

inductive ToldInv (g2 g5 gv : Nat) (k a b c : Int) (nm : Bs) (a0 : Act) (w0 : World) (listed : Array Bool) (act' : Act) (w' : World) : Prop
  | mk (p13 p14 p15 p16 p17 p18 p19 p20 p21 p7 p6 : Value) (xs : List Value) (ea : act' = (((((((((((a0.put (some 13) p13).put (some 14) p14).put (some 15) p15).put (some 16) p16).put (some 17) p17).put (some 18) p18).put (some 19) p19).put (some 20) p20).put (some 21) p21).put (some 7) p7).put (some 6) p6)) (hb : Below gv w0 w' ∧ gv ≤ w'.heap.size ∧ (¬ Up listed 9 → w'.heap.size = gv)) (hf0 : Up listed 0 → p13 = .pointer (some ⟨g5, 0, none⟩)) (hf1 : Up listed 1 → p14 = .string (str nm)) (hf2 : Up listed 2 → p15 = .pointer (some ⟨g2, 1, none⟩)) (hf3 : Up listed 3 → p16 = .int .i64 a) (hf4 : Up listed 4 → p17 = .pointer (some ⟨g2, 2, none⟩)) (hf5 : Up listed 5 → p18 = .int .i64 b) (hf6 : Up listed 6 → p19 = .pointer (some ⟨g2, 3, none⟩)) (hf7 : Up listed 7 → p20 = .int .i64 c) (hf8 : Up listed 8 → p21 = .agg #[.int .i64 a, .int .i64 b, .int .i64 c]) (hf9 : Up listed 9 → p7 = .pointer (some ⟨gv, 0, none⟩)) (hf10 : Up listed 10 → p6 = .string (str nm)) (hV : Up listed 9 → VarN w' gv xs ∧ xs.length = 3) (hS : Up listed 11 → Up listed 9 ∧ xs = [.int .i64 a, .int .i64 b, .int .i64 c]) : ToldInv g2 g5 gv k a b c nm a0 w0 listed act' w'

set_option maxRecDepth 100000 in
set_option maxHeartbeats 4000000 in
theorem told_any (i : Ins) (n km : Nat) (lb : Option Nat) (w : World) (G : Glob w) (K : KindMap w km lb) (hm : mayB i n = true) (hn : n ≤ 1000) :
    Calls Tryd.prog 33 #[insV i, .map (some km)] w fun e w' => e = .returned (.string (str (toldL i))) ∧ Below w.heap.size w w' := by
  obtain ⟨h0, hok⟩ := mayB_opnd hm
  have hlen := tellTo_len hn hm
  obtain ⟨op, a, b, c⟩ := i
  obtain ⟨k, rfl⟩ : ∃ k : Nat, op = (k : Int) := ⟨op.toNat, by omega⟩
  have hk : k < 27 := by omega
  obtain ⟨sg, hsg⟩ : ∃ sg, opSign.getD k [] = sg := ⟨_, rfl⟩
  obtain ⟨nm, hnm⟩ : ∃ nm, opName.getD k [] = nm := ⟨_, rfl⟩
  have hsi : sgOf ((k : Int), a, b, c) = sg := hsg
  obtain ⟨s1, s2⟩ := signs_ok k hk
  have hn5 := (names_ok k hk).2.2.2.2
  have xn := ops_name (G.A (Obj.cells #[.int .i64 k, .int .i64 a, .int .i64 b, .int .i64 c] 39)) k hk
  have xs := ops_sign (G.A (Obj.cells #[.int .i64 k, .int .i64 a, .int .i64 b, .int .i64 c] 39)) k hk
  rw [hsi] at hok hlen
  rw [hsg] at s1 s2 xs
  rw [hnm] at hn5 xn
  obtain ⟨tl, htl⟩ : ∃ tl : Nat → Bs, tl = fun j => nm ++ tellTo ((k : Int), a, b, c) sg j := ⟨_, rfl⟩
  have T0 := Lib.hid (show tl 0 = nm by rw [htl]; simp [tellTo_zero])
  have TE := Lib.hid (show toldL ((k : Int), a, b, c) = tl sg.length by
    show opName.getD k [] ++ tellTo ((k : Int), a, b, c) (sgOf ((k : Int), a, b, c)) (sgOf ((k : Int), a, b, c)).length = _
    rw [htl, hsi, hnm])
  have TS := Lib.hid (show ∀ j, tl (j + 1) = tl j ++ (32 :: tellP (sg.getD j 0).toNat (opnd ((k : Int), a, b, c) j)) by intro j; rw [htl]; dsimp only; rw [tellTo_succ, List.append_assoc])
  have TN := Lib.hid (show ∀ j, j ≤ sg.length → (tl j).length ≤ 44 by
    intro j hj
    rw [htl, List.length_append]
    have := hlen j hj
    omega)
  have HOK := Lib.hid hok
  have HSC := Lib.hid s2
  clear htl hok s2 hlen hn5 hsi hsg hnm hm
  obtain ⟨W, hW⟩ : ∃ W, W = (w.alloc (Obj.cells #[.int .i64 k, .int .i64 a, .int .i64 b, .int .i64 c] 39)).alloc (Obj.cells #[.string (str nm), .string (str sg)] 84) := ⟨_, rfl⟩
  have X2 : VarN W w.heap.size [.int .i64 k, .int .i64 a, .int .i64 b, .int .i64 c] := by rw [hW]; exact varN_A _ (varN_new _ _ rfl)
  have X5 : VarN W (w.heap.size + 1) [.string (str nm), .string (str sg)] := by rw [hW]; exact varN_new [.string (str nm), .string (str sg)] _ (by simp)
  have hB : Below w.heap.size w W := by rw [hW]; go_grown
  have hs : W.heap.size = w.heap.size + 2 := by rw [hW]; simp
  obtain ⟨gv, hgv⟩ : ∃ gv, W.heap.size = gv := ⟨_, rfl⟩
  have HG := Lib.hid hgv
  have HL := Lib.hid (show w.heap.size < gv ∧ w.heap.size + 1 < gv by omega)
  have HX2 := Lib.hid X2
  have HX5 := Lib.hid X5
  have HB := Lib.hid hB
  have HW := Lib.hid hW
  clear hW X2 X5 hB hs hgv
  unfold insV
  go_enter Tryd.func33, Tryd.ntmps33
  go_wp2
  rw [← HW.out]
  refine wp_region_inv (ToldInv w.heap.size (w.heap.size + 1) gv k a b c nm) (by kernel_rfl) (by kernel_rfl) ?_ ?_ ?_
  · intro listed hl
    exact .mk undef undef undef undef undef undef undef undef undef undef undef [] (by simp only [Act.put, List.setIfInBounds_toArray, List.set_cons_zero, List.set_cons_succ]) (⟨(Below.refl _ _).drew, Nat.le_of_eq HG.out.symm, fun _ => HG.out⟩) (fun h => absurd h (hl 0 (by decide))) (fun h => absurd h (hl 1 (by decide))) (fun h => absurd h (hl 2 (by decide))) (fun h => absurd h (hl 3 (by decide))) (fun h => absurd h (hl 4 (by decide))) (fun h => absurd h (hl 5 (by decide))) (fun h => absurd h (hl 6 (by decide))) (fun h => absurd h (hl 7 (by decide))) (fun h => absurd h (hl 8 (by decide))) (fun h => absurd h (hl 9 (by decide))) (fun h => absurd h (hl 10 (by decide))) (fun h => absurd h (hl 9 (by decide))) (fun h => absurd h (hl 11 (by decide)))
  · show StepsL _ _ _ _ _ _ _
    refine StepsL.cons (k := 0) rfl (fun listed a1 w1 hI hn hw K hK => ?_) ?_
    · cases hI with | mk p13 p14 p15 p16 p17 p18 p19 p20 p21 p7 p6 xs ea hb hf0 hf1 hf2 hf3 hf4 hf5 hf6 hf7 hf8 hf9 hf10 hV hS =>
        have Hhf0 := Lib.hid hf0
        have Hhf1 := Lib.hid hf1
        have Hhf2 := Lib.hid hf2
        have Hhf3 := Lib.hid hf3
        have Hhf4 := Lib.hid hf4
        have Hhf5 := Lib.hid hf5
        have Hhf6 := Lib.hid hf6
        have Hhf7 := Lib.hid hf7
        have Hhf8 := Lib.hid hf8
        have Hhf9 := Lib.hid hf9
        have Hhf10 := Lib.hid hf10
        have HhV := Lib.hid hV
        have HhS := Lib.hid hS
        have Hhb := Lib.hid hb
        have Hhw := Lib.hid hw
        clear hf0 hf1 hf2 hf3 hf4 hf5 hf6 hf7 hf8 hf9 hf10 hV hS hb hw
        rw [ea]
        clear ea
        simp only [Act.put, List.setIfInBounds_toArray, List.set_cons_zero, List.set_cons_succ]
        go_simp
        have hf0 := Hhf0.out
        have hf1 := Hhf1.out
        have hf2 := Hhf2.out
        have hf3 := Hhf3.out
        have hf4 := Hhf4.out
        have hf5 := Hhf5.out
        have hf6 := Hhf6.out
        have hf7 := Hhf7.out
        have hf8 := Hhf8.out
        have hf9 := Hhf9.out
        have hf10 := Hhf10.out
        have hV := HhV.out
        have hS := HhS.out
        have hb := Hhb.out
        have hw := Hhw.out
        refine hK.out _ _ ?_
        exact .mk (.pointer (some ⟨(w.heap.size + 1), 0, none⟩)) p14 p15 p16 p17 p18 p19 p20 p21 p7 p6 xs (by simp only [Act.put, List.setIfInBounds_toArray, List.set_cons_zero, List.set_cons_succ]) (⟨hb.1, hb.2.1, fun h => hb.2.2 (fun hu => h (up_old hu))⟩) (fun _ => rfl) (fun h => hf1 (up_back h (by decide))) (fun h => hf2 (up_back h (by decide))) (fun h => hf3 (up_back h (by decide))) (fun h => hf4 (up_back h (by decide))) (fun h => hf5 (up_back h (by decide))) (fun h => hf6 (up_back h (by decide))) (fun h => hf7 (up_back h (by decide))) (fun h => hf8 (up_back h (by decide))) (fun h => hf9 (up_back h (by decide))) (fun h => hf10 (up_back h (by decide))) (fun h => hV (up_back h (by decide))) (fun h => ⟨up_old (hS (up_back h (by decide))).1, (hS (up_back h (by decide))).2⟩)
    refine StepsL.cons (k := 1) rfl (fun listed a1 w1 hI hn hw K hK => ?_) ?_
    · cases hI with | mk p13 p14 p15 p16 p17 p18 p19 p20 p21 p7 p6 xs ea hb hf0 hf1 hf2 hf3 hf4 hf5 hf6 hf7 hf8 hf9 hf10 hV hS =>
        have e_f0 := hf0 (hw 0 (by decide))
        subst e_f0
        have x0 := (varN_low hb.1 HL.out.2 HX5.out)
        have k0 := (x0 0 _ rfl).1
        have k1 := (x0 1 _ rfl).1
        have Hhf0 := Lib.hid hf0
        have Hhf1 := Lib.hid hf1
        have Hhf2 := Lib.hid hf2
        have Hhf3 := Lib.hid hf3
        have Hhf4 := Lib.hid hf4
        have Hhf5 := Lib.hid hf5
        have Hhf6 := Lib.hid hf6
        have Hhf7 := Lib.hid hf7
        have Hhf8 := Lib.hid hf8
        have Hhf9 := Lib.hid hf9
        have Hhf10 := Lib.hid hf10
        have HhV := Lib.hid hV
        have HhS := Lib.hid hS
        have Hhb := Lib.hid hb
        have Hhw := Lib.hid hw
        clear hf0 hf1 hf2 hf3 hf4 hf5 hf6 hf7 hf8 hf9 hf10 hV hS hb hw
        rw [ea]
        clear ea
        simp only [Act.put, List.setIfInBounds_toArray, List.set_cons_zero, List.set_cons_succ]
        go_simp
        have hf0 := Hhf0.out
        have hf1 := Hhf1.out
        have hf2 := Hhf2.out
        have hf3 := Hhf3.out
        have hf4 := Hhf4.out
        have hf5 := Hhf5.out
        have hf6 := Hhf6.out
        have hf7 := Hhf7.out
        have hf8 := Hhf8.out
        have hf9 := Hhf9.out
        have hf10 := Hhf10.out
        have hV := HhV.out
        have hS := HhS.out
        have hb := Hhb.out
        have hw := Hhw.out
        refine hK.out _ _ ?_
        exact .mk (.pointer (some ⟨(w.heap.size + 1), 0, none⟩)) (.string (str nm)) p15 p16 p17 p18 p19 p20 p21 p7 p6 xs (by simp only [Act.put, List.setIfInBounds_toArray, List.set_cons_zero, List.set_cons_succ]) (⟨hb.1, hb.2.1, fun h => hb.2.2 (fun hu => h (up_old hu))⟩) (fun _ => rfl) (fun _ => rfl) (fun h => hf2 (up_back h (by decide))) (fun h => hf3 (up_back h (by decide))) (fun h => hf4 (up_back h (by decide))) (fun h => hf5 (up_back h (by decide))) (fun h => hf6 (up_back h (by decide))) (fun h => hf7 (up_back h (by decide))) (fun h => hf8 (up_back h (by decide))) (fun h => hf9 (up_back h (by decide))) (fun h => hf10 (up_back h (by decide))) (fun h => hV (up_back h (by decide))) (fun h => ⟨up_old (hS (up_back h (by decide))).1, (hS (up_back h (by decide))).2⟩)
    refine StepsL.cons (k := 2) rfl (fun listed a1 w1 hI hn hw K hK => ?_) ?_
    · cases hI with | mk p13 p14 p15 p16 p17 p18 p19 p20 p21 p7 p6 xs ea hb hf0 hf1 hf2 hf3 hf4 hf5 hf6 hf7 hf8 hf9 hf10 hV hS =>
        have Hhf0 := Lib.hid hf0
        have Hhf1 := Lib.hid hf1
        have Hhf2 := Lib.hid hf2
        have Hhf3 := Lib.hid hf3
        have Hhf4 := Lib.hid hf4
        have Hhf5 := Lib.hid hf5
        have Hhf6 := Lib.hid hf6
        have Hhf7 := Lib.hid hf7
        have Hhf8 := Lib.hid hf8
        have Hhf9 := Lib.hid hf9
        have Hhf10 := Lib.hid hf10
        have HhV := Lib.hid hV
        have HhS := Lib.hid hS
        have Hhb := Lib.hid hb
        have Hhw := Lib.hid hw
        clear hf0 hf1 hf2 hf3 hf4 hf5 hf6 hf7 hf8 hf9 hf10 hV hS hb hw
        rw [ea]
        clear ea
        simp only [Act.put, List.setIfInBounds_toArray, List.set_cons_zero, List.set_cons_succ]
        go_simp
        have hf0 := Hhf0.out
        have hf1 := Hhf1.out
        have hf2 := Hhf2.out
        have hf3 := Hhf3.out
        have hf4 := Hhf4.out
        have hf5 := Hhf5.out
        have hf6 := Hhf6.out
        have hf7 := Hhf7.out
        have hf8 := Hhf8.out
        have hf9 := Hhf9.out
        have hf10 := Hhf10.out
        have hV := HhV.out
        have hS := HhS.out
        have hb := Hhb.out
        have hw := Hhw.out
        refine hK.out _ _ ?_
        exact .mk p13 p14 (.pointer (some ⟨w.heap.size, 1, none⟩)) p16 p17 p18 p19 p20 p21 p7 p6 xs (by simp only [Act.put, List.setIfInBounds_toArray, List.set_cons_zero, List.set_cons_succ]) (⟨hb.1, hb.2.1, fun h => hb.2.2 (fun hu => h (up_old hu))⟩) (fun h => hf0 (up_back h (by decide))) (fun h => hf1 (up_back h (by decide))) (fun _ => rfl) (fun h => hf3 (up_back h (by decide))) (fun h => hf4 (up_back h (by decide))) (fun h => hf5 (up_back h (by decide))) (fun h => hf6 (up_back h (by decide))) (fun h => hf7 (up_back h (by decide))) (fun h => hf8 (up_back h (by decide))) (fun h => hf9 (up_back h (by decide))) (fun h => hf10 (up_back h (by decide))) (fun h => hV (up_back h (by decide))) (fun h => ⟨up_old (hS (up_back h (by decide))).1, (hS (up_back h (by decide))).2⟩)
    refine StepsL.cons (k := 3) rfl (fun listed a1 w1 hI hn hw K hK => ?_) ?_
    · cases hI with | mk p13 p14 p15 p16 p17 p18 p19 p20 p21 p7 p6 xs ea hb hf0 hf1 hf2 hf3 hf4 hf5 hf6 hf7 hf8 hf9 hf10 hV hS =>
        have e_f2 := hf2 (hw 2 (by decide))
        subst e_f2
        have x0 := (varN_low hb.1 HL.out.1 HX2.out)
        have k0 := (x0 0 _ rfl).1
        have k1 := (x0 1 _ rfl).1
        have k2 := (x0 2 _ rfl).1
        have k3 := (x0 3 _ rfl).1
        have Hhf0 := Lib.hid hf0
        have Hhf1 := Lib.hid hf1
        have Hhf2 := Lib.hid hf2
        have Hhf3 := Lib.hid hf3
        have Hhf4 := Lib.hid hf4
        have Hhf5 := Lib.hid hf5
        have Hhf6 := Lib.hid hf6
        have Hhf7 := Lib.hid hf7
        have Hhf8 := Lib.hid hf8
        have Hhf9 := Lib.hid hf9
        have Hhf10 := Lib.hid hf10
        have HhV := Lib.hid hV
        have HhS := Lib.hid hS
        have Hhb := Lib.hid hb
        have Hhw := Lib.hid hw
        clear hf0 hf1 hf2 hf3 hf4 hf5 hf6 hf7 hf8 hf9 hf10 hV hS hb hw
        rw [ea]
        clear ea
        simp only [Act.put, List.setIfInBounds_toArray, List.set_cons_zero, List.set_cons_succ]
        go_simp
        have hf0 := Hhf0.out
        have hf1 := Hhf1.out
        have hf2 := Hhf2.out
        have hf3 := Hhf3.out
        have hf4 := Hhf4.out
        have hf5 := Hhf5.out
        have hf6 := Hhf6.out
        have hf7 := Hhf7.out
        have hf8 := Hhf8.out
        have hf9 := Hhf9.out
        have hf10 := Hhf10.out
        have hV := HhV.out
        have hS := HhS.out
        have hb := Hhb.out
        have hw := Hhw.out
        refine hK.out _ _ ?_
        exact .mk p13 p14 (.pointer (some ⟨w.heap.size, 1, none⟩)) (.int .i64 a) p17 p18 p19 p20 p21 p7 p6 xs (by simp only [Act.put, List.setIfInBounds_toArray, List.set_cons_zero, List.set_cons_succ]) (⟨hb.1, hb.2.1, fun h => hb.2.2 (fun hu => h (up_old hu))⟩) (fun h => hf0 (up_back h (by decide))) (fun h => hf1 (up_back h (by decide))) (fun _ => rfl) (fun _ => rfl) (fun h => hf4 (up_back h (by decide))) (fun h => hf5 (up_back h (by decide))) (fun h => hf6 (up_back h (by decide))) (fun h => hf7 (up_back h (by decide))) (fun h => hf8 (up_back h (by decide))) (fun h => hf9 (up_back h (by decide))) (fun h => hf10 (up_back h (by decide))) (fun h => hV (up_back h (by decide))) (fun h => ⟨up_old (hS (up_back h (by decide))).1, (hS (up_back h (by decide))).2⟩)
    refine StepsL.cons (k := 4) rfl (fun listed a1 w1 hI hn hw K hK => ?_) ?_
    · cases hI with | mk p13 p14 p15 p16 p17 p18 p19 p20 p21 p7 p6 xs ea hb hf0 hf1 hf2 hf3 hf4 hf5 hf6 hf7 hf8 hf9 hf10 hV hS =>
        have Hhf0 := Lib.hid hf0
        have Hhf1 := Lib.hid hf1
        have Hhf2 := Lib.hid hf2
        have Hhf3 := Lib.hid hf3
        have Hhf4 := Lib.hid hf4
        have Hhf5 := Lib.hid hf5
        have Hhf6 := Lib.hid hf6
        have Hhf7 := Lib.hid hf7
        have Hhf8 := Lib.hid hf8
        have Hhf9 := Lib.hid hf9
        have Hhf10 := Lib.hid hf10
        have HhV := Lib.hid hV
        have HhS := Lib.hid hS
        have Hhb := Lib.hid hb
        have Hhw := Lib.hid hw
        clear hf0 hf1 hf2 hf3 hf4 hf5 hf6 hf7 hf8 hf9 hf10 hV hS hb hw
        rw [ea]
        clear ea
        simp only [Act.put, List.setIfInBounds_toArray, List.set_cons_zero, List.set_cons_succ]
        go_simp
        have hf0 := Hhf0.out
        have hf1 := Hhf1.out
        have hf2 := Hhf2.out
        have hf3 := Hhf3.out
        have hf4 := Hhf4.out
        have hf5 := Hhf5.out
        have hf6 := Hhf6.out
        have hf7 := Hhf7.out
        have hf8 := Hhf8.out
        have hf9 := Hhf9.out
        have hf10 := Hhf10.out
        have hV := HhV.out
        have hS := HhS.out
        have hb := Hhb.out
        have hw := Hhw.out
        refine hK.out _ _ ?_
        exact .mk p13 p14 p15 p16 (.pointer (some ⟨w.heap.size, 2, none⟩)) p18 p19 p20 p21 p7 p6 xs (by simp only [Act.put, List.setIfInBounds_toArray, List.set_cons_zero, List.set_cons_succ]) (⟨hb.1, hb.2.1, fun h => hb.2.2 (fun hu => h (up_old hu))⟩) (fun h => hf0 (up_back h (by decide))) (fun h => hf1 (up_back h (by decide))) (fun h => hf2 (up_back h (by decide))) (fun h => hf3 (up_back h (by decide))) (fun _ => rfl) (fun h => hf5 (up_back h (by decide))) (fun h => hf6 (up_back h (by decide))) (fun h => hf7 (up_back h (by decide))) (fun h => hf8 (up_back h (by decide))) (fun h => hf9 (up_back h (by decide))) (fun h => hf10 (up_back h (by decide))) (fun h => hV (up_back h (by decide))) (fun h => ⟨up_old (hS (up_back h (by decide))).1, (hS (up_back h (by decide))).2⟩)
    refine StepsL.cons (k := 5) rfl (fun listed a1 w1 hI hn hw K hK => ?_) ?_
    · cases hI with | mk p13 p14 p15 p16 p17 p18 p19 p20 p21 p7 p6 xs ea hb hf0 hf1 hf2 hf3 hf4 hf5 hf6 hf7 hf8 hf9 hf10 hV hS =>
        have e_f4 := hf4 (hw 4 (by decide))
        subst e_f4
        have x0 := (varN_low hb.1 HL.out.1 HX2.out)
        have k0 := (x0 0 _ rfl).1
        have k1 := (x0 1 _ rfl).1
        have k2 := (x0 2 _ rfl).1
        have k3 := (x0 3 _ rfl).1
        have Hhf0 := Lib.hid hf0
        have Hhf1 := Lib.hid hf1
        have Hhf2 := Lib.hid hf2
        have Hhf3 := Lib.hid hf3
        have Hhf4 := Lib.hid hf4
        have Hhf5 := Lib.hid hf5
        have Hhf6 := Lib.hid hf6
        have Hhf7 := Lib.hid hf7
        have Hhf8 := Lib.hid hf8
        have Hhf9 := Lib.hid hf9
        have Hhf10 := Lib.hid hf10
        have HhV := Lib.hid hV
        have HhS := Lib.hid hS
        have Hhb := Lib.hid hb
        have Hhw := Lib.hid hw
        clear hf0 hf1 hf2 hf3 hf4 hf5 hf6 hf7 hf8 hf9 hf10 hV hS hb hw
        rw [ea]
        clear ea
        simp only [Act.put, List.setIfInBounds_toArray, List.set_cons_zero, List.set_cons_succ]
        go_simp
        have hf0 := Hhf0.out
        have hf1 := Hhf1.out
        have hf2 := Hhf2.out
        have hf3 := Hhf3.out
        have hf4 := Hhf4.out
        have hf5 := Hhf5.out
        have hf6 := Hhf6.out
        have hf7 := Hhf7.out
        have hf8 := Hhf8.out
        have hf9 := Hhf9.out
        have hf10 := Hhf10.out
        have hV := HhV.out
        have hS := HhS.out
        have hb := Hhb.out
        have hw := Hhw.out
        refine hK.out _ _ ?_
        exact .mk p13 p14 p15 p16 (.pointer (some ⟨w.heap.size, 2, none⟩)) (.int .i64 b) p19 p20 p21 p7 p6 xs (by simp only [Act.put, List.setIfInBounds_toArray, List.set_cons_zero, List.set_cons_succ]) (⟨hb.1, hb.2.1, fun h => hb.2.2 (fun hu => h (up_old hu))⟩) (fun h => hf0 (up_back h (by decide))) (fun h => hf1 (up_back h (by decide))) (fun h => hf2 (up_back h (by decide))) (fun h => hf3 (up_back h (by decide))) (fun _ => rfl) (fun _ => rfl) (fun h => hf6 (up_back h (by decide))) (fun h => hf7 (up_back h (by decide))) (fun h => hf8 (up_back h (by decide))) (fun h => hf9 (up_back h (by decide))) (fun h => hf10 (up_back h (by decide))) (fun h => hV (up_back h (by decide))) (fun h => ⟨up_old (hS (up_back h (by decide))).1, (hS (up_back h (by decide))).2⟩)
    refine StepsL.cons (k := 6) rfl (fun listed a1 w1 hI hn hw K hK => ?_) ?_
    · cases hI with | mk p13 p14 p15 p16 p17 p18 p19 p20 p21 p7 p6 xs ea hb hf0 hf1 hf2 hf3 hf4 hf5 hf6 hf7 hf8 hf9 hf10 hV hS =>
        have Hhf0 := Lib.hid hf0
        have Hhf1 := Lib.hid hf1
        have Hhf2 := Lib.hid hf2
        have Hhf3 := Lib.hid hf3
        have Hhf4 := Lib.hid hf4
        have Hhf5 := Lib.hid hf5
        have Hhf6 := Lib.hid hf6
        have Hhf7 := Lib.hid hf7
        have Hhf8 := Lib.hid hf8
        have Hhf9 := Lib.hid hf9
        have Hhf10 := Lib.hid hf10
        have HhV := Lib.hid hV
        have HhS := Lib.hid hS
        have Hhb := Lib.hid hb
        have Hhw := Lib.hid hw
        clear hf0 hf1 hf2 hf3 hf4 hf5 hf6 hf7 hf8 hf9 hf10 hV hS hb hw
        rw [ea]
        clear ea
        simp only [Act.put, List.setIfInBounds_toArray, List.set_cons_zero, List.set_cons_succ]
        go_simp
        have hf0 := Hhf0.out
        have hf1 := Hhf1.out
        have hf2 := Hhf2.out
        have hf3 := Hhf3.out
        have hf4 := Hhf4.out
        have hf5 := Hhf5.out
        have hf6 := Hhf6.out
        have hf7 := Hhf7.out
        have hf8 := Hhf8.out
        have hf9 := Hhf9.out
        have hf10 := Hhf10.out
        have hV := HhV.out
        have hS := HhS.out
        have hb := Hhb.out
        have hw := Hhw.out
        refine hK.out _ _ ?_
        exact .mk p13 p14 p15 p16 p17 p18 (.pointer (some ⟨w.heap.size, 3, none⟩)) p20 p21 p7 p6 xs (by simp only [Act.put, List.setIfInBounds_toArray, List.set_cons_zero, List.set_cons_succ]) (⟨hb.1, hb.2.1, fun h => hb.2.2 (fun hu => h (up_old hu))⟩) (fun h => hf0 (up_back h (by decide))) (fun h => hf1 (up_back h (by decide))) (fun h => hf2 (up_back h (by decide))) (fun h => hf3 (up_back h (by decide))) (fun h => hf4 (up_back h (by decide))) (fun h => hf5 (up_back h (by decide))) (fun _ => rfl) (fun h => hf7 (up_back h (by decide))) (fun h => hf8 (up_back h (by decide))) (fun h => hf9 (up_back h (by decide))) (fun h => hf10 (up_back h (by decide))) (fun h => hV (up_back h (by decide))) (fun h => ⟨up_old (hS (up_back h (by decide))).1, (hS (up_back h (by decide))).2⟩)
    refine StepsL.cons (k := 7) rfl (fun listed a1 w1 hI hn hw K hK => ?_) ?_
    · cases hI with | mk p13 p14 p15 p16 p17 p18 p19 p20 p21 p7 p6 xs ea hb hf0 hf1 hf2 hf3 hf4 hf5 hf6 hf7 hf8 hf9 hf10 hV hS =>
        have e_f6 := hf6 (hw 6 (by decide))
        subst e_f6
        have x0 := (varN_low hb.1 HL.out.1 HX2.out)
        have k0 := (x0 0 _ rfl).1
        have k1 := (x0 1 _ rfl).1
        have k2 := (x0 2 _ rfl).1
        have k3 := (x0 3 _ rfl).1
        have Hhf0 := Lib.hid hf0
        have Hhf1 := Lib.hid hf1
        have Hhf2 := Lib.hid hf2
        have Hhf3 := Lib.hid hf3
        have Hhf4 := Lib.hid hf4
        have Hhf5 := Lib.hid hf5
        have Hhf6 := Lib.hid hf6
        have Hhf7 := Lib.hid hf7
        have Hhf8 := Lib.hid hf8
        have Hhf9 := Lib.hid hf9
        have Hhf10 := Lib.hid hf10
        have HhV := Lib.hid hV
        have HhS := Lib.hid hS
        have Hhb := Lib.hid hb
        have Hhw := Lib.hid hw
        clear hf0 hf1 hf2 hf3 hf4 hf5 hf6 hf7 hf8 hf9 hf10 hV hS hb hw
        rw [ea]
        clear ea
        simp only [Act.put, List.setIfInBounds_toArray, List.set_cons_zero, List.set_cons_succ]
        go_simp
        have hf0 := Hhf0.out
        have hf1 := Hhf1.out
        have hf2 := Hhf2.out
        have hf3 := Hhf3.out
        have hf4 := Hhf4.out
        have hf5 := Hhf5.out
        have hf6 := Hhf6.out
        have hf7 := Hhf7.out
        have hf8 := Hhf8.out
        have hf9 := Hhf9.out
        have hf10 := Hhf10.out
        have hV := HhV.out
        have hS := HhS.out
        have hb := Hhb.out
        have hw := Hhw.out
        refine hK.out _ _ ?_
        exact .mk p13 p14 p15 p16 p17 p18 (.pointer (some ⟨w.heap.size, 3, none⟩)) (.int .i64 c) p21 p7 p6 xs (by simp only [Act.put, List.setIfInBounds_toArray, List.set_cons_zero, List.set_cons_succ]) (⟨hb.1, hb.2.1, fun h => hb.2.2 (fun hu => h (up_old hu))⟩) (fun h => hf0 (up_back h (by decide))) (fun h => hf1 (up_back h (by decide))) (fun h => hf2 (up_back h (by decide))) (fun h => hf3 (up_back h (by decide))) (fun h => hf4 (up_back h (by decide))) (fun h => hf5 (up_back h (by decide))) (fun _ => rfl) (fun _ => rfl) (fun h => hf8 (up_back h (by decide))) (fun h => hf9 (up_back h (by decide))) (fun h => hf10 (up_back h (by decide))) (fun h => hV (up_back h (by decide))) (fun h => ⟨up_old (hS (up_back h (by decide))).1, (hS (up_back h (by decide))).2⟩)
    refine StepsL.cons (k := 8) rfl (fun listed a1 w1 hI hn hw K hK => ?_) ?_
    · cases hI with | mk p13 p14 p15 p16 p17 p18 p19 p20 p21 p7 p6 xs ea hb hf0 hf1 hf2 hf3 hf4 hf5 hf6 hf7 hf8 hf9 hf10 hV hS =>
        have e_f3 := hf3 (hw 3 (by decide))
        have e_f5 := hf5 (hw 5 (by decide))
        have e_f7 := hf7 (hw 7 (by decide))
        subst e_f3 e_f5 e_f7
        have Hhf0 := Lib.hid hf0
        have Hhf1 := Lib.hid hf1
        have Hhf2 := Lib.hid hf2
        have Hhf3 := Lib.hid hf3
        have Hhf4 := Lib.hid hf4
        have Hhf5 := Lib.hid hf5
        have Hhf6 := Lib.hid hf6
        have Hhf7 := Lib.hid hf7
        have Hhf8 := Lib.hid hf8
        have Hhf9 := Lib.hid hf9
        have Hhf10 := Lib.hid hf10
        have HhV := Lib.hid hV
        have HhS := Lib.hid hS
        have Hhb := Lib.hid hb
        have Hhw := Lib.hid hw
        clear hf0 hf1 hf2 hf3 hf4 hf5 hf6 hf7 hf8 hf9 hf10 hV hS hb hw
        rw [ea]
        clear ea
        simp only [Act.put, List.setIfInBounds_toArray, List.set_cons_zero, List.set_cons_succ]
        go_simp
        have hf0 := Hhf0.out
        have hf1 := Hhf1.out
        have hf2 := Hhf2.out
        have hf3 := Hhf3.out
        have hf4 := Hhf4.out
        have hf5 := Hhf5.out
        have hf6 := Hhf6.out
        have hf7 := Hhf7.out
        have hf8 := Hhf8.out
        have hf9 := Hhf9.out
        have hf10 := Hhf10.out
        have hV := HhV.out
        have hS := HhS.out
        have hb := Hhb.out
        have hw := Hhw.out
        refine hK.out _ _ ?_
        exact .mk p13 p14 p15 (.int .i64 a) p17 (.int .i64 b) p19 (.int .i64 c) (.agg #[.int .i64 a, .int .i64 b, .int .i64 c]) p7 p6 xs (by simp only [Act.put, List.setIfInBounds_toArray, List.set_cons_zero, List.set_cons_succ]) (⟨hb.1, hb.2.1, fun h => hb.2.2 (fun hu => h (up_old hu))⟩) (fun h => hf0 (up_back h (by decide))) (fun h => hf1 (up_back h (by decide))) (fun h => hf2 (up_back h (by decide))) (fun _ => rfl) (fun h => hf4 (up_back h (by decide))) (fun _ => rfl) (fun h => hf6 (up_back h (by decide))) (fun _ => rfl) (fun _ => rfl) (fun h => hf9 (up_back h (by decide))) (fun h => hf10 (up_back h (by decide))) (fun h => hV (up_back h (by decide))) (fun h => ⟨up_old (hS (up_back h (by decide))).1, (hS (up_back h (by decide))).2⟩)
    refine StepsL.cons (k := 9) rfl (fun listed a1 w1 hI hn hw K hK => ?_) ?_
    · cases hI with | mk p13 p14 p15 p16 p17 p18 p19 p20 p21 p7 p6 xs ea hb hf0 hf1 hf2 hf3 hf4 hf5 hf6 hf7 hf8 hf9 hf10 hV hS =>
        have hs := hb.2.2 hn
        have HS := Lib.hid hs
        have Hhf0 := Lib.hid hf0
        have Hhf1 := Lib.hid hf1
        have Hhf2 := Lib.hid hf2
        have Hhf3 := Lib.hid hf3
        have Hhf4 := Lib.hid hf4
        have Hhf5 := Lib.hid hf5
        have Hhf6 := Lib.hid hf6
        have Hhf7 := Lib.hid hf7
        have Hhf8 := Lib.hid hf8
        have Hhf9 := Lib.hid hf9
        have Hhf10 := Lib.hid hf10
        have HhV := Lib.hid hV
        have HhS := Lib.hid hS
        have Hhb := Lib.hid hb
        have Hhw := Lib.hid hw
        clear hf0 hf1 hf2 hf3 hf4 hf5 hf6 hf7 hf8 hf9 hf10 hV hS hb hw
        rw [ea]
        clear ea
        simp only [Act.put, List.setIfInBounds_toArray, List.set_cons_zero, List.set_cons_succ]
        go_simp
        have hf0 := Hhf0.out
        have hf1 := Hhf1.out
        have hf2 := Hhf2.out
        have hf3 := Hhf3.out
        have hf4 := Hhf4.out
        have hf5 := Hhf5.out
        have hf6 := Hhf6.out
        have hf7 := Hhf7.out
        have hf8 := Hhf8.out
        have hf9 := Hhf9.out
        have hf10 := Hhf10.out
        have hV := HhV.out
        have hS := HhS.out
        have hb := Hhb.out
        have hw := Hhw.out
        refine hK.out _ _ ?_
        exact .mk p13 p14 p15 p16 p17 p18 p19 p20 p21 (.pointer (some ⟨gv, 0, none⟩)) p6 [.int .i64 0, .int .i64 0, .int .i64 0] (by simp only [Act.put, List.setIfInBounds_toArray, List.set_cons_zero, List.set_cons_succ]) (⟨hb.1.alloc hb.2.1 _, by simp; omega, fun h => absurd up_self h⟩) (fun h => hf0 (up_back h (by decide))) (fun h => hf1 (up_back h (by decide))) (fun h => hf2 (up_back h (by decide))) (fun h => hf3 (up_back h (by decide))) (fun h => hf4 (up_back h (by decide))) (fun h => hf5 (up_back h (by decide))) (fun h => hf6 (up_back h (by decide))) (fun h => hf7 (up_back h (by decide))) (fun h => hf8 (up_back h (by decide))) (fun _ => rfl) (fun h => hf10 (up_back h (by decide))) (fun _ => ⟨varN_new [.int .i64 0, .int .i64 0, .int .i64 0] gv HS.out.symm, rfl⟩) (fun h => absurd (hS (up_back h (by decide))).1 hn)
    refine StepsL.cons (k := 10) rfl (fun listed a1 w1 hI hn hw K hK => ?_) ?_
    · cases hI with | mk p13 p14 p15 p16 p17 p18 p19 p20 p21 p7 p6 xs ea hb hf0 hf1 hf2 hf3 hf4 hf5 hf6 hf7 hf8 hf9 hf10 hV hS =>
        have e_f1 := hf1 (hw 1 (by decide))
        subst e_f1
        have Hhf0 := Lib.hid hf0
        have Hhf1 := Lib.hid hf1
        have Hhf2 := Lib.hid hf2
        have Hhf3 := Lib.hid hf3
        have Hhf4 := Lib.hid hf4
        have Hhf5 := Lib.hid hf5
        have Hhf6 := Lib.hid hf6
        have Hhf7 := Lib.hid hf7
        have Hhf8 := Lib.hid hf8
        have Hhf9 := Lib.hid hf9
        have Hhf10 := Lib.hid hf10
        have HhV := Lib.hid hV
        have HhS := Lib.hid hS
        have Hhb := Lib.hid hb
        have Hhw := Lib.hid hw
        clear hf0 hf1 hf2 hf3 hf4 hf5 hf6 hf7 hf8 hf9 hf10 hV hS hb hw
        rw [ea]
        clear ea
        simp only [Act.put, List.setIfInBounds_toArray, List.set_cons_zero, List.set_cons_succ]
        go_simp
        have hf0 := Hhf0.out
        have hf1 := Hhf1.out
        have hf2 := Hhf2.out
        have hf3 := Hhf3.out
        have hf4 := Hhf4.out
        have hf5 := Hhf5.out
        have hf6 := Hhf6.out
        have hf7 := Hhf7.out
        have hf8 := Hhf8.out
        have hf9 := Hhf9.out
        have hf10 := Hhf10.out
        have hV := HhV.out
        have hS := HhS.out
        have hb := Hhb.out
        have hw := Hhw.out
        refine hK.out _ _ ?_
        exact .mk p13 (.string (str nm)) p15 p16 p17 p18 p19 p20 p21 p7 (.string (str nm)) xs (by simp only [Act.put, List.setIfInBounds_toArray, List.set_cons_zero, List.set_cons_succ]) (⟨hb.1, hb.2.1, fun h => hb.2.2 (fun hu => h (up_old hu))⟩) (fun h => hf0 (up_back h (by decide))) (fun _ => rfl) (fun h => hf2 (up_back h (by decide))) (fun h => hf3 (up_back h (by decide))) (fun h => hf4 (up_back h (by decide))) (fun h => hf5 (up_back h (by decide))) (fun h => hf6 (up_back h (by decide))) (fun h => hf7 (up_back h (by decide))) (fun h => hf8 (up_back h (by decide))) (fun h => hf9 (up_back h (by decide))) (fun _ => rfl) (fun h => hV (up_back h (by decide))) (fun h => ⟨up_old (hS (up_back h (by decide))).1, (hS (up_back h (by decide))).2⟩)
    refine StepsL.cons (k := 11) rfl (fun listed a1 w1 hI hn hw K hK => ?_) ?_
    · cases hI with | mk p13 p14 p15 p16 p17 p18 p19 p20 p21 p7 p6 xs ea hb hf0 hf1 hf2 hf3 hf4 hf5 hf6 hf7 hf8 hf9 hf10 hV hS =>
        have e_f8 := hf8 (hw 8 (by decide))
        have e_f9 := hf9 (hw 9 (by decide))
        subst e_f9 e_f8
        have hv := hV (hw 9 (by decide))
        have hl3 := hv.2
        match xs, hl3, hv, hV, hS with
        | [x0, x1, x2], hl3, hv, hV, hS =>
        obtain ⟨y0, g0⟩ := hv.1 0 _ rfl
        obtain ⟨y1, g1⟩ := hv.1 1 _ rfl
        obtain ⟨y2, g2⟩ := hv.1 2 _ rfl
        have HV3 := Lib.hid hv.1
        have Hhf0 := Lib.hid hf0
        have Hhf1 := Lib.hid hf1
        have Hhf2 := Lib.hid hf2
        have Hhf3 := Lib.hid hf3
        have Hhf4 := Lib.hid hf4
        have Hhf5 := Lib.hid hf5
        have Hhf6 := Lib.hid hf6
        have Hhf7 := Lib.hid hf7
        have Hhf8 := Lib.hid hf8
        have Hhf9 := Lib.hid hf9
        have Hhf10 := Lib.hid hf10
        have HhV := Lib.hid hV
        have HhS := Lib.hid hS
        have Hhb := Lib.hid hb
        have Hhw := Lib.hid hw
        clear hf0 hf1 hf2 hf3 hf4 hf5 hf6 hf7 hf8 hf9 hf10 hV hS hb hw
        rw [ea]
        clear ea
        simp only [Act.put, List.setIfInBounds_toArray, List.set_cons_zero, List.set_cons_succ]
        go_simp
        have hf0 := Hhf0.out
        have hf1 := Hhf1.out
        have hf2 := Hhf2.out
        have hf3 := Hhf3.out
        have hf4 := Hhf4.out
        have hf5 := Hhf5.out
        have hf6 := Hhf6.out
        have hf7 := Hhf7.out
        have hf8 := Hhf8.out
        have hf9 := Hhf9.out
        have hf10 := Hhf10.out
        have hV := HhV.out
        have hS := HhS.out
        have hb := Hhb.out
        have hw := Hhw.out
        refine hK.out _ _ ?_
        exact .mk p13 p14 p15 p16 p17 p18 p19 p20 (.agg #[.int .i64 a, .int .i64 b, .int .i64 c]) (.pointer (some ⟨gv, 0, none⟩)) p6 [.int .i64 a, .int .i64 b, .int .i64 c] (by simp only [Act.put, List.setIfInBounds_toArray, List.set_cons_zero, List.set_cons_succ]) (⟨below_setN (g := gv) (xs := [.int .i64 a, .int .i64 b, .int .i64 c]) (k := 0) (Nat.le_refl _) hb.1, Nat.le_trans (Nat.le_of_eq HG.out.symm) (below_setN (g := gv) (xs := [.int .i64 a, .int .i64 b, .int .i64 c]) (k := 0) (Nat.le_refl _) hb.1).size, fun h => absurd (up_old (hw 9 (by decide))) h⟩) (fun h => hf0 (up_back h (by decide))) (fun h => hf1 (up_back h (by decide))) (fun h => hf2 (up_back h (by decide))) (fun h => hf3 (up_back h (by decide))) (fun h => hf4 (up_back h (by decide))) (fun h => hf5 (up_back h (by decide))) (fun h => hf6 (up_back h (by decide))) (fun h => hf7 (up_back h (by decide))) (fun _ => rfl) (fun _ => rfl) (fun h => hf10 (up_back h (by decide))) (fun _ => ⟨varN_all (xs := [.int .i64 a, .int .i64 b, .int .i64 c]) HV3.out rfl, rfl⟩) (fun _ => ⟨up_old (hw 9 (by decide)), rfl⟩)
    exact StepsL.nil
  · intro listed a1 w1 hI hu
    cases hI with | mk p13 p14 p15 p16 p17 p18 p19 p20 p21 p7 p6 xs ea hb hf0 hf1 hf2 hf3 hf4 hf5 hf6 hf7 hf8 hf9 hf10 hV hS =>
      have e10 := hf10 (hu 10)
      have e9 := hf9 (hu 9)
      have e11 := (hS (hu 11)).2
      subst e10 e9 e11
      have HV1 := Lib.hid (hV (hu 9)).1
      have HB1 := Lib.hid hb.1
      have HS1 := Lib.hid hb.2.1
      clear hf0 hf1 hf2 hf3 hf4 hf5 hf6 hf7 hf8 hf9 hf10 hV hS hb hu
      rw [ea]
      clear ea
      simp only [Act.put, List.setIfInBounds_toArray, List.set_cons_zero, List.set_cons_succ]
      have x5 := varN_low HB1.out HL.out.2 HX5.out
      have x0 := (x5 0 _ rfl).1
      have x1 := (x5 1 _ rfl).1
      have hg2 := HL.out.1
      go_wp2
      clear x5 x0 x1
      go_loopw [25, 6] (fun i s wr => ∃ j : Nat, j ≤ sg.length ∧ i = .int .i64 j ∧ s = .string (str (tl j)) ∧ Hid (Below gv W wr ∧ gv ≤ wr.heap.size ∧ VarN wr gv [.int .i64 a, .int .i64 b, .int .i64 c])) (fun i _ _ => sg.length - (intOf i).toNat)
      case atStart => exact ⟨0, Nat.zero_le _, rfl, by rw [T0.out], HB1.out, HS1.out, HV1.out⟩
      case round =>
        obtain ⟨j, hj, rfl, rfl, hq⟩ := hrel
        by_cases hlt : j < sg.length
        · have j1 : (0 : Int) ≤ j := by omega
          have j2 : (j : Int) < (List.length sg : Nat) := by omega
          have c5 := varN_low hq.out.1 HL.out.2 HX5.out
          have x0 := (c5 0 _ rfl).1
          have x1 := (c5 1 _ rfl).1
          obtain ⟨v, hv⟩ : ∃ v, opnd ((k : Int), a, b, c) j = v := ⟨_, rfl⟩
          have cj : wr.cell? ⟨gv, j, none⟩ = some (.int .i64 v) := by
            refine (hq.out.2.2 j _ ?_).1
            rw [← hv]
            rcases (show j = 0 ∨ j = 1 ∨ j = 2 by omega) with rfl | rfl | rfl <;> rfl
          have j3 : (j : Int) < 3 := by omega
          obtain ⟨ch, hch⟩ : ∃ ch, (sg.getD j 0).toNat = ch := ⟨_, rfl⟩
          have hjs : j < (str sg).size := by rw [str_size]; exact hlt
          have hbt : (str sg)[j].toNat = ch := by rw [bytes_at, str_data]; exact hch
          have hcc := HSC.out j hlt
          have hok := HOK.out j (by omega)
          rw [kOk, if_pos hlt, hch, hv] at hok
          rw [hch] at hcc
          have htl := TS.out j
          rw [hch, hv] at htl
          have hlp := tellP_len hn hok
          have hlj := TN.out j hj
          have hbd : -9223372036854775808 ≤ v ∧ v ≤ 9223372036854775807 := by
            unfold fitsK at hok
            split at hok
            · rw [decide_eq_true_eq] at hok; omega
            · split at hok
              · rw [decide_eq_true_eq] at hok; omega
              · rw [decide_eq_true_eq] at hok; omega
          have BW : Below w.heap.size w wr := HB.out.trans (hq.out.1.mono (Nat.le_of_lt (Nat.lt_of_lt_of_le hg2 (Nat.le_refl _))))
          have hr := kind_look (W := wr.drew) (kindMap_B BW.drew K) ((str sg)[j].toNat : Nat) (by rw [hbt]; omega)
          have hcall := tellP_any ch v wr.drew hbd.1 hbd.2 (G.B BW.drew)
          have l1 : ¬ 9223372036854775807 < 1 + (tellP ch v).length := by omega
          have l2 : ¬ 9223372036854775807 < (tl j).length + (1 + (tellP ch v).length) := by omega
          have HTL := Lib.hid htl
          obtain ⟨tx, htx⟩ : ∃ tx, tellP ch v = tx := ⟨_, rfl⟩
          rw [htx] at hcall l1 l2 HTL
          have HBW := Lib.hid BW
          clear hok hch hbd BW htl htx hv hlp hlj
          rcases hcc with rfl | rfl | rfl
          · have hr2 : (Instr.lookup 43 (.map (some km)) (.int .u8 ((str sg)[j].toNat : Nat)) false).run Tryd.prog wr.drew = .ok (kindR) wr.drew := by rw [hr, hbt]; rfl
            unfold kindR at hr2
            have hfd := field_tell wr.drew (.func (.func 45) #[] #[]) (.func (.func 46) #[] #[])
            have hc : Calls Tryd.prog 46 #[.int .i64 v] wr.drew _ := hcall
            clear hr hbt hcall
            go_wp2
            go_region_with (refine hc.mono ?_; rintro e w5 ⟨rfl, hb5⟩; have HB5 := Lib.hid (show Below wr.heap.size wr w5 from (Below.refl _ wr).drew.trans hb5); clear hb5)
            all_goals
              (try go_wp2)
              (try go_roundw)
              all_goals first
                | (refine ⟨⟨j + 1, by omega, by go_num, ?_, hq.out.1.trans (HB5.out.mono hq.out.2.1), Nat.le_trans hq.out.2.1 HB5.out.size, varN_B HB5.out hq.out.2.2⟩, by simp [intOf]; omega⟩; rw [HTL.out, ← app_str, ← str_cons])
                | (refine ⟨j + 1, by omega, by go_num, ?_, hq.out.1.trans (HB5.out.mono hq.out.2.1), Nat.le_trans hq.out.2.1 HB5.out.size, varN_B HB5.out hq.out.2.2⟩; rw [HTL.out, ← app_str, ← str_cons])
                | (simp [intOf]; omega)
          · have hr2 : (Instr.lookup 43 (.map (some km)) (.int .u8 ((str sg)[j].toNat : Nat)) false).run Tryd.prog wr.drew = .ok (kindN) wr.drew := by rw [hr, hbt]; rfl
            unfold kindN at hr2
            have hfd := field_tell wr.drew (.func (.func 48) #[] #[]) (.func (.func 47) #[] #[])
            have hc : Calls Tryd.prog 47 #[.int .i64 v] wr.drew _ := hcall
            clear hr hbt hcall
            go_wp2
            go_region_with (refine hc.mono ?_; rintro e w5 ⟨rfl, hb5⟩; have HB5 := Lib.hid (show Below wr.heap.size wr w5 from (Below.refl _ wr).drew.trans hb5); clear hb5)
            all_goals
              (try go_wp2)
              (try go_roundw)
              all_goals first
                | (refine ⟨⟨j + 1, by omega, by go_num, ?_, hq.out.1.trans (HB5.out.mono hq.out.2.1), Nat.le_trans hq.out.2.1 HB5.out.size, varN_B HB5.out hq.out.2.2⟩, by simp [intOf]; omega⟩; rw [HTL.out, ← app_str, ← str_cons])
                | (refine ⟨j + 1, by omega, by go_num, ?_, hq.out.1.trans (HB5.out.mono hq.out.2.1), Nat.le_trans hq.out.2.1 HB5.out.size, varN_B HB5.out hq.out.2.2⟩; rw [HTL.out, ← app_str, ← str_cons])
                | (simp [intOf]; omega)
          · have hr2 : (Instr.lookup 43 (.map (some km)) (.int .u8 ((str sg)[j].toNat : Nat)) false).run Tryd.prog wr.drew = .ok (kindT lb) wr.drew := by rw [hr, hbt]; rfl
            unfold kindT at hr2
            have hfd := field_tell wr.drew (.func (.func 49) #[.map lb] #[]) (.func (.func 32) #[] #[])
            have hc : Calls Tryd.prog 32 #[.int .i64 v] wr.drew _ := hcall
            clear hr hbt hcall
            go_wp2
            go_region_with (refine hc.mono ?_; rintro e w5 ⟨rfl, hb5⟩; have HB5 := Lib.hid (show Below wr.heap.size wr w5 from (Below.refl _ wr).drew.trans hb5); clear hb5)
            all_goals
              (try go_wp2)
              (try go_roundw)
              all_goals first
                | (refine ⟨⟨j + 1, by omega, by go_num, ?_, hq.out.1.trans (HB5.out.mono hq.out.2.1), Nat.le_trans hq.out.2.1 HB5.out.size, varN_B HB5.out hq.out.2.2⟩, by simp [intOf]; omega⟩; rw [HTL.out, ← app_str, ← str_cons])
                | (refine ⟨j + 1, by omega, by go_num, ?_, hq.out.1.trans (HB5.out.mono hq.out.2.1), Nat.le_trans hq.out.2.1 HB5.out.size, varN_B HB5.out hq.out.2.2⟩; rw [HTL.out, ← app_str, ← str_cons])
                | (simp [intOf]; omega)
        · obtain rfl : j = sg.length := by omega
          have BW : Below w.heap.size w wr := HB.out.trans (hq.out.1.mono (Nat.le_of_lt hg2))
          have HBW := Lib.hid BW
          clear BW hlt
          go_wp2
          go_ret
          rw [TE.out]
          exact ⟨rfl, HBW.out⟩
end Go.Proofs.YthcogkcjmhjjmaaDoor
