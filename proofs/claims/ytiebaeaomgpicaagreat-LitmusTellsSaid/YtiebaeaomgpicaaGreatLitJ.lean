/- Package litmus: begun. -/
import Derived.Test.YtiebaeaomgpicaaGreatLitE
import Derived.Test.YtiebaeaomgpicaaGreatM3
import Derived.Test.YtiebaeaomgpicaaGreatM7
import Derived.Laws.IdiomCopy
namespace Go.Proofs.YtiebaeaomgpicaaGreat
open Go.ChangeShapes Go.WideShapes Go.ChangeAt Go.RowKit
open Gen

theorem mem_new {W : Int} (h : 1 ≤ W ∧ W ≤ 3) : newL W = List.replicate W.toNat 0 ∧ newE W = 0 ∧ markW (List.replicate W.toNat 0) (List.replicate W.toNat 0) 0 W 1 = List.replicate W.toNat 0 ∧ markT (List.replicate W.toNat 0) (List.replicate W.toNat 0) 0 W 1 = List.replicate W.toNat 1 ∧ markE (List.replicate W.toNat 0) (List.replicate W.toNat 0) 0 W 1 = 0 ∧ mayB (List.replicate W.toNat 0) (List.replicate W.toNat 1) = true := by
  rcases (show W = 1 ∨ W = 2 ∨ W = 3 by omega) with rfl | rfl | rfl <;> decide

set_option maxRecDepth 100000 in
set_option maxHeartbeats 8000000 in
theorem moves_atQ {Q : Nat → Prop} {w : World} {q : Option Addr} {l : Nat} {ts : List (List Mv)} (S : Vs (repSlice repInt3) Q w q l ts) {k : Nat} (hk : k < l) :
    ∃ b o t p c, q = some ⟨b, o, none⟩ ∧ ts[k]? = some t ∧ w.cell? ⟨b, o + k, none⟩ = some (.slice p t.length c) ∧ t.length ≤ c ∧ c ≤ 9223372036854775807 ∧ (p = none → c = 0) ∧ Vs repInt3 Q w p t.length t := by
  obtain ⟨b, o, t, e, ht, _, h⟩ := vs_at S hk
  obtain ⟨p, c, h1, h2, h3, h4, h5⟩ := at_slice h
  rw [show (repSlice repInt3).k = 1 from rfl, Nat.mul_one] at h1
  exact ⟨b, o, t, p, c, e, ht, h1, h2, h3, h4, h5⟩
set_option maxRecDepth 100000 in
set_option maxHeartbeats 8000000 in
theorem begun_1 (W D : Int) (q : Option Addr) (d : Nat) (ts : List (List Mv)) (w : World) (QQ : Nat → Prop) (V : Vs (repSlice repInt3) QQ w q 1 ts) (hW : 1 ≤ W ∧ W ≤ 3) (hD : 0 ≤ D ∧ D ≤ 3) :
    Calls Tryz.prog 19 #[.agg #[.int .i64 W, .int .i64 D, .slice q 1 d]] w (SgPost QQ (beginS W D ts) w) := by
  have HL := Lib.hid V.1
  have hm := mem_new hW
  have hn := newT_ok (ws := List.replicate W.toNat 0) (ts := List.replicate W.toNat 1) (n := (1 : Int)) (D := D) hm.2.2.2.2.2 (by simp [sizesB]; omega)
  obtain ⟨G, hG⟩ : ∃ G, G = ((w.alloc (Obj.cells #[.int .i64 W, .int .i64 D, .slice q 1 d] 25)).alloc (Obj.cells #[.slice none 0 0, .slice none 0 0, .int .i64 0, .slice none 0 0, .slice none 0 0, .slice none 0 0, .slice none 0 0, .slice none 0 0, .slice none 0 0, .slice none 0 0] 50)).alloc (Obj.cells #[.slice none 0 0, .slice none 0 0, .int .i64 0, .slice none 0 0, .slice none 0 0, .slice none 0 0, .slice none 0 0, .slice none 0 0, .slice none 0 0, .slice none 0 0] 50) := ⟨_, rfl⟩
  have hbG : Below w.heap.size w G := by rw [hG]; go_grown
  have X : VarN G w.heap.size [.int .i64 W, .int .i64 D, .slice q 1 d] := by rw [hG]; exact varN_A _ (varN_A _ (varN_new [.int .i64 W, .int .i64 D, .slice q 1 d] _ rfl))
  have R : VarN G (w.heap.size + 1) [.slice none 0 0, .slice none 0 0, .int .i64 0, .slice none 0 0, .slice none 0 0, .slice none 0 0, .slice none 0 0, .slice none 0 0, .slice none 0 0, .slice none 0 0] := by rw [hG]; exact varN_A _ (varN_new [.slice none 0 0, .slice none 0 0, .int .i64 0, .slice none 0 0, .slice none 0 0, .slice none 0 0, .slice none 0 0, .slice none 0 0, .slice none 0 0, .slice none 0 0] _ (by simp))
  have T : VarN G (w.heap.size + 2) [.slice none 0 0, .slice none 0 0, .int .i64 0, .slice none 0 0, .slice none 0 0, .slice none 0 0, .slice none 0 0, .slice none 0 0, .slice none 0 0, .slice none 0 0] := by rw [hG]; exact varN_new [.slice none 0 0, .slice none 0 0, .int .i64 0, .slice none 0 0, .slice none 0 0, .slice none 0 0, .slice none 0 0, .slice none 0 0, .slice none 0 0, .slice none 0 0] _ (by simp)
  have hz := varN_lt T (by simp)
  have HG := Lib.hid hG
  have HB := Lib.hid hbG
  have HX := Lib.hid X
  have HR := Lib.hid R
  have HT := Lib.hid T
  have HM := Lib.hid hm
  have HN := Lib.hid hn
  have HV := Lib.hid V
  have x0 := (X 0 _ rfl).1
  clear hG hbG X R T hm hn V
  go_enter Tryz.func19, Tryz.ntmps19
  go_upto_region 2 with fail
  rw [← HG.out]
  go_wp2_with fail
  have h0 := New_any W G
  with_reducible refine h0.mono ?_
  clear h0
  rw [HM.out.1, HM.out.2.1]
  rintro e w1 ⟨a1, n1, c1', a2, n2, c2', rfl, u1, u2, hb1⟩
  have hz1 := hb1.size
  obtain ⟨Z0, hZ0⟩ : ∃ Z, Z = w1.alloc (Obj.cells #[.slice a1 n1 c1', .slice a2 n2 c2'] 43) := ⟨_, rfl⟩
  have b0 : Below G.heap.size G Z0 := by rw [hZ0]; exact hb1.alloc hb1.size _
  have M0 : VarN Z0 w1.heap.size [.slice a1 n1 c1', .slice a2 n2 c2'] := by rw [hZ0]; exact varN_new [.slice a1 n1 c1', .slice a2 n2 c2'] _ rfl
  have U1 : Sl Z0 a1 n1 (List.replicate W.toNat 0) := by rw [hZ0]; exact slA _ u1.sl
  have U2 : Sl Z0 a2 n2 (List.replicate W.toNat 0) := by rw [hZ0]; exact slA _ u2.sl
  have HZ0 := Lib.hid hZ0
  have HB0 := Lib.hid b0
  have HM0 := Lib.hid M0
  have hz0 := varN_lt M0 (by simp)
  clear hZ0 b0 M0 u1 u2 hb1 x0
  go_upto_region 3 with fail
  rw [← HZ0.out]
  have x0 := ((varN_B HB0.out HX.out) 0 _ rfl).1
  have m0 := (HM0.out 0 _ rfl).1
  have m1 := (HM0.out 1 _ rfl).1
  go_wp2_with fail
  have h0 := Mark_any a1 a2 n1 c1' n2 c2' _ _ 0 W 1 Z0 U1 U2 (by decide)
  with_reducible refine h0.mono ?_
  clear h0
  rw [HM.out.2.2.1, HM.out.2.2.2.1, HM.out.2.2.2.2.1]
  rintro e w2 ⟨a3, n3, c3, a4, n4, c4, rfl, u1, u2, hb2⟩
  have hz2 := hb2.size
  obtain ⟨Z1, hZ1⟩ : ∃ Z, Z = setN w2 w1.heap.size 0 [.slice a3 n3 c3, .slice a4 n4 c4] := ⟨_, rfl⟩
  have M1 : VarN Z1 w1.heap.size [.slice a3 n3 c3, .slice a4 n4 c4] := by rw [hZ1]; exact varN_all (varN_B hb2 HM0.out) rfl
  have B1 : Below G.heap.size G Z1 := by rw [hZ1]; exact below_setN hz1 (below_from HB0.out hb2)
  have K1 : Kept (fun b => Z0.heap.size ≤ b) w2 Z1 := by rw [hZ1]; exact kept_setN (fun b hb => by omega)
  have V1 := slP_keep K1 (slP_slF (fun _ h => h) u1)
  have V2 := slP_keep K1 (slP_slF (fun _ h => h) u2)
  have HZ1 : Hid (Z1 = (w2.setCell ⟨w1.heap.size, 0, none⟩ (.slice a3 n3 c3)).setCell ⟨w1.heap.size, 1, none⟩ (.slice a4 n4 c4)) := hZ1
  clear x0 m0 m1 hZ1 u1 u2 K1 U1 U2
  obtain ⟨m0, e0⟩ := (varN_B hb2 HM0.out) 0 _ rfl
  obtain ⟨m1, e1⟩ := (varN_B hb2 HM0.out) 1 _ rfl
  have HB1 := Lib.hid B1
  have HM1 := Lib.hid M1
  clear hb2 B1 M1
  go_upto_region 4 with fail
  rw [← HZ1.out]
  clear m0 m1 e0 e1
  have x0 := ((varN_B HB1.out HX.out) 0 _ rfl).1
  have x1 := ((varN_B HB1.out HX.out) 1 _ rfl).1
  have x2 := ((varN_B HB1.out HX.out) 2 _ rfl).1
  have m0 := (HM1.out 0 _ rfl).1
  have m1 := (HM1.out 1 _ rfl).1
  go_wp2_with fail
  have h0 := tsoNew_any a3 a4 n3 c3 n4 c4 _ _ (1 : Int) D Z1 V1.sl V2.sl
  rw [HN.out.1, HN.out.2.1, HN.out.2.2.1, HN.out.2.2.2.1, HN.out.2.2.2.2] at h0
  with_reducible refine h0.mono ?_
  clear h0
  rintro e w3 ⟨a5, n5, c5, a6, n6, c6, q3, l3, d3, rfl, u1, u2, u3, hb3⟩
  have hz3 := hb3.size
  have hzZ : G.heap.size ≤ Z1.heap.size := HB1.out.size
  have T3 := varN_B hb3 (varN_B HB1.out HT.out)
  obtain ⟨Z2, hZ2⟩ : ∃ Z, Z = setN w3 (w.heap.size + 2) 0 [.slice a5 n5 c5, .slice a6 n6 c6, .int .i64 D, .slice q3 l3 d3] := ⟨_, rfl⟩
  have T4 : VarN Z2 (w.heap.size + 2) [.slice a5 n5 c5, .slice a6 n6 c6, .int .i64 D, .slice q3 l3 d3, .slice none 0 0, .slice none 0 0, .slice none 0 0, .slice none 0 0, .slice none 0 0, .slice none 0 0] := by rw [hZ2]; exact varN_setN (xs := [.slice a5 n5 c5, .slice a6 n6 c6, .int .i64 D, .slice q3 l3 d3]) 0 T3 (by simp)
  have X4 : VarN Z2 w.heap.size [.int .i64 W, .int .i64 D, .slice q 1 d] := by rw [hZ2]; exact varN_others (by omega) (varN_B hb3 (varN_B HB1.out HX.out))
  have R4 : VarN Z2 (w.heap.size + 1) [.slice none 0 0, .slice none 0 0, .int .i64 0, .slice none 0 0, .slice none 0 0, .slice none 0 0, .slice none 0 0, .slice none 0 0, .slice none 0 0, .slice none 0 0] := by rw [hZ2]; exact varN_others (by omega) (varN_B hb3 (varN_B HB1.out HR.out))
  have B4 : Below w.heap.size w Z2 := by rw [hZ2]; exact below_setN (by omega) (below_from (below_from HB.out HB1.out) hb3)
  have K4 : Kept (fun b => Z1.heap.size ≤ b) w3 Z2 := by rw [hZ2]; exact kept_setN (fun b hb => by omega)
  have V3 := slP_keep K4 (slP_slF (fun _ h => h) u1)
  have V4 := slP_keep K4 (slP_slF (fun _ h => h) u2)
  have V5 := blP_keep K4 u3
  have HZ2 : Hid (Z2 = (((w3.setCell ⟨w.heap.size + 2, 0, none⟩ (.slice a5 n5 c5)).setCell ⟨w.heap.size + 2, 1, none⟩ (.slice a6 n6 c6)).setCell ⟨w.heap.size + 2, 2, none⟩ (.int .i64 D)).setCell ⟨w.heap.size + 2, 3, none⟩ (.slice q3 l3 d3)) := hZ2
  clear x0 x1 x2 m0 m1 hZ2 K4 u1 u2 u3 V1 V2
  obtain ⟨y0, e0⟩ := T3 0 _ rfl
  obtain ⟨y1, e1⟩ := T3 1 _ rfl
  obtain ⟨y2, e2⟩ := T3 2 _ rfl
  obtain ⟨y3, e3⟩ := T3 3 _ rfl
  have HT4 := Lib.hid T4
  have HX4 := Lib.hid X4
  have HR4 := Lib.hid R4
  have HB4 := Lib.hid B4
  have HV345 := Lib.hid (And.intro V3 (And.intro V4 V5))
  clear T3 T4 X4 R4 B4 V3 V4 V5 hb3
  go_upto_region 5 with fail
  rw [← HZ2.out]
  clear y0 y1 y2 y3 e0 e1 e2 e3
  have HZ2' := HZ2
  obtain ⟨b, o, t0, p0, c0, hq, ht0, g0, i10, i20, i30, W0⟩ := moves_atQ HV.out (show 0 < 1 by decide)
  replace g0 := kept_B (Q := Any) HB4.out _ _ _ trivial g0
  have hsrc : ∀ (k : Nat) (v : Value), [.slice p0 t0.length c0][k]? = some v → Z2.drew.cell? ((⟨b, o, none⟩ : Addr).add k) = some v := by
    intro k v hk
    rw [Gen.add_plain]
    have hkl : k < 1 := by have := (List.getElem?_eq_some_iff.1 hk).1; simpa using this
    rcases (show k = 0 by omega) with rfl
    · obtain rfl : _ = v := by simpa using hk
      exact g0
  have hrun := run_copy_cells (P := Tryz.prog) Z2.drew 22 22 3 39 (w.heap.size + 2) 4 3 3 ⟨b, o, none⟩ 1 d [.slice p0 t0.length c0] Tryz.underlying22 (by kernel_rfl) rfl hsrc (fun k hk => by
    have hkl : k < 1 := by simpa using hk
    obtain ⟨v, hv⟩ : ∃ v, ([.slice a5 n5 c5, .slice a6 n6 c6, .int .i64 D, .slice q3 l3 d3, .slice none 0 0, .slice none 0 0, .slice none 0 0, .slice none 0 0, .slice none 0 0, .slice none 0 0] : List Value)[4 + k]? = some v := ⟨_, List.getElem?_eq_getElem (by simp; omega)⟩
    rw [show Z2.drew.cell? ⟨w.heap.size + 2, 4 + k, none⟩ = Z2.cell? ⟨w.heap.size + 2, 4 + k, none⟩ from rfl, (HT4.out _ _ hv).1]; rfl) (fun k hk => by
    have hkl : k < 1 := by simpa using hk
    obtain ⟨v, hv⟩ : ∃ v, ([.slice a5 n5 c5, .slice a6 n6 c6, .int .i64 D, .slice q3 l3 d3, .slice none 0 0, .slice none 0 0, .slice none 0 0, .slice none 0 0, .slice none 0 0, .slice none 0 0] : List Value)[4 + k]? = some v := ⟨_, List.getElem?_eq_getElem (by simp; omega)⟩
    exact (HT4.out _ _ hv).2) (by intro v hv; simp at hv; subst hv; rfl)
  rw [setN_cells] at hrun
  obtain ⟨Z3, hZ3⟩ : ∃ Z, Z = setN Z2.drew (w.heap.size + 2) 4 [.slice p0 t0.length c0] := ⟨_, rfl⟩
  have T5 : VarN Z3 (w.heap.size + 2) [.slice a5 n5 c5, .slice a6 n6 c6, .int .i64 D, .slice q3 l3 d3, .slice p0 t0.length c0, .slice none 0 0, .slice none 0 0, .slice none 0 0, .slice none 0 0, .slice none 0 0] := by rw [hZ3]; exact varN_setN (xs := [.slice p0 t0.length c0]) 4 (varN_D HT4.out) (by simp)
  have R5 : VarN Z3 (w.heap.size + 1) [.slice none 0 0, .slice none 0 0, .int .i64 0, .slice none 0 0, .slice none 0 0, .slice none 0 0, .slice none 0 0, .slice none 0 0, .slice none 0 0, .slice none 0 0] := by rw [hZ3]; exact varN_others (by omega) (varN_D HR4.out)
  have B5 : Below w.heap.size w Z3 := by rw [hZ3]; exact below_setN (by omega) HB4.out.drew
  rw [← hZ3] at hrun
  have HRUN := Lib.hid hrun
  have HT5 := Lib.hid T5
  have HR5 := Lib.hid R5
  have HB5 := Lib.hid B5
  have HZ3 := Lib.hid hZ3
  have x2 := (HX4.out 2 _ rfl).1
  rw [hq] at x2
  clear hrun hZ3 T5 R5 B5 hsrc
  go_region_law (refine step_copy_run rfl (.tmp 31) (.tmp 33) 22 22 rfl _ _ _ _ (by simp [Act.eval]) (by simp [Act.eval]) HRUN.out ?_)
  clear x2 g0
  have y0 := (HT5.out 0 _ rfl).1
  have y1 := (HT5.out 1 _ rfl).1
  have y2 := (HT5.out 2 _ rfl).1
  have y3 := (HT5.out 3 _ rfl).1
  have y4 := (HT5.out 4 _ rfl).1
  have y5 := (HT5.out 5 _ rfl).1
  have y6 := (HT5.out 6 _ rfl).1
  have y7 := (HT5.out 7 _ rfl).1
  have y8 := (HT5.out 8 _ rfl).1
  have y9 := (HT5.out 9 _ rfl).1
  obtain ⟨z0, f0⟩ := HR5.out 0 _ rfl
  obtain ⟨z1, f1⟩ := HR5.out 1 _ rfl
  obtain ⟨z2, f2⟩ := HR5.out 2 _ rfl
  obtain ⟨z3, f3⟩ := HR5.out 3 _ rfl
  obtain ⟨z4, f4⟩ := HR5.out 4 _ rfl
  obtain ⟨z5, f5⟩ := HR5.out 5 _ rfl
  obtain ⟨z6, f6⟩ := HR5.out 6 _ rfl
  obtain ⟨z7, f7⟩ := HR5.out 7 _ rfl
  obtain ⟨z8, f8⟩ := HR5.out 8 _ rfl
  obtain ⟨z9, f9⟩ := HR5.out 9 _ rfl
  go_wp2
  have hR := varN_all (xs := [.slice a5 n5 c5, .slice a6 n6 c6, .int .i64 D, .slice q3 l3 d3, .slice p0 t0.length c0, .slice none 0 0, .slice none 0 0, .slice none 0 0, .slice none 0 0, .slice none 0 0]) HR5.out rfl
  have hB := below_setN (g := w.heap.size + 1) (xs := [.slice a5 n5 c5, .slice a6 n6 c6, .int .i64 D, .slice q3 l3 d3, .slice p0 t0.length c0, .slice none 0 0, .slice none 0 0, .slice none 0 0, .slice none 0 0, .slice none 0 0]) (k := 0) (by omega) HB5.out
  have hK : Kept (fun b => Z1.heap.size ≤ b) Z2 (setN Z3 (w.heap.size + 1) 0 [.slice a5 n5 c5, .slice a6 n6 c6, .int .i64 D, .slice q3 l3 d3, .slice p0 t0.length c0, .slice none 0 0, .slice none 0 0, .slice none 0 0, .slice none 0 0, .slice none 0 0]) := by
    rw [HZ3.out]
    exact kept_trans (kept_D _) (kept_trans (kept_setN (fun b hb => by omega)) (kept_setN (fun b hb => by omega)))
  refine bp_cell ⟨w.heap.size + 1, 0, none⟩ rfl rfl rfl (load_stage _ _ _ _ _ _ _ _ _ _ _ _ hR) ?_
  obtain ⟨v1, v2, v3⟩ := HV345.out
  refine ⟨a5, a6, q3, n5, c5, n6, c6, l3, d3, (fun i => if i = 0 then p0 else none), (fun i => if i = 0 then t0.length else 0), (fun i => if i = 0 then c0 else 0), fun _ => none, fun _ => 0, fun _ => 0, rfl, ⟨slP_mono (fun b hb => .inr (by have := HB.out.size; omega)) (slP_keep hK v1), slP_mono (fun b hb => .inr (by have := HB.out.size; omega)) (slP_keep hK v2), ?_, ?_, fun _ _ => ⟨⟨Nat.le_refl _, Nat.zero_le _, fun _ => rfl⟩, vs_nil⟩⟩, hB⟩
  · have v3' := blP_mono (Q' := fun b => QQ b ∨ w.heap.size ≤ b) (fun b hb => .inr (by have := HB.out.size; omega)) (blP_keep hK v3)
    have e : (beginS W D ts).bs = List.replicate (1 : Int).toNat [] := by show List.replicate ts.length [] = _; rw [HL.out]; rfl
    rw [e]; exact v3'
  · intro i hi
    show _ ∧ Vs repInt3 _ _ _ _ (ts.getD i [])
    rcases (show i = 0 ∨ i = 1 ∨ i = 2 by omega) with rfl | rfl | rfl
    · rw [show ts.getD 0 [] = t0 by rw [List.getD_eq_getElem?_getD, ht0]; rfl]
      exact ⟨⟨i10, i20, i30⟩, vs_mono (fun _ h => .inl h) (vs_B hB W0)⟩
    · rw [show ts.getD 1 [] = [] by rw [List.getD_eq_getElem?_getD, List.getElem?_eq_none (by rw [HL.out]; decide)]; rfl]
      exact ⟨⟨Nat.le_refl _, Nat.zero_le _, fun _ => rfl⟩, vs_nil⟩
    · rw [show ts.getD 2 [] = [] by rw [List.getD_eq_getElem?_getD, List.getElem?_eq_none (by rw [HL.out]; decide)]; rfl]
      exact ⟨⟨Nat.le_refl _, Nat.zero_le _, fun _ => rfl⟩, vs_nil⟩

set_option maxRecDepth 100000 in
set_option maxHeartbeats 8000000 in
theorem begun_2 (W D : Int) (q : Option Addr) (d : Nat) (ts : List (List Mv)) (w : World) (QQ : Nat → Prop) (V : Vs (repSlice repInt3) QQ w q 2 ts) (hW : 1 ≤ W ∧ W ≤ 3) (hD : 0 ≤ D ∧ D ≤ 3) :
    Calls Tryz.prog 19 #[.agg #[.int .i64 W, .int .i64 D, .slice q 2 d]] w (SgPost QQ (beginS W D ts) w) := by
  have HL := Lib.hid V.1
  have hm := mem_new hW
  have hn := newT_ok (ws := List.replicate W.toNat 0) (ts := List.replicate W.toNat 1) (n := (2 : Int)) (D := D) hm.2.2.2.2.2 (by simp [sizesB]; omega)
  obtain ⟨G, hG⟩ : ∃ G, G = ((w.alloc (Obj.cells #[.int .i64 W, .int .i64 D, .slice q 2 d] 25)).alloc (Obj.cells #[.slice none 0 0, .slice none 0 0, .int .i64 0, .slice none 0 0, .slice none 0 0, .slice none 0 0, .slice none 0 0, .slice none 0 0, .slice none 0 0, .slice none 0 0] 50)).alloc (Obj.cells #[.slice none 0 0, .slice none 0 0, .int .i64 0, .slice none 0 0, .slice none 0 0, .slice none 0 0, .slice none 0 0, .slice none 0 0, .slice none 0 0, .slice none 0 0] 50) := ⟨_, rfl⟩
  have hbG : Below w.heap.size w G := by rw [hG]; go_grown
  have X : VarN G w.heap.size [.int .i64 W, .int .i64 D, .slice q 2 d] := by rw [hG]; exact varN_A _ (varN_A _ (varN_new [.int .i64 W, .int .i64 D, .slice q 2 d] _ rfl))
  have R : VarN G (w.heap.size + 1) [.slice none 0 0, .slice none 0 0, .int .i64 0, .slice none 0 0, .slice none 0 0, .slice none 0 0, .slice none 0 0, .slice none 0 0, .slice none 0 0, .slice none 0 0] := by rw [hG]; exact varN_A _ (varN_new [.slice none 0 0, .slice none 0 0, .int .i64 0, .slice none 0 0, .slice none 0 0, .slice none 0 0, .slice none 0 0, .slice none 0 0, .slice none 0 0, .slice none 0 0] _ (by simp))
  have T : VarN G (w.heap.size + 2) [.slice none 0 0, .slice none 0 0, .int .i64 0, .slice none 0 0, .slice none 0 0, .slice none 0 0, .slice none 0 0, .slice none 0 0, .slice none 0 0, .slice none 0 0] := by rw [hG]; exact varN_new [.slice none 0 0, .slice none 0 0, .int .i64 0, .slice none 0 0, .slice none 0 0, .slice none 0 0, .slice none 0 0, .slice none 0 0, .slice none 0 0, .slice none 0 0] _ (by simp)
  have hz := varN_lt T (by simp)
  have HG := Lib.hid hG
  have HB := Lib.hid hbG
  have HX := Lib.hid X
  have HR := Lib.hid R
  have HT := Lib.hid T
  have HM := Lib.hid hm
  have HN := Lib.hid hn
  have HV := Lib.hid V
  have x0 := (X 0 _ rfl).1
  clear hG hbG X R T hm hn V
  go_enter Tryz.func19, Tryz.ntmps19
  go_upto_region 2 with fail
  rw [← HG.out]
  go_wp2_with fail
  have h0 := New_any W G
  with_reducible refine h0.mono ?_
  clear h0
  rw [HM.out.1, HM.out.2.1]
  rintro e w1 ⟨a1, n1, c1', a2, n2, c2', rfl, u1, u2, hb1⟩
  have hz1 := hb1.size
  obtain ⟨Z0, hZ0⟩ : ∃ Z, Z = w1.alloc (Obj.cells #[.slice a1 n1 c1', .slice a2 n2 c2'] 43) := ⟨_, rfl⟩
  have b0 : Below G.heap.size G Z0 := by rw [hZ0]; exact hb1.alloc hb1.size _
  have M0 : VarN Z0 w1.heap.size [.slice a1 n1 c1', .slice a2 n2 c2'] := by rw [hZ0]; exact varN_new [.slice a1 n1 c1', .slice a2 n2 c2'] _ rfl
  have U1 : Sl Z0 a1 n1 (List.replicate W.toNat 0) := by rw [hZ0]; exact slA _ u1.sl
  have U2 : Sl Z0 a2 n2 (List.replicate W.toNat 0) := by rw [hZ0]; exact slA _ u2.sl
  have HZ0 := Lib.hid hZ0
  have HB0 := Lib.hid b0
  have HM0 := Lib.hid M0
  have hz0 := varN_lt M0 (by simp)
  clear hZ0 b0 M0 u1 u2 hb1 x0
  go_upto_region 3 with fail
  rw [← HZ0.out]
  have x0 := ((varN_B HB0.out HX.out) 0 _ rfl).1
  have m0 := (HM0.out 0 _ rfl).1
  have m1 := (HM0.out 1 _ rfl).1
  go_wp2_with fail
  have h0 := Mark_any a1 a2 n1 c1' n2 c2' _ _ 0 W 1 Z0 U1 U2 (by decide)
  with_reducible refine h0.mono ?_
  clear h0
  rw [HM.out.2.2.1, HM.out.2.2.2.1, HM.out.2.2.2.2.1]
  rintro e w2 ⟨a3, n3, c3, a4, n4, c4, rfl, u1, u2, hb2⟩
  have hz2 := hb2.size
  obtain ⟨Z1, hZ1⟩ : ∃ Z, Z = setN w2 w1.heap.size 0 [.slice a3 n3 c3, .slice a4 n4 c4] := ⟨_, rfl⟩
  have M1 : VarN Z1 w1.heap.size [.slice a3 n3 c3, .slice a4 n4 c4] := by rw [hZ1]; exact varN_all (varN_B hb2 HM0.out) rfl
  have B1 : Below G.heap.size G Z1 := by rw [hZ1]; exact below_setN hz1 (below_from HB0.out hb2)
  have K1 : Kept (fun b => Z0.heap.size ≤ b) w2 Z1 := by rw [hZ1]; exact kept_setN (fun b hb => by omega)
  have V1 := slP_keep K1 (slP_slF (fun _ h => h) u1)
  have V2 := slP_keep K1 (slP_slF (fun _ h => h) u2)
  have HZ1 : Hid (Z1 = (w2.setCell ⟨w1.heap.size, 0, none⟩ (.slice a3 n3 c3)).setCell ⟨w1.heap.size, 1, none⟩ (.slice a4 n4 c4)) := hZ1
  clear x0 m0 m1 hZ1 u1 u2 K1 U1 U2
  obtain ⟨m0, e0⟩ := (varN_B hb2 HM0.out) 0 _ rfl
  obtain ⟨m1, e1⟩ := (varN_B hb2 HM0.out) 1 _ rfl
  have HB1 := Lib.hid B1
  have HM1 := Lib.hid M1
  clear hb2 B1 M1
  go_upto_region 4 with fail
  rw [← HZ1.out]
  clear m0 m1 e0 e1
  have x0 := ((varN_B HB1.out HX.out) 0 _ rfl).1
  have x1 := ((varN_B HB1.out HX.out) 1 _ rfl).1
  have x2 := ((varN_B HB1.out HX.out) 2 _ rfl).1
  have m0 := (HM1.out 0 _ rfl).1
  have m1 := (HM1.out 1 _ rfl).1
  go_wp2_with fail
  have h0 := tsoNew_any a3 a4 n3 c3 n4 c4 _ _ (2 : Int) D Z1 V1.sl V2.sl
  rw [HN.out.1, HN.out.2.1, HN.out.2.2.1, HN.out.2.2.2.1, HN.out.2.2.2.2] at h0
  with_reducible refine h0.mono ?_
  clear h0
  rintro e w3 ⟨a5, n5, c5, a6, n6, c6, q3, l3, d3, rfl, u1, u2, u3, hb3⟩
  have hz3 := hb3.size
  have hzZ : G.heap.size ≤ Z1.heap.size := HB1.out.size
  have T3 := varN_B hb3 (varN_B HB1.out HT.out)
  obtain ⟨Z2, hZ2⟩ : ∃ Z, Z = setN w3 (w.heap.size + 2) 0 [.slice a5 n5 c5, .slice a6 n6 c6, .int .i64 D, .slice q3 l3 d3] := ⟨_, rfl⟩
  have T4 : VarN Z2 (w.heap.size + 2) [.slice a5 n5 c5, .slice a6 n6 c6, .int .i64 D, .slice q3 l3 d3, .slice none 0 0, .slice none 0 0, .slice none 0 0, .slice none 0 0, .slice none 0 0, .slice none 0 0] := by rw [hZ2]; exact varN_setN (xs := [.slice a5 n5 c5, .slice a6 n6 c6, .int .i64 D, .slice q3 l3 d3]) 0 T3 (by simp)
  have X4 : VarN Z2 w.heap.size [.int .i64 W, .int .i64 D, .slice q 2 d] := by rw [hZ2]; exact varN_others (by omega) (varN_B hb3 (varN_B HB1.out HX.out))
  have R4 : VarN Z2 (w.heap.size + 1) [.slice none 0 0, .slice none 0 0, .int .i64 0, .slice none 0 0, .slice none 0 0, .slice none 0 0, .slice none 0 0, .slice none 0 0, .slice none 0 0, .slice none 0 0] := by rw [hZ2]; exact varN_others (by omega) (varN_B hb3 (varN_B HB1.out HR.out))
  have B4 : Below w.heap.size w Z2 := by rw [hZ2]; exact below_setN (by omega) (below_from (below_from HB.out HB1.out) hb3)
  have K4 : Kept (fun b => Z1.heap.size ≤ b) w3 Z2 := by rw [hZ2]; exact kept_setN (fun b hb => by omega)
  have V3 := slP_keep K4 (slP_slF (fun _ h => h) u1)
  have V4 := slP_keep K4 (slP_slF (fun _ h => h) u2)
  have V5 := blP_keep K4 u3
  have HZ2 : Hid (Z2 = (((w3.setCell ⟨w.heap.size + 2, 0, none⟩ (.slice a5 n5 c5)).setCell ⟨w.heap.size + 2, 1, none⟩ (.slice a6 n6 c6)).setCell ⟨w.heap.size + 2, 2, none⟩ (.int .i64 D)).setCell ⟨w.heap.size + 2, 3, none⟩ (.slice q3 l3 d3)) := hZ2
  clear x0 x1 x2 m0 m1 hZ2 K4 u1 u2 u3 V1 V2
  obtain ⟨y0, e0⟩ := T3 0 _ rfl
  obtain ⟨y1, e1⟩ := T3 1 _ rfl
  obtain ⟨y2, e2⟩ := T3 2 _ rfl
  obtain ⟨y3, e3⟩ := T3 3 _ rfl
  have HT4 := Lib.hid T4
  have HX4 := Lib.hid X4
  have HR4 := Lib.hid R4
  have HB4 := Lib.hid B4
  have HV345 := Lib.hid (And.intro V3 (And.intro V4 V5))
  clear T3 T4 X4 R4 B4 V3 V4 V5 hb3
  go_upto_region 5 with fail
  rw [← HZ2.out]
  clear y0 y1 y2 y3 e0 e1 e2 e3
  have HZ2' := HZ2
  obtain ⟨b, o, t0, p0, c0, hq, ht0, g0, i10, i20, i30, W0⟩ := moves_atQ HV.out (show 0 < 2 by decide)
  replace g0 := kept_B (Q := Any) HB4.out _ _ _ trivial g0
  obtain ⟨b1, o1, t1, p1, c1, hq1, ht1, g1, i11, i21, i31, W1⟩ := moves_atQ HV.out (show 1 < 2 by decide)
  replace g1 := kept_B (Q := Any) HB4.out _ _ _ trivial g1
  obtain ⟨eb, eo⟩ : b = b1 ∧ o = o1 := by rw [hq] at hq1; simpa using hq1
  subst eb eo
  have hsrc : ∀ (k : Nat) (v : Value), [.slice p0 t0.length c0, .slice p1 t1.length c1][k]? = some v → Z2.drew.cell? ((⟨b, o, none⟩ : Addr).add k) = some v := by
    intro k v hk
    rw [Gen.add_plain]
    have hkl : k < 2 := by have := (List.getElem?_eq_some_iff.1 hk).1; simpa using this
    rcases (show k = 0 ∨ k = 1 by omega) with rfl | rfl
    · obtain rfl : _ = v := by simpa using hk
      exact g0
    · obtain rfl : _ = v := by simpa using hk
      exact g1
  have hrun := run_copy_cells (P := Tryz.prog) Z2.drew 22 22 3 39 (w.heap.size + 2) 4 3 3 ⟨b, o, none⟩ 2 d [.slice p0 t0.length c0, .slice p1 t1.length c1] Tryz.underlying22 (by kernel_rfl) rfl hsrc (fun k hk => by
    have hkl : k < 2 := by simpa using hk
    obtain ⟨v, hv⟩ : ∃ v, ([.slice a5 n5 c5, .slice a6 n6 c6, .int .i64 D, .slice q3 l3 d3, .slice none 0 0, .slice none 0 0, .slice none 0 0, .slice none 0 0, .slice none 0 0, .slice none 0 0] : List Value)[4 + k]? = some v := ⟨_, List.getElem?_eq_getElem (by simp; omega)⟩
    rw [show Z2.drew.cell? ⟨w.heap.size + 2, 4 + k, none⟩ = Z2.cell? ⟨w.heap.size + 2, 4 + k, none⟩ from rfl, (HT4.out _ _ hv).1]; rfl) (fun k hk => by
    have hkl : k < 2 := by simpa using hk
    obtain ⟨v, hv⟩ : ∃ v, ([.slice a5 n5 c5, .slice a6 n6 c6, .int .i64 D, .slice q3 l3 d3, .slice none 0 0, .slice none 0 0, .slice none 0 0, .slice none 0 0, .slice none 0 0, .slice none 0 0] : List Value)[4 + k]? = some v := ⟨_, List.getElem?_eq_getElem (by simp; omega)⟩
    exact (HT4.out _ _ hv).2) (by intro v hv; simp at hv; rcases hv with rfl | rfl <;> rfl)
  rw [setN_cells] at hrun
  obtain ⟨Z3, hZ3⟩ : ∃ Z, Z = setN Z2.drew (w.heap.size + 2) 4 [.slice p0 t0.length c0, .slice p1 t1.length c1] := ⟨_, rfl⟩
  have T5 : VarN Z3 (w.heap.size + 2) [.slice a5 n5 c5, .slice a6 n6 c6, .int .i64 D, .slice q3 l3 d3, .slice p0 t0.length c0, .slice p1 t1.length c1, .slice none 0 0, .slice none 0 0, .slice none 0 0, .slice none 0 0] := by rw [hZ3]; exact varN_setN (xs := [.slice p0 t0.length c0, .slice p1 t1.length c1]) 4 (varN_D HT4.out) (by simp)
  have R5 : VarN Z3 (w.heap.size + 1) [.slice none 0 0, .slice none 0 0, .int .i64 0, .slice none 0 0, .slice none 0 0, .slice none 0 0, .slice none 0 0, .slice none 0 0, .slice none 0 0, .slice none 0 0] := by rw [hZ3]; exact varN_others (by omega) (varN_D HR4.out)
  have B5 : Below w.heap.size w Z3 := by rw [hZ3]; exact below_setN (by omega) HB4.out.drew
  rw [← hZ3] at hrun
  have HRUN := Lib.hid hrun
  have HT5 := Lib.hid T5
  have HR5 := Lib.hid R5
  have HB5 := Lib.hid B5
  have HZ3 := Lib.hid hZ3
  have x2 := (HX4.out 2 _ rfl).1
  rw [hq] at x2
  clear hrun hZ3 T5 R5 B5 hsrc
  go_region_law (refine step_copy_run rfl (.tmp 31) (.tmp 33) 22 22 rfl _ _ _ _ (by simp [Act.eval]) (by simp [Act.eval]) HRUN.out ?_)
  clear x2 g0 g1
  have y0 := (HT5.out 0 _ rfl).1
  have y1 := (HT5.out 1 _ rfl).1
  have y2 := (HT5.out 2 _ rfl).1
  have y3 := (HT5.out 3 _ rfl).1
  have y4 := (HT5.out 4 _ rfl).1
  have y5 := (HT5.out 5 _ rfl).1
  have y6 := (HT5.out 6 _ rfl).1
  have y7 := (HT5.out 7 _ rfl).1
  have y8 := (HT5.out 8 _ rfl).1
  have y9 := (HT5.out 9 _ rfl).1
  obtain ⟨z0, f0⟩ := HR5.out 0 _ rfl
  obtain ⟨z1, f1⟩ := HR5.out 1 _ rfl
  obtain ⟨z2, f2⟩ := HR5.out 2 _ rfl
  obtain ⟨z3, f3⟩ := HR5.out 3 _ rfl
  obtain ⟨z4, f4⟩ := HR5.out 4 _ rfl
  obtain ⟨z5, f5⟩ := HR5.out 5 _ rfl
  obtain ⟨z6, f6⟩ := HR5.out 6 _ rfl
  obtain ⟨z7, f7⟩ := HR5.out 7 _ rfl
  obtain ⟨z8, f8⟩ := HR5.out 8 _ rfl
  obtain ⟨z9, f9⟩ := HR5.out 9 _ rfl
  go_wp2
  have hR := varN_all (xs := [.slice a5 n5 c5, .slice a6 n6 c6, .int .i64 D, .slice q3 l3 d3, .slice p0 t0.length c0, .slice p1 t1.length c1, .slice none 0 0, .slice none 0 0, .slice none 0 0, .slice none 0 0]) HR5.out rfl
  have hB := below_setN (g := w.heap.size + 1) (xs := [.slice a5 n5 c5, .slice a6 n6 c6, .int .i64 D, .slice q3 l3 d3, .slice p0 t0.length c0, .slice p1 t1.length c1, .slice none 0 0, .slice none 0 0, .slice none 0 0, .slice none 0 0]) (k := 0) (by omega) HB5.out
  have hK : Kept (fun b => Z1.heap.size ≤ b) Z2 (setN Z3 (w.heap.size + 1) 0 [.slice a5 n5 c5, .slice a6 n6 c6, .int .i64 D, .slice q3 l3 d3, .slice p0 t0.length c0, .slice p1 t1.length c1, .slice none 0 0, .slice none 0 0, .slice none 0 0, .slice none 0 0]) := by
    rw [HZ3.out]
    exact kept_trans (kept_D _) (kept_trans (kept_setN (fun b hb => by omega)) (kept_setN (fun b hb => by omega)))
  refine bp_cell ⟨w.heap.size + 1, 0, none⟩ rfl rfl rfl (load_stage _ _ _ _ _ _ _ _ _ _ _ _ hR) ?_
  obtain ⟨v1, v2, v3⟩ := HV345.out
  refine ⟨a5, a6, q3, n5, c5, n6, c6, l3, d3, (fun i => if i = 0 then p0 else if i = 1 then p1 else none), (fun i => if i = 0 then t0.length else if i = 1 then t1.length else 0), (fun i => if i = 0 then c0 else if i = 1 then c1 else 0), fun _ => none, fun _ => 0, fun _ => 0, rfl, ⟨slP_mono (fun b hb => .inr (by have := HB.out.size; omega)) (slP_keep hK v1), slP_mono (fun b hb => .inr (by have := HB.out.size; omega)) (slP_keep hK v2), ?_, ?_, fun _ _ => ⟨⟨Nat.le_refl _, Nat.zero_le _, fun _ => rfl⟩, vs_nil⟩⟩, hB⟩
  · have v3' := blP_mono (Q' := fun b => QQ b ∨ w.heap.size ≤ b) (fun b hb => .inr (by have := HB.out.size; omega)) (blP_keep hK v3)
    have e : (beginS W D ts).bs = List.replicate (2 : Int).toNat [] := by show List.replicate ts.length [] = _; rw [HL.out]; rfl
    rw [e]; exact v3'
  · intro i hi
    show _ ∧ Vs repInt3 _ _ _ _ (ts.getD i [])
    rcases (show i = 0 ∨ i = 1 ∨ i = 2 by omega) with rfl | rfl | rfl
    · rw [show ts.getD 0 [] = t0 by rw [List.getD_eq_getElem?_getD, ht0]; rfl]
      exact ⟨⟨i10, i20, i30⟩, vs_mono (fun _ h => .inl h) (vs_B hB W0)⟩
    · rw [show ts.getD 1 [] = t1 by rw [List.getD_eq_getElem?_getD, ht1]; rfl]
      exact ⟨⟨i11, i21, i31⟩, vs_mono (fun _ h => .inl h) (vs_B hB W1)⟩
    · rw [show ts.getD 2 [] = [] by rw [List.getD_eq_getElem?_getD, List.getElem?_eq_none (by rw [HL.out]; decide)]; rfl]
      exact ⟨⟨Nat.le_refl _, Nat.zero_le _, fun _ => rfl⟩, vs_nil⟩

set_option maxRecDepth 100000 in
set_option maxHeartbeats 8000000 in
theorem begun_3 (W D : Int) (q : Option Addr) (d : Nat) (ts : List (List Mv)) (w : World) (QQ : Nat → Prop) (V : Vs (repSlice repInt3) QQ w q 3 ts) (hW : 1 ≤ W ∧ W ≤ 3) (hD : 0 ≤ D ∧ D ≤ 3) :
    Calls Tryz.prog 19 #[.agg #[.int .i64 W, .int .i64 D, .slice q 3 d]] w (SgPost QQ (beginS W D ts) w) := by
  have HL := Lib.hid V.1
  have hm := mem_new hW
  have hn := newT_ok (ws := List.replicate W.toNat 0) (ts := List.replicate W.toNat 1) (n := (3 : Int)) (D := D) hm.2.2.2.2.2 (by simp [sizesB]; omega)
  obtain ⟨G, hG⟩ : ∃ G, G = ((w.alloc (Obj.cells #[.int .i64 W, .int .i64 D, .slice q 3 d] 25)).alloc (Obj.cells #[.slice none 0 0, .slice none 0 0, .int .i64 0, .slice none 0 0, .slice none 0 0, .slice none 0 0, .slice none 0 0, .slice none 0 0, .slice none 0 0, .slice none 0 0] 50)).alloc (Obj.cells #[.slice none 0 0, .slice none 0 0, .int .i64 0, .slice none 0 0, .slice none 0 0, .slice none 0 0, .slice none 0 0, .slice none 0 0, .slice none 0 0, .slice none 0 0] 50) := ⟨_, rfl⟩
  have hbG : Below w.heap.size w G := by rw [hG]; go_grown
  have X : VarN G w.heap.size [.int .i64 W, .int .i64 D, .slice q 3 d] := by rw [hG]; exact varN_A _ (varN_A _ (varN_new [.int .i64 W, .int .i64 D, .slice q 3 d] _ rfl))
  have R : VarN G (w.heap.size + 1) [.slice none 0 0, .slice none 0 0, .int .i64 0, .slice none 0 0, .slice none 0 0, .slice none 0 0, .slice none 0 0, .slice none 0 0, .slice none 0 0, .slice none 0 0] := by rw [hG]; exact varN_A _ (varN_new [.slice none 0 0, .slice none 0 0, .int .i64 0, .slice none 0 0, .slice none 0 0, .slice none 0 0, .slice none 0 0, .slice none 0 0, .slice none 0 0, .slice none 0 0] _ (by simp))
  have T : VarN G (w.heap.size + 2) [.slice none 0 0, .slice none 0 0, .int .i64 0, .slice none 0 0, .slice none 0 0, .slice none 0 0, .slice none 0 0, .slice none 0 0, .slice none 0 0, .slice none 0 0] := by rw [hG]; exact varN_new [.slice none 0 0, .slice none 0 0, .int .i64 0, .slice none 0 0, .slice none 0 0, .slice none 0 0, .slice none 0 0, .slice none 0 0, .slice none 0 0, .slice none 0 0] _ (by simp)
  have hz := varN_lt T (by simp)
  have HG := Lib.hid hG
  have HB := Lib.hid hbG
  have HX := Lib.hid X
  have HR := Lib.hid R
  have HT := Lib.hid T
  have HM := Lib.hid hm
  have HN := Lib.hid hn
  have HV := Lib.hid V
  have x0 := (X 0 _ rfl).1
  clear hG hbG X R T hm hn V
  go_enter Tryz.func19, Tryz.ntmps19
  go_upto_region 2 with fail
  rw [← HG.out]
  go_wp2_with fail
  have h0 := New_any W G
  with_reducible refine h0.mono ?_
  clear h0
  rw [HM.out.1, HM.out.2.1]
  rintro e w1 ⟨a1, n1, c1', a2, n2, c2', rfl, u1, u2, hb1⟩
  have hz1 := hb1.size
  obtain ⟨Z0, hZ0⟩ : ∃ Z, Z = w1.alloc (Obj.cells #[.slice a1 n1 c1', .slice a2 n2 c2'] 43) := ⟨_, rfl⟩
  have b0 : Below G.heap.size G Z0 := by rw [hZ0]; exact hb1.alloc hb1.size _
  have M0 : VarN Z0 w1.heap.size [.slice a1 n1 c1', .slice a2 n2 c2'] := by rw [hZ0]; exact varN_new [.slice a1 n1 c1', .slice a2 n2 c2'] _ rfl
  have U1 : Sl Z0 a1 n1 (List.replicate W.toNat 0) := by rw [hZ0]; exact slA _ u1.sl
  have U2 : Sl Z0 a2 n2 (List.replicate W.toNat 0) := by rw [hZ0]; exact slA _ u2.sl
  have HZ0 := Lib.hid hZ0
  have HB0 := Lib.hid b0
  have HM0 := Lib.hid M0
  have hz0 := varN_lt M0 (by simp)
  clear hZ0 b0 M0 u1 u2 hb1 x0
  go_upto_region 3 with fail
  rw [← HZ0.out]
  have x0 := ((varN_B HB0.out HX.out) 0 _ rfl).1
  have m0 := (HM0.out 0 _ rfl).1
  have m1 := (HM0.out 1 _ rfl).1
  go_wp2_with fail
  have h0 := Mark_any a1 a2 n1 c1' n2 c2' _ _ 0 W 1 Z0 U1 U2 (by decide)
  with_reducible refine h0.mono ?_
  clear h0
  rw [HM.out.2.2.1, HM.out.2.2.2.1, HM.out.2.2.2.2.1]
  rintro e w2 ⟨a3, n3, c3, a4, n4, c4, rfl, u1, u2, hb2⟩
  have hz2 := hb2.size
  obtain ⟨Z1, hZ1⟩ : ∃ Z, Z = setN w2 w1.heap.size 0 [.slice a3 n3 c3, .slice a4 n4 c4] := ⟨_, rfl⟩
  have M1 : VarN Z1 w1.heap.size [.slice a3 n3 c3, .slice a4 n4 c4] := by rw [hZ1]; exact varN_all (varN_B hb2 HM0.out) rfl
  have B1 : Below G.heap.size G Z1 := by rw [hZ1]; exact below_setN hz1 (below_from HB0.out hb2)
  have K1 : Kept (fun b => Z0.heap.size ≤ b) w2 Z1 := by rw [hZ1]; exact kept_setN (fun b hb => by omega)
  have V1 := slP_keep K1 (slP_slF (fun _ h => h) u1)
  have V2 := slP_keep K1 (slP_slF (fun _ h => h) u2)
  have HZ1 : Hid (Z1 = (w2.setCell ⟨w1.heap.size, 0, none⟩ (.slice a3 n3 c3)).setCell ⟨w1.heap.size, 1, none⟩ (.slice a4 n4 c4)) := hZ1
  clear x0 m0 m1 hZ1 u1 u2 K1 U1 U2
  obtain ⟨m0, e0⟩ := (varN_B hb2 HM0.out) 0 _ rfl
  obtain ⟨m1, e1⟩ := (varN_B hb2 HM0.out) 1 _ rfl
  have HB1 := Lib.hid B1
  have HM1 := Lib.hid M1
  clear hb2 B1 M1
  go_upto_region 4 with fail
  rw [← HZ1.out]
  clear m0 m1 e0 e1
  have x0 := ((varN_B HB1.out HX.out) 0 _ rfl).1
  have x1 := ((varN_B HB1.out HX.out) 1 _ rfl).1
  have x2 := ((varN_B HB1.out HX.out) 2 _ rfl).1
  have m0 := (HM1.out 0 _ rfl).1
  have m1 := (HM1.out 1 _ rfl).1
  go_wp2_with fail
  have h0 := tsoNew_any a3 a4 n3 c3 n4 c4 _ _ (3 : Int) D Z1 V1.sl V2.sl
  rw [HN.out.1, HN.out.2.1, HN.out.2.2.1, HN.out.2.2.2.1, HN.out.2.2.2.2] at h0
  with_reducible refine h0.mono ?_
  clear h0
  rintro e w3 ⟨a5, n5, c5, a6, n6, c6, q3, l3, d3, rfl, u1, u2, u3, hb3⟩
  have hz3 := hb3.size
  have hzZ : G.heap.size ≤ Z1.heap.size := HB1.out.size
  have T3 := varN_B hb3 (varN_B HB1.out HT.out)
  obtain ⟨Z2, hZ2⟩ : ∃ Z, Z = setN w3 (w.heap.size + 2) 0 [.slice a5 n5 c5, .slice a6 n6 c6, .int .i64 D, .slice q3 l3 d3] := ⟨_, rfl⟩
  have T4 : VarN Z2 (w.heap.size + 2) [.slice a5 n5 c5, .slice a6 n6 c6, .int .i64 D, .slice q3 l3 d3, .slice none 0 0, .slice none 0 0, .slice none 0 0, .slice none 0 0, .slice none 0 0, .slice none 0 0] := by rw [hZ2]; exact varN_setN (xs := [.slice a5 n5 c5, .slice a6 n6 c6, .int .i64 D, .slice q3 l3 d3]) 0 T3 (by simp)
  have X4 : VarN Z2 w.heap.size [.int .i64 W, .int .i64 D, .slice q 3 d] := by rw [hZ2]; exact varN_others (by omega) (varN_B hb3 (varN_B HB1.out HX.out))
  have R4 : VarN Z2 (w.heap.size + 1) [.slice none 0 0, .slice none 0 0, .int .i64 0, .slice none 0 0, .slice none 0 0, .slice none 0 0, .slice none 0 0, .slice none 0 0, .slice none 0 0, .slice none 0 0] := by rw [hZ2]; exact varN_others (by omega) (varN_B hb3 (varN_B HB1.out HR.out))
  have B4 : Below w.heap.size w Z2 := by rw [hZ2]; exact below_setN (by omega) (below_from (below_from HB.out HB1.out) hb3)
  have K4 : Kept (fun b => Z1.heap.size ≤ b) w3 Z2 := by rw [hZ2]; exact kept_setN (fun b hb => by omega)
  have V3 := slP_keep K4 (slP_slF (fun _ h => h) u1)
  have V4 := slP_keep K4 (slP_slF (fun _ h => h) u2)
  have V5 := blP_keep K4 u3
  have HZ2 : Hid (Z2 = (((w3.setCell ⟨w.heap.size + 2, 0, none⟩ (.slice a5 n5 c5)).setCell ⟨w.heap.size + 2, 1, none⟩ (.slice a6 n6 c6)).setCell ⟨w.heap.size + 2, 2, none⟩ (.int .i64 D)).setCell ⟨w.heap.size + 2, 3, none⟩ (.slice q3 l3 d3)) := hZ2
  clear x0 x1 x2 m0 m1 hZ2 K4 u1 u2 u3 V1 V2
  obtain ⟨y0, e0⟩ := T3 0 _ rfl
  obtain ⟨y1, e1⟩ := T3 1 _ rfl
  obtain ⟨y2, e2⟩ := T3 2 _ rfl
  obtain ⟨y3, e3⟩ := T3 3 _ rfl
  have HT4 := Lib.hid T4
  have HX4 := Lib.hid X4
  have HR4 := Lib.hid R4
  have HB4 := Lib.hid B4
  have HV345 := Lib.hid (And.intro V3 (And.intro V4 V5))
  clear T3 T4 X4 R4 B4 V3 V4 V5 hb3
  go_upto_region 5 with fail
  rw [← HZ2.out]
  clear y0 y1 y2 y3 e0 e1 e2 e3
  have HZ2' := HZ2
  obtain ⟨b, o, t0, p0, c0, hq, ht0, g0, i10, i20, i30, W0⟩ := moves_atQ HV.out (show 0 < 3 by decide)
  replace g0 := kept_B (Q := Any) HB4.out _ _ _ trivial g0
  obtain ⟨b1, o1, t1, p1, c1, hq1, ht1, g1, i11, i21, i31, W1⟩ := moves_atQ HV.out (show 1 < 3 by decide)
  replace g1 := kept_B (Q := Any) HB4.out _ _ _ trivial g1
  obtain ⟨eb, eo⟩ : b = b1 ∧ o = o1 := by rw [hq] at hq1; simpa using hq1
  subst eb eo
  obtain ⟨b2, o2, t2, p2, c2, hq2, ht2, g2, i12, i22, i32, W2⟩ := moves_atQ HV.out (show 2 < 3 by decide)
  replace g2 := kept_B (Q := Any) HB4.out _ _ _ trivial g2
  obtain ⟨eb, eo⟩ : b = b2 ∧ o = o2 := by rw [hq] at hq2; simpa using hq2
  subst eb eo
  have hsrc : ∀ (k : Nat) (v : Value), [.slice p0 t0.length c0, .slice p1 t1.length c1, .slice p2 t2.length c2][k]? = some v → Z2.drew.cell? ((⟨b, o, none⟩ : Addr).add k) = some v := by
    intro k v hk
    rw [Gen.add_plain]
    have hkl : k < 3 := by have := (List.getElem?_eq_some_iff.1 hk).1; simpa using this
    rcases (show k = 0 ∨ k = 1 ∨ k = 2 by omega) with rfl | rfl | rfl
    · obtain rfl : _ = v := by simpa using hk
      exact g0
    · obtain rfl : _ = v := by simpa using hk
      exact g1
    · obtain rfl : _ = v := by simpa using hk
      exact g2
  have hrun := run_copy_cells (P := Tryz.prog) Z2.drew 22 22 3 39 (w.heap.size + 2) 4 3 3 ⟨b, o, none⟩ 3 d [.slice p0 t0.length c0, .slice p1 t1.length c1, .slice p2 t2.length c2] Tryz.underlying22 (by kernel_rfl) rfl hsrc (fun k hk => by
    have hkl : k < 3 := by simpa using hk
    obtain ⟨v, hv⟩ : ∃ v, ([.slice a5 n5 c5, .slice a6 n6 c6, .int .i64 D, .slice q3 l3 d3, .slice none 0 0, .slice none 0 0, .slice none 0 0, .slice none 0 0, .slice none 0 0, .slice none 0 0] : List Value)[4 + k]? = some v := ⟨_, List.getElem?_eq_getElem (by simp; omega)⟩
    rw [show Z2.drew.cell? ⟨w.heap.size + 2, 4 + k, none⟩ = Z2.cell? ⟨w.heap.size + 2, 4 + k, none⟩ from rfl, (HT4.out _ _ hv).1]; rfl) (fun k hk => by
    have hkl : k < 3 := by simpa using hk
    obtain ⟨v, hv⟩ : ∃ v, ([.slice a5 n5 c5, .slice a6 n6 c6, .int .i64 D, .slice q3 l3 d3, .slice none 0 0, .slice none 0 0, .slice none 0 0, .slice none 0 0, .slice none 0 0, .slice none 0 0] : List Value)[4 + k]? = some v := ⟨_, List.getElem?_eq_getElem (by simp; omega)⟩
    exact (HT4.out _ _ hv).2) (by intro v hv; simp at hv; rcases hv with rfl | rfl | rfl <;> rfl)
  rw [setN_cells] at hrun
  obtain ⟨Z3, hZ3⟩ : ∃ Z, Z = setN Z2.drew (w.heap.size + 2) 4 [.slice p0 t0.length c0, .slice p1 t1.length c1, .slice p2 t2.length c2] := ⟨_, rfl⟩
  have T5 : VarN Z3 (w.heap.size + 2) [.slice a5 n5 c5, .slice a6 n6 c6, .int .i64 D, .slice q3 l3 d3, .slice p0 t0.length c0, .slice p1 t1.length c1, .slice p2 t2.length c2, .slice none 0 0, .slice none 0 0, .slice none 0 0] := by rw [hZ3]; exact varN_setN (xs := [.slice p0 t0.length c0, .slice p1 t1.length c1, .slice p2 t2.length c2]) 4 (varN_D HT4.out) (by simp)
  have R5 : VarN Z3 (w.heap.size + 1) [.slice none 0 0, .slice none 0 0, .int .i64 0, .slice none 0 0, .slice none 0 0, .slice none 0 0, .slice none 0 0, .slice none 0 0, .slice none 0 0, .slice none 0 0] := by rw [hZ3]; exact varN_others (by omega) (varN_D HR4.out)
  have B5 : Below w.heap.size w Z3 := by rw [hZ3]; exact below_setN (by omega) HB4.out.drew
  rw [← hZ3] at hrun
  have HRUN := Lib.hid hrun
  have HT5 := Lib.hid T5
  have HR5 := Lib.hid R5
  have HB5 := Lib.hid B5
  have HZ3 := Lib.hid hZ3
  have x2 := (HX4.out 2 _ rfl).1
  rw [hq] at x2
  clear hrun hZ3 T5 R5 B5 hsrc
  go_region_law (refine step_copy_run rfl (.tmp 31) (.tmp 33) 22 22 rfl _ _ _ _ (by simp [Act.eval]) (by simp [Act.eval]) HRUN.out ?_)
  clear x2 g0 g1 g2
  have y0 := (HT5.out 0 _ rfl).1
  have y1 := (HT5.out 1 _ rfl).1
  have y2 := (HT5.out 2 _ rfl).1
  have y3 := (HT5.out 3 _ rfl).1
  have y4 := (HT5.out 4 _ rfl).1
  have y5 := (HT5.out 5 _ rfl).1
  have y6 := (HT5.out 6 _ rfl).1
  have y7 := (HT5.out 7 _ rfl).1
  have y8 := (HT5.out 8 _ rfl).1
  have y9 := (HT5.out 9 _ rfl).1
  obtain ⟨z0, f0⟩ := HR5.out 0 _ rfl
  obtain ⟨z1, f1⟩ := HR5.out 1 _ rfl
  obtain ⟨z2, f2⟩ := HR5.out 2 _ rfl
  obtain ⟨z3, f3⟩ := HR5.out 3 _ rfl
  obtain ⟨z4, f4⟩ := HR5.out 4 _ rfl
  obtain ⟨z5, f5⟩ := HR5.out 5 _ rfl
  obtain ⟨z6, f6⟩ := HR5.out 6 _ rfl
  obtain ⟨z7, f7⟩ := HR5.out 7 _ rfl
  obtain ⟨z8, f8⟩ := HR5.out 8 _ rfl
  obtain ⟨z9, f9⟩ := HR5.out 9 _ rfl
  go_wp2
  have hR := varN_all (xs := [.slice a5 n5 c5, .slice a6 n6 c6, .int .i64 D, .slice q3 l3 d3, .slice p0 t0.length c0, .slice p1 t1.length c1, .slice p2 t2.length c2, .slice none 0 0, .slice none 0 0, .slice none 0 0]) HR5.out rfl
  have hB := below_setN (g := w.heap.size + 1) (xs := [.slice a5 n5 c5, .slice a6 n6 c6, .int .i64 D, .slice q3 l3 d3, .slice p0 t0.length c0, .slice p1 t1.length c1, .slice p2 t2.length c2, .slice none 0 0, .slice none 0 0, .slice none 0 0]) (k := 0) (by omega) HB5.out
  have hK : Kept (fun b => Z1.heap.size ≤ b) Z2 (setN Z3 (w.heap.size + 1) 0 [.slice a5 n5 c5, .slice a6 n6 c6, .int .i64 D, .slice q3 l3 d3, .slice p0 t0.length c0, .slice p1 t1.length c1, .slice p2 t2.length c2, .slice none 0 0, .slice none 0 0, .slice none 0 0]) := by
    rw [HZ3.out]
    exact kept_trans (kept_D _) (kept_trans (kept_setN (fun b hb => by omega)) (kept_setN (fun b hb => by omega)))
  refine bp_cell ⟨w.heap.size + 1, 0, none⟩ rfl rfl rfl (load_stage _ _ _ _ _ _ _ _ _ _ _ _ hR) ?_
  obtain ⟨v1, v2, v3⟩ := HV345.out
  refine ⟨a5, a6, q3, n5, c5, n6, c6, l3, d3, (fun i => if i = 0 then p0 else if i = 1 then p1 else if i = 2 then p2 else none), (fun i => if i = 0 then t0.length else if i = 1 then t1.length else if i = 2 then t2.length else 0), (fun i => if i = 0 then c0 else if i = 1 then c1 else if i = 2 then c2 else 0), fun _ => none, fun _ => 0, fun _ => 0, rfl, ⟨slP_mono (fun b hb => .inr (by have := HB.out.size; omega)) (slP_keep hK v1), slP_mono (fun b hb => .inr (by have := HB.out.size; omega)) (slP_keep hK v2), ?_, ?_, fun _ _ => ⟨⟨Nat.le_refl _, Nat.zero_le _, fun _ => rfl⟩, vs_nil⟩⟩, hB⟩
  · have v3' := blP_mono (Q' := fun b => QQ b ∨ w.heap.size ≤ b) (fun b hb => .inr (by have := HB.out.size; omega)) (blP_keep hK v3)
    have e : (beginS W D ts).bs = List.replicate (3 : Int).toNat [] := by show List.replicate ts.length [] = _; rw [HL.out]; rfl
    rw [e]; exact v3'
  · intro i hi
    show _ ∧ Vs repInt3 _ _ _ _ (ts.getD i [])
    rcases (show i = 0 ∨ i = 1 ∨ i = 2 by omega) with rfl | rfl | rfl
    · rw [show ts.getD 0 [] = t0 by rw [List.getD_eq_getElem?_getD, ht0]; rfl]
      exact ⟨⟨i10, i20, i30⟩, vs_mono (fun _ h => .inl h) (vs_B hB W0)⟩
    · rw [show ts.getD 1 [] = t1 by rw [List.getD_eq_getElem?_getD, ht1]; rfl]
      exact ⟨⟨i11, i21, i31⟩, vs_mono (fun _ h => .inl h) (vs_B hB W1)⟩
    · rw [show ts.getD 2 [] = t2 by rw [List.getD_eq_getElem?_getD, ht2]; rfl]
      exact ⟨⟨i12, i22, i32⟩, vs_mono (fun _ h => .inl h) (vs_B hB W2)⟩

theorem begun_any (W D : Int) (q : Option Addr) (l d : Nat) (ts : List (List Mv)) (w : World) (QQ : Nat → Prop) (V : Vs (repSlice repInt3) QQ w q l ts) (hW : 1 ≤ W ∧ W ≤ 3) (hD : 0 ≤ D ∧ D ≤ 3) (hl : 1 ≤ l ∧ l ≤ 3) :
    Calls Tryz.prog 19 #[.agg #[.int .i64 W, .int .i64 D, .slice q l d]] w (SgPost QQ (beginS W D ts) w) := by
  rcases (show l = 1 ∨ l = 2 ∨ l = 3 by omega) with rfl | rfl | rfl
  · exact begun_1 W D q d ts w QQ V hW hD
  · exact begun_2 W D q d ts w QQ V hW hD
  · exact begun_3 W D q d ts w QQ V hW hD
end Go.Proofs.YtiebaeaomgpicaaGreat
