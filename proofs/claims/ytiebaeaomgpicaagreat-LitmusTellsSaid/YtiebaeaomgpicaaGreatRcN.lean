/- Contracts of package respiteref04: move, at a fence. -/
import Derived.Test.YtiebaeaomgpicaaGreatRH
import Derived.StillTailTactics
namespace Go.Proofs.YtiebaeaomgpicaaGreat
open Go.ChangeShapes Go.WideShapes Go.ChangeAt Go.RowKit
open Gen
set_option maxRecDepth 100000 in
set_option maxHeartbeats 8000000 in
theorem refMove_fence (W D : Int) (ts : List (List Mv)) (Q : Nat → Prop) (ql : Option Addr) (dl : Nat) (a a' q p r : Option Addr) (n c n' c' l d np pc nr rc : Nat) (s : St) (j : Nat) (x v : Int) (rest : List Mv) (w : World) (V : Vs (repSlice repInt3) Any w ql ts.length ts) (S : RSt ts Q w a a' q p r n n' l np nr s) (hj : j < ts.length) (h0 : s.l j = (2, x, v) :: rest) (hp : ∃ pre, ts.getD j [] = pre ++ (2, x, v) :: rest) (hbl : s.bs.length = ts.length) (hQQ : ∀ b, w.heap.size ≤ b → Q b) (h8 : ts.length ≤ 8) (hbig : (ts.getD j []).length ≤ 1000) :
    Calls Tryz.prog 27 #[.agg #[.int .i64 W, .int .i64 D, .slice ql ts.length dl], .agg #[.slice a n c, .slice a' n' c', .int .i64 s.D, .slice q l d, .slice p np pc, .slice r nr rc], .int .i64 j] w (MovePost ts Q s j w) := by
  have hnp : (atS ts s).length = ts.length := by simp [atS]
  obtain rfl : np = ts.length := by rw [← S.at_.1, hnp]
  obtain ⟨L, hL⟩ : ∃ L, ts.length = L := ⟨_, rfl⟩
  obtain ⟨DD, hDD⟩ : ∃ D, s.D = D := ⟨_, rfl⟩
  obtain ⟨W0, hW0⟩ : ∃ X, X = ((w.alloc (Obj.cells #[.int .i64 W, .int .i64 D, .slice ql L dl] 25)).alloc (Obj.cells #[.slice a n c, .slice a' n' c', .int .i64 DD, .slice q l d, .slice p L pc, .slice r nr rc] 64)).alloc (Obj.cells #[.slice none 0 0, .slice none 0 0, .int .i64 0, .slice none 0 0, .slice none 0 0, .slice none 0 0] 64) := ⟨_, rfl⟩
  have hb0 : Below w.heap.size w W0 := by rw [hW0]; go_grown
  have X3 : VarN W0 w.heap.size [.int .i64 W, .int .i64 D, .slice ql L dl] := by rw [hW0]; exact varN_A _ (varN_A _ (varN_new [.int .i64 W, .int .i64 D, .slice ql L dl] _ rfl))
  have X4 : VarN W0 (w.heap.size + 1) [.slice a n c, .slice a' n' c', .int .i64 DD, .slice q l d, .slice p L pc, .slice r nr rc] := by rw [hW0]; exact varN_A _ (varN_new [.slice a n c, .slice a' n' c', .int .i64 DD, .slice q l d, .slice p L pc, .slice r nr rc] _ (by simp))
  have X6 : VarN W0 (w.heap.size + 1 + 1) [.slice none 0 0, .slice none 0 0, .int .i64 0, .slice none 0 0, .slice none 0 0, .slice none 0 0] := by rw [hW0]; exact varN_new [.slice none 0 0, .slice none 0 0, .int .i64 0, .slice none 0 0, .slice none 0 0, .slice none 0 0] _ (by simp)
  rw [hL] at V S hj hbl h8 ⊢
  rw [hDD]
  obtain ⟨ab, ao, z, rfl, hz, g0⟩ := int_atR (vs_B hb0 (vs_any S.at_)) hj
  rw [atS_at ts s (by omega)] at hz
  obtain ⟨vb, vo, t, pt, ct, rfl, ht, g1, -, -, -, vt⟩ := moves_at (vs_B hb0 V) hj
  have htd : ts.getD j [] = t := by rw [List.getD_eq_getElem?_getD, ht]; rfl
  obtain ⟨pre, hpre⟩ := hp
  have hz' : z = ((ts.getD j []).length : Int) - ((s.l j).length : Int) := by simpa using hz.symm
  obtain ⟨k, hk⟩ : ∃ k, k = pre.length := ⟨_, rfl⟩
  have hzk : z = k := by rw [hz', hpre, h0, hk]; simp
  obtain ⟨tl, htl⟩ : ∃ tl, t.length = tl := ⟨_, rfl⟩
  have hkt : k < tl := by rw [← htl, ← htd, hpre, hk]; simp
  obtain ⟨mb, mo, y0, y1, y2, rfl, hm, m0, m1, m2⟩ := move_at vt (show k < t.length by omega)
  have hm2 : t[k]? = some (2, x, v) := by rw [← htd, hpre, hk]; simp
  rw [hm2] at hm
  injection hm with hm
  injection hm with e0 hm
  injection hm with e1 e2
  subst e0 e1 e2
  rw [htl] at g1
  have hbt : tl ≤ 1000 := by rw [← htl, ← htd]; exact hbig
  subst hzk
  obtain ⟨x4, -⟩ := X4 4 _ rfl
  obtain ⟨x3, -⟩ := X4 3 _ rfl
  obtain ⟨x2, -⟩ := X3 2 _ rfl
  obtain ⟨bb, bo, bq, bc, rfl, b1, -, -⟩ := bl_at (S.bs.bl) (show j < l by rw [← S.bs.1, hbl]; exact hj)
  obtain ⟨bn, hbn⟩ : ∃ bn, (s.bs.getD j []).length = bn := ⟨_, rfl⟩
  rw [hbn] at b1
  have HBC := Lib.hid b1
  have HSA := Lib.hid (vs_slR (vs_B hb0 S.at_))
  have HS := Lib.hid (rst_und S)
  have HB := Lib.hid hb0
  have HX3 := Lib.hid X3
  have HX4 := Lib.hid X4
  have HX6 := Lib.hid X6
  have HW := Lib.hid hW0
  have H0 := Lib.hid h0
  have HZ := Lib.hid hz'
  have HBN := Lib.hid hbn
  have HD := Lib.hid hDD
  have HLL := Lib.hid hL
  have HN := Lib.hid hnp
  have hjl : j < l := by rw [← S.bs.1, hbl]; exact hj
  have i5 : (j : Int) < l := by omega
  have i1 : (0 : Int) ≤ j := by omega
  have i2 : (j : Int) < L := by omega
  have i3 : (k : Int) < tl := by omega
  have i4 : (0 : Int) ≤ k := by omega
  clear b1 hb0 X3 X4 X6 hW0 V S hz ht htd htl hnp h0 hDD hz' vt hm2 hpre hk hbn hL
  go_enter Tryz.func27, Tryz.ntmps27
  go_upto_region 1 with fail
  rw [← HW.out]
  go_region
  go_upto_region 3 with fail
  obtain ⟨O, hO⟩ : ∃ O, O = Obj.cells #[.int .i64 0, .int .i64 0, .int .i64 0] 61 := ⟨_, rfl⟩
  have x4a := cellA O x4
  have x2a := cellA O x2
  have g0a := cellA O g0
  have g1a := cellA O g1
  have m0a := cellA O m0
  have m1a := cellA O m1
  have m2a := cellA O m2
  rw [hO] at x4a x2a g0a g1a m0a m1a m2a
  go_region
  go_upto_region 4 with fail
  obtain ⟨A, hA⟩ : ∃ X, X = (W0.alloc (Obj.cells #[.int .i64 2, .int .i64 x, .int .i64 v] 61)).drew.drew := ⟨_, rfl⟩
  have hbA : Below W0.heap.size W0 A := by rw [hA]; go_grown
  have HSB := Lib.hid (slB hbA HSA.out)
  have HXA4 := Lib.hid (varN_B hbA HX4.out)
  have HXA := Lib.hid (show VarN A W0.heap.size [.int .i64 2, .int .i64 x, .int .i64 v] by rw [hA]; exact varN_D (varN_D (varN_new [.int .i64 2, .int .i64 x, .int .i64 v] _ rfl)))
  have HBA := Lib.hid hbA
  have y4 := cellB hbA x4
  have z0 := cellB hbA g0
  have HA := Lib.hid hA
  have hLA : (atS ts s).length ≤ 1000 := by rw [HN.out, HLL.out]; omega
  have HLB := Lib.hid (show L ≤ 1000 by omega)
  clear hA hbA x4a x2a g0a g1a m0a m1a m2a x4 x2 g0 g1 m0 m1 m2 hLA
  rw [← HA.out]
  have HWL := Lib.hid (show (withZ (atS ts s) (j : Int) ((k : Int) + 1)).length = L by rw [withZ, withN_length, HN.out, HLL.out])
  go_still_tail 9, (by kernel_rfl)
  change wpList _ _ _ _ _ A.drew
  clear y4 z0
  go_wp2_with fail
  refine (With_any _ L pc (atS ts s) j (k + 1) _ (slD HSB.out) HLB.out).mono ?_
  rintro e w2 ⟨p2, d2, rfl, s2, hb2⟩
  rw [HWL.out] at s2 ⊢
  have hB2 : Below A.heap.size A w2 := below_from (Below.refl _ _).drew hb2
  obtain ⟨u4, t4⟩ := varN_B hB2 HXA4.out 4 _ rfl
  have hgs := varN_lt HX4.out (by simp)
  have hg6 := varN_lt HX6.out (by simp)
  obtain ⟨B1, hB1⟩ : ∃ X, X = w2.setCell ⟨w.heap.size + 1, 4, none⟩ (.slice p2 L d2) := ⟨_, rfl⟩
  have hw2 : Below w.heap.size w w2 := below_from HB.out (below_from HBA.out hB2)
  have HB1 := Lib.hid (show Below w.heap.size w B1 by rw [hB1]; exact hw2.setCell (by simp) _)
  have HY4 := Lib.hid (show VarN B1 (w.heap.size + 1) [.slice a n c, .slice a' n' c', .int .i64 DD, .slice (some ⟨bb, bo, none⟩) l d, .slice p2 L d2, .slice r nr rc] by rw [hB1]; exact varN_set (varN_B hB2 HXA4.out) 4 (by simp) _)
  have HY6 := Lib.hid (show VarN B1 (w.heap.size + 1 + 1) [.slice none 0 0, .slice none 0 0, .int .i64 0, .slice none 0 0, .slice none 0 0, .slice none 0 0] by rw [hB1]; exact varN_other (varN_B hB2 (varN_B HBA.out HX6.out)) (by omega) _)
  have HY8 := Lib.hid (show VarN B1 W0.heap.size [.int .i64 2, .int .i64 x, .int .i64 v] by rw [hB1]; exact varN_other (varN_B hB2 HXA.out) (by omega) _)
  have hq : ∀ b, A.drew.heap.size ≤ b → b ≠ w.heap.size + 1 ∧ b ≠ w.heap.size + 1 + 1 ∧ w.heap.size ≤ b := by
    intro b hb
    have h1 : W0.heap.size ≤ A.heap.size := HBA.out.size
    have h2 : A.heap.size ≤ b := hb
    omega
  have HP := Lib.hid (show SlP (fun b => b ≠ w.heap.size + 1 ∧ b ≠ w.heap.size + 1 + 1 ∧ w.heap.size ≤ b) B1 p2 L (withZ (atS ts s) (j : Int) ((k : Int) + 1)) by rw [hB1]; exact slP_keep (fun b o v hq hv => kept_set (Q := fun b => b ≠ w.heap.size + 1) w2 ⟨w.heap.size + 1, 4, none⟩ _ (fun b hb => hb) b o v hq.1 hv) (slP_slF hq s2))
  have HW1 := Lib.hid hB1
  clear hB2 hw2 hB1 hq s2 hb2
  go_upto_region 5 with fail
  rw [← HW1.out]
  clear u4 t4
  obtain ⟨kq0, -⟩ := HY8.out 0 _ rfl
  obtain ⟨kq1, -⟩ := HY8.out 1 _ rfl
  obtain ⟨kq2, -⟩ := HY8.out 2 _ rfl
  obtain ⟨y0, -⟩ := HY4.out 0 _ rfl
  obtain ⟨y1, -⟩ := HY4.out 1 _ rfl
  obtain ⟨y2, -⟩ := HY4.out 2 _ rfl
  obtain ⟨y3, -⟩ := HY4.out 3 _ rfl
  obtain ⟨y4, -⟩ := HY4.out 4 _ rfl
  obtain ⟨y5, -⟩ := HY4.out 5 _ rfl
  obtain ⟨r0, fr0⟩ := HY6.out 0 _ rfl
  obtain ⟨r1, fr1⟩ := HY6.out 1 _ rfl
  obtain ⟨r2, fr2⟩ := HY6.out 2 _ rfl
  obtain ⟨r3, fr3⟩ := HY6.out 3 _ rfl
  obtain ⟨r4, fr4⟩ := HY6.out 4 _ rfl
  obtain ⟨r5, fr5⟩ := HY6.out 5 _ rfl
  have c1 := cellB HB1.out HBC.out
  have hbb : bb ≠ w.heap.size + 1 + 1 := by have h1 : bb < w.heap.size := cell_lt HBC.out; omega
  have c1s : (setN B1 (w.heap.size + 1 + 1) 0 [.slice a n c, .slice a' n' c', .int .i64 DD, .slice (some ⟨bb, bo, none⟩) l d, .slice p2 L d2, .slice r nr rc]).cell? ⟨bb, bo + j, none⟩ = some (.slice bq bn bc) := kept_setN (g := w.heap.size + 1 + 1) (xs := [.slice a n c, .slice a' n' c', .int .i64 DD, .slice (some ⟨bb, bo, none⟩) l d, .slice p2 L d2, .slice r nr rc]) (k := 0) (Q := fun b => b ≠ w.heap.size + 1 + 1) (fun b h => h) _ _ _ hbb c1
  simp only [setN] at c1s
  go_upto_region 14 with fail
  go_region
  go_wp2
  refine bp_cell_tmp ⟨w.heap.size + 1 + 1, 0, none⟩ rfl rfl rfl (load_stateR _ _ _ _ _ _ _ _ (varN_D (varN_all (xs := [.slice a n c, .slice a' n' c', .int .i64 DD, .slice (some ⟨bb, bo, none⟩) l d, .slice p2 L d2, .slice r nr rc]) HY6.out rfl))) ?_
  have hk : Gen.Kept (fun b => b ≠ w.heap.size + 1 ∧ b ≠ w.heap.size + 1 + 1) B1 (setN B1 (w.heap.size + 1 + 1) 0 [.slice a n c, .slice a' n' c', .int .i64 DD, .slice (some ⟨bb, bo, none⟩) l d, .slice p2 L d2, .slice r nr rc]).drew := kept_trans (kept_setN (fun b h => h.2)) (kept_D _)
  have hBF : Below w.heap.size w (setN B1 (w.heap.size + 1 + 1) 0 [.slice a n c, .slice a' n' c', .int .i64 DD, .slice (some ⟨bb, bo, none⟩) l d, .slice p2 L d2, .slice r nr rc]).drew := (below_setN (g := w.heap.size + 1 + 1) (xs := [.slice a n c, .slice a' n' c', .int .i64 DD, .slice (some ⟨bb, bo, none⟩) l d, .slice p2 L d2, .slice r nr rc]) (k := 0) (by omega) HB1.out).drew
  obtain ⟨WF, hWF⟩ : ∃ X, X = (setN B1 (w.heap.size + 1 + 1) 0 [.slice a n c, .slice a' n' c', .int .i64 DD, .slice (some ⟨bb, bo, none⟩) l d, .slice p2 L d2, .slice r nr rc]).drew := ⟨_, rfl⟩
  rw [← hWF] at hk hBF
  simp only [setN] at hWF
  rw [← hWF]
  clear hWF
  have R1 := rst_keep (mv_out hk) (rst_mv HS.out HB1.out)
  have P1 := slP_keep (mv_out hk) (p_mv hQQ HP.out)
  have hm2 : (moveS (leftS s j rest) j (2, x, v)).1 = leftS s j rest := by rw [move2]
  have hm3 : ((bn : Int) == 0) = (moveS (leftS s j rest) j (2, x, v)).2 := by
    rw [move2]
    show ((bn : Int) == 0) = !decide (0 < (s.bs.getD j []).length)
    rw [HBN.out, Bool.eq_iff_iff]
    simp
  have R2 : RSt ts Q WF a a' (some ⟨bb, bo, none⟩) p2 r n n' l L nr (moveS (leftS s j rest) j (2, x, v)).1 := by
    rw [hm2]
    exact rst_mono (fun b h => h.1) (rst_moved (z := (k : Int) + 1) (by rw [HLL.out]; omega) H0.out (by rw [← HZ.out]) rfl R1.ws R1.tg R1.bs P1 R1.nt)
  have hD2 : DD = (moveS (leftS s j rest) j (2, x, v)).1.D := by rw [hm2]; exact HD.out.symm
  exact movePost_mk (a := a) (n := n) (c := c) (a' := a') (n' := n') (c' := c') (q := some ⟨bb, bo, none⟩) (l := l) (d := d) (p := p2) (np := L) (pc := d2) (r := r) (nr := nr) (rc := rc) (D := DD) (m := (2, x, v)) (rest := rest) H0.out hm3 (fun _ => ⟨hD2, R2⟩) hBF
end Go.Proofs.YtiebaeaomgpicaaGreat
