/- Contracts of package respiteref04: move, at an exchange. -/
import Derived.Test.YtiebaeaomgpicaaGreatRH
import Derived.StillTailTactics
namespace Go.Proofs.YtiebaeaomgpicaaGreat
open Go.ChangeShapes Go.WideShapes Go.ChangeAt Go.RowKit
open Gen
set_option maxRecDepth 100000 in
set_option maxHeartbeats 8000000 in
theorem refMove_xchg (W D : Int) (ts : List (List Mv)) (Q : Nat → Prop) (ql : Option Addr) (dl : Nat) (a a' q p r : Option Addr) (n c n' c' l d np pc nr rc : Nat) (s : St) (j : Nat) (x v : Int) (rest : List Mv) (w : World) (V : Vs (repSlice repInt3) Any w ql ts.length ts) (S : RSt ts Q w a a' q p r n n' l np nr s) (hj : j < ts.length) (h0 : s.l j = (3, x, v) :: rest) (hp : ∃ pre, ts.getD j [] = pre ++ (3, x, v) :: rest) (hbl : s.bs.length = ts.length) (hQQ : ∀ b, w.heap.size ≤ b → Q b) (h8 : ts.length ≤ 8) (hbig : (ts.getD j []).length ≤ 1000) (hh : hasB s.ws s.ts s.D s.bs j = true) (hnote : ∀ y ∈ ntS ts.length s, y.length ≤ 1000) :
    Calls Tryz.prog 27 #[.agg #[.int .i64 W, .int .i64 D, .slice ql ts.length dl], .agg #[.slice a n c, .slice a' n' c', .int .i64 s.D, .slice q l d, .slice p np pc, .slice r nr rc], .int .i64 j] w (MovePost ts Q s j w) := by
  have hnp : (atS ts s).length = ts.length := by simp [atS]
  obtain rfl : np = ts.length := by rw [← S.at_.1, hnp]
  obtain ⟨L, hL⟩ : ∃ L, ts.length = L := ⟨_, rfl⟩
  obtain ⟨DD, hDD⟩ : ∃ D, s.D = D := ⟨_, rfl⟩
  obtain ⟨W0, hW0⟩ : ∃ X, X = ((w.alloc (Obj.cells #[.int .i64 W, .int .i64 D, .slice ql L dl] 25)).alloc (Obj.cells #[.slice a n c, .slice a' n' c', .int .i64 DD, .slice q l d, .slice p L pc, .slice r nr rc] 64)).alloc (Obj.cells #[.slice none 0 0, .slice none 0 0, .int .i64 0, .slice none 0 0, .slice none 0 0, .slice none 0 0] 64) := ⟨_, rfl⟩
  have hb0 : Below w.heap.size w W0 := by rw [hW0]; go_grown
  have X3 : VarN W0 w.heap.size [.int .i64 W, .int .i64 D, .slice ql L dl] := by rw [hW0]; exact varN_A _ (varN_A _ (varN_new [.int .i64 W, .int .i64 D, .slice ql L dl] _ rfl))
  have X4 : VarN W0 (w.heap.size + 1) [.slice a n c, .slice a' n' c', .int .i64 DD, .slice q l d, .slice p L pc, .slice r nr rc] := by rw [hW0]; exact varN_A _ (varN_new [.slice a n c, .slice a' n' c', .int .i64 DD, .slice q l d, .slice p L pc, .slice r nr rc] _ (by simp))
  have X6 : VarN W0 (w.heap.size + 1 + 1) [.slice none 0 0, .slice none 0 0, .int .i64 0, .slice none 0 0, .slice none 0 0, .slice none 0 0] := by rw [hW0]; exact varN_new [.slice none 0 0, .slice none 0 0, .int .i64 0, .slice none 0 0, .slice none 0 0, .slice none 0 0] _ (by simp)
  rw [hL] at V S hj hbl h8 ⊢
  rw [hDD]
  obtain ⟨ab, ao, z, rfl, hz, g0⟩ := int_atR (vs_B hb0 (vs_any S.at_)) hj
  rw [atS_at ts s (by omega)] at hz
  obtain ⟨vb, vo, t, pt, ct, rfl, ht, g1, -, -, -, vt⟩ := moves_at (vs_B hb0 V) hj
  have htd : ts.getD j [] = t := by rw [List.getD_eq_getElem?_getD, ht]; rfl
  obtain ⟨pre, hpre⟩ := hp
  have hz' : z = ((ts.getD j []).length : Int) - ((s.l j).length : Int) := by simpa using hz.symm
  obtain ⟨k, hk⟩ : ∃ k, k = pre.length := ⟨_, rfl⟩
  have hzk : z = k := by rw [hz', hpre, h0, hk]; simp
  obtain ⟨tl, htl⟩ : ∃ tl, t.length = tl := ⟨_, rfl⟩
  have hkt : k < tl := by rw [← htl, ← htd, hpre, hk]; simp
  obtain ⟨mb, mo, y0, y1, y2, rfl, hm, m0, m1, m2⟩ := move_at vt (show k < t.length by omega)
  have hm2 : t[k]? = some (3, x, v) := by rw [← htd, hpre, hk]; simp
  rw [hm2] at hm
  injection hm with hm
  injection hm with e0 hm
  injection hm with e1 e2
  subst e0 e1 e2
  rw [htl] at g1
  have hbt : tl ≤ 1000 := by rw [← htl, ← htd]; exact hbig
  subst hzk
  obtain ⟨x4, -⟩ := X4 4 _ rfl
  obtain ⟨x3, -⟩ := X4 3 _ rfl
  obtain ⟨x2, -⟩ := X3 2 _ rfl
  obtain ⟨bb, bo, bq, bc, rfl, b1, -, -⟩ := bl_at (S.bs.bl) (show j < l by rw [← S.bs.1, hbl]; exact hj)
  obtain ⟨bn, hbn⟩ : ∃ bn, (s.bs.getD j []).length = bn := ⟨_, rfl⟩
  rw [hbn] at b1
  have HBC := Lib.hid b1
  have HSA := Lib.hid (vs_slR (vs_B hb0 S.at_))
  have HS := Lib.hid (rst_und S)
  have HB := Lib.hid hb0
  have HX3 := Lib.hid X3
  have HX4 := Lib.hid X4
  have HX6 := Lib.hid X6
  have HW := Lib.hid hW0
  have H0 := Lib.hid h0
  have HZ := Lib.hid hz'
  have HBN := Lib.hid hbn
  have HD := Lib.hid hDD
  have HLL := Lib.hid hL
  have HN := Lib.hid hnp
  have hjl : j < l := by rw [← S.bs.1, hbl]; exact hj
  have i5 : (j : Int) < l := by omega
  have i1 : (0 : Int) ≤ j := by omega
  have i2 : (j : Int) < L := by omega
  have i3 : (k : Int) < tl := by omega
  have i4 : (0 : Int) ≤ k := by omega
  clear b1 hb0 X3 X4 X6 hW0 V S hz ht htd htl hnp h0 hDD hz' vt hm2 hpre hk hbn hL
  go_enter Tryz.func27, Tryz.ntmps27
  go_upto_region 1 with fail
  rw [← HW.out]
  go_region
  go_upto_region 3 with fail
  obtain ⟨O, hO⟩ : ∃ O, O = Obj.cells #[.int .i64 0, .int .i64 0, .int .i64 0] 61 := ⟨_, rfl⟩
  have x4a := cellA O x4
  have x2a := cellA O x2
  have g0a := cellA O g0
  have g1a := cellA O g1
  have m0a := cellA O m0
  have m1a := cellA O m1
  have m2a := cellA O m2
  rw [hO] at x4a x2a g0a g1a m0a m1a m2a
  go_region
  go_upto_region 4 with fail
  obtain ⟨A, hA⟩ : ∃ X, X = (W0.alloc (Obj.cells #[.int .i64 3, .int .i64 x, .int .i64 v] 61)).drew.drew := ⟨_, rfl⟩
  have hbA : Below W0.heap.size W0 A := by rw [hA]; go_grown
  have HSB := Lib.hid (slB hbA HSA.out)
  have HXA4 := Lib.hid (varN_B hbA HX4.out)
  have HXA := Lib.hid (show VarN A W0.heap.size [.int .i64 3, .int .i64 x, .int .i64 v] by rw [hA]; exact varN_D (varN_D (varN_new [.int .i64 3, .int .i64 x, .int .i64 v] _ rfl)))
  have HBA := Lib.hid hbA
  have y4 := cellB hbA x4
  have z0 := cellB hbA g0
  have HA := Lib.hid hA
  have hLA : (atS ts s).length ≤ 1000 := by rw [HN.out, HLL.out]; omega
  have HLB := Lib.hid (show L ≤ 1000 by omega)
  clear hA hbA x4a x2a g0a g1a m0a m1a m2a x4 x2 g0 g1 m0 m1 m2 hLA
  rw [← HA.out]
  have HWL := Lib.hid (show (withZ (atS ts s) (j : Int) ((k : Int) + 1)).length = L by rw [withZ, withN_length, HN.out, HLL.out])
  go_still_tail 9, (by kernel_rfl)
  change wpList _ _ _ _ _ A.drew
  clear y4 z0
  go_wp2_with fail
  refine (With_any _ L pc (atS ts s) j (k + 1) _ (slD HSB.out) HLB.out).mono ?_
  rintro e w2 ⟨p2, d2, rfl, s2, hb2⟩
  rw [HWL.out] at s2 ⊢
  have hB2 : Below A.heap.size A w2 := below_from (Below.refl _ _).drew hb2
  obtain ⟨u4, t4⟩ := varN_B hB2 HXA4.out 4 _ rfl
  have hgs := varN_lt HX4.out (by simp)
  have hg6 := varN_lt HX6.out (by simp)
  obtain ⟨B1, hB1⟩ : ∃ X, X = w2.setCell ⟨w.heap.size + 1, 4, none⟩ (.slice p2 L d2) := ⟨_, rfl⟩
  have hw2 : Below w.heap.size w w2 := below_from HB.out (below_from HBA.out hB2)
  have HB1 := Lib.hid (show Below w.heap.size w B1 by rw [hB1]; exact hw2.setCell (by simp) _)
  have HY4 := Lib.hid (show VarN B1 (w.heap.size + 1) [.slice a n c, .slice a' n' c', .int .i64 DD, .slice (some ⟨bb, bo, none⟩) l d, .slice p2 L d2, .slice r nr rc] by rw [hB1]; exact varN_set (varN_B hB2 HXA4.out) 4 (by simp) _)
  have HY6 := Lib.hid (show VarN B1 (w.heap.size + 1 + 1) [.slice none 0 0, .slice none 0 0, .int .i64 0, .slice none 0 0, .slice none 0 0, .slice none 0 0] by rw [hB1]; exact varN_other (varN_B hB2 (varN_B HBA.out HX6.out)) (by omega) _)
  have HY8 := Lib.hid (show VarN B1 W0.heap.size [.int .i64 3, .int .i64 x, .int .i64 v] by rw [hB1]; exact varN_other (varN_B hB2 HXA.out) (by omega) _)
  have hq : ∀ b, A.drew.heap.size ≤ b → b ≠ w.heap.size + 1 ∧ b ≠ w.heap.size + 1 + 1 ∧ w.heap.size ≤ b := by
    intro b hb
    have h1 : W0.heap.size ≤ A.heap.size := HBA.out.size
    have h2 : A.heap.size ≤ b := hb
    omega
  have HP := Lib.hid (show SlP (fun b => b ≠ w.heap.size + 1 ∧ b ≠ w.heap.size + 1 + 1 ∧ w.heap.size ≤ b) B1 p2 L (withZ (atS ts s) (j : Int) ((k : Int) + 1)) by rw [hB1]; exact slP_keep (fun b o v hq hv => kept_set (Q := fun b => b ≠ w.heap.size + 1) w2 ⟨w.heap.size + 1, 4, none⟩ _ (fun b hb => hb) b o v hq.1 hv) (slP_slF hq s2))
  have HW1 := Lib.hid hB1
  clear hB2 hw2 hB1 hq s2 hb2
  go_upto_region 5 with fail
  rw [← HW1.out]
  clear u4 t4
  obtain ⟨kq0, -⟩ := HY8.out 0 _ rfl
  obtain ⟨kq1, -⟩ := HY8.out 1 _ rfl
  obtain ⟨kq2, -⟩ := HY8.out 2 _ rfl
  obtain ⟨y0, -⟩ := HY4.out 0 _ rfl
  obtain ⟨y1, -⟩ := HY4.out 1 _ rfl
  obtain ⟨y2, -⟩ := HY4.out 2 _ rfl
  obtain ⟨y3, -⟩ := HY4.out 3 _ rfl
  obtain ⟨y4, -⟩ := HY4.out 4 _ rfl
  obtain ⟨y5, -⟩ := HY4.out 5 _ rfl
  have hgs1 : w.heap.size + 1 + 1 < B1.heap.size := varN_lt HY6.out (by simp)
  have R0 := rst_mv HS.out HB1.out
  have h0 := refLockedTQ_any (MvQ Q w.heap.size) a a' (some ⟨bb, bo, none⟩) n c n' c' l d s.ws s.ts s.D s.bs j 1 x v 0 B1 R0.ws R0.tg R0.bs (mvQ_new hQQ hgs1) hh (by decide)
  rw [HD.out] at h0
  obtain ⟨E, hE⟩ : ∃ E, lockTE s.ws s.ts DD s.bs j 1 x = E := ⟨_, rfl⟩
  rw [hE] at h0
  obtain ⟨Z, hZ⟩ : ∃ Z, okZ E (loadZ s.ws s.ts x) = Z := ⟨_, rfl⟩
  rw [hZ] at h0
  have HH0 := Lib.hid h0
  have HE := Lib.hid hE
  have HZZ := Lib.hid hZ
  have HGS := Lib.hid hgs1
  clear R0 h0 hE hZ hh
  go_upto_region 15 with fail
  go_wp2_with fail
  with_reducible refine HH0.out.mono ?_
  rintro e w3 ⟨a1, n1, c1, b1, m1, e1, q1, l1, d1, rfl, s1, s2, s3, hb3⟩
  obtain ⟨D1, hD1⟩ : ∃ D1, okZ E DD = D1 := ⟨_, rfl⟩
  rw [hD1]
  have HD1 := Lib.hid hD1
  have H1 := Lib.hid s1
  have H2 := Lib.hid s2
  have H3 := Lib.hid s3
  have HB3 := Lib.hid hb3
  obtain ⟨W3, hW3⟩ : ∃ X, X = w3.alloc (Obj.cells #[.slice a1 n1 c1, .slice b1 m1 e1, .int .i64 D1, .slice q1 l1 d1] 46) := ⟨_, rfl⟩
  have hb4 : Below B1.heap.size B1 W3 := by rw [hW3]; exact hb3.alloc hb3.size _
  have HV6 := Lib.hid (varN_B hb4 HY6.out)
  have HV4 := Lib.hid (varN_B hb4 HY4.out)
  have HT := Lib.hid (show VarN W3 w3.heap.size [.slice a1 n1 c1, .slice b1 m1 e1, .int .i64 D1, .slice q1 l1 d1] by rw [hW3]; exact varN_new [.slice a1 n1 c1, .slice b1 m1 e1, .int .i64 D1, .slice q1 l1 d1] _ rfl)
  have HB4 := Lib.hid hb4
  have HW3 := Lib.hid hW3
  clear kq0 kq1 kq2 y0 y1 y2 y3 y4 y5 hD1 s1 s2 s3 hb3 hW3 hb4
  go_upto_region 16 with fail
  rw [← HW3.out]
  obtain ⟨t0, -⟩ := HT.out 0 _ rfl
  obtain ⟨t1, -⟩ := HT.out 1 _ rfl
  obtain ⟨t2, -⟩ := HT.out 2 _ rfl
  obtain ⟨t3, -⟩ := HT.out 3 _ rfl
  obtain ⟨y0, fy0⟩ := HV4.out 0 _ rfl
  obtain ⟨y1, fy1⟩ := HV4.out 1 _ rfl
  obtain ⟨y2, fy2⟩ := HV4.out 2 _ rfl
  obtain ⟨y3, fy3⟩ := HV4.out 3 _ rfl
  obtain ⟨W4, hW4⟩ : ∃ X, X = setN W3 (w.heap.size + 1) 0 [.slice a1 n1 c1, .slice b1 m1 e1, .int .i64 D1, .slice q1 l1 d1] := ⟨_, rfl⟩
  have hK4 : Gen.Kept (fun b => b ≠ w.heap.size + 1) W3 W4 := by rw [hW4]; exact kept_setN (fun b h => h)
  have hB5 : Below w.heap.size w W4 := by rw [hW4]; exact below_setN (by omega) (below_from HB1.out HB4.out)
  have HX4 := Lib.hid (show VarN W4 (w.heap.size + 1) [.slice a1 n1 c1, .slice b1 m1 e1, .int .i64 D1, .slice q1 l1 d1, .slice p2 L d2, .slice r nr rc] by rw [hW4]; exact varN_setN (xs := [.slice a1 n1 c1, .slice b1 m1 e1, .int .i64 D1, .slice q1 l1 d1]) 0 HV4.out (by simp))
  have HX6 := Lib.hid (show VarN W4 (w.heap.size + 1 + 1) [.slice none 0 0, .slice none 0 0, .int .i64 0, .slice none 0 0, .slice none 0 0, .slice none 0 0] by rw [hW4]; exact varN_others (by omega) HV6.out)
  have hgs3 : w.heap.size + 1 + 1 < W4.heap.size := varN_lt HX6.out (by simp)
  have R0 := rst_keep (mv_out (fun b o v h hv => hK4 b o v h.1 hv)) (rst_mv HS.out (below_from HB1.out HB4.out))
  have hnr : nr ≤ 1000 := by have h := R0.nt.1; have h2 := HLL.out; simp [ntS] at h; omega
  have HN0 := Lib.hid (refNote_any (MvQ Q w.heap.size) r nr rc (ntS ts.length s) j Z W4 R0.nt (mvQ_new hQQ hgs3) hnr hnote)
  have HNR := Lib.hid (show nr = ts.length by have h := R0.nt.1; simp [ntS] at h; exact h.symm)
  have HB5 := Lib.hid hB5
  have HK4 := Lib.hid hK4
  simp only [setN] at hW4
  have HW5 := Lib.hid hW4
  clear hW4 hK4 R0 hnr hB5
  go_upto_region 17 with fail
  rw [← HW5.out]
  clear t0 t1 t2 t3 y0 fy0 y1 fy1 y2 fy2 y3 fy3
  obtain ⟨y0, -⟩ := HX4.out 0 _ rfl
  obtain ⟨y1, -⟩ := HX4.out 1 _ rfl
  obtain ⟨y2, -⟩ := HX4.out 2 _ rfl
  obtain ⟨y3, -⟩ := HX4.out 3 _ rfl
  obtain ⟨y4, -⟩ := HX4.out 4 _ rfl
  obtain ⟨y5, -⟩ := HX4.out 5 _ rfl
  go_wp2_with fail
  with_reducible refine HN0.out.mono ?_
  rintro e w5 ⟨rq, re, rfl, VN, hb5⟩
  have hb6 : Below W4.heap.size W4 w5 := hb5
  clear y0 y1 y2 y3 y4 y5
  have V4 := varN_B hb6 HX4.out
  obtain ⟨y5, fy5⟩ := V4 5 _ rfl
  obtain ⟨W6, hW6⟩ : ∃ X, X = w5.setCell ⟨w.heap.size + 1, 5, none⟩ (.slice rq nr re) := ⟨_, rfl⟩
  have HZ4 := Lib.hid (show VarN W6 (w.heap.size + 1) [.slice a1 n1 c1, .slice b1 m1 e1, .int .i64 D1, .slice q1 l1 d1, .slice p2 L d2, .slice rq nr re] by rw [hW6]; exact varN_set V4 5 (by simp) _)
  have HZ6 := Lib.hid (show VarN W6 (w.heap.size + 1 + 1) [.slice none 0 0, .slice none 0 0, .int .i64 0, .slice none 0 0, .slice none 0 0, .slice none 0 0] by rw [hW6]; exact varN_other (varN_B hb6 HX6.out) (by omega) _)
  have HK6 := Lib.hid (show Gen.Kept (fun b => b ≠ w.heap.size + 1) w5 W6 by rw [hW6]; exact kept_set _ _ _ (fun b h => h))
  have HB6 := Lib.hid (show Below w.heap.size w W6 by rw [hW6]; exact (below_from HB5.out hb6).setCell (by simp) _)
  have HBB := Lib.hid hb6
  have HVN := Lib.hid VN
  have HW6 := Lib.hid hW6
  clear hb5 hb6 V4 VN hW6
  go_upto_region 18 with fail
  rw [← HW6.out]
  clear y5 fy5
  obtain ⟨y0, -⟩ := HZ4.out 0 _ rfl
  obtain ⟨y1, -⟩ := HZ4.out 1 _ rfl
  obtain ⟨y2, -⟩ := HZ4.out 2 _ rfl
  obtain ⟨y3, -⟩ := HZ4.out 3 _ rfl
  obtain ⟨y4, -⟩ := HZ4.out 4 _ rfl
  obtain ⟨y5, -⟩ := HZ4.out 5 _ rfl
  obtain ⟨r0, fr0⟩ := HZ6.out 0 _ rfl
  obtain ⟨r1, fr1⟩ := HZ6.out 1 _ rfl
  obtain ⟨r2, fr2⟩ := HZ6.out 2 _ rfl
  obtain ⟨r3, fr3⟩ := HZ6.out 3 _ rfl
  obtain ⟨r4, fr4⟩ := HZ6.out 4 _ rfl
  obtain ⟨r5, fr5⟩ := HZ6.out 5 _ rfl
  go_wp2
  refine bp_cell_tmp ⟨w.heap.size + 1 + 1, 0, none⟩ rfl rfl rfl (load_stateR _ _ _ _ _ _ _ _ (varN_all (xs := [.slice a1 n1 c1, .slice b1 m1 e1, .int .i64 D1, .slice q1 l1 d1, .slice p2 L d2, .slice rq nr re]) HZ6.out rfl)) ?_
  have hk5 : Gen.Kept (fun b => b ≠ w.heap.size + 1 ∧ b ≠ w.heap.size + 1 + 1) w5 (setN W6 (w.heap.size + 1 + 1) 0 [.slice a1 n1 c1, .slice b1 m1 e1, .int .i64 D1, .slice q1 l1 d1, .slice p2 L d2, .slice rq nr re]) := kept_trans (fun b o v h hv => HK6.out b o v h.1 hv) (kept_setN (fun b h => h.2))
  have hk : Gen.Kept (fun b => b ≠ w.heap.size + 1 ∧ b ≠ w.heap.size + 1 + 1) W3 (setN W6 (w.heap.size + 1 + 1) 0 [.slice a1 n1 c1, .slice b1 m1 e1, .int .i64 D1, .slice q1 l1 d1, .slice p2 L d2, .slice rq nr re]) := kept_trans (fun b o v h hv => HK4.out b o v h.1 hv) (kept_trans (kept_B HBB.out) hk5)
  have hk3 : Gen.Kept (fun b => b ≠ w.heap.size + 1 ∧ b ≠ w.heap.size + 1 + 1) w3 (setN W6 (w.heap.size + 1 + 1) 0 [.slice a1 n1 c1, .slice b1 m1 e1, .int .i64 D1, .slice q1 l1 d1, .slice p2 L d2, .slice rq nr re]) := kept_trans (by rw [HW3.out]; exact kept_A _ _) hk
  have P1 := slP_keep (mv_out hk) (slP_keep (kept_B HB4.out) (p_mv hQQ HP.out))
  exact movePost_mk (a := a1) (n := n1) (c := c1) (a' := b1) (n' := m1) (c' := e1) (q := q1) (l := l1) (d := d1) (p := p2) (np := L) (pc := d2) (r := rq) (nr := nr) (rc := re) (D := D1) (m := (3, x, v)) (rest := rest) H0.out (by rw [move3]; show (E == 0) = (lockTE s.ws s.ts s.D s.bs j 1 x == 0); rw [HD.out, HE.out])
    (fun _ => ⟨by rw [move3]; show D1 = okZ (lockTE s.ws s.ts s.D s.bs j 1 x) s.D; rw [HD.out, HE.out]; exact HD1.out.symm, by
      rw [move3]
      refine rst_mono (fun b h => h.1) (rst_moved (z := (k : Int) + 1) (by rw [HLL.out]; omega) H0.out (by rw [← HZ.out]) rfl (slP_keep (mv_out hk3) ?_) (slP_keep (mv_out hk3) ?_) (blP_keep (mv_out hk3) ?_) P1 ?_)
      · have h := H1.out; show SlP _ w3 a1 n1 (okL (lockTE s.ws s.ts s.D s.bs j 1 x) (lockTW s.ws s.ts 1 x v 0)); rw [HD.out, HE.out]; exact h
      · have h := H2.out; show SlP _ w3 b1 m1 (okL (lockTE s.ws s.ts s.D s.bs j 1 x) s.ts); rw [HD.out, HE.out]; exact h
      · have h := H3.out; show BlP _ w3 q1 l1 (okL (lockTE s.ws s.ts s.D s.bs j 1 x) s.bs); rw [HD.out, HE.out]; exact h
      · show Vs (repSlice repInt) _ _ rq nr (ntS ts.length (noteS (withM (leftS s j rest) _ _ _ _) j (okZ (lockTE s.ws s.ts s.D s.bs j 1 x) (loadZ s.ws s.ts x))))
        rw [HD.out, HE.out, HZZ.out, ntS_note, ntS_withM, ntS_left, ← HNR.out]
        have h := vs_keep (mv_out hk5) HVN.out
        rw [← HNR.out] at h; exact h⟩) (below_setN (g := w.heap.size + 1 + 1) (xs := [.slice a1 n1 c1, .slice b1 m1 e1, .int .i64 D1, .slice q1 l1 d1, .slice p2 L d2, .slice rq nr re]) (k := 0) (by omega) HB6.out)
end Go.Proofs.YtiebaeaomgpicaaGreat
