/- Package local: copied. -/
import Derived.Test.YtjddflnecfokaaaLoA
namespace Go.Proofs.Ytjddflnecfokaaa
open Go.ChangeShapes Go.WideShapes Go.ChangeAt Go.RowKit
open Gen

set_option maxRecDepth 100000 in
set_option maxHeartbeats 4000000 in
theorem loCopied_any (t : Thr) (fa la : Option Addr) (fn fc ln lc : Nat) (w : World) (F : ThF w fa fn fc la ln lc t) (h1 : fn ≤ 1000) (h2 : ln ≤ 1000) :
    Calls Try.prog 23 #[.agg #[.int .i64 t.pc, .int .i64 (t.r 0), .int .i64 (t.r 1), .int .i64 (t.r 2), .int .i64 (t.r 3), .int .i64 (t.r 4), .int .i64 (t.r 5), .int .i64 (t.r 6), .int .i64 (t.r 7), .slice fa fn fc, .int .i64 t.st, .int .i64 t.ft, .slice la ln lc]] w (CopT t w) := by
  obtain ⟨W, hW⟩ : ∃ W, W = (w.alloc (Obj.cells #[.int .i64 t.pc, .int .i64 (t.r 0), .int .i64 (t.r 1), .int .i64 (t.r 2), .int .i64 (t.r 3), .int .i64 (t.r 4), .int .i64 (t.r 5), .int .i64 (t.r 6), .int .i64 (t.r 7), .slice fa fn fc, .int .i64 t.st, .int .i64 t.ft, .slice la ln lc] 27)).alloc (Obj.cells #[.int .i64 0, .int .i64 0, .int .i64 0, .int .i64 0, .int .i64 0, .int .i64 0, .int .i64 0, .int .i64 0, .int .i64 0, .slice none 0 0, .int .i64 0, .int .i64 0, .slice none 0 0] 27) := ⟨_, rfl⟩
  have X : VarN W w.heap.size [.int .i64 t.pc, .int .i64 (t.r 0), .int .i64 (t.r 1), .int .i64 (t.r 2), .int .i64 (t.r 3), .int .i64 (t.r 4), .int .i64 (t.r 5), .int .i64 (t.r 6), .int .i64 (t.r 7), .slice fa fn fc, .int .i64 t.st, .int .i64 t.ft, .slice la ln lc] := by rw [hW]; exact varN_A _ (varN_new [.int .i64 t.pc, .int .i64 (t.r 0), .int .i64 (t.r 1), .int .i64 (t.r 2), .int .i64 (t.r 3), .int .i64 (t.r 4), .int .i64 (t.r 5), .int .i64 (t.r 6), .int .i64 (t.r 7), .slice fa fn fc, .int .i64 t.st, .int .i64 t.ft, .slice la ln lc] _ rfl)
  have R : VarN W (w.heap.size + 1) [.int .i64 0, .int .i64 0, .int .i64 0, .int .i64 0, .int .i64 0, .int .i64 0, .int .i64 0, .int .i64 0, .int .i64 0, .slice none 0 0, .int .i64 0, .int .i64 0, .slice none 0 0] := by rw [hW]; exact varN_new [.int .i64 0, .int .i64 0, .int .i64 0, .int .i64 0, .int .i64 0, .int .i64 0, .int .i64 0, .int .i64 0, .int .i64 0, .slice none 0 0, .int .i64 0, .int .i64 0, .slice none 0 0] _ (by simp)
  have hB : Below w.heap.size w W := by rw [hW]; go_grown
  have hz : W.heap.size = w.heap.size + 2 := by rw [hW]; simp
  have C1 := F.fcap
  have C2 := F.lcap
  have S1 := vs_B hB F.fs
  have S2 := vs_keep (kept_B hB) (vs_old F.lf)
  have HX := Lib.hid X
  have HR := Lib.hid R
  have HB := Lib.hid hB
  have HW := Lib.hid hW
  have HZ := Lib.hid hz
  clear hW X R hB F hz
  go_enter Try.func23, Try.ntmps23
  go_upto_region 1 with fail
  rw [← HW.out]
  have k9 := (HX.out 9 _ rfl).1
  go_wp2_with fail
  refine (cloneFr_any fa fn fc t.fs _ S1 C1 h1).mono ?_
  rintro e w1 ⟨fa2, fc2, rfl, d1, d2, d3, hb1⟩
  rw [HZ.out] at d2 d3
  have hz1 := hb1.size
  rw [HZ.out] at hz1
  have X1 := varN_B hb1 HX.out
  have R1 := varN_B hb1 HR.out
  have B1 := below_from HB.out hb1
  have S2' := vs_keep (kept_B hb1) S2
  obtain ⟨Z, hZ⟩ : ∃ Z, Z = w1.setCell ⟨w.heap.size, 9, none⟩ (.slice fa2 t.fs.length fc2) := ⟨_, rfl⟩
  have X2 : VarN Z w.heap.size [.int .i64 t.pc, .int .i64 (t.r 0), .int .i64 (t.r 1), .int .i64 (t.r 2), .int .i64 (t.r 3), .int .i64 (t.r 4), .int .i64 (t.r 5), .int .i64 (t.r 6), .int .i64 (t.r 7), .slice fa2 t.fs.length fc2, .int .i64 t.st, .int .i64 t.ft, .slice la ln lc] := by rw [hZ]; exact varN_set X1 9 (by simp) _
  have R2 : VarN Z (w.heap.size + 1) [.int .i64 0, .int .i64 0, .int .i64 0, .int .i64 0, .int .i64 0, .int .i64 0, .int .i64 0, .int .i64 0, .int .i64 0, .slice none 0 0, .int .i64 0, .int .i64 0, .slice none 0 0] := by rw [hZ]; exact varN_other R1 (by omega) _
  have B2 : Below w.heap.size w Z := by rw [hZ]; exact B1.setCell (p := ⟨w.heap.size, 9, none⟩) (Nat.le_refl _) _
  have O2 : Z.ownsRow (w.heap.size + 2) 58 5 (.slice fa2 t.fs.length fc2) t.fs.length (t.fs.flatMap int5) := by
    rw [hZ]; exact own_set d2 _ (own_fresh d2 (.inr (by show w.heap.size < _; omega))) _
  have V2 : Vs repFr (fun b => w.heap.size + 2 ≤ b) Z fa2 t.fs.length t.fs := by rw [hZ]; exact vs_keep (kept_set _ _ _ (fun b hb => by show b ≠ w.heap.size; omega)) d3
  have S3 : Vs repInt Any Z la ln t.lf := by rw [hZ]; exact vs_any (vs_keep (kept_set _ _ _ (fun b hb => by show b ≠ w.heap.size; omega)) S2')
  have hz2 : Z.heap.size = w1.heap.size := by rw [hZ]; simp [World.setCell]
  obtain ⟨y9, g9⟩ := X1 9 _ rfl
  have HX2 := Lib.hid X2
  have HR2 := Lib.hid R2
  have HB2 := Lib.hid B2
  have HO2 := Lib.hid O2
  have HV2 := Lib.hid V2
  have HD1 := Lib.hid d1
  have HZ1 := Lib.hid hZ
  have HZ2 := Lib.hid hz2
  clear d1 d2 d3 hb1 X1 R1 B1 S2 S2' hZ X2 R2 B2 O2 V2 k9 hz2 S1
  go_upto_region 2 with fail
  rw [← HZ1.out]
  clear y9 g9
  have k12 := (HX2.out 12 _ rfl).1
  go_wp2_with fail
  refine (cloneIn_any la ln lc t.lf _ S3 C2 h2).mono ?_
  rintro e w2 ⟨la2, lc2, rfl, d1, d2, d3, hb1⟩
  have hz3 := hb1.size
  have X1 := varN_B hb1 HX2.out
  have R1 := varN_B hb1 HR2.out
  have B1 := below_from HB2.out hb1
  have O1 := own_below HO2.out hb1
  have V1 := vs_B hb1 HV2.out
  obtain ⟨Y, hY⟩ : ∃ Z, Z = w2.setCell ⟨w.heap.size, 12, none⟩ (.slice la2 t.lf.length lc2) := ⟨_, rfl⟩
  have X2 : VarN Y w.heap.size [.int .i64 t.pc, .int .i64 (t.r 0), .int .i64 (t.r 1), .int .i64 (t.r 2), .int .i64 (t.r 3), .int .i64 (t.r 4), .int .i64 (t.r 5), .int .i64 (t.r 6), .int .i64 (t.r 7), .slice fa2 t.fs.length fc2, .int .i64 t.st, .int .i64 t.ft, .slice la2 t.lf.length lc2] := by rw [hY]; exact varN_set X1 12 (by simp) _
  have R2 : VarN Y (w.heap.size + 1) [.int .i64 0, .int .i64 0, .int .i64 0, .int .i64 0, .int .i64 0, .int .i64 0, .int .i64 0, .int .i64 0, .int .i64 0, .slice none 0 0, .int .i64 0, .int .i64 0, .slice none 0 0] := by rw [hY]; exact varN_other R1 (by omega) _
  have B2 : Below w.heap.size w Y := by rw [hY]; exact B1.setCell (p := ⟨w.heap.size, 12, none⟩) (Nat.le_refl _) _
  have O2 : Y.ownsRow (w.heap.size + 2) 58 5 (.slice fa2 t.fs.length fc2) t.fs.length (t.fs.flatMap int5) := by
    rw [hY]; exact own_set O1 _ (own_fresh O1 (.inr (by show w.heap.size < _; omega))) _
  have V2 : Vs repFr (fun b => w.heap.size + 2 ≤ b) Y fa2 t.fs.length t.fs := by rw [hY]; exact vs_keep (kept_set _ _ _ (fun b hb => by show b ≠ w.heap.size; omega)) V1
  have L2 : Vs repInt (fun b => w.heap.size + 2 ≤ b ∧ (Value.slice fa2 t.fs.length fc2).ownBlock ≠ some b) Y la2 t.lf.length t.lf := by
    rw [hY]; exact vs_keep (kept_set _ _ _ (fun b hb => by show b ≠ w.heap.size; omega)) (vs_mono (fun b hb => ⟨by have := HZ2.out; omega, fun e => by have := own_block HO2.out e; omega⟩) d3)
  obtain ⟨Y2, hY2⟩ : ∃ Z, Z = setN Y (w.heap.size + 1) 0 [.int .i64 t.pc, .int .i64 (t.r 0), .int .i64 (t.r 1), .int .i64 (t.r 2), .int .i64 (t.r 3), .int .i64 (t.r 4), .int .i64 (t.r 5), .int .i64 (t.r 6), .int .i64 (t.r 7), .slice fa2 t.fs.length fc2, .int .i64 t.st, .int .i64 t.ft, .slice la2 t.lf.length lc2] := ⟨_, rfl⟩
  have R3 : VarN Y2 (w.heap.size + 1) [.int .i64 t.pc, .int .i64 (t.r 0), .int .i64 (t.r 1), .int .i64 (t.r 2), .int .i64 (t.r 3), .int .i64 (t.r 4), .int .i64 (t.r 5), .int .i64 (t.r 6), .int .i64 (t.r 7), .slice fa2 t.fs.length fc2, .int .i64 t.st, .int .i64 t.ft, .slice la2 t.lf.length lc2] := by rw [hY2]; exact varN_all R2 rfl
  have B3 : Below w.heap.size w Y2 := by rw [hY2]; exact below_setN (by omega) B2
  have O3 : Y2.ownsRow w.heap.size 58 5 (.slice fa2 t.fs.length fc2) t.fs.length (t.fs.flatMap int5) := by
    rw [hY2]; exact own_le (own_setN (own_fresh (p := ⟨w.heap.size + 1, 0, none⟩) O2 (.inr (by show w.heap.size + 1 < _; omega))) O2) (by omega)
  have V3 : Vs repFr (fun b => w.heap.size ≤ b) Y2 fa2 t.fs.length t.fs := by rw [hY2]; exact vs_mono (fun b hb => by omega) (vs_keep (kept_setN (fun b hb => by omega)) V2)
  have L3 : Vs repInt (fun b => w.heap.size ≤ b ∧ (Value.slice fa2 t.fs.length fc2).ownBlock ≠ some b) Y2 la2 t.lf.length t.lf := by rw [hY2]; exact vs_mono (fun b hb => ⟨by omega, hb.2⟩) (vs_keep (kept_setN (fun b hb => by omega)) L2)
  obtain ⟨y12, g12⟩ := X1 12 _ rfl
  have HX3 := Lib.hid X2
  have HR3 := Lib.hid R2
  have HY := Lib.hid hY
  have HFIN := Lib.hid (And.intro R3 (And.intro d1 (And.intro B3 (And.intro O3 (And.intro V3 L3)))))
  have HY2 := Lib.hid hY2
  clear d1 d2 d3 hb1 X1 R1 B1 O1 V1 hY X2 R2 B2 O2 V2 L2 hY2 R3 B3 O3 V3 L3 k12 S3 C1 C2
  go_upto_region 3 with fail
  rw [← HY.out]
  clear y12 g12
  have k0 := (HX3.out 0 _ rfl).1
  have k1 := (HX3.out 1 _ rfl).1
  have k2 := (HX3.out 2 _ rfl).1
  have k3 := (HX3.out 3 _ rfl).1
  have k4 := (HX3.out 4 _ rfl).1
  have k5 := (HX3.out 5 _ rfl).1
  have k6 := (HX3.out 6 _ rfl).1
  have k7 := (HX3.out 7 _ rfl).1
  have k8 := (HX3.out 8 _ rfl).1
  have k9 := (HX3.out 9 _ rfl).1
  have k10 := (HX3.out 10 _ rfl).1
  have k11 := (HX3.out 11 _ rfl).1
  have k12 := (HX3.out 12 _ rfl).1
  obtain ⟨y0, g0⟩ := HR3.out 0 _ rfl
  obtain ⟨y1, g1⟩ := HR3.out 1 _ rfl
  obtain ⟨y2, g2⟩ := HR3.out 2 _ rfl
  obtain ⟨y3, g3⟩ := HR3.out 3 _ rfl
  obtain ⟨y4, g4⟩ := HR3.out 4 _ rfl
  obtain ⟨y5, g5⟩ := HR3.out 5 _ rfl
  obtain ⟨y6, g6⟩ := HR3.out 6 _ rfl
  obtain ⟨y7, g7⟩ := HR3.out 7 _ rfl
  obtain ⟨y8, g8⟩ := HR3.out 8 _ rfl
  obtain ⟨y9, g9⟩ := HR3.out 9 _ rfl
  obtain ⟨y10, g10⟩ := HR3.out 10 _ rfl
  obtain ⟨y11, g11⟩ := HR3.out 11 _ rfl
  obtain ⟨y12, g12⟩ := HR3.out 12 _ rfl
  go_wp2
  have hf := HFIN.out
  rw [HY2.out] at hf
  refine bp_cell ⟨w.heap.size + 1, 0, none⟩ rfl rfl rfl (load_thr _ _ _ _ _ _ _ _ _ hf.1) ?_
  exact ⟨_, _, _, _, rfl, HD1.out, hf.2.2.2.1, hf.2.2.2.2.1, hf.2.1, hf.2.2.2.2.2, hf.2.2.1⟩
end Go.Proofs.Ytjddflnecfokaaa
