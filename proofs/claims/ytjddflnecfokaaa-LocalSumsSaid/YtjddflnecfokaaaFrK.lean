/- respiteref06: Back. -/
import Derived.Test.YtjddflnecfokaaaFrJ
namespace Go.Proofs.Ytjddflnecfokaaa
open Go.ChangeShapes Go.WideShapes Go.ChangeAt Go.RowKit
open Gen

def backRE (t : Thr) : Int := if t.fs.length = 0 then 8 else 0
def backRT (t : Thr) : Thr := if t.fs.length = 0 then zThr else ⟨(lastF t).1, resR t.r (lastF t).2.1 (lastF t).2.2.1 (lastF t).2.2.2.1 (lastF t).2.2.2.2, t.fs.take (t.fs.length - 1), t.st, t.ft, t.lf⟩
set_option maxRecDepth 100000 in
set_option maxHeartbeats 8000000 in
theorem refBack6_any (t : Thr) (fa la : Option Addr) (fn fc ln lc : Nat) (w : World) (F : ThF w fa fn fc la ln lc t) (hf : fn ≤ 1000) :
    Calls Try.prog 28 #[.agg #[.int .i64 t.pc, .int .i64 (t.r 0), .int .i64 (t.r 1), .int .i64 (t.r 2), .int .i64 (t.r 3), .int .i64 (t.r 4), .int .i64 (t.r 5), .int .i64 (t.r 6), .int .i64 (t.r 7), .slice fa fn fc, .int .i64 t.st, .int .i64 t.ft, .slice la ln lc]] w (ThPost (backRT t) (backRE t) w) := by
  obtain ⟨W, hW⟩ : ∃ W, W = (w.alloc (Obj.cells #[.int .i64 t.pc, .int .i64 (t.r 0), .int .i64 (t.r 1), .int .i64 (t.r 2), .int .i64 (t.r 3), .int .i64 (t.r 4), .int .i64 (t.r 5), .int .i64 (t.r 6), .int .i64 (t.r 7), .slice fa fn fc, .int .i64 t.st, .int .i64 t.ft, .slice la ln lc] 27)).alloc (Obj.cells #[.int .i64 0, .int .i64 0, .int .i64 0, .int .i64 0, .int .i64 0, .int .i64 0, .int .i64 0, .int .i64 0, .int .i64 0, .slice none 0 0, .int .i64 0, .int .i64 0, .slice none 0 0] 27) := ⟨_, rfl⟩
  have X : VarN W w.heap.size [.int .i64 t.pc, .int .i64 (t.r 0), .int .i64 (t.r 1), .int .i64 (t.r 2), .int .i64 (t.r 3), .int .i64 (t.r 4), .int .i64 (t.r 5), .int .i64 (t.r 6), .int .i64 (t.r 7), .slice fa fn fc, .int .i64 t.st, .int .i64 t.ft, .slice la ln lc] := by rw [hW]; exact varN_A _ (varN_new [.int .i64 t.pc, .int .i64 (t.r 0), .int .i64 (t.r 1), .int .i64 (t.r 2), .int .i64 (t.r 3), .int .i64 (t.r 4), .int .i64 (t.r 5), .int .i64 (t.r 6), .int .i64 (t.r 7), .slice fa fn fc, .int .i64 t.st, .int .i64 t.ft, .slice la ln lc] _ rfl)
  have R : VarN W (w.heap.size + 1) [.int .i64 0, .int .i64 0, .int .i64 0, .int .i64 0, .int .i64 0, .int .i64 0, .int .i64 0, .int .i64 0, .int .i64 0, .slice none 0 0, .int .i64 0, .int .i64 0, .slice none 0 0] := by rw [hW]; exact varN_new [.int .i64 0, .int .i64 0, .int .i64 0, .int .i64 0, .int .i64 0, .int .i64 0, .int .i64 0, .int .i64 0, .int .i64 0, .slice none 0 0, .int .i64 0, .int .i64 0, .slice none 0 0] _ (by simp)
  have hB : Below w.heap.size w W := by rw [hW]; go_grown
  have hz : W.heap.size = w.heap.size + 2 := by rw [hW]; simp
  have FW := thF_B hB F
  have HX := Lib.hid X
  have HR := Lib.hid R
  have HB := Lib.hid hB
  have HW := Lib.hid hW
  have HZ := Lib.hid hz
  have HF := Lib.hid FW
  have HL := Lib.hid (vs_keep (kept_B hB) (vs_old F.lf))
  clear hW X R hB F hz FW
  go_enter Try.func28, Try.ntmps28
  go_upto_region 1 with fail
  rw [← HW.out]
  have k0 := (HX.out 0 _ rfl).1
  have k1 := (HX.out 1 _ rfl).1
  have k2 := (HX.out 2 _ rfl).1
  have k3 := (HX.out 3 _ rfl).1
  have k4 := (HX.out 4 _ rfl).1
  have k5 := (HX.out 5 _ rfl).1
  have k6 := (HX.out 6 _ rfl).1
  have k7 := (HX.out 7 _ rfl).1
  have k8 := (HX.out 8 _ rfl).1
  have k9 := (HX.out 9 _ rfl).1
  have k10 := (HX.out 10 _ rfl).1
  have k11 := (HX.out 11 _ rfl).1
  have k12 := (HX.out 12 _ rfl).1
  by_cases h6 : fn = 0
  · subst h6
    have HE := Lib.hid (show backRE t = 8 by rw [backRE, if_pos HF.out.fs.1])
    have HT := Lib.hid (show backRT t = zThr by rw [backRT, if_pos HF.out.fs.1])
    obtain ⟨y0, g0⟩ := HR.out 0 _ rfl
    obtain ⟨y1, g1⟩ := HR.out 1 _ rfl
    obtain ⟨y2, g2⟩ := HR.out 2 _ rfl
    obtain ⟨y3, g3⟩ := HR.out 3 _ rfl
    obtain ⟨y4, g4⟩ := HR.out 4 _ rfl
    obtain ⟨y5, g5⟩ := HR.out 5 _ rfl
    obtain ⟨y6, g6⟩ := HR.out 6 _ rfl
    obtain ⟨y7, g7⟩ := HR.out 7 _ rfl
    obtain ⟨y8, g8⟩ := HR.out 8 _ rfl
    obtain ⟨y9, g9⟩ := HR.out 9 _ rfl
    obtain ⟨y10, g10⟩ := HR.out 10 _ rfl
    obtain ⟨y11, g11⟩ := HR.out 11 _ rfl
    obtain ⟨y12, g12⟩ := HR.out 12 _ rfl
    go_wp2
    refine bp_cell_tmp ⟨w.heap.size + 1, 0, none⟩ rfl rfl rfl (load_thr _ _ zThr none none 0 0 0 0 (varN_all (xs := [.int .i64 0, .int .i64 0, .int .i64 0, .int .i64 0, .int .i64 0, .int .i64 0, .int .i64 0, .int .i64 0, .int .i64 0, .slice none 0 0, .int .i64 0, .int .i64 0, .slice none 0 0]) HR.out rfl)) ?_
    exact zThr_post HT.out HE.out (below_setN (g := w.heap.size + 1) (xs := [.int .i64 0, .int .i64 0, .int .i64 0, .int .i64 0, .int .i64 0, .int .i64 0, .int .i64 0, .int .i64 0, .int .i64 0, .slice none 0 0, .int .i64 0, .int .i64 0, .slice none 0 0]) (k := 0) (by omega) HB.out)
  · have q6 : ((fn : Int) == 0) = false := by simp; omega
    have h6' : ¬ t.fs.length = 0 := by rw [HF.out.fs.1]; exact h6
    obtain ⟨b, o, x0, x1, x2, x3, x4, rfl, hx, c0, c1, c2, c3, c4⟩ := fr_at HF.out.fs (show fn - 1 < fn by omega)
    have HE := Lib.hid (show backRE t = 0 by rw [backRE, if_neg h6'])
    have HT := Lib.hid (show backRT t = ⟨x0, resR t.r x1 x2 x3 x4, t.fs.take (fn - 1), t.st, t.ft, t.lf⟩ by
      have hl : lastF t = (x0, x1, x2, x3, x4) := by rw [lastF, HF.out.fs.1, List.getD_eq_getElem?_getD, hx]; rfl
      rw [backRT, if_neg h6', hl, HF.out.fs.1])
    have i1 : (1 : Int) ≤ fn := by omega
    have i3 : fn ≤ fc := HF.out.fcap.1
    have i4 : fc ≤ 9223372036854775807 := HF.out.fcap.2.1
    clear h6 h6' hx
    obtain ⟨W1, hW1⟩ : ∃ Z, Z = W.alloc (Obj.cells #[.int .i64 x0, .int .i64 x1, .int .i64 x2, .int .i64 x3, .int .i64 x4] 58) := ⟨_, rfl⟩
    have b1 : Below W.heap.size W W1 := by rw [hW1]; exact (Below.refl _ _).alloc (Nat.le_refl _) _
    have hz1 : W1.heap.size = W.heap.size + 1 := by rw [hW1]; simp
    have V1 := vs_B b1 HF.out.fs
    have X1 := varN_B b1 HX.out
    have R1 := varN_B b1 HR.out
    have L1 := vs_keep (kept_B b1) HL.out
    have B1 := below_from HB.out b1
    have F1 : VarN W1 W.heap.size [.int .i64 x0, .int .i64 x1, .int .i64 x2, .int .i64 x3, .int .i64 x4] := by rw [hW1]; exact varN_new [.int .i64 x0, .int .i64 x1, .int .i64 x2, .int .i64 x3, .int .i64 x4] _ rfl
    have HW1 := Lib.hid hW1
    have HZ1 := Lib.hid hz1
    clear hW1 b1 hz1
    go_upto_region 5 with fail
    rw [← HW1.out]
    obtain ⟨W2, hW2⟩ : ∃ W2, W2 = W1.alloc (Obj.cells #[] 58) := ⟨_, rfl⟩
    have b2 : Below W1.heap.size W1 W2 := by rw [hW2]; exact (Below.refl _ _).alloc (Nat.le_refl _) _
    have hz2 : W2.heap.size = W1.heap.size + 1 := by rw [hW2]; simp
    have V2 := vs_B b2 V1
    have X2 := varN_B b2 X1
    have R2 := varN_B b2 R1
    have F2 := varN_B b2 F1
    have L2 := vs_keep (kept_B b2) L1
    have B2 := below_from B1 b2
    have O2 : W2.ownsRow W1.heap.size 58 5 (.slice (some ⟨W1.heap.size, 0, none⟩) 0 0) 0 [] := by rw [hW2]; exact World.ownsRow_made W1 #[] 0 (Nat.le_refl _) (by decide) (by simp)
    have HW2 := Lib.hid hW2
    have HZ2 := Lib.hid hz2
    clear hW2 hz2 b2 k0 k1 k2 k3 k4 k5 k6 k7 k8 k9 k10 k11 k12 c0 c1 c2 c3 c4 V1 X1 R1 F1 L1 B1
    go_upto_region 6 with fail
    rw [← HW2.out]
    have k9 := (X2 9 _ rfl).1
    have V2' := vs_take V2 (fn - 1) (by omega)
    have C2 : Cap (some ⟨b, o, none⟩) (fn - 1) fc := ⟨by omega, i4, fun e => by cases e⟩
    have j1 : ¬ ((fn : Int) - 1 < 0) := by omega
    have j2 : (0 : Int) ≤ (fn : Int) - 1 := by omega
    go_wp2_with (at_builtin; refine wpList_append_frs rfl _ _ rfl W1.heap.size _ 0 [] rfl O2 (some ⟨b, o, none⟩) (fn - 1) fc (t.fs.take (fn - 1)) rfl V2' C2 (by omega) (by have := HZ2.out; omega) ?_)
    intro v3 W3 O3 hg3
    have hz := HZ.out
    have hz1 := HZ1.out
    have hz2 := HZ2.out
    have ne3 : ∀ b, b < W1.heap.size → (Value.slice (some ⟨W1.heap.size, 0, none⟩) 0 0).ownBlock ≠ some b := fun b hb e => by have := own_block O2 e; omega
    have X3 := varN_grown hg3 (ne3 _ (by omega)) X2
    have R3 := varN_grown hg3 (ne3 _ (by omega)) R2
    have F3 := varN_grown hg3 (ne3 _ (by omega)) F2
    have L3 := vs_keep (kept_grown hg3 (fun b hb => ne3 b (by omega))) L2
    have B3 := B2.grown hg3 B2.size (fun b hb => by have := own_block O2 hb; omega)
    clear X2 R2 L2 B2 O2 F2 V2 V2' hg3 ne3 k9
    obtain ⟨fa3, fc3, e3⟩ := own_form O3
    subst e3
    obtain ⟨Y1, hY1⟩ : ∃ Z, Z = W3.setCell ⟨w.heap.size, 9, none⟩ (.slice fa3 (fn - 1) fc3) := ⟨_, rfl⟩
    have X4 : VarN Y1 w.heap.size [.int .i64 t.pc, .int .i64 (t.r 0), .int .i64 (t.r 1), .int .i64 (t.r 2), .int .i64 (t.r 3), .int .i64 (t.r 4), .int .i64 (t.r 5), .int .i64 (t.r 6), .int .i64 (t.r 7), .slice fa3 (fn - 1) fc3, .int .i64 t.st, .int .i64 t.ft, .slice la ln lc] := by rw [hY1]; exact varN_set X3 9 (by simp) _
    have R4 : VarN Y1 (w.heap.size + 1) [.int .i64 0, .int .i64 0, .int .i64 0, .int .i64 0, .int .i64 0, .int .i64 0, .int .i64 0, .int .i64 0, .int .i64 0, .slice none 0 0, .int .i64 0, .int .i64 0, .slice none 0 0] := by rw [hY1]; exact varN_other R3 (by omega) _
    have F4 : VarN Y1 W.heap.size [.int .i64 x0, .int .i64 x1, .int .i64 x2, .int .i64 x3, .int .i64 x4] := by rw [hY1]; exact varN_other F3 (by omega) _
    have B4 : Below w.heap.size w Y1 := by rw [hY1]; exact B3.setCell (p := ⟨w.heap.size, 9, none⟩) (Nat.le_refl _) _
    have O4 : Y1.ownsRow W1.heap.size 58 5 (.slice fa3 (fn - 1) fc3) (fn - 1) ((t.fs.take (fn - 1)).flatMap int5) := by rw [hY1]; exact own_set O3 ⟨w.heap.size, 9, none⟩ (own_fresh O3 (.inr (by show w.heap.size < _; omega))) _
    have L4 : Vs repInt (fun b => b < w.heap.size) Y1 la ln t.lf := by rw [hY1]; exact vs_keep (kept_set _ _ _ (fun b hb => by show b ≠ w.heap.size; omega)) L3
    obtain ⟨z9, f9⟩ := X3 9 _ rfl
    have HY1 := Lib.hid hY1
    clear hY1 X3 R3 L3 B3 O3 F3 hz hz1 hz2
    go_upto_region 8 with fail
    rw [← HY1.out]
    clear z9 f9
    have hz := HZ.out
    have hz1 := HZ1.out
    obtain ⟨Y2, hY2⟩ : ∃ Z, Z = Y1.setCell ⟨w.heap.size, 0, none⟩ (.int .i64 x0) := ⟨_, rfl⟩
    have X5 : VarN Y2 w.heap.size [.int .i64 x0, .int .i64 (t.r 0), .int .i64 (t.r 1), .int .i64 (t.r 2), .int .i64 (t.r 3), .int .i64 (t.r 4), .int .i64 (t.r 5), .int .i64 (t.r 6), .int .i64 (t.r 7), .slice fa3 (fn - 1) fc3, .int .i64 t.st, .int .i64 t.ft, .slice la ln lc] := by rw [hY2]; exact varN_set X4 0 (by simp) _
    have R5 : VarN Y2 (w.heap.size + 1) [.int .i64 0, .int .i64 0, .int .i64 0, .int .i64 0, .int .i64 0, .int .i64 0, .int .i64 0, .int .i64 0, .int .i64 0, .slice none 0 0, .int .i64 0, .int .i64 0, .slice none 0 0] := by rw [hY2]; exact varN_other R4 (by omega) _
    have F5 : VarN Y2 W.heap.size [.int .i64 x0, .int .i64 x1, .int .i64 x2, .int .i64 x3, .int .i64 x4] := by rw [hY2]; exact varN_other F4 (by omega) _
    have B5 : Below w.heap.size w Y2 := by rw [hY2]; exact B4.setCell (p := ⟨w.heap.size, 0, none⟩) (Nat.le_refl _) _
    have O5 : Y2.ownsRow W1.heap.size 58 5 (.slice fa3 (fn - 1) fc3) (fn - 1) ((t.fs.take (fn - 1)).flatMap int5) := by rw [hY2]; exact own_set O4 ⟨w.heap.size, 0, none⟩ (own_fresh O4 (.inr (by show w.heap.size < _; omega))) _
    have L5 : Vs repInt (fun b => b < w.heap.size) Y2 la ln t.lf := by rw [hY2]; exact vs_keep (kept_set _ _ _ (fun b hb => by show b ≠ w.heap.size; omega)) L4
    obtain ⟨z0, f0⟩ := X4 0 _ rfl
    have v0 := (F4 0 _ rfl).1
    have HY2 := Lib.hid hY2
    clear hY2 X4 R4 F4 L4 B4 O4 hz hz1
    go_upto_region 9 with fail
    rw [← HY2.out]
    clear z0 f0 v0
    have hz := HZ.out
    have hz1 := HZ1.out
    obtain ⟨Y3, hY3⟩ : ∃ Z, Z = setN Y2 w.heap.size 1 [.int .i64 (t.r 0), .int .i64 (t.r 1), .int .i64 (t.r 2), .int .i64 (t.r 3), .int .i64 x1, .int .i64 x2, .int .i64 x3, .int .i64 x4] := ⟨_, rfl⟩
    have X6 : VarN Y3 w.heap.size [.int .i64 x0, .int .i64 (t.r 0), .int .i64 (t.r 1), .int .i64 (t.r 2), .int .i64 (t.r 3), .int .i64 x1, .int .i64 x2, .int .i64 x3, .int .i64 x4, .slice fa3 (fn - 1) fc3, .int .i64 t.st, .int .i64 t.ft, .slice la ln lc] := by rw [hY3]; exact varN_setN (xs := [.int .i64 (t.r 0), .int .i64 (t.r 1), .int .i64 (t.r 2), .int .i64 (t.r 3), .int .i64 x1, .int .i64 x2, .int .i64 x3, .int .i64 x4]) 1 X5 (by simp)
    have R6 : VarN Y3 (w.heap.size + 1) [.int .i64 0, .int .i64 0, .int .i64 0, .int .i64 0, .int .i64 0, .int .i64 0, .int .i64 0, .int .i64 0, .int .i64 0, .slice none 0 0, .int .i64 0, .int .i64 0, .slice none 0 0] := by rw [hY3]; exact varN_others (by omega) R5
    have B6 : Below w.heap.size w Y3 := by rw [hY3]; exact below_setN (Nat.le_refl _) B5
    have O6 : Y3.ownsRow W1.heap.size 58 5 (.slice fa3 (fn - 1) fc3) (fn - 1) ((t.fs.take (fn - 1)).flatMap int5) := by rw [hY3]; exact own_setN (own_fresh (p := ⟨w.heap.size, 0, none⟩) O5 (.inr (by show w.heap.size < _; omega))) O5
    have L6 : Vs repInt (fun b => b < w.heap.size) Y3 la ln t.lf := by rw [hY3]; exact vs_keep (kept_setN (fun b hb => by omega)) L5
    obtain ⟨Y4, hY4⟩ : ∃ Z, Z = setN Y3 (w.heap.size + 1) 0 [.int .i64 x0, .int .i64 (t.r 0), .int .i64 (t.r 1), .int .i64 (t.r 2), .int .i64 (t.r 3), .int .i64 x1, .int .i64 x2, .int .i64 x3, .int .i64 x4, .slice fa3 (fn - 1) fc3, .int .i64 t.st, .int .i64 t.ft, .slice la ln lc] := ⟨_, rfl⟩
    have R7 : VarN Y4 (w.heap.size + 1) [.int .i64 x0, .int .i64 (t.r 0), .int .i64 (t.r 1), .int .i64 (t.r 2), .int .i64 (t.r 3), .int .i64 x1, .int .i64 x2, .int .i64 x3, .int .i64 x4, .slice fa3 (fn - 1) fc3, .int .i64 t.st, .int .i64 t.ft, .slice la ln lc] := by rw [hY4]; exact varN_all R6 rfl
    have B7 : Below w.heap.size w Y4 := by rw [hY4]; exact below_setN (by omega) B6
    have O7 : Y4.ownsRow W1.heap.size 58 5 (.slice fa3 (fn - 1) fc3) (fn - 1) ((t.fs.take (fn - 1)).flatMap int5) := by rw [hY4]; exact own_setN (own_fresh (p := ⟨w.heap.size + 1, 0, none⟩) O6 (.inr (by show w.heap.size + 1 < _; omega))) O6
    have L7 : Vs repInt Any Y4 la ln t.lf := by rw [hY4]; exact vs_any (vs_keep (kept_setN (fun b hb => by omega)) L6)
    obtain ⟨fa4, fc4, e4, s1, s2, s3, s4⟩ := vs_own (r := repFr) O7 (flat_frs (t.fs.take (fn - 1))) (Q := Any) (fun _ _ _ => trivial)
    injection e4 with e4 _ e5
    subst e4 e5
    have HFIN := Lib.hid (show VarN Y4 (w.heap.size + 1) [.int .i64 x0, .int .i64 (t.r 0), .int .i64 (t.r 1), .int .i64 (t.r 2), .int .i64 (t.r 3), .int .i64 x1, .int .i64 x2, .int .i64 x3, .int .i64 x4, .slice fa3 (fn - 1) fc3, .int .i64 t.st, .int .i64 t.ft, .slice la ln lc] ∧ ThF Y4 fa3 (fn - 1) fc3 la ln lc ⟨x0, resR t.r x1 x2 x3 x4, t.fs.take (fn - 1), t.st, t.ft, t.lf⟩ ∧ Below w.heap.size w Y4 from ⟨R7, ⟨⟨s1, s2, s3⟩, s4, HF.out.lcap, L7⟩, B7⟩)
    have HLEN : Hid ((t.fs.take (fn - 1)).length = fn - 1) := by
      have h1 : t.fs.length = fn := HF.out.fs.1
      show (t.fs.take (fn - 1)).length = fn - 1
      rw [List.length_take]; omega
    have HY3 : Hid (Y3 = ((((((((Y2.setCell ⟨w.heap.size, 1, none⟩ (.int .i64 (t.r 0))).setCell ⟨w.heap.size, 2, none⟩ (.int .i64 (t.r 1))).setCell ⟨w.heap.size, 3, none⟩ (.int .i64 (t.r 2))).setCell ⟨w.heap.size, 4, none⟩ (.int .i64 (t.r 3))).setCell ⟨w.heap.size, 5, none⟩ (.int .i64 x1)).setCell ⟨w.heap.size, 6, none⟩ (.int .i64 x2)).setCell ⟨w.heap.size, 7, none⟩ (.int .i64 x3)).setCell ⟨w.heap.size, 8, none⟩ (.int .i64 x4))) := hY3
    have HY4 := Lib.hid hY4
    have HX5 := Lib.hid X5
    have HX6 := Lib.hid X6
    have HR6 := Lib.hid R6
    have HF5 := Lib.hid F5
    clear hY3 hY4 X5 X6 R5 R6 R7 F5 B5 B6 B7 O5 O6 O7 L5 L6 L7 s1 s2 s3 s4 hz hz1
    obtain ⟨k0, n0⟩ := HX5.out 0 _ rfl
    obtain ⟨k1, n1⟩ := HX5.out 1 _ rfl
    obtain ⟨k2, n2⟩ := HX5.out 2 _ rfl
    obtain ⟨k3, n3⟩ := HX5.out 3 _ rfl
    obtain ⟨k4, n4⟩ := HX5.out 4 _ rfl
    obtain ⟨k5, n5⟩ := HX5.out 5 _ rfl
    obtain ⟨k6, n6⟩ := HX5.out 6 _ rfl
    obtain ⟨k7, n7⟩ := HX5.out 7 _ rfl
    obtain ⟨k8, n8⟩ := HX5.out 8 _ rfl
    have v0 := (HF5.out 0 _ rfl).1
    have v1 := (HF5.out 1 _ rfl).1
    have v2 := (HF5.out 2 _ rfl).1
    have v3 := (HF5.out 3 _ rfl).1
    have v4 := (HF5.out 4 _ rfl).1
    go_upto_region 10 with fail
    rw [← HY3.out]
    clear k0 k1 k2 k3 k4 k5 k6 k7 k8 n0 n1 n2 n3 n4 n5 n6 n7 n8 v0 v1 v2 v3 v4
    have k0 := (HX6.out 0 _ rfl).1
    have k1 := (HX6.out 1 _ rfl).1
    have k2 := (HX6.out 2 _ rfl).1
    have k3 := (HX6.out 3 _ rfl).1
    have k4 := (HX6.out 4 _ rfl).1
    have k5 := (HX6.out 5 _ rfl).1
    have k6 := (HX6.out 6 _ rfl).1
    have k7 := (HX6.out 7 _ rfl).1
    have k8 := (HX6.out 8 _ rfl).1
    have k9 := (HX6.out 9 _ rfl).1
    have k10 := (HX6.out 10 _ rfl).1
    have k11 := (HX6.out 11 _ rfl).1
    have k12 := (HX6.out 12 _ rfl).1
    obtain ⟨y0, g0⟩ := HR6.out 0 _ rfl
    obtain ⟨y1, g1⟩ := HR6.out 1 _ rfl
    obtain ⟨y2, g2⟩ := HR6.out 2 _ rfl
    obtain ⟨y3, g3⟩ := HR6.out 3 _ rfl
    obtain ⟨y4, g4⟩ := HR6.out 4 _ rfl
    obtain ⟨y5, g5⟩ := HR6.out 5 _ rfl
    obtain ⟨y6, g6⟩ := HR6.out 6 _ rfl
    obtain ⟨y7, g7⟩ := HR6.out 7 _ rfl
    obtain ⟨y8, g8⟩ := HR6.out 8 _ rfl
    obtain ⟨y9, g9⟩ := HR6.out 9 _ rfl
    obtain ⟨y10, g10⟩ := HR6.out 10 _ rfl
    obtain ⟨y11, g11⟩ := HR6.out 11 _ rfl
    obtain ⟨y12, g12⟩ := HR6.out 12 _ rfl
    go_wp2
    have hf := HFIN.out
    rw [HY4.out] at hf
    have hL := load_thr _ _ ⟨x0, resR t.r x1 x2 x3 x4, t.fs.take (fn - 1), t.st, t.ft, t.lf⟩ fa3 la (fn - 1) fc3 ln lc hf.1
    refine bp_cell_tmp ⟨w.heap.size + 1, 0, none⟩ rfl rfl rfl hL ?_
    refine thPost_eq HT.out HE.out ?_
    exact thPost_mk (t := ⟨x0, resR t.r x1 x2 x3 x4, t.fs.take (fn - 1), t.st, t.ft, t.lf⟩) HLEN.out HF.out.lf.1 hf.2.1 hf.2.2
end Go.Proofs.Ytjddflnecfokaaa
