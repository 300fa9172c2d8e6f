/- respiteref07: May. -/
import Derived.Test.YtjddflnecfokaaaLoP
namespace Go.Proofs.Ytjddflnecfokaaa
open Go.ChangeShapes Go.WideShapes Go.ChangeAt Go.RowKit
open Gen

def RegsTo (i : In4) (k : Nat) : Prop := ∀ j, j < k → 0 ≤ opd i j ∧ opd i j ≤ 7
theorem regsTo_succ {i : In4} {k : Nat} (h : RegsTo i k) (h1 : 0 ≤ opd i k ∧ opd i k ≤ 7) : RegsTo i (k + 1) := by
  intro j hj
  by_cases e : j = k
  · subst e; exact h1
  · exact h j (by omega)
theorem regsN_le (o : Int) : regsN o ≤ 3 := by unfold regsN; split; omega; split; omega; split <;> omega
def jmpOk (i : In4) : Bool := decide (jmpN i.1 < 0) || decide (0 ≤ opd i (jmpN i.1).toNat ∧ opd i (jmpN i.1).toNat ≤ 1000)
theorem may_yes {i : In4} (h1 : 1 ≤ i.1) (h2 : i.1 ≤ 15) (h : RegsTo i (regsN i.1)) : fitsI i = jmpOk i := by
  have a0 : 0 < regsN i.1 → 0 ≤ i.2.1 ∧ i.2.1 ≤ 7 := fun q => h 0 q
  have a1 : 1 < regsN i.1 → 0 ≤ i.2.2.1 ∧ i.2.2.1 ≤ 7 := fun q => h 1 q
  have a2 : 2 < regsN i.1 → 0 ≤ i.2.2.2 ∧ i.2.2.2 ≤ 7 := fun q => h 2 q
  clear h
  obtain ⟨o, A, B, C⟩ := i
  simp only at h1 h2 a0 a1 a2
  rcases (show o = 1 ∨ o = 2 ∨ o = 3 ∨ o = 4 ∨ o = 5 ∨ o = 6 ∨ o = 7 ∨ o = 8 ∨ o = 9 ∨ o = 10 ∨ o = 11 ∨ o = 12 ∨ o = 13 ∨ o = 14 ∨ o = 15 by omega) with rfl | rfl | rfl | rfl | rfl | rfl | rfl | rfl | rfl | rfl | rfl | rfl | rfl | rfl | rfl <;>
    (simp [regsN] at a0 a1 a2; simp [fitsI, fitsS, loSg, oprB, opd, List.range_succ, jmpOk, jmpN]; try omega)
theorem may_no {i : In4} (h1 : 1 ≤ i.1) (h2 : i.1 ≤ 15) {k : Nat} (hk : k < regsN i.1) (h : ¬ (0 ≤ opd i k ∧ opd i k ≤ 7)) : fitsI i = false := by
  cases hf : fitsI i with
  | false => rfl
  | true =>
    exfalso
    obtain ⟨f1, f2, f3, f4, f5⟩ := fits_reg hf h1 h2

    obtain ⟨o, A, B, C⟩ := i
    simp only at h1 h2 f1 f2 f3 f4 f5 hk
    have h3 := regsN_le o
    rcases (show k = 0 ∨ k = 1 ∨ k = 2 by omega) with rfl | rfl | rfl
    · simp [opd] at h
      rcases (show o = 1 ∨ o = 2 ∨ o = 3 ∨ o = 4 ∨ o = 5 ∨ o = 6 ∨ o = 7 ∨ o = 8 ∨ o = 9 ∨ o = 10 ∨ o = 11 ∨ o = 12 ∨ o = 13 ∨ o = 14 ∨ o = 15 by omega) with rfl | rfl | rfl | rfl | rfl | rfl | rfl | rfl | rfl | rfl | rfl | rfl | rfl | rfl | rfl <;> simp [regsN] at hk f1 <;> omega
    · simp [opd] at h
      rcases (show o = 1 ∨ o = 2 ∨ o = 3 ∨ o = 4 ∨ o = 5 ∨ o = 6 ∨ o = 7 ∨ o = 8 ∨ o = 9 ∨ o = 10 ∨ o = 11 ∨ o = 12 ∨ o = 13 ∨ o = 14 ∨ o = 15 by omega) with rfl | rfl | rfl | rfl | rfl | rfl | rfl | rfl | rfl | rfl | rfl | rfl | rfl | rfl | rfl <;> simp [regsN] at hk f3 <;> omega
    · simp [opd] at h
      rcases (show o = 1 ∨ o = 2 ∨ o = 3 ∨ o = 4 ∨ o = 5 ∨ o = 6 ∨ o = 7 ∨ o = 8 ∨ o = 9 ∨ o = 10 ∨ o = 11 ∨ o = 12 ∨ o = 13 ∨ o = 14 ∨ o = 15 by omega) with rfl | rfl | rfl | rfl | rfl | rfl | rfl | rfl | rfl | rfl | rfl | rfl | rfl | rfl | rfl <;> simp [regsN] at hk f5 <;> omega
set_option maxRecDepth 100000 in
set_option maxHeartbeats 4000000 in
theorem refMay_any (i : In4) (w : World) (h1 : 1 ≤ i.1) (h2 : i.1 ≤ 15) : Calls Try.prog 13 #[.agg #[.int .i64 i.1, .int .i64 i.2.1, .int .i64 i.2.2.1, .int .i64 i.2.2.2]] w (BoolPost (fitsI i) w) := by
  obtain ⟨W, hW⟩ : ∃ W, W = w.alloc (Obj.cells #[.int .i64 i.1, .int .i64 i.2.1, .int .i64 i.2.2.1, .int .i64 i.2.2.2] 29) := ⟨_, rfl⟩
  have hB : Below w.heap.size w W := by rw [hW]; go_grown
  have X : VarN W w.heap.size [.int .i64 i.1, .int .i64 i.2.1, .int .i64 i.2.2.1, .int .i64 i.2.2.2] := by rw [hW]; exact varN_new [.int .i64 i.1, .int .i64 i.2.1, .int .i64 i.2.2.1, .int .i64 i.2.2.2] _ rfl
  obtain ⟨V, hV⟩ : ∃ V, V = W.alloc (Obj.cells #[.int .i64 i.2.1, .int .i64 i.2.2.1, .int .i64 i.2.2.2] 59) := ⟨_, rfl⟩
  have Y : VarN V W.heap.size [.int .i64 i.2.1, .int .i64 i.2.2.1, .int .i64 i.2.2.2] := by rw [hV]; exact varN_new [.int .i64 i.2.1, .int .i64 i.2.2.1, .int .i64 i.2.2.2] _ rfl
  have hV2 : Below W.heap.size W V := by rw [hV]; go_grown
  have HB := Lib.hid (below_from hB hV2)
  have HX := Lib.hid X
  have HX2 := Lib.hid (varN_B hV2 X)
  have HY := Lib.hid Y
  have HW := Lib.hid hW
  have HV := Lib.hid hV
  clear hW X hB hV Y hV2
  go_enter Try.func13, Try.ntmps13
  go_upto_region 1 with fail
  rw [← HW.out]
  have k0 := (HX.out 0 _ rfl).1
  have k1 := (HX.out 1 _ rfl).1
  have k2 := (HX.out 2 _ rfl).1
  have k3 := (HX.out 3 _ rfl).1
  go_upto_region 2 with fail
  rw [← HV.out]
  clear k0 k1 k2 k3
  have k0 := (HX2.out 0 _ rfl).1
  obtain ⟨n, hn⟩ : ∃ n, regsN i.1 = n := ⟨_, rfl⟩
  have n3 := regsN_le i.1
  have qr := fun w => registers_any i.1 w h1 h2
  rw [hn] at n3 qr
  have HN := Lib.hid hn
  have HI := Lib.hid (And.intro h1 h2)
  clear hn h1 h2
  go_wp2
  go_loop [4] (fun x => ∃ k : Nat, k ≤ n ∧ x = .int .i64 k ∧ Hid (RegsTo i k)) (fun x => n - (intOf x).toNat)
  case atStart => exact ⟨0, by omega, rfl, (show RegsTo i 0 from fun j hj => by omega)⟩
  case round =>
    obtain ⟨k, hk, rfl, hf⟩ := hrel
    by_cases hlt : k < n
    · have i1 : (0 : Int) ≤ k := by omega
      have i2 : (k : Int) < n := by omega
      have i3 : (k : Int) < 3 := by omega
      have y := (HY.out k _ (get_opd i k (by omega))).1
      by_cases h0 : 0 ≤ opd i k ∧ opd i k ≤ 7
      · have HS := Lib.hid (regsTo_succ hf.out h0)
        have j1 : ¬ opd i k < 0 := by omega
        have j2 : ¬ 7 < opd i k := by omega
        clear h0
        go_wp2_with fail
        refine (qr _).mono ?_
        rintro e w1 ⟨rfl, h⟩
        cases h
        go_wp2
        go_round
        case rel => exact ⟨k + 1, by omega, by go_num, HS.out⟩
        case measure => simp [intOf]; omega
      · have HS := Lib.hid (may_no HI.out.1 HI.out.2 (by rw [HN.out]; exact hlt) h0)
        go_wp2_with fail
        refine (qr _).mono ?_
        rintro e w1 ⟨rfl, h⟩
        cases h
        rcases (show opd i k < 0 ∨ (¬ opd i k < 0 ∧ 7 < opd i k) by omega) with j1 | ⟨j1, j2⟩
        · clear h0
          go_wp2
          go_ret
          exact boolPost_mk HS.out HB.out
        · clear h0
          go_wp2
          go_ret
          exact boolPost_mk HS.out HB.out
    · obtain rfl : k = n := by omega
      have HS := Lib.hid (may_yes HI.out.1 HI.out.2 (by rw [HN.out]; exact hf.out))
      have qj := fun w => jumps_any i.1 w HI.out.1 HI.out.2
      have hj3 : jmpN i.1 = -1 ∨ jmpN i.1 = 0 ∨ jmpN i.1 = 1 := by unfold jmpN; split; exact .inr (.inl rfl); split; exact .inr (.inr rfl); exact .inl rfl
      have HJ := Lib.hid (show jmpOk i = (decide (jmpN i.1 < 0) || decide (0 ≤ opd i (jmpN i.1).toNat ∧ opd i (jmpN i.1).toNat ≤ 1000)) from rfl)
      obtain ⟨jj, hjj⟩ : ∃ jj, jmpN i.1 = jj := ⟨_, rfl⟩
      rw [hjj] at qj hj3 HJ
      clear hjj
      go_wp2_with fail
      refine (qr _).mono ?_
      rintro e w1 ⟨rfl, h⟩
      cases h
      go_wp2_with fail
      refine (qj _).mono ?_
      rintro e w2 ⟨rfl, h⟩
      cases h
      rcases hj3 with rfl | rfl | rfl
      · go_wp2
        go_ret
        exact boolPost_mk (by rw [HS.out, HJ.out]; rfl) HB.out
      · have y := (HY.out 0 _ rfl).1
        have hj : Hid (fitsI i = decide (0 ≤ i.2.1 ∧ i.2.1 ≤ 1000)) := by
          show fitsI i = _
          rw [HS.out, HJ.out]; simp [opd]
        clear HS HJ
        go_wp2
        all_goals
          go_ret
          refine boolPost_mk ?_ HB.out
          rw [hj.out, Bool.eq_iff_iff]
          simp
          try omega
      · have y := (HY.out 1 _ rfl).1
        have hj : Hid (fitsI i = decide (0 ≤ i.2.2.1 ∧ i.2.2.1 ≤ 1000)) := by
          show fitsI i = _
          rw [HS.out, HJ.out]; simp [opd]
        clear HS HJ
        go_wp2
        all_goals
          go_ret
          refine boolPost_mk ?_ HB.out
          rw [hj.out, Bool.eq_iff_iff]
          simp
          try omega
end Go.Proofs.Ytjddflnecfokaaa
