/- The law PhaseRuns, walked. -/
import Derived.Test.YtkhifcnjilbmlaaPhG
namespace Go.Proofs.Ytkhifcnjilbmlaa
open Go.ChangeShapes Go.WideShapes Go.ChangeAt Go.RowKit
open Gen

theorem phRun_good {x g : Int} {l : List Int} (h1 : phR x g = true) (h2 : phDs l = true) {y h : Int} {m : Nat} (hg : phGo l (x, g, 0) = (y, h, m)) : phRun x g l = (y, h, (m : Int), 0) := by
  simp [phRun, h1, h2, hg]

set_option maxRecDepth 100000 in
set_option maxHeartbeats 16000000 in
theorem PhaseRuns_walk (x g : Int) (a : Option Addr) (n c : Nat) (l0 : List Int) (w : World) (hz : IsVs repInt (fun z => (Lit.int .i64 z).wf = true) w a n c l0) : Calls Try.prog 4 #[.int .i64 x, .int .i64 g, .slice a n c] w fun e w' => e = .returned (.bool true) ∧ Below w.heap.size w w' := by
  obtain ⟨hnc, hc, -, V0, -⟩ := hz
  obtain ⟨m, hm⟩ : ∃ m, min n 200 = m := ⟨_, rfl⟩
  have hm200 : m ≤ 200 := by omega
  have hmn : m ≤ n := by omega
  have V := vs_take V0 m hmn
  obtain ⟨l, hl⟩ : ∃ l, l0.take m = l := ⟨_, rfl⟩
  rw [hl] at V
  have HV := Lib.hid V
  clear V V0 hl
  obtain ⟨⟨v1, v2, v3, v4⟩, hv⟩ : ∃ p, phRun x g l = p := ⟨_, rfl⟩
  obtain ⟨⟨y, h, k⟩, hgo⟩ : ∃ p, phGo l (x, g, 0) = p := ⟨_, rfl⟩
  have HRN := Lib.hid (fun (u : World) (hb : Below w.heap.size w u) => run14_any x g a m c l u hm200 (vs_B hb HV.out))
  have HDN := Lib.hid (fun (u : World) (hb : Below w.heap.size w u) => refDeeds14_any a m c l u hm200 (vs_B hb HV.out))
  have HRR := Lib.hid (fun (u : World) (hb : Below w.heap.size w u) (h1 : phR x g = true) (h2 : phDs l = true) => refRun14_any x g a m c l u h1 h2 hm200 (vs_B hb HV.out))
  rw [hv] at HRN
  rw [hgo] at HRR
  have HGO := Lib.hid hgo
  have HVV := Lib.hid hv
  clear hgo hv
  by_cases q : n ≤ 200
  · obtain rfl : m = n := by omega
    have q0 : ¬ (200 : Int) < (m : Int) := by omega
    have q1 : (m : Int) ≤ c := by omega
    clear hm q
    cases hw : phW x with
    | false =>
      have HP := Lib.hid (show v1 = 0 ∧ v2 = 0 ∧ v3 = 0 ∧ v4 = 1 by have := (phRun_bad (x := x) (g := g) (l := l) (.inl (by simp [phR, hw]))).symm.trans HVV.out; simp only [Prod.mk.injEq] at this; exact ⟨this.1.symm, this.2.1.symm, this.2.2.1.symm, this.2.2.2.symm⟩)
      obtain ⟨rfl, rfl, rfl, rfl⟩ := HP.out
      have HW := Lib.hid hw
      clear hw
      go_enter Try.func4, Try.ntmps4
      go_wp2_with fail
      refine (HRN.out _ (Below.refl _ _)).mono ?_
      rintro e w1 ⟨rfl, hb1⟩
      have HB1 := Lib.hid hb1
      clear hb1
      go_wp2_with fail
      refine (refWord14_any x _).mono ?_
      rw [HW.out]
      rintro e w2 ⟨rfl, hb2⟩
      have HB2 := Lib.hid (HB1.out.trans (hb2.mono HB1.out.size))
      clear hb2
      go_wp2_with fail
      refine (alive14_any _).mono ?_
      rintro e w3 ⟨rfl, hb3⟩
      have HB3 := Lib.hid (HB2.out.trans (hb3.mono HB2.out.size))
      clear hb3
      go_wp2
      go_ret
      exact ⟨rfl, HB3.out⟩
    | true =>
      cases hg : phG g with
      | false =>
        have HP := Lib.hid (show v1 = 0 ∧ v2 = 0 ∧ v3 = 0 ∧ v4 = 1 by have := (phRun_bad (x := x) (g := g) (l := l) (.inl (by simp [phR, hg]))).symm.trans HVV.out; simp only [Prod.mk.injEq] at this; exact ⟨this.1.symm, this.2.1.symm, this.2.2.1.symm, this.2.2.2.symm⟩)
        obtain ⟨rfl, rfl, rfl, rfl⟩ := HP.out
        have HW := Lib.hid hw
        have HG := Lib.hid hg
        clear hw hg
        go_enter Try.func4, Try.ntmps4
        go_wp2_with fail
        refine (HRN.out _ (Below.refl _ _)).mono ?_
        rintro e w1 ⟨rfl, hb1⟩
        have HB1 := Lib.hid hb1
        clear hb1
        go_wp2_with fail
        refine (refWord14_any x _).mono ?_
        rw [HW.out]
        rintro e w2 ⟨rfl, hb2⟩
        have HB2 := Lib.hid (HB1.out.trans (hb2.mono HB1.out.size))
        clear hb2
        go_wp2_with fail
        refine (refGate14_any g _).mono ?_
        rw [HG.out]
        rintro e w3 ⟨rfl, hb3⟩
        have HB3 := Lib.hid (HB2.out.trans (hb3.mono HB2.out.size))
        clear hb3
        go_wp2_with fail
        refine (alive14_any _).mono ?_
        rintro e w4 ⟨rfl, hb4⟩
        have HB4 := Lib.hid (HB3.out.trans (hb4.mono HB3.out.size))
        clear hb4
        go_wp2
        go_ret
        exact ⟨rfl, HB4.out⟩
      | true =>
        have hR : phR x g = true := by simp [phR, hw, hg]
        have HR := Lib.hid hR
        have HW := Lib.hid hw
        have HG := Lib.hid hg
        cases hd : phDs l with
        | false =>
          have HP := Lib.hid (show v1 = 0 ∧ v2 = 0 ∧ v3 = 0 ∧ v4 = 1 by have := (phRun_bad (x := x) (g := g) (l := l) (.inr hd)).symm.trans HVV.out; simp only [Prod.mk.injEq] at this; exact ⟨this.1.symm, this.2.1.symm, this.2.2.1.symm, this.2.2.2.symm⟩)
          obtain ⟨rfl, rfl, rfl, rfl⟩ := HP.out
          have HD := Lib.hid hd
          clear hw hg hd hR
          go_enter Try.func4, Try.ntmps4
          go_wp2_with fail
          refine (HRN.out _ (Below.refl _ _)).mono ?_
          rintro e w1 ⟨rfl, hb1⟩
          have HB1 := Lib.hid hb1
          clear hb1
          go_wp2_with fail
          refine (refWord14_any x _).mono ?_
          rw [HW.out]
          rintro e w2 ⟨rfl, hb2⟩
          have HB2 := Lib.hid (HB1.out.trans (hb2.mono HB1.out.size))
          clear hb2
          go_wp2_with fail
          refine (refGate14_any g _).mono ?_
          rw [HG.out]
          rintro e w3 ⟨rfl, hb3⟩
          have HB3 := Lib.hid (HB2.out.trans (hb3.mono HB2.out.size))
          clear hb3
          go_wp2_with fail
          refine (HDN.out _ HB3.out).mono ?_
          rw [HD.out]
          rintro e w4 ⟨rfl, hb4⟩
          have HB4 := Lib.hid (HB3.out.trans (hb4.mono HB3.out.size))
          clear hb4
          go_wp2_with fail
          refine (alive14_any _).mono ?_
          rintro e w5 ⟨rfl, hb5⟩
          have HB5 := Lib.hid (HB4.out.trans (hb5.mono HB4.out.size))
          clear hb5
          go_wp2
          go_ret
          exact ⟨rfl, HB5.out⟩
        | true =>
          have HD := Lib.hid hd
          obtain ⟨rfl, rfl, rfl, rfl⟩ : y = v1 ∧ h = v2 ∧ (k : Int) = v3 ∧ 0 = v4 := by
            have := (phRun_good hR hd HGO.out).symm.trans HVV.out
            simp only [Prod.mk.injEq] at this
            exact this
          clear hw hg hd hR
          go_enter Try.func4, Try.ntmps4
          go_wp2_with fail
          refine (HRN.out _ (Below.refl _ _)).mono ?_
          rintro e w1 ⟨rfl, hb1⟩
          have HB1 := Lib.hid hb1
          clear hb1
          go_wp2_with fail
          refine (refWord14_any x _).mono ?_
          rw [HW.out]
          rintro e w2 ⟨rfl, hb2⟩
          have HB2 := Lib.hid (HB1.out.trans (hb2.mono HB1.out.size))
          clear hb2
          go_wp2_with fail
          refine (refGate14_any g _).mono ?_
          rw [HG.out]
          rintro e w3 ⟨rfl, hb3⟩
          have HB3 := Lib.hid (HB2.out.trans (hb3.mono HB2.out.size))
          clear hb3
          go_wp2_with fail
          refine (HDN.out _ HB3.out).mono ?_
          rw [HD.out]
          rintro e w4 ⟨rfl, hb4⟩
          have HB4 := Lib.hid (HB3.out.trans (hb4.mono HB3.out.size))
          clear hb4
          go_wp2_with fail
          refine (HRR.out _ HB4.out HR.out HD.out).mono ?_
          rintro e w5 ⟨rfl, hb5⟩
          have HB5 := Lib.hid (HB4.out.trans (hb5.mono HB4.out.size))
          clear hb5
          go_wp2_with fail
          refine (alive14_any _).mono ?_
          rintro e w6 ⟨rfl, hb6⟩
          have HB6 := Lib.hid (HB5.out.trans (hb6.mono HB5.out.size))
          clear hb6
          go_wp2
          go_ret
          exact ⟨rfl, HB6.out⟩
  · obtain rfl : m = 200 := by omega
    have q0 : (200 : Int) < (n : Int) := by omega
    have q1 : (200 : Int) ≤ c := by omega
    clear hm q
    cases hw : phW x with
    | false =>
      have HP := Lib.hid (show v1 = 0 ∧ v2 = 0 ∧ v3 = 0 ∧ v4 = 1 by have := (phRun_bad (x := x) (g := g) (l := l) (.inl (by simp [phR, hw]))).symm.trans HVV.out; simp only [Prod.mk.injEq] at this; exact ⟨this.1.symm, this.2.1.symm, this.2.2.1.symm, this.2.2.2.symm⟩)
      obtain ⟨rfl, rfl, rfl, rfl⟩ := HP.out
      have HW := Lib.hid hw
      clear hw
      go_enter Try.func4, Try.ntmps4
      go_wp2_with fail
      refine (HRN.out _ (Below.refl _ _)).mono ?_
      rintro e w1 ⟨rfl, hb1⟩
      have HB1 := Lib.hid hb1
      clear hb1
      go_wp2_with fail
      refine (refWord14_any x _).mono ?_
      rw [HW.out]
      rintro e w2 ⟨rfl, hb2⟩
      have HB2 := Lib.hid (HB1.out.trans (hb2.mono HB1.out.size))
      clear hb2
      go_wp2_with fail
      refine (alive14_any _).mono ?_
      rintro e w3 ⟨rfl, hb3⟩
      have HB3 := Lib.hid (HB2.out.trans (hb3.mono HB2.out.size))
      clear hb3
      go_wp2
      go_ret
      exact ⟨rfl, HB3.out⟩
    | true =>
      cases hg : phG g with
      | false =>
        have HP := Lib.hid (show v1 = 0 ∧ v2 = 0 ∧ v3 = 0 ∧ v4 = 1 by have := (phRun_bad (x := x) (g := g) (l := l) (.inl (by simp [phR, hg]))).symm.trans HVV.out; simp only [Prod.mk.injEq] at this; exact ⟨this.1.symm, this.2.1.symm, this.2.2.1.symm, this.2.2.2.symm⟩)
        obtain ⟨rfl, rfl, rfl, rfl⟩ := HP.out
        have HW := Lib.hid hw
        have HG := Lib.hid hg
        clear hw hg
        go_enter Try.func4, Try.ntmps4
        go_wp2_with fail
        refine (HRN.out _ (Below.refl _ _)).mono ?_
        rintro e w1 ⟨rfl, hb1⟩
        have HB1 := Lib.hid hb1
        clear hb1
        go_wp2_with fail
        refine (refWord14_any x _).mono ?_
        rw [HW.out]
        rintro e w2 ⟨rfl, hb2⟩
        have HB2 := Lib.hid (HB1.out.trans (hb2.mono HB1.out.size))
        clear hb2
        go_wp2_with fail
        refine (refGate14_any g _).mono ?_
        rw [HG.out]
        rintro e w3 ⟨rfl, hb3⟩
        have HB3 := Lib.hid (HB2.out.trans (hb3.mono HB2.out.size))
        clear hb3
        go_wp2_with fail
        refine (alive14_any _).mono ?_
        rintro e w4 ⟨rfl, hb4⟩
        have HB4 := Lib.hid (HB3.out.trans (hb4.mono HB3.out.size))
        clear hb4
        go_wp2
        go_ret
        exact ⟨rfl, HB4.out⟩
      | true =>
        have hR : phR x g = true := by simp [phR, hw, hg]
        have HR := Lib.hid hR
        have HW := Lib.hid hw
        have HG := Lib.hid hg
        cases hd : phDs l with
        | false =>
          have HP := Lib.hid (show v1 = 0 ∧ v2 = 0 ∧ v3 = 0 ∧ v4 = 1 by have := (phRun_bad (x := x) (g := g) (l := l) (.inr hd)).symm.trans HVV.out; simp only [Prod.mk.injEq] at this; exact ⟨this.1.symm, this.2.1.symm, this.2.2.1.symm, this.2.2.2.symm⟩)
          obtain ⟨rfl, rfl, rfl, rfl⟩ := HP.out
          have HD := Lib.hid hd
          clear hw hg hd hR
          go_enter Try.func4, Try.ntmps4
          go_wp2_with fail
          refine (HRN.out _ (Below.refl _ _)).mono ?_
          rintro e w1 ⟨rfl, hb1⟩
          have HB1 := Lib.hid hb1
          clear hb1
          go_wp2_with fail
          refine (refWord14_any x _).mono ?_
          rw [HW.out]
          rintro e w2 ⟨rfl, hb2⟩
          have HB2 := Lib.hid (HB1.out.trans (hb2.mono HB1.out.size))
          clear hb2
          go_wp2_with fail
          refine (refGate14_any g _).mono ?_
          rw [HG.out]
          rintro e w3 ⟨rfl, hb3⟩
          have HB3 := Lib.hid (HB2.out.trans (hb3.mono HB2.out.size))
          clear hb3
          go_wp2_with fail
          refine (HDN.out _ HB3.out).mono ?_
          rw [HD.out]
          rintro e w4 ⟨rfl, hb4⟩
          have HB4 := Lib.hid (HB3.out.trans (hb4.mono HB3.out.size))
          clear hb4
          go_wp2_with fail
          refine (alive14_any _).mono ?_
          rintro e w5 ⟨rfl, hb5⟩
          have HB5 := Lib.hid (HB4.out.trans (hb5.mono HB4.out.size))
          clear hb5
          go_wp2
          go_ret
          exact ⟨rfl, HB5.out⟩
        | true =>
          have HD := Lib.hid hd
          obtain ⟨rfl, rfl, rfl, rfl⟩ : y = v1 ∧ h = v2 ∧ (k : Int) = v3 ∧ 0 = v4 := by
            have := (phRun_good hR hd HGO.out).symm.trans HVV.out
            simp only [Prod.mk.injEq] at this
            exact this
          clear hw hg hd hR
          go_enter Try.func4, Try.ntmps4
          go_wp2_with fail
          refine (HRN.out _ (Below.refl _ _)).mono ?_
          rintro e w1 ⟨rfl, hb1⟩
          have HB1 := Lib.hid hb1
          clear hb1
          go_wp2_with fail
          refine (refWord14_any x _).mono ?_
          rw [HW.out]
          rintro e w2 ⟨rfl, hb2⟩
          have HB2 := Lib.hid (HB1.out.trans (hb2.mono HB1.out.size))
          clear hb2
          go_wp2_with fail
          refine (refGate14_any g _).mono ?_
          rw [HG.out]
          rintro e w3 ⟨rfl, hb3⟩
          have HB3 := Lib.hid (HB2.out.trans (hb3.mono HB2.out.size))
          clear hb3
          go_wp2_with fail
          refine (HDN.out _ HB3.out).mono ?_
          rw [HD.out]
          rintro e w4 ⟨rfl, hb4⟩
          have HB4 := Lib.hid (HB3.out.trans (hb4.mono HB3.out.size))
          clear hb4
          go_wp2_with fail
          refine (HRR.out _ HB4.out HR.out HD.out).mono ?_
          rintro e w5 ⟨rfl, hb5⟩
          have HB5 := Lib.hid (HB4.out.trans (hb5.mono HB4.out.size))
          clear hb5
          go_wp2_with fail
          refine (alive14_any _).mono ?_
          rintro e w6 ⟨rfl, hb6⟩
          have HB6 := Lib.hid (HB5.out.trans (hb6.mono HB5.out.size))
          clear hb6
          go_wp2
          go_ret
          exact ⟨rfl, HB6.out⟩
end Go.Proofs.Ytkhifcnjilbmlaa
