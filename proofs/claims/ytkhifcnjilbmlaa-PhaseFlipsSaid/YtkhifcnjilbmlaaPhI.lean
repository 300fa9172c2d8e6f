/- The law PhaseFlips, walked. -/
import Derived.Test.YtkhifcnjilbmlaaPhC
namespace Go.Proofs.Ytkhifcnjilbmlaa
open Go.ChangeShapes Go.WideShapes Go.ChangeAt Go.RowKit
open Gen

theorem phOld_out {x g : Int} (hr : phR x g = true) (h : ¬ 0 < x % 64) : phOld x g = (false, 0) := by
  have : phOldB x g = false := by simp [phOldB, h]
  simp [phOld, hr, this]
theorem phOld_in {x g y : Int} (hr : phR x g = true) (h : 0 < x % 64) (hy : g - g % 64 = y) : phOld x g = (x - x % 64 != y, 0) := by
  have : phOldB x g = (x - x % 64 != y) := by simp [phOldB, h, hy]
  simp [phOld, hr, this]

set_option maxRecDepth 100000 in
set_option maxHeartbeats 16000000 in
theorem PhaseFlips_walk (x g : Int) (w : World) : Calls Try.prog 6 #[.int .i64 x, .int .i64 g] w fun e w' => e = .returned (.bool true) ∧ Below w.heap.size w w' := by
  cases hg : phG g with
  | false =>
    have HF := Lib.hid (show phFlip g = (0, 1) by simp [phFlip, hg])
    have HF0 := Lib.hid (show phFlip 0 = (0, 1) by decide)
    clear hg
    go_enter Try.func6, Try.ntmps6
    go_wp2_with fail
    refine (flip14_any g _).mono ?_
    rw [HF.out]
    rintro e w1 ⟨rfl, hb1⟩
    have HB1 := Lib.hid hb1
    clear hb1
    go_wp2_with fail
    refine (flip14_any 0 _).mono ?_
    rw [HF0.out]
    rintro e w2 ⟨rfl, hb2⟩
    have HB2 := Lib.hid (HB1.out.trans (hb2.mono HB1.out.size))
    clear hb2
    go_wp2_with fail
    refine (alive14_any _).mono ?_
    rintro e w3 ⟨rfl, hb3⟩
    have HB3 := Lib.hid (HB2.out.trans (hb3.mono HB2.out.size))
    clear hb3
    go_wp2
    go_ret
    exact ⟨rfl, HB3.out⟩
  | true =>
    have h1 : phFlip 1 = (65, 0) := by decide
    have h65 : phFlip 65 = (1, 0) := by decide
    rcases phG_t hg with rfl | rfl
    · have HF := Lib.hid h1
      have HF2 := Lib.hid h65
      clear h1 h65 hg
      cases hw : phW x with
      | false =>
        have HO1 := Lib.hid (show phOld x 65 = (false, 1) by simp [phOld, phR, hw])
        have HO2 := Lib.hid (show phOld x 1 = (false, 1) by simp [phOld, phR, hw])
        clear hw
        go_enter Try.func6, Try.ntmps6
        go_wp2_with fail
        refine (flip14_any 1 _).mono ?_
        rw [HF.out]
        rintro e w1 ⟨rfl, hb1⟩
        have HB1 := Lib.hid hb1
        clear hb1
        go_wp2_with fail
        refine (flip14_any 65 _).mono ?_
        rw [HF2.out]
        rintro e w2 ⟨rfl, hb2⟩
        have HB2 := Lib.hid (HB1.out.trans (hb2.mono HB1.out.size))
        clear hb2
        go_wp2_with fail
        refine (alive14_any _).mono ?_
        rintro e w3 ⟨rfl, hb3⟩
        have HB3 := Lib.hid (HB2.out.trans (hb3.mono HB2.out.size))
        clear hb3
        go_wp2_with fail
        refine (old14_any x 65 _).mono ?_
        rw [HO1.out]
        rintro e w4 ⟨rfl, hb4⟩
        have HB4 := Lib.hid (HB3.out.trans (hb4.mono HB3.out.size))
        clear hb4
        go_wp2_with fail
        refine (old14_any x 1 _).mono ?_
        rw [HO2.out]
        rintro e w5 ⟨rfl, hb5⟩
        have HB5 := Lib.hid (HB4.out.trans (hb5.mono HB4.out.size))
        clear hb5
        go_wp2
        go_ret
        exact ⟨rfl, HB5.out⟩
      | true =>
        have hx := phW_t hw
        have hR1 : phR x 65 = true := by simp only [phR, hw]; decide
        have hR2 : phR x 1 = true := by simp only [phR, hw]; decide
        have hb63 := ph63 hx
        have hb64 := ph64 hx
        have hy : x - x % 64 = 0 ∨ x - x % 64 = 64 := by omega
        have HEN := Lib.hid (show phEnter (bits .and .i64 x 64) 65 = (65, 0) by rw [hb64]; rcases hy with h | h <;> (rw [h]; decide))
        have HON := Lib.hid (show phOld 65 65 = (false, 0) by decide)
        by_cases h0 : 0 < x % 64
        · have e0 : decide (0 < bits .and .i64 x 63) = true := by rw [hb63]; simp [h0]
          rcases hy with h | h
          · have HO1 := Lib.hid (show phOld x 65 = (true, 0) by rw [phOld_in hR1 h0 rfl, h]; decide)
            have HO2 := Lib.hid (show phOld x 1 = (false, 0) by rw [phOld_in hR2 h0 rfl, h]; decide)
            clear hw hR1 hR2 hb63 hb64 h0 h
            go_enter Try.func6, Try.ntmps6
            go_wp2_with fail
            refine (flip14_any 1 _).mono ?_
            rw [HF.out]
            rintro e w1 ⟨rfl, hb1⟩
            have HB1 := Lib.hid hb1
            clear hb1
            go_wp2_with fail
            refine (flip14_any 65 _).mono ?_
            rw [HF2.out]
            rintro e w2 ⟨rfl, hb2⟩
            have HB2 := Lib.hid (HB1.out.trans (hb2.mono HB1.out.size))
            clear hb2
            go_wp2_with fail
            refine (alive14_any _).mono ?_
            rintro e w3 ⟨rfl, hb3⟩
            have HB3 := Lib.hid (HB2.out.trans (hb3.mono HB2.out.size))
            clear hb3
            go_wp2_with fail
            refine (old14_any x 65 _).mono ?_
            rw [HO1.out]
            rintro e w4 ⟨rfl, hb4⟩
            have HB4 := Lib.hid (HB3.out.trans (hb4.mono HB3.out.size))
            clear hb4
            go_wp2_with fail
            refine (old14_any x 1 _).mono ?_
            rw [HO2.out]
            rintro e w5 ⟨rfl, hb5⟩
            have HB5 := Lib.hid (HB4.out.trans (hb5.mono HB4.out.size))
            clear hb5
            go_wp2_with fail
            refine (enter14_any _ 65 _).mono ?_
            rw [HEN.out]
            rintro e w6 ⟨rfl, hb6⟩
            have HB6 := Lib.hid (HB5.out.trans (hb6.mono HB5.out.size))
            clear hb6
            go_wp2_with fail
            refine (old14_any 65 65 _).mono ?_
            rw [HON.out]
            rintro e w7 ⟨rfl, hb7⟩
            have HB7 := Lib.hid (HB6.out.trans (hb7.mono HB6.out.size))
            clear hb7
            go_wp2
            go_ret
            exact ⟨rfl, HB7.out⟩
          · have HO1 := Lib.hid (show phOld x 65 = (false, 0) by rw [phOld_in hR1 h0 rfl, h]; decide)
            have HO2 := Lib.hid (show phOld x 1 = (true, 0) by rw [phOld_in hR2 h0 rfl, h]; decide)
            clear hw hR1 hR2 hb63 hb64 h0 h
            go_enter Try.func6, Try.ntmps6
            go_wp2_with fail
            refine (flip14_any 1 _).mono ?_
            rw [HF.out]
            rintro e w1 ⟨rfl, hb1⟩
            have HB1 := Lib.hid hb1
            clear hb1
            go_wp2_with fail
            refine (flip14_any 65 _).mono ?_
            rw [HF2.out]
            rintro e w2 ⟨rfl, hb2⟩
            have HB2 := Lib.hid (HB1.out.trans (hb2.mono HB1.out.size))
            clear hb2
            go_wp2_with fail
            refine (alive14_any _).mono ?_
            rintro e w3 ⟨rfl, hb3⟩
            have HB3 := Lib.hid (HB2.out.trans (hb3.mono HB2.out.size))
            clear hb3
            go_wp2_with fail
            refine (old14_any x 65 _).mono ?_
            rw [HO1.out]
            rintro e w4 ⟨rfl, hb4⟩
            have HB4 := Lib.hid (HB3.out.trans (hb4.mono HB3.out.size))
            clear hb4
            go_wp2_with fail
            refine (old14_any x 1 _).mono ?_
            rw [HO2.out]
            rintro e w5 ⟨rfl, hb5⟩
            have HB5 := Lib.hid (HB4.out.trans (hb5.mono HB4.out.size))
            clear hb5
            go_wp2_with fail
            refine (enter14_any _ 65 _).mono ?_
            rw [HEN.out]
            rintro e w6 ⟨rfl, hb6⟩
            have HB6 := Lib.hid (HB5.out.trans (hb6.mono HB5.out.size))
            clear hb6
            go_wp2_with fail
            refine (old14_any 65 65 _).mono ?_
            rw [HON.out]
            rintro e w7 ⟨rfl, hb7⟩
            have HB7 := Lib.hid (HB6.out.trans (hb7.mono HB6.out.size))
            clear hb7
            go_wp2
            go_ret
            exact ⟨rfl, HB7.out⟩
        · have e0 : decide (0 < bits .and .i64 x 63) = false := by rw [hb63]; simp; omega
          have HO1 := Lib.hid (phOld_out hR1 h0)
          have HO2 := Lib.hid (phOld_out hR2 h0)
          clear hw hR1 hR2 hb63 hb64 h0 hy
          go_enter Try.func6, Try.ntmps6
          go_wp2_with fail
          refine (flip14_any 1 _).mono ?_
          rw [HF.out]
          rintro e w1 ⟨rfl, hb1⟩
          have HB1 := Lib.hid hb1
          clear hb1
          go_wp2_with fail
          refine (flip14_any 65 _).mono ?_
          rw [HF2.out]
          rintro e w2 ⟨rfl, hb2⟩
          have HB2 := Lib.hid (HB1.out.trans (hb2.mono HB1.out.size))
          clear hb2
          go_wp2_with fail
          refine (alive14_any _).mono ?_
          rintro e w3 ⟨rfl, hb3⟩
          have HB3 := Lib.hid (HB2.out.trans (hb3.mono HB2.out.size))
          clear hb3
          go_wp2_with fail
          refine (old14_any x 65 _).mono ?_
          rw [HO1.out]
          rintro e w4 ⟨rfl, hb4⟩
          have HB4 := Lib.hid (HB3.out.trans (hb4.mono HB3.out.size))
          clear hb4
          go_wp2_with fail
          refine (old14_any x 1 _).mono ?_
          rw [HO2.out]
          rintro e w5 ⟨rfl, hb5⟩
          have HB5 := Lib.hid (HB4.out.trans (hb5.mono HB4.out.size))
          clear hb5
          go_wp2_with fail
          refine (enter14_any _ 65 _).mono ?_
          rw [HEN.out]
          rintro e w6 ⟨rfl, hb6⟩
          have HB6 := Lib.hid (HB5.out.trans (hb6.mono HB5.out.size))
          clear hb6
          go_wp2_with fail
          refine (old14_any 65 65 _).mono ?_
          rw [HON.out]
          rintro e w7 ⟨rfl, hb7⟩
          have HB7 := Lib.hid (HB6.out.trans (hb7.mono HB6.out.size))
          clear hb7
          go_wp2
          go_ret
          exact ⟨rfl, HB7.out⟩
    · have HF := Lib.hid h65
      have HF2 := Lib.hid h1
      clear h1 h65 hg
      cases hw : phW x with
      | false =>
        have HO1 := Lib.hid (show phOld x 1 = (false, 1) by simp [phOld, phR, hw])
        have HO2 := Lib.hid (show phOld x 65 = (false, 1) by simp [phOld, phR, hw])
        clear hw
        go_enter Try.func6, Try.ntmps6
        go_wp2_with fail
        refine (flip14_any 65 _).mono ?_
        rw [HF.out]
        rintro e w1 ⟨rfl, hb1⟩
        have HB1 := Lib.hid hb1
        clear hb1
        go_wp2_with fail
        refine (flip14_any 1 _).mono ?_
        rw [HF2.out]
        rintro e w2 ⟨rfl, hb2⟩
        have HB2 := Lib.hid (HB1.out.trans (hb2.mono HB1.out.size))
        clear hb2
        go_wp2_with fail
        refine (alive14_any _).mono ?_
        rintro e w3 ⟨rfl, hb3⟩
        have HB3 := Lib.hid (HB2.out.trans (hb3.mono HB2.out.size))
        clear hb3
        go_wp2_with fail
        refine (old14_any x 1 _).mono ?_
        rw [HO1.out]
        rintro e w4 ⟨rfl, hb4⟩
        have HB4 := Lib.hid (HB3.out.trans (hb4.mono HB3.out.size))
        clear hb4
        go_wp2_with fail
        refine (old14_any x 65 _).mono ?_
        rw [HO2.out]
        rintro e w5 ⟨rfl, hb5⟩
        have HB5 := Lib.hid (HB4.out.trans (hb5.mono HB4.out.size))
        clear hb5
        go_wp2
        go_ret
        exact ⟨rfl, HB5.out⟩
      | true =>
        have hx := phW_t hw
        have hR1 : phR x 1 = true := by simp only [phR, hw]; decide
        have hR2 : phR x 65 = true := by simp only [phR, hw]; decide
        have hb63 := ph63 hx
        have hb64 := ph64 hx
        have hy : x - x % 64 = 0 ∨ x - x % 64 = 64 := by omega
        have HEN := Lib.hid (show phEnter (bits .and .i64 x 64) 1 = (1, 0) by rw [hb64]; rcases hy with h | h <;> (rw [h]; decide))
        have HON := Lib.hid (show phOld 1 1 = (false, 0) by decide)
        by_cases h0 : 0 < x % 64
        · have e0 : decide (0 < bits .and .i64 x 63) = true := by rw [hb63]; simp [h0]
          rcases hy with h | h
          · have HO1 := Lib.hid (show phOld x 1 = (false, 0) by rw [phOld_in hR1 h0 rfl, h]; decide)
            have HO2 := Lib.hid (show phOld x 65 = (true, 0) by rw [phOld_in hR2 h0 rfl, h]; decide)
            clear hw hR1 hR2 hb63 hb64 h0 h
            go_enter Try.func6, Try.ntmps6
            go_wp2_with fail
            refine (flip14_any 65 _).mono ?_
            rw [HF.out]
            rintro e w1 ⟨rfl, hb1⟩
            have HB1 := Lib.hid hb1
            clear hb1
            go_wp2_with fail
            refine (flip14_any 1 _).mono ?_
            rw [HF2.out]
            rintro e w2 ⟨rfl, hb2⟩
            have HB2 := Lib.hid (HB1.out.trans (hb2.mono HB1.out.size))
            clear hb2
            go_wp2_with fail
            refine (alive14_any _).mono ?_
            rintro e w3 ⟨rfl, hb3⟩
            have HB3 := Lib.hid (HB2.out.trans (hb3.mono HB2.out.size))
            clear hb3
            go_wp2_with fail
            refine (old14_any x 1 _).mono ?_
            rw [HO1.out]
            rintro e w4 ⟨rfl, hb4⟩
            have HB4 := Lib.hid (HB3.out.trans (hb4.mono HB3.out.size))
            clear hb4
            go_wp2_with fail
            refine (old14_any x 65 _).mono ?_
            rw [HO2.out]
            rintro e w5 ⟨rfl, hb5⟩
            have HB5 := Lib.hid (HB4.out.trans (hb5.mono HB4.out.size))
            clear hb5
            go_wp2_with fail
            refine (enter14_any _ 1 _).mono ?_
            rw [HEN.out]
            rintro e w6 ⟨rfl, hb6⟩
            have HB6 := Lib.hid (HB5.out.trans (hb6.mono HB5.out.size))
            clear hb6
            go_wp2_with fail
            refine (old14_any 1 1 _).mono ?_
            rw [HON.out]
            rintro e w7 ⟨rfl, hb7⟩
            have HB7 := Lib.hid (HB6.out.trans (hb7.mono HB6.out.size))
            clear hb7
            go_wp2
            go_ret
            exact ⟨rfl, HB7.out⟩
          · have HO1 := Lib.hid (show phOld x 1 = (true, 0) by rw [phOld_in hR1 h0 rfl, h]; decide)
            have HO2 := Lib.hid (show phOld x 65 = (false, 0) by rw [phOld_in hR2 h0 rfl, h]; decide)
            clear hw hR1 hR2 hb63 hb64 h0 h
            go_enter Try.func6, Try.ntmps6
            go_wp2_with fail
            refine (flip14_any 65 _).mono ?_
            rw [HF.out]
            rintro e w1 ⟨rfl, hb1⟩
            have HB1 := Lib.hid hb1
            clear hb1
            go_wp2_with fail
            refine (flip14_any 1 _).mono ?_
            rw [HF2.out]
            rintro e w2 ⟨rfl, hb2⟩
            have HB2 := Lib.hid (HB1.out.trans (hb2.mono HB1.out.size))
            clear hb2
            go_wp2_with fail
            refine (alive14_any _).mono ?_
            rintro e w3 ⟨rfl, hb3⟩
            have HB3 := Lib.hid (HB2.out.trans (hb3.mono HB2.out.size))
            clear hb3
            go_wp2_with fail
            refine (old14_any x 1 _).mono ?_
            rw [HO1.out]
            rintro e w4 ⟨rfl, hb4⟩
            have HB4 := Lib.hid (HB3.out.trans (hb4.mono HB3.out.size))
            clear hb4
            go_wp2_with fail
            refine (old14_any x 65 _).mono ?_
            rw [HO2.out]
            rintro e w5 ⟨rfl, hb5⟩
            have HB5 := Lib.hid (HB4.out.trans (hb5.mono HB4.out.size))
            clear hb5
            go_wp2_with fail
            refine (enter14_any _ 1 _).mono ?_
            rw [HEN.out]
            rintro e w6 ⟨rfl, hb6⟩
            have HB6 := Lib.hid (HB5.out.trans (hb6.mono HB5.out.size))
            clear hb6
            go_wp2_with fail
            refine (old14_any 1 1 _).mono ?_
            rw [HON.out]
            rintro e w7 ⟨rfl, hb7⟩
            have HB7 := Lib.hid (HB6.out.trans (hb7.mono HB6.out.size))
            clear hb7
            go_wp2
            go_ret
            exact ⟨rfl, HB7.out⟩
        · have e0 : decide (0 < bits .and .i64 x 63) = false := by rw [hb63]; simp; omega
          have HO1 := Lib.hid (phOld_out hR1 h0)
          have HO2 := Lib.hid (phOld_out hR2 h0)
          clear hw hR1 hR2 hb63 hb64 h0 hy
          go_enter Try.func6, Try.ntmps6
          go_wp2_with fail
          refine (flip14_any 65 _).mono ?_
          rw [HF.out]
          rintro e w1 ⟨rfl, hb1⟩
          have HB1 := Lib.hid hb1
          clear hb1
          go_wp2_with fail
          refine (flip14_any 1 _).mono ?_
          rw [HF2.out]
          rintro e w2 ⟨rfl, hb2⟩
          have HB2 := Lib.hid (HB1.out.trans (hb2.mono HB1.out.size))
          clear hb2
          go_wp2_with fail
          refine (alive14_any _).mono ?_
          rintro e w3 ⟨rfl, hb3⟩
          have HB3 := Lib.hid (HB2.out.trans (hb3.mono HB2.out.size))
          clear hb3
          go_wp2_with fail
          refine (old14_any x 1 _).mono ?_
          rw [HO1.out]
          rintro e w4 ⟨rfl, hb4⟩
          have HB4 := Lib.hid (HB3.out.trans (hb4.mono HB3.out.size))
          clear hb4
          go_wp2_with fail
          refine (old14_any x 65 _).mono ?_
          rw [HO2.out]
          rintro e w5 ⟨rfl, hb5⟩
          have HB5 := Lib.hid (HB4.out.trans (hb5.mono HB4.out.size))
          clear hb5
          go_wp2_with fail
          refine (enter14_any _ 1 _).mono ?_
          rw [HEN.out]
          rintro e w6 ⟨rfl, hb6⟩
          have HB6 := Lib.hid (HB5.out.trans (hb6.mono HB5.out.size))
          clear hb6
          go_wp2_with fail
          refine (old14_any 1 1 _).mono ?_
          rw [HON.out]
          rintro e w7 ⟨rfl, hb7⟩
          have HB7 := Lib.hid (HB6.out.trans (hb7.mono HB6.out.size))
          clear hb7
          go_wp2
          go_ret
          exact ⟨rfl, HB7.out⟩
end Go.Proofs.Ytkhifcnjilbmlaa
