/- The law PhaseMoves, walked. -/
import Derived.Test.YtkhifcnjilbmlaaPhC
namespace Go.Proofs.Ytkhifcnjilbmlaa
open Go.ChangeShapes Go.WideShapes Go.ChangeAt Go.RowKit
open Gen

set_option maxRecDepth 100000 in
set_option maxHeartbeats 16000000 in
theorem PhaseMoves_walk (x g : Int) (w : World) : Calls Try.prog 3 #[.int .i64 x, .int .i64 g] w fun e w' => e = .returned (.bool true) ∧ Below w.heap.size w w' := by
  cases hw : phW x with
  | false =>
    have hR : phR x g = false := by simp [phR, hw]
    have HE := Lib.hid (show phEnter x g = (0, 1) by simp [phEnter, hR])
    have HO := Lib.hid (show phOld x g = (false, 1) by simp [phOld, hR])
    have HL := Lib.hid (show phLeave x = (0, 1) by simp [phLeave, hw])
    have HW := Lib.hid hw
    cases hg : phG g with
    | false =>
      have HF := Lib.hid (show phFlip g = (0, 1) by simp [phFlip, hg])
      have HG := Lib.hid hg
      clear hw hg hR
      go_enter Try.func3, Try.ntmps3
      go_wp2_with fail
      refine (enter14_any x g _).mono ?_
      rw [HE.out]
      rintro e w1 ⟨rfl, hb1⟩
      have HB1 := Lib.hid hb1
      clear hb1
      go_wp2_with fail
      refine (leave14_any x _).mono ?_
      rw [HL.out]
      rintro e w2 ⟨rfl, hb2⟩
      have HB2 := Lib.hid (HB1.out.trans (hb2.mono HB1.out.size))
      clear hb2
      go_wp2_with fail
      refine (flip14_any g _).mono ?_
      rw [HF.out]
      rintro e w3 ⟨rfl, hb3⟩
      have HB3 := Lib.hid (HB2.out.trans (hb3.mono HB2.out.size))
      clear hb3
      go_wp2_with fail
      refine (old14_any x g _).mono ?_
      rw [HO.out]
      rintro e w4 ⟨rfl, hb4⟩
      have HB4 := Lib.hid (HB3.out.trans (hb4.mono HB3.out.size))
      clear hb4
      go_wp2_with fail
      refine (alive14_any _).mono ?_
      rintro e w5 ⟨rfl, hb5⟩
      have HB5 := Lib.hid (HB4.out.trans (hb5.mono HB4.out.size))
      clear hb5
      go_wp2_with fail
      refine (refGate14_any g _).mono ?_
      rw [HG.out]
      rintro e w6 ⟨rfl, hb6⟩
      have HB6 := Lib.hid (HB5.out.trans (hb6.mono HB5.out.size))
      clear hb6
      go_wp2_with fail
      refine (refWord14_any x _).mono ?_
      rw [HW.out]
      rintro e w7 ⟨rfl, hb7⟩
      have HB7 := Lib.hid (HB6.out.trans (hb7.mono HB6.out.size))
      clear hb7
      go_wp2
      go_ret
      exact ⟨rfl, HB7.out⟩
    | true =>
      have hg2 := phG_t hg
      have HF := Lib.hid (phFlip_ok14 hg2)
      have HG := Lib.hid hg
      clear hw hg hR
      go_enter Try.func3, Try.ntmps3
      go_wp2_with fail
      refine (enter14_any x g _).mono ?_
      rw [HE.out]
      rintro e w1 ⟨rfl, hb1⟩
      have HB1 := Lib.hid hb1
      clear hb1
      go_wp2_with fail
      refine (leave14_any x _).mono ?_
      rw [HL.out]
      rintro e w2 ⟨rfl, hb2⟩
      have HB2 := Lib.hid (HB1.out.trans (hb2.mono HB1.out.size))
      clear hb2
      go_wp2_with fail
      refine (flip14_any g _).mono ?_
      rw [HF.out]
      rintro e w3 ⟨rfl, hb3⟩
      have HB3 := Lib.hid (HB2.out.trans (hb3.mono HB2.out.size))
      clear hb3
      go_wp2_with fail
      refine (old14_any x g _).mono ?_
      rw [HO.out]
      rintro e w4 ⟨rfl, hb4⟩
      have HB4 := Lib.hid (HB3.out.trans (hb4.mono HB3.out.size))
      clear hb4
      go_wp2_with fail
      refine (alive14_any _).mono ?_
      rintro e w5 ⟨rfl, hb5⟩
      have HB5 := Lib.hid (HB4.out.trans (hb5.mono HB4.out.size))
      clear hb5
      go_wp2_with fail
      refine (refGate14_any g _).mono ?_
      rw [HG.out]
      rintro e w6 ⟨rfl, hb6⟩
      have HB6 := Lib.hid (HB5.out.trans (hb6.mono HB5.out.size))
      clear hb6
      go_wp2_with fail
      refine (refFlip14_any g hg2 _).mono ?_
      rintro e w7 ⟨rfl, hb7⟩
      have HB7 := Lib.hid (HB6.out.trans (hb7.mono HB6.out.size))
      clear hb7
      go_wp2_with fail
      refine (refWord14_any x _).mono ?_
      rw [HW.out]
      rintro e w8 ⟨rfl, hb8⟩
      have HB8 := Lib.hid (HB7.out.trans (hb8.mono HB7.out.size))
      clear hb8
      go_wp2
      go_ret
      exact ⟨rfl, HB8.out⟩
  | true =>
    obtain ⟨⟨b, f⟩, hl⟩ : ∃ p, phLeave x = p := ⟨_, rfl⟩
    have HL := Lib.hid hl
    have HLR := Lib.hid (fun w => refLeave14_any x hw w)
    rw [hl] at HLR
    have HW := Lib.hid hw
    cases hg : phG g with
    | false =>
      have hR : phR x g = false := by simp [phR, hg]
      have HE := Lib.hid (show phEnter x g = (0, 1) by simp [phEnter, hR])
      have HO := Lib.hid (show phOld x g = (false, 1) by simp [phOld, hR])
      have HF := Lib.hid (show phFlip g = (0, 1) by simp [phFlip, hg])
      have HG := Lib.hid hg
      clear hw hg hR hl
      go_enter Try.func3, Try.ntmps3
      go_wp2_with fail
      refine (enter14_any x g _).mono ?_
      rw [HE.out]
      rintro e w1 ⟨rfl, hb1⟩
      have HB1 := Lib.hid hb1
      clear hb1
      go_wp2_with fail
      refine (leave14_any x _).mono ?_
      rw [HL.out]
      rintro e w2 ⟨rfl, hb2⟩
      have HB2 := Lib.hid (HB1.out.trans (hb2.mono HB1.out.size))
      clear hb2
      go_wp2_with fail
      refine (flip14_any g _).mono ?_
      rw [HF.out]
      rintro e w3 ⟨rfl, hb3⟩
      have HB3 := Lib.hid (HB2.out.trans (hb3.mono HB2.out.size))
      clear hb3
      go_wp2_with fail
      refine (old14_any x g _).mono ?_
      rw [HO.out]
      rintro e w4 ⟨rfl, hb4⟩
      have HB4 := Lib.hid (HB3.out.trans (hb4.mono HB3.out.size))
      clear hb4
      go_wp2_with fail
      refine (alive14_any _).mono ?_
      rintro e w5 ⟨rfl, hb5⟩
      have HB5 := Lib.hid (HB4.out.trans (hb5.mono HB4.out.size))
      clear hb5
      go_wp2_with fail
      refine (refGate14_any g _).mono ?_
      rw [HG.out]
      rintro e w6 ⟨rfl, hb6⟩
      have HB6 := Lib.hid (HB5.out.trans (hb6.mono HB5.out.size))
      clear hb6
      go_wp2_with fail
      refine (refWord14_any x _).mono ?_
      rw [HW.out]
      rintro e w7 ⟨rfl, hb7⟩
      have HB7 := Lib.hid (HB6.out.trans (hb7.mono HB6.out.size))
      clear hb7
      go_wp2_with fail
      refine (HLR.out _).mono ?_
      rintro e w8 ⟨rfl, hb8⟩
      have HB8 := Lib.hid (HB7.out.trans (hb8.mono HB7.out.size))
      clear hb8
      go_wp2_with fail
      refine (refGate14_any g _).mono ?_
      rw [HG.out]
      rintro e w9 ⟨rfl, hb9⟩
      have HB9 := Lib.hid (HB8.out.trans (hb9.mono HB8.out.size))
      clear hb9
      go_wp2
      go_ret
      exact ⟨rfl, HB9.out⟩
    | true =>
      have hR : phR x g = true := by simp [phR, hw, hg]
      obtain ⟨⟨a, i⟩, he⟩ : ∃ p, phEnter x g = p := ⟨_, rfl⟩
      have HE := Lib.hid he
      have HER := Lib.hid (fun w => refEnter14_any x g hR w)
      rw [he] at HER
      obtain ⟨q, hq⟩ : ∃ q, phOldB x g = q := ⟨_, rfl⟩
      have HO := Lib.hid (show phOld x g = (q, 0) by simp [phOld, hR, hq])
      have HOR := Lib.hid (fun w => refOld14_any x g hR w)
      rw [hq] at HOR
      have hg2 := phG_t hg
      have HF := Lib.hid (phFlip_ok14 hg2)
      have HG := Lib.hid hg
      clear hw hg hR hl he hq
      go_enter Try.func3, Try.ntmps3
      go_wp2_with fail
      refine (enter14_any x g _).mono ?_
      rw [HE.out]
      rintro e w1 ⟨rfl, hb1⟩
      have HB1 := Lib.hid hb1
      clear hb1
      go_wp2_with fail
      refine (leave14_any x _).mono ?_
      rw [HL.out]
      rintro e w2 ⟨rfl, hb2⟩
      have HB2 := Lib.hid (HB1.out.trans (hb2.mono HB1.out.size))
      clear hb2
      go_wp2_with fail
      refine (flip14_any g _).mono ?_
      rw [HF.out]
      rintro e w3 ⟨rfl, hb3⟩
      have HB3 := Lib.hid (HB2.out.trans (hb3.mono HB2.out.size))
      clear hb3
      go_wp2_with fail
      refine (old14_any x g _).mono ?_
      rw [HO.out]
      rintro e w4 ⟨rfl, hb4⟩
      have HB4 := Lib.hid (HB3.out.trans (hb4.mono HB3.out.size))
      clear hb4
      go_wp2_with fail
      refine (alive14_any _).mono ?_
      rintro e w5 ⟨rfl, hb5⟩
      have HB5 := Lib.hid (HB4.out.trans (hb5.mono HB4.out.size))
      clear hb5
      go_wp2_with fail
      refine (refGate14_any g _).mono ?_
      rw [HG.out]
      rintro e w6 ⟨rfl, hb6⟩
      have HB6 := Lib.hid (HB5.out.trans (hb6.mono HB5.out.size))
      clear hb6
      go_wp2_with fail
      refine (refFlip14_any g hg2 _).mono ?_
      rintro e w7 ⟨rfl, hb7⟩
      have HB7 := Lib.hid (HB6.out.trans (hb7.mono HB6.out.size))
      clear hb7
      go_wp2_with fail
      refine (refWord14_any x _).mono ?_
      rw [HW.out]
      rintro e w8 ⟨rfl, hb8⟩
      have HB8 := Lib.hid (HB7.out.trans (hb8.mono HB7.out.size))
      clear hb8
      go_wp2_with fail
      refine (HLR.out _).mono ?_
      rintro e w9 ⟨rfl, hb9⟩
      have HB9 := Lib.hid (HB8.out.trans (hb9.mono HB8.out.size))
      clear hb9
      go_wp2_with fail
      refine (refGate14_any g _).mono ?_
      rw [HG.out]
      rintro e w10 ⟨rfl, hb10⟩
      have HB10 := Lib.hid (HB9.out.trans (hb10.mono HB9.out.size))
      clear hb10
      go_wp2_with fail
      refine (HER.out _).mono ?_
      rintro e w11 ⟨rfl, hb11⟩
      have HB11 := Lib.hid (HB10.out.trans (hb11.mono HB10.out.size))
      clear hb11
      go_wp2_with fail
      refine (HOR.out _).mono ?_
      rintro e w12 ⟨rfl, hb12⟩
      have HB12 := Lib.hid (HB11.out.trans (hb12.mono HB11.out.size))
      clear hb12
      go_wp2
      go_ret
      exact ⟨rfl, HB12.out⟩
end Go.Proofs.Ytkhifcnjilbmlaa
