/- The reference 14: Gate, Word, Flip, Leave, Enter, Old; and alive. -/
import Derived.Test.YtkhifcnjilbmlaaPhB
namespace Go.Proofs.Ytkhifcnjilbmlaa
open Go.ChangeShapes Go.WideShapes Go.ChangeAt Go.RowKit
open Gen

theorem phFlip_ok14 {g : Int} (h : g = 1 ∨ g = 65) : phFlip g = (66 - g, 0) := by rcases h with rfl | rfl <;> decide
theorem refWord14_any (x : Int) (w : World) : Calls Try.prog 14 #[.int .i64 x] w (PhB (phW x) w) := by
  by_cases h1 : 0 ≤ x
  · have H := Lib.hid (show decide (x ≤ 127) = phW x by simp only [phW, h1, true_and])
    go_enter Try.func14, Try.ntmps14
    go_wp2
    go_ret
    exact ⟨ph_bool H.out, by go_grown⟩
  · have H := Lib.hid (show false = phW x by simp only [phW, h1, false_and, decide_false])
    go_enter Try.func14, Try.ntmps14
    go_wp2
    go_ret
    exact ⟨ph_bool H.out, by go_grown⟩
theorem refGate14_any (x : Int) (w : World) : Calls Try.prog 12 #[.int .i64 x] w (PhB (phG x) w) := by
  by_cases h1 : x = 1
  · subst h1
    go_enter Try.func12, Try.ntmps12
    go_wp2
    go_ret
    exact ⟨ph_bool rfl, by go_grown⟩
  · have h2 : (x == 1) = false := by simp [h1]
    have HX := Lib.hid (show (x == 65) = phG x by
      by_cases h3 : x = 65
      · subst h3; rfl
      · simp [phG, h1, h3])
    go_enter Try.func12, Try.ntmps12
    go_wp2
    go_ret
    exact ⟨ph_bool HX.out, by go_grown⟩
theorem refFlip14_any (g : Int) (h : g = 1 ∨ g = 65) (w : World) : Calls Try.prog 13 #[.int .i64 g] w (PhI (66 - g) w) := by
  go_enter Try.func13, Try.ntmps13
  go_wp2
  go_ret
  exact ⟨rfl, by go_grown⟩
theorem refLeave14_any (x : Int) (h : phW x = true) (w : World) : Calls Try.prog 15 #[.int .i64 x] w (PhT (phLeave x) w) := by
  have hx := phW_t h
  by_cases h0 : x % 64 = 0
  · have H := Lib.hid (show phLeave x = (0, 8) by simp [phLeave, h, h0])
    have e0 : (x % 64 == 0) = true := by rw [h0]; rfl
    clear h0
    go_enter Try.func15, Try.ntmps15
    go_wp2
    go_returns
    exact phT_mk H.out (by go_grown)
  · have H := Lib.hid (show phLeave x = (x - 1, 0) by simp [phLeave, h, h0])
    have e0 : (x % 64 == 0) = false := by simp [h0]
    clear h0
    go_enter Try.func15, Try.ntmps15
    go_wp2
    go_returns
    exact phT_mk (q := (_, _)) H.out (by go_grown)
theorem refEnter14_any (x g : Int) (h : phR x g = true) (w : World) : Calls Try.prog 16 #[.int .i64 x, .int .i64 g] w (PhT (phEnter x g) w) := by
  have hx := (phR_t h).1
  by_cases h0 : x % 64 = 0
  · have H := Lib.hid (show phEnter x g = (g, 0) by simp [phEnter, h, h0])
    have e0 : (x % 64 == 0) = true := by rw [h0]; rfl
    clear h0
    go_enter Try.func16, Try.ntmps16
    go_wp2
    go_returns
    exact phT_mk (q := (_, _)) H.out (by go_grown)
  · have e0 : (x % 64 == 0) = false := by simp [h0]
    by_cases h3 : x % 64 = 63
    · have H := Lib.hid (show phEnter x g = (0, 13) by simp [phEnter, h, h3])
      have e3 : (x % 64 == 63) = true := by rw [h3]; rfl
      clear h0 h3
      go_enter Try.func16, Try.ntmps16
      go_wp2
      go_returns
      exact phT_mk H.out (by go_grown)
    · have H := Lib.hid (show phEnter x g = (x + 1, 0) by simp [phEnter, h, h0, h3])
      have e3 : (x % 64 == 63) = false := by simp [h3]
      clear h0 h3
      go_enter Try.func16, Try.ntmps16
      go_wp2
      go_returns
      exact phT_mk (q := (_, _)) H.out (by go_grown)
theorem phOld_div {x g : Int} (h : phR x g = true) : (x / 64 != g / 64) = (x - x % 64 != g - g % 64) := by
  have hx := (phR_t h).1
  have hg := phGW (phR_t h).2
  by_cases e : x / 64 = g / 64
  · have : x - x % 64 = g - g % 64 := by omega
    rw [e, this]; simp
  · have : ¬ x - x % 64 = g - g % 64 := by omega
    rw [bne_iff_ne.2 e, bne_iff_ne.2 this]
theorem refOld14_any (x g : Int) (h : phR x g = true) (w : World) : Calls Try.prog 17 #[.int .i64 x, .int .i64 g] w (PhB (phOldB x g) w) := by
  have hx := (phR_t h).1
  have hg := phGW (phR_t h).2
  by_cases h0 : 0 < x % 64
  · have H := Lib.hid (show phOldB x g = (x / 64 != g / 64) by rw [phOld_div h]; simp [phOldB, h0])
    go_enter Try.func17, Try.ntmps17
    go_wp2
    go_ret
    exact ⟨ph_bool H.out.symm, by go_grown⟩
  · have H := Lib.hid (show phOldB x g = false by simp [phOldB, h0])
    go_enter Try.func17, Try.ntmps17
    go_wp2
    go_ret
    exact ⟨ph_bool H.out.symm, by go_grown⟩
set_option maxHeartbeats 1000000 in
theorem alive14_any (w : World) : Calls Try.prog 11 #[] w (PhB true w) := by
  have H1 := Lib.hid (show phEnter 64 1 = (1, 0) by decide)
  have H2 := Lib.hid (show phLeave 66 = (65, 0) by decide)
  go_enter Try.func11, Try.ntmps11
  go_wp2_with fail
  refine (enter14_any 64 1 _).mono ?_
  rw [H1.out]
  rintro e w1 ⟨rfl, hb1⟩
  go_wp2_with fail
  refine (leave14_any 66 _).mono ?_
  rw [H2.out]
  rintro e w2 ⟨rfl, hb2⟩
  go_wp2
  go_ret
  exact ⟨rfl, hb1.trans (hb2.mono hb1.size)⟩
end Go.Proofs.Ytkhifcnjilbmlaa
