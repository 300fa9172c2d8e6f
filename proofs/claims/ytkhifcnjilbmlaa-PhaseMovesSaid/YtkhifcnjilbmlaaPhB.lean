/- Package phase: Enter, Leave, Flip, Old, and a reader who enters. -/
import Derived.Test.YtkhifcnjilbmlaaPhA
namespace Go.Proofs.Ytkhifcnjilbmlaa
open Go.ChangeShapes Go.WideShapes Go.ChangeAt Go.RowKit
open Gen

theorem ph_two {a b c d : Int} (h : a = b) (h' : c = d) : Ending.returned (.tuple #[.int .i64 a, .int .i64 c]) = .returned (.tuple #[.int .i64 b, .int .i64 d]) := by rw [h, h']
def PhT (p : Int × Int) (w : World) (e : Ending) (w' : World) : Prop := e = .returned (.tuple #[.int .i64 p.1, .int .i64 p.2]) ∧ Below w.heap.size w w'
def PhO (p : Bool × Int) (w : World) (e : Ending) (w' : World) : Prop := e = .returned (.tuple #[.bool p.1, .int .i64 p.2]) ∧ Below w.heap.size w w'
theorem phT_mk {p q : Int × Int} {w w' : World} (h : p = q) (hb : Below w.heap.size w w') : PhT p w (.returned (.tuple #[.int .i64 q.1, .int .i64 q.2])) w' := by subst h; exact ⟨rfl, hb⟩
theorem phO_mk {p q : Bool × Int} {w w' : World} (h : p = q) (hb : Below w.heap.size w w') : PhO p w (.returned (.tuple #[.bool q.1, .int .i64 q.2])) w' := by subst h; exact ⟨rfl, hb⟩

set_option maxHeartbeats 2000000 in
theorem enter14_any (x g : Int) (w : World) : Calls Try.prog 7 #[.int .i64 x, .int .i64 g] w (PhT (phEnter x g) w) := by
  cases hr : phR x g with
  | false =>
    have H := Lib.hid (show phEnter x g = (0, 1) by simp [phEnter, hr])
    go_enter Try.func7, Try.ntmps7
    go_wp2_with fail
    refine (right14_any x g _).mono ?_
    rw [hr]
    rintro e w1 ⟨rfl, hb1⟩
    go_wp2
    go_returns
    exact phT_mk H.out hb1
  | true =>
    have hx := (phR_t hr).1
    obtain ⟨m, hm⟩ : ∃ m, x % 64 = m := ⟨_, rfl⟩
    have HD := Lib.hid (fun w => depth14_any x hx w)
    rw [hm] at HD
    by_cases h0 : m = 0
    · subst h0
      have H := Lib.hid (show phEnter x g = (g, 0) by simp [phEnter, hr, hm])
      clear hm
      go_enter Try.func7, Try.ntmps7
      go_wp2_with fail
      refine (right14_any x g _).mono ?_
      rw [hr]
      rintro e w1 ⟨rfl, hb1⟩
      go_wp2_with fail
      refine (HD.out _).mono ?_
      rintro e w2 ⟨rfl, hb2⟩
      go_wp2
      go_returns
      exact phT_mk H.out (hb1.trans (hb2.mono hb1.size))
    · by_cases h3 : m = 63
      · subst h3
        have H := Lib.hid (show phEnter x g = (0, 13) by simp [phEnter, hr, hm])
        clear hm
        go_enter Try.func7, Try.ntmps7
        go_wp2_with fail
        refine (right14_any x g _).mono ?_
        rw [hr]
        rintro e w1 ⟨rfl, hb1⟩
        go_wp2_with fail
        refine (HD.out _).mono ?_
        rintro e w2 ⟨rfl, hb2⟩
        go_wp2
        go_returns
        exact phT_mk H.out (hb1.trans (hb2.mono hb1.size))
      · have H := Lib.hid (show phEnter x g = (x + 1, 0) by simp [phEnter, hr, hm, h0, h3])
        have e0 : (m == 0) = false := by simp [h0]
        have e3 : (m == 63) = false := by simp [h3]
        have HW := Lib.hid (show wrap64 (x + 1) = x + 1 from IntWalk.wrap64_in _ (by omega))
        clear hm
        go_enter Try.func7, Try.ntmps7
        go_wp2_with fail
        refine (right14_any x g _).mono ?_
        rw [hr]
        rintro e w1 ⟨rfl, hb1⟩
        go_wp2_with fail
        refine (HD.out _).mono ?_
        rintro e w2 ⟨rfl, hb2⟩
        go_wp2
        go_returns
        exact phT_mk (q := (_, _)) H.out (hb1.trans (hb2.mono hb1.size))

set_option maxHeartbeats 2000000 in
theorem leave14_any (x : Int) (w : World) : Calls Try.prog 8 #[.int .i64 x] w (PhT (phLeave x) w) := by
  cases hr : phW x with
  | false =>
    have H := Lib.hid (show phLeave x = (0, 1) by simp [phLeave, hr])
    go_enter Try.func8, Try.ntmps8
    go_wp2_with fail
    refine (isWord14_any x _).mono ?_
    rw [hr]
    rintro e w1 ⟨rfl, hb1⟩
    go_wp2
    go_returns
    exact phT_mk H.out hb1
  | true =>
    have hx := phW_t hr
    obtain ⟨m, hm⟩ : ∃ m, x % 64 = m := ⟨_, rfl⟩
    have HD := Lib.hid (fun w => depth14_any x hx w)
    rw [hm] at HD
    by_cases h0 : m = 0
    · subst h0
      have H := Lib.hid (show phLeave x = (0, 8) by simp [phLeave, hr, hm])
      clear hm
      go_enter Try.func8, Try.ntmps8
      go_wp2_with fail
      refine (isWord14_any x _).mono ?_
      rw [hr]
      rintro e w1 ⟨rfl, hb1⟩
      go_wp2_with fail
      refine (HD.out _).mono ?_
      rintro e w2 ⟨rfl, hb2⟩
      go_wp2
      go_returns
      exact phT_mk H.out (hb1.trans (hb2.mono hb1.size))
    · have H := Lib.hid (show phLeave x = (x - 1, 0) by simp [phLeave, hr, hm, h0])
      have e0 : (m == 0) = false := by simp [h0]
      clear hm
      go_enter Try.func8, Try.ntmps8
      go_wp2_with fail
      refine (isWord14_any x _).mono ?_
      rw [hr]
      rintro e w1 ⟨rfl, hb1⟩
      go_wp2_with fail
      refine (HD.out _).mono ?_
      rintro e w2 ⟨rfl, hb2⟩
      go_wp2
      go_returns
      exact phT_mk (q := (_, _)) H.out (hb1.trans (hb2.mono hb1.size))

theorem flip14_any (g : Int) (w : World) : Calls Try.prog 9 #[.int .i64 g] w (PhT (phFlip g) w) := by
  cases hr : phG g with
  | false =>
    have H := Lib.hid (show phFlip g = (0, 1) by simp [phFlip, hr])
    go_enter Try.func9, Try.ntmps9
    go_wp2_with fail
    refine (isGate14_any g _).mono ?_
    rw [hr]
    rintro e w1 ⟨rfl, hb1⟩
    go_wp2
    go_returns
    exact phT_mk H.out hb1
  | true =>
    have H := Lib.hid (show phFlip g = (bits .xor .i64 g 64, 0) by simp [phFlip, hr, phX (phG_t hr)])
    go_enter Try.func9, Try.ntmps9
    go_wp2_with fail
    refine (isGate14_any g _).mono ?_
    rw [hr]
    rintro e w1 ⟨rfl, hb1⟩
    go_wp2
    go_returns
    exact phT_mk (q := (_, _)) H.out hb1

set_option maxHeartbeats 4000000 in
theorem old14_any (x g : Int) (w : World) : Calls Try.prog 10 #[.int .i64 x, .int .i64 g] w (PhO (phOld x g) w) := by
  cases hr : phR x g with
  | false =>
    have H := Lib.hid (show phOld x g = (false, 1) by simp [phOld, hr])
    go_enter Try.func10, Try.ntmps10
    go_wp2_with fail
    refine (right14_any x g _).mono ?_
    rw [hr]
    rintro e w1 ⟨rfl, hb1⟩
    go_wp2
    go_returns
    exact phO_mk H.out hb1
  | true =>
    have hx := (phR_t hr).1
    have hg := phGW (phR_t hr).2
    obtain ⟨m, hm⟩ : ∃ m, x % 64 = m := ⟨_, rfl⟩
    obtain ⟨y, hy⟩ : ∃ y, x - m = y := ⟨_, rfl⟩
    obtain ⟨z, hz⟩ : ∃ z, g - g % 64 = z := ⟨_, rfl⟩
    have HD := Lib.hid (fun w => depth14_any x hx w)
    have HX := Lib.hid (fun w => phase14_any x hx w)
    have HG := Lib.hid (fun w => phase14_any g hg w)
    rw [hm] at HD HX
    rw [hy] at HX
    rw [hz] at HG
    by_cases h0 : 0 < m
    · have H := Lib.hid (show phOld x g = (y != z, 0) by simp [phOld, phOldB, hr, hm, h0, hy, hz])
      clear hm hy hz
      go_enter Try.func10, Try.ntmps10
      go_wp2_with fail
      refine (right14_any x g _).mono ?_
      rw [hr]
      rintro e w1 ⟨rfl, hb1⟩
      go_wp2_with fail
      refine (HD.out _).mono ?_
      rintro e w2 ⟨rfl, hb2⟩
      go_wp2_with fail
      refine (HX.out _).mono ?_
      rintro e w3 ⟨rfl, hb3⟩
      go_wp2_with fail
      refine (HG.out _).mono ?_
      rintro e w4 ⟨rfl, hb4⟩
      have HB2 := Lib.hid (hb1.trans (hb2.mono hb1.size))
      have HB3 := Lib.hid (HB2.out.trans (hb3.mono HB2.out.size))
      have HB4 := Lib.hid (HB3.out.trans (hb4.mono HB3.out.size))
      go_wp2
      go_returns
      exact phO_mk (q := (_, _)) H.out HB4.out
    · have H := Lib.hid (show phOld x g = (false, 0) by simp [phOld, phOldB, hr, hm, h0])
      clear hm hy hz
      go_enter Try.func10, Try.ntmps10
      go_wp2_with fail
      refine (right14_any x g _).mono ?_
      rw [hr]
      rintro e w1 ⟨rfl, hb1⟩
      go_wp2_with fail
      refine (HD.out _).mono ?_
      rintro e w2 ⟨rfl, hb2⟩
      go_wp2
      go_returns
      exact phO_mk H.out (hb1.trans (hb2.mono hb1.size))
end Go.Proofs.Ytkhifcnjilbmlaa
