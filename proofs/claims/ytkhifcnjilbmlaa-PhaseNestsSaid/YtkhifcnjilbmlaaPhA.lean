/- Package phase in plain words, and the contracts of its own small functions: depth, phase, isWord, isGate, right. -/
import Derived.Test.YtkhifcnjilbmlaaGen
import Derived.RegionTactic
import Derived.BigQuiet
import Derived.Deep.QuietTactic
namespace Go.Proofs.Ytkhifcnjilbmlaa
open Go.ChangeShapes Go.WideShapes Go.ChangeAt Go.RowKit
open Gen

def phW (x : Int) : Bool := decide (0 ≤ x ∧ x ≤ 127)
def phG (g : Int) : Bool := decide (g = 1 ∨ g = 65)
def phR (x g : Int) : Bool := phW x && phG g
def phEnter (x g : Int) : Int × Int := if phR x g = false then (0, 1) else if x % 64 = 0 then (g, 0) else if x % 64 = 63 then (0, 13) else (x + 1, 0)
def phLeave (x : Int) : Int × Int := if phW x = false then (0, 1) else if x % 64 = 0 then (0, 8) else (x - 1, 0)
def phFlip (g : Int) : Int × Int := if phG g = false then (0, 1) else (66 - g, 0)
def phOldB (x g : Int) : Bool := decide (0 < x % 64) && (x - x % 64 != g - g % 64)
def phOld (x g : Int) : Bool × Int := if phR x g = false then (false, 1) else (phOldB x g, 0)

theorem phW_t {x : Int} (h : phW x = true) : 0 ≤ x ∧ x ≤ 127 := of_decide_eq_true h
theorem phG_t {g : Int} (h : phG g = true) : g = 1 ∨ g = 65 := of_decide_eq_true h
theorem phR_t {x g : Int} (h : phR x g = true) : (0 ≤ x ∧ x ≤ 127) ∧ (g = 1 ∨ g = 65) := by
  simp only [phR, Bool.and_eq_true] at h
  exact ⟨phW_t h.1, phG_t h.2⟩
theorem phGW {g : Int} (h : g = 1 ∨ g = 65) : 0 ≤ g ∧ g ≤ 127 := by omega
theorem ph63 {x : Int} (h : 0 ≤ x ∧ x ≤ 127) : bits .and .i64 x 63 = x % 64 := by
  have : ∀ n : Fin 128, bits .and .i64 (n.val : Int) 63 = (n.val : Int) % 64 := by decide +kernel
  have := this ⟨x.toNat, by omega⟩
  simpa [Int.toNat_of_nonneg h.1] using this
theorem ph64 {x : Int} (h : 0 ≤ x ∧ x ≤ 127) : bits .and .i64 x 64 = x - x % 64 := by
  have : ∀ n : Fin 128, bits .and .i64 (n.val : Int) 64 = (n.val : Int) - (n.val : Int) % 64 := by decide +kernel
  have := this ⟨x.toNat, by omega⟩
  simpa [Int.toNat_of_nonneg h.1] using this
theorem phX {g : Int} (h : g = 1 ∨ g = 65) : bits .xor .i64 g 64 = 66 - g := by
  rcases h with rfl | rfl <;> decide +kernel

theorem ph_int {k : IntKind} {a b : Int} (h : a = b) : Ending.returned (.int k a) = .returned (.int k b) := by rw [h]
theorem ph_bool {a b : Bool} (h : a = b) : Ending.returned (.bool a) = .returned (.bool b) := by rw [h]
def PhI (z : Int) (w : World) (e : Ending) (w' : World) : Prop := e = .returned (.int .i64 z) ∧ Below w.heap.size w w'
def PhB (b : Bool) (w : World) (e : Ending) (w' : World) : Prop := e = .returned (.bool b) ∧ Below w.heap.size w w'

theorem depth14_any (x : Int) (h : 0 ≤ x ∧ x ≤ 127) (w : World) : Calls Try.prog 22 #[.int .i64 x] w (PhI (x % 64) w) := by
  have H := Lib.hid (ph63 h)
  go_enter Try.func22, Try.ntmps22
  go_wp2
  go_ret
  exact ⟨ph_int H.out, by go_grown⟩
theorem phase14_any (x : Int) (h : 0 ≤ x ∧ x ≤ 127) (w : World) : Calls Try.prog 25 #[.int .i64 x] w (PhI (x - x % 64) w) := by
  have H := Lib.hid (ph64 h)
  go_enter Try.func25, Try.ntmps25
  go_wp2
  go_ret
  exact ⟨ph_int H.out, by go_grown⟩
theorem isWord14_any (x : Int) (w : World) : Calls Try.prog 23 #[.int .i64 x] w (PhB (phW x) w) := by
  by_cases h1 : 0 ≤ x
  · have H := Lib.hid (show decide (x ≤ 127) = phW x by simp only [phW, h1, true_and])
    go_enter Try.func23, Try.ntmps23
    go_wp2
    go_ret
    exact ⟨ph_bool H.out, by go_grown⟩
  · have H := Lib.hid (show false = phW x by simp only [phW, h1, false_and, decide_false])
    go_enter Try.func23, Try.ntmps23
    go_wp2
    go_ret
    exact ⟨ph_bool H.out, by go_grown⟩
theorem isGate14_any (x : Int) (w : World) : Calls Try.prog 24 #[.int .i64 x] w (PhB (phG x) w) := by
  by_cases h1 : x = 1
  · subst h1
    go_enter Try.func24, Try.ntmps24
    go_wp2
    go_ret
    exact ⟨ph_bool rfl, by go_grown⟩
  · have h2 : (x == 1) = false := by simp [h1]
    have HX := Lib.hid (show (x == 65) = phG x by
      by_cases h3 : x = 65
      · subst h3; rfl
      · simp [phG, h1, h3])
    go_enter Try.func24, Try.ntmps24
    go_wp2
    go_ret
    exact ⟨ph_bool HX.out, by go_grown⟩
set_option maxHeartbeats 1000000 in
theorem right14_any (x g : Int) (w : World) : Calls Try.prog 21 #[.int .i64 x, .int .i64 g] w (PhB (phR x g) w) := by
  cases hx : phW x with
  | false =>
    have H := Lib.hid (show phR x g = false by simp [phR, hx])
    go_enter Try.func21, Try.ntmps21
    go_wp2_with fail
    refine (isWord14_any x _).mono ?_
    rw [hx]
    rintro e w1 ⟨rfl, hb1⟩
    go_wp2
    go_ret
    exact ⟨ph_bool H.out.symm, hb1⟩
  | true =>
    have H := Lib.hid (show phR x g = phG g by simp [phR, hx])
    go_enter Try.func21, Try.ntmps21
    go_wp2_with fail
    refine (isWord14_any x _).mono ?_
    rw [hx]
    rintro e w1 ⟨rfl, hb1⟩
    go_wp2_with fail
    refine (isGate14_any g _).mono ?_
    rintro e w2 ⟨rfl, hb2⟩
    go_wp2
    go_ret
    exact ⟨ph_bool H.out.symm, hb1.trans (hb2.mono hb1.size)⟩
end Go.Proofs.Ytkhifcnjilbmlaa
