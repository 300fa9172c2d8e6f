/- respiteref05: Print. -/
import Derived.Test.YthcogkcjmhjjmaaDoorBpG
import Derived.Test.YthcogkcjmhjjmaaDoorAsDg
namespace Go.Proofs.YthcogkcjmhjjmaaDoor
open Go.ChangeShapes Go.WideShapes Go.ChangeAt Go.RowKit
open Gen

theorem code_any (a : Option Addr) (n c : Nat) (w : World) (hc : n ≤ c) (hc2 : c ≤ 9223372036854775807) (h0 : a = none → c = 0) :
    Calls Tryd.prog 13 #[.slice a n c] w fun e w' => e = .returned (.slice a (min n 200) c) ∧ w' = w := by
  cases a with
  | none =>
    obtain rfl : c = 0 := h0 rfl
    obtain rfl : n = 0 := by omega
    go_enter Tryd.func13, Tryd.ntmps13
    go_wp2
    go_ret
    exact ⟨rfl, rfl⟩
  | some p =>
    by_cases h : 200 ≤ n
    · have h1 : (200 : Int) ≤ n := by omega
      go_enter Tryd.func13, Tryd.ntmps13
      go_wp2
      go_ret
      rw [show min n 200 = 200 by omega]
      exact ⟨by simp; omega, rfl⟩
    · have h1 : (n : Int) < 200 := by omega
      go_enter Tryd.func13, Tryd.ntmps13
      go_wp2
      go_ret
      rw [show min n 200 = n by omega]
      exact ⟨by simp; omega, rfl⟩
end Go.Proofs.YthcogkcjmhjjmaaDoor
