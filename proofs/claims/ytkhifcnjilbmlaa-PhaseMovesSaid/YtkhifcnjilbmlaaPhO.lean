/- Arguments that are slices of integers: what comes in. -/
import Derived.Test.YtkhifcnjilbmlaaGen
namespace Go.Proofs.Ytkhifcnjilbmlaa
open Go.ChangeShapes Go.WideShapes Go.ChangeAt Go.RowKit
open Gen
section
variable {H : Type} {enc : TypeId × Value → H} {w : World} {base : Nat} {spare : Nat → Bool} {held : Bool}
theorem open_vints {q : Reach} {b0 : Nat} {v : Value} {d : DataW H} {p : List MemPlace} (_ : Value.okWide Try.prog w q b0 32 v) (h : DataW.Trod enc Try.prog w base spare held 32 v d p) :
    ∃ (a : Option Addr) (n c : Nat) (zs : List Int), v.cells.toList = [.slice a n c] ∧ IsVs repInt (fun z => (Lit.int .i64 z).wf = true) w a n c zs := by
  obtain ⟨fuel, hf⟩ := h
  exact opens_slice (r := repInt) Try.underlying32 (by kernel_rfl) (opens_int Try.underlying3) _ _ _ hf
end
end Go.Proofs.Ytkhifcnjilbmlaa
