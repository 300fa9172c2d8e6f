/- LtO, LtV, put together. -/
import Derived.Test.YtiebaeaomgpicaaGreatGen
import Derived.Test.YtiebaeaomgpicaaGreatM1
/- Arguments that are slices of moves, and slices of these. -/
namespace Go.Proofs.YtiebaeaomgpicaaGreat
open Go.ChangeShapes Go.WideShapes Go.ChangeAt Go.RowKit
open Gen
/-- a move's numbers are 64-bit ones -/
def MvWf (y : Mv) : Prop := (Lit.int .i64 y.1).wf = true ∧ (Lit.int .i64 y.2.1).wf = true ∧ (Lit.int .i64 y.2.2).wf = true
section
variable {H : Type} {enc : TypeId × Value → H} {w : World} {base : Nat} {spare : Nat → Bool} {held : Bool}
set_option maxRecDepth 100000 in
theorem opens_move : Opens repInt3 MvWf enc Tryz.prog w base spare held 61 :=
  opens_int3 Tryz.underlying61 Tryz.underlying3 Tryz.underlying3 Tryz.underlying3 (by kernel_rfl) (by kernel_rfl) (by kernel_rfl) (by kernel_rfl) (by kernel_rfl) (by kernel_rfl) (by kernel_rfl)
set_option maxRecDepth 100000 in
theorem open_moves {q : Reach} {b0 : Nat} {v : Value} {d : DataW H} {p : List MemPlace} (_ : Value.okWide Tryz.prog w q b0 39 v) (h : DataW.Trod enc Tryz.prog w base spare held 39 v d p) :
    ∃ (a : Option Addr) (n c : Nat) (zs : List Mv), v.cells.toList = [.slice a n c] ∧ IsVs repInt3 MvWf w a n c zs := by
  obtain ⟨fuel, hf⟩ := h
  exact opens_slice (r := repInt3) Tryz.underlying39 (by kernel_rfl) opens_move _ _ _ hf
set_option maxRecDepth 100000 in
theorem open_moves2 {q : Reach} {b0 : Nat} {v : Value} {d : DataW H} {p : List MemPlace} (_ : Value.okWide Tryz.prog w q b0 22 v) (h : DataW.Trod enc Tryz.prog w base spare held 22 v d p) :
    ∃ (a : Option Addr) (n c : Nat) (zs : List (List Mv)), v.cells.toList = [.slice a n c] ∧ IsVs (repSlice repInt3) (fun ys => ∀ y ∈ ys, MvWf y) w a n c zs := by
  obtain ⟨fuel, hf⟩ := h
  exact opens_slice (r := repSlice repInt3) Tryz.underlying22 (by kernel_rfl) (opens_slice_slice fun f cs x hx => opens_slice (r := repInt3) Tryz.underlying39 (by kernel_rfl) opens_move f cs x hx) _ _ _ hf
end
end Go.Proofs.YtiebaeaomgpicaaGreat
/- An argument that is a slice of integers. -/
namespace Go.Proofs.YtiebaeaomgpicaaGreat
open Go.ChangeShapes Go.WideShapes Go.ChangeAt Go.RowKit
open Gen
section
variable {H : Type} {enc : TypeId × Value → H} {w : World} {base : Nat} {spare : Nat → Bool} {held : Bool}
theorem open_vints {q : Reach} {b0 : Nat} {v : Value} {d : DataW H} {p : List MemPlace} (_ : Value.okWide Tryz.prog w q b0 23 v) (h : DataW.Trod enc Tryz.prog w base spare held 23 v d p) :
    ∃ (a : Option Addr) (n c : Nat) (zs : List Int), v.cells.toList = [.slice a n c] ∧ IsVs repInt (fun z => (Lit.int .i64 z).wf = true) w a n c zs := by
  obtain ⟨fuel, hf⟩ := h
  exact opens_slice (r := repInt) Tryz.underlying23 (by kernel_rfl) (opens_int Tryz.underlying3) _ _ _ hf
end
end Go.Proofs.YtiebaeaomgpicaaGreat
