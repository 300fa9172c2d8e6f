/- Arguments that are code, opened to their cells. -/
import Derived.Test.YthcogkcjmhjjmaaDoorAsJ
import Derived.Lib.SmallJoins
namespace Go.Proofs.YthcogkcjmhjjmaaDoor
open Go.ChangeShapes Go.WideShapes Go.ChangeAt Go.RowKit
open Gen

section
variable {H : Type} {enc : TypeId × Value → H} {w : World} {base : Nat} {spare : Nat → Bool} {held : Bool}
set_option maxRecDepth 100000 in
theorem opens_ins : Opens repIns (fun _ => True) enc Tryd.prog w base spare held 39 := by
  intro fuel cs x h
  obtain ⟨y0, y1, y2, y3, n, _, hl, t0, t1, t2, t3⟩ := Go.Joins.trod_struct4 Tryd.underlying39 h
  rw [show Tryd.prog.cellsOf 39 = 4 by kernel_rfl] at hl
  have k1 : Tryd.prog.cellsOf 3 = 1 := by kernel_rfl
  match cs, hl with
  | [c0, c1, c2, c3], _ =>
    obtain ⟨z0, e0, _, _⟩ := DataW.trod_int Tryd.underlying3 t0
    obtain ⟨z1, e1, _, _⟩ := DataW.trod_int Tryd.underlying3 t1
    obtain ⟨z2, e2, _, _⟩ := DataW.trod_int Tryd.underlying3 t2
    obtain ⟨z3, e3, _, _⟩ := DataW.trod_int Tryd.underlying3 t3
    rw [k1] at e0 e1 e2 e3
    simp at e0 e1 e2 e3
    subst e0 e1 e2 e3
    exact ⟨(z0, z1, z2, z3), rfl, trivial⟩
set_option maxRecDepth 100000 in
theorem open_vins {q : Reach} {b0 : Nat} {v : Value} {d : DataW H} {p : List MemPlace} (_ : Value.okWide Tryd.prog w q b0 23 v) (h : DataW.Trod enc Tryd.prog w base spare held 23 v d p) :
    ∃ (a : Option Addr) (n c : Nat) (zs : List Ins), v.cells.toList = [.slice a n c] ∧ IsVs repIns (fun _ => True) w a n c zs := by
  obtain ⟨fuel, hf⟩ := h
  exact opens_slice (r := repIns) Tryd.underlying23 (by kernel_rfl) opens_ins _ _ _ hf
end
end Go.Proofs.YthcogkcjmhjjmaaDoor
