/- Arguments that are pools, opened to their cells. -/
import Derived.Test.YtnkhgofpdgnemaaPlU
import Derived.Lib.SmallJoins
namespace Go.Proofs.Ytnkhgofpdgnemaa
open Go.ChangeShapes Go.WideShapes Go.ChangeAt Go.RowKit
open Gen

theorem pl_vs_sl {Q : Nat → Prop} {w : World} {a : Option Addr} {n : Nat} {zs : List Int} (h : Vs repInt Q w a n zs) : Sl w a n zs := by
  obtain ⟨h1, h2⟩ := h
  refine ⟨h1, h2.imp id ?_⟩
  rintro ⟨b, o, e, _, f⟩
  refine ⟨b, o, e, fun i hi => ?_⟩
  have h5 := f i _ (List.getElem?_eq_getElem hi)
  rw [show repInt.k = 1 from rfl, Nat.mul_one] at h5
  rw [at_int h5]
  simp [hi]
section
variable {H : Type} {enc : TypeId × Value → H} {w : World} {base : Nat} {spare : Nat → Bool} {held : Bool}
set_option maxRecDepth 100000 in
theorem open_pool {q : Reach} {b0 : Nat} {v : Value} {d : DataW H} {p : List MemPlace} (hv : Value.okWide Try.prog w q b0 24 v) (h : DataW.Trod enc Try.prog w base spare held 24 v d p) :
    ∃ (s b m : Int) (a : Option Addr) (n c : Nat) (zs : List Int), v = .agg #[.int .i64 s, .int .i64 b, .int .i64 m, .slice a n c] ∧ CapOk a n c ∧ Sl w a n zs := by
  obtain ⟨cs, rfl, hsz⟩ := okWide_struct Try.underlying24 hv
  obtain ⟨fuel, hf⟩ := h
  obtain ⟨y0, y1, y2, y3, n, _, hl, t0, t1, t2, t3⟩ := Go.Joins.trod_struct4 Try.underlying24 hf
  rw [show Try.prog.cellsOf 24 = 4 by kernel_rfl] at hl
  have k1 : Try.prog.cellsOf 3 = 1 := by kernel_rfl
  have k2 : Try.prog.cellsOf 22 = 1 := by kernel_rfl
  obtain ⟨l, rfl⟩ : ∃ l : List Value, cs = l.toArray := ⟨cs.toList, by simp⟩
  have hc : (Value.agg l.toArray).cells.toList = l := by simp [Value.cells]
  rw [hc] at hl t0 t1 t2 t3
  match l, hl with
  | [c0, c1, c2, c3], _ =>
    obtain ⟨z0, e0, _, _⟩ := DataW.trod_int Try.underlying3 t0
    obtain ⟨z1, e1, _, _⟩ := DataW.trod_int Try.underlying3 t1
    obtain ⟨z2, e2, _, _⟩ := DataW.trod_int Try.underlying3 t2
    obtain ⟨a, len, cap, ys, e3, h3⟩ := opens_slice (r := repInt) Try.underlying22 (by kernel_rfl) (opens_int Try.underlying3) _ _ _ t3
    rw [k1] at e0 e1 e2
    dsimp only at e3
    rw [k2] at e3
    simp at e0 e1 e2 e3
    subst e0 e1 e2 e3
    exact ⟨z0, z1, z2, a, len, cap, ys, rfl, ⟨h3.1, h3.2.1, h3.2.2.1⟩, pl_vs_sl h3.2.2.2.1⟩
end
end Go.Proofs.Ytnkhgofpdgnemaa
