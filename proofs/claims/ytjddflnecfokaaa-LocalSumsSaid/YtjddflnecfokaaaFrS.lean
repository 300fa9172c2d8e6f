/- Arguments that are instructions, code, or eight registers whose range is wanted, opened to their cells. -/
import Derived.Test.YtjddflnecfokaaaFrO
import Derived.Test.YtjddflnecfokaaaLoA
import Derived.Lib.SmallJoins
namespace Go.Proofs.Ytjddflnecfokaaa
open Go.ChangeShapes Go.WideShapes Go.ChangeAt Go.RowKit
open Gen

section
variable {H : Type} {enc : TypeId × Value → H} {w : World} {base : Nat} {spare : Nat → Bool} {held : Bool}
set_option maxRecDepth 100000 in
theorem opens_in : Opens repIn (fun _ => True) enc Try.prog w base spare held 29 := by
  intro fuel cs x h
  obtain ⟨y0, y1, y2, y3, n, _, hl, t0, t1, t2, t3⟩ := Go.Joins.trod_struct4 Try.underlying29 h
  rw [show Try.prog.cellsOf 29 = 4 by kernel_rfl] at hl
  have k1 : Try.prog.cellsOf 3 = 1 := by kernel_rfl
  match cs, hl with
  | [c0, c1, c2, c3], _ =>
    obtain ⟨z0, e0, _, _⟩ := DataW.trod_int Try.underlying3 t0
    obtain ⟨z1, e1, _, _⟩ := DataW.trod_int Try.underlying3 t1
    obtain ⟨z2, e2, _, _⟩ := DataW.trod_int Try.underlying3 t2
    obtain ⟨z3, e3, _, _⟩ := DataW.trod_int Try.underlying3 t3
    rw [k1] at e0 e1 e2 e3
    simp at e0 e1 e2 e3
    subst e0 e1 e2 e3
    exact ⟨(z0, z1, z2, z3), rfl, trivial⟩
set_option maxRecDepth 100000 in
theorem open_vin {q : Reach} {b0 : Nat} {v : Value} {d : DataW H} {p : List MemPlace} (_ : Value.okWide Try.prog w q b0 39 v) (h : DataW.Trod enc Try.prog w base spare held 39 v d p) :
    ∃ (a : Option Addr) (n c : Nat) (zs : List In4), v.cells.toList = [.slice a n c] ∧ IsVs repIn (fun _ => True) w a n c zs := by
  obtain ⟨fuel, hf⟩ := h
  exact opens_slice (r := repIn) Try.underlying39 (by kernel_rfl) opens_in _ _ _ hf
set_option maxRecDepth 100000 in
theorem open_instr {q : Reach} {b0 : Nat} {v : Value} {d : DataW H} {p : List MemPlace} (hv : Value.okWide Try.prog w q b0 29 v) (h : DataW.Trod enc Try.prog w base spare held 29 v d p) :
    ∃ i : In4, v = .agg #[.int .i64 i.1, .int .i64 i.2.1, .int .i64 i.2.2.1, .int .i64 i.2.2.2] := by
  obtain ⟨cs, rfl, _⟩ := okWide_struct Try.underlying29 hv
  obtain ⟨fuel, hf⟩ := h
  obtain ⟨i, hi, -⟩ := opens_in _ _ _ hf
  have hi : (Value.agg cs).cells.toList = in4 i := hi
  refine ⟨i, ?_⟩
  have e : cs = (in4 i).toArray := by rw [← hi]; simp [Value.cells]
  rw [e]; rfl
set_option maxRecDepth 100000 in
theorem open_regs_wf {q : Reach} {b0 : Nat} {v : Value} {d : DataW H} {p : List MemPlace} (hv : Value.okWide Try.prog w q b0 22 v) (h : DataW.Trod enc Try.prog w base spare held 22 v d p) :
    ∃ r : Nat → Int, v = .agg #[.int .i64 (r 0), .int .i64 (r 1), .int .i64 (r 2), .int .i64 (r 3), .int .i64 (r 4), .int .i64 (r 5), .int .i64 (r 6), .int .i64 (r 7)] ∧ ∀ i, i < 8 → (Lit.int .i64 (r i)).wf = true := by
  simp only [Value.okWide, Try.underlying22] at hv
  obtain ⟨cs, rfl, hsz, _⟩ := hv
  obtain ⟨fuel, hf⟩ := h
  obtain ⟨xs, m, _, _, hl, hlen, hg⟩ := DataW.trod_array Try.underlying22 hf
  rw [show Try.prog.cellsOf 22 = 8 by kernel_rfl] at hsz
  have k1 : Try.prog.cellsOf 3 = 1 := by kernel_rfl
  obtain ⟨l, rfl⟩ : ∃ l : List Value, cs = l.toArray := ⟨cs.toList, by simp⟩
  have hl8 : l.length = 8 := by simpa using hsz
  have each : ∀ i, i < 8 → ∃ z : Int, l[i]? = some (.int .i64 z) ∧ (Lit.int .i64 z).wf = true := by
    intro i hi
    have h1 := hg i hi
    rw [List.getElem?_eq_getElem (by omega)] at h1
    obtain ⟨z, e, _, hw⟩ := DataW.trod_int Try.underlying3 h1
    rw [k1, Nat.mul_one] at e
    refine ⟨z, ?_, hw⟩
    have h2 : (((Value.agg l.toArray).cells.toList.drop i).take 1)[0]? = some (.int .i64 z) := by rw [e]; rfl
    simpa [Value.cells] using h2
  obtain ⟨r, hr⟩ := Go.Deep.choose_lt each
  match l, hl8, hr with
  | [c1, c2, c3, c4, c5, c6, c7, c8], _, hr =>
    have r0 := (hr 0 (by omega)).1
    have r1 := (hr 1 (by omega)).1
    have r2 := (hr 2 (by omega)).1
    have r3 := (hr 3 (by omega)).1
    have r4 := (hr 4 (by omega)).1
    have r5 := (hr 5 (by omega)).1
    have r6 := (hr 6 (by omega)).1
    have r7 := (hr 7 (by omega)).1
    simp only [List.getElem?_cons_zero, List.getElem?_cons_succ, Option.some.injEq] at r0 r1 r2 r3 r4 r5 r6 r7
    subst r0 r1 r2 r3 r4 r5 r6 r7
    exact ⟨r, rfl, fun i hi => (hr i hi).2⟩
end
end Go.Proofs.Ytjddflnecfokaaa
