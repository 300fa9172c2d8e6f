/- Arguments that are puts, or slices of puts, opened to their cells. -/
import Derived.Test.YteojpdhmhjoeiaaBaseP
import Derived.Lib.SmallJoins
namespace Go.Proofs.Yteojpdhmhjoeiaa
open Go.ChangeShapes Go.WideShapes Go.ChangeAt Go.RowKit

theorem isPuts_le {w : World} {a : Option Addr} {len cap : Nat} {ps : List (Int × Int)} (h : IsPuts w a len cap ps) : len ≤ cap := by
  rcases h with ⟨_, rfl, rfl, _⟩ | ⟨x, _, hl, _⟩
  · omega
  · exact hl

section
variable {H : Type} {enc : TypeId × Value → H} {w : World} {base : Nat} {spare : Nat → Bool} {held : Bool}
set_option maxRecDepth 100000 in
theorem open_puts {fuel : Nat} {cs : List Value} {x : DataW H × List MemPlace} (h : DataW.trod enc Try.prog w base spare held fuel 54 cs = some x) :
    cs = [.slice none 0 0] ∨ ∃ (a : Addr) (len cap : Nat) (ps : List (Int × Int)), cs = [.slice (some a) len cap] ∧ len ≤ cap ∧ cap ≤ maxLen ∧ ps.length = len ∧
      (∀ i, i < ps.length → w.cell? (a.add (i * 2)) = some (.int .i64 (ps.getD i (0, 0)).1) ∧ w.cell? (a.add (i * 2 + 1)) = some (.int .i64 (ps.getD i (0, 0)).2)) ∧ ∀ p ∈ ps, (Lit.int .i64 p.1).wf = true := by
  rcases Go.Deep.open_slice_pairs Try.underlying54 Try.underlying69 (by kernel_rfl) rfl rfl (by kernel_rfl) (by kernel_rfl) h with ⟨hcs, _⟩ | ⟨a, len, cap, m, n, V0, V1, D0, D1, P0, P1, hcs, _, hl, hm, hmm, _, hc⟩
  · exact .inl hcs
  · have hlm : len ≤ m := by rw [hmm]; split <;> omega
    refine .inr ⟨a, len, cap, (List.range len).map (fun i => (intOf (V0 i), intOf (V1 i))), hcs, hl, hm, by simp, fun i hi => ?_, fun p hp => ?_⟩
    · have hi' : i < len := by simpa using hi
      obtain ⟨c0, c1, t0, t1⟩ := hc i (by omega)
      obtain ⟨z0, e0, _, _⟩ := DataW.trod_int Try.underlying3 t0
      obtain ⟨z1, e1, _, _⟩ := DataW.trod_int Try.underlying3 t1
      simp only [List.cons.injEq, and_true] at e0 e1
      have e : ((List.range len).map (fun i => (intOf (V0 i), intOf (V1 i)))).getD i (0, 0) = (z0, z1) := by
        simp [hi', e0, e1, intOf]
      rw [e]
      exact ⟨by rw [c0, e0], by rw [c1, e1]⟩
    · simp only [List.mem_map, List.mem_range] at hp
      obtain ⟨i, hi, rfl⟩ := hp
      obtain ⟨c0, c1, t0, t1⟩ := hc i (by omega)
      obtain ⟨z0, e0, _, hw⟩ := DataW.trod_int Try.underlying3 t0
      simp only [List.cons.injEq, and_true] at e0
      rw [e0]; exact hw
set_option maxRecDepth 100000 in
theorem open_put {r : Reach} {b0 : Nat} {v : Value} {d : DataW H} {p : List MemPlace} (hv : Value.okWide Try.prog w r b0 69 v) (h : DataW.Trod enc Try.prog w base spare held 69 v d p) :
    ∃ a b : Int, v = .agg #[.int .i64 a, .int .i64 b] ∧ (Lit.int .i64 a).wf = true := by
  obtain ⟨v0, v1, y0, y1, n, rfl, _, _, t0, t1⟩ := Go.Joins.open_agg2 Try.underlying69 (by kernel_rfl) (by kernel_rfl) hv h
  obtain ⟨z0, e0, _, hw⟩ := DataW.trod_int Try.underlying3 t0
  obtain ⟨z1, e1, _, _⟩ := DataW.trod_int Try.underlying3 t1
  simp only [List.cons.injEq, and_true] at e0 e1
  exact ⟨z0, z1, by rw [e0, e1], hw⟩
end
end Go.Proofs.Yteojpdhmhjoeiaa
