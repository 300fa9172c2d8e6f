/- Contracts of the document's own answers of layer 3 (package respiteref03): Drop, Flush. -/
import Derived.Test.YteojpdhmhjoeiaaRefW
namespace Go.Proofs.Yteojpdhmhjoeiaa
open Go.ChangeShapes Go.WideShapes Go.ChangeAt Go.RowKit

theorem blP_lt {Q : Nat → Prop} {w : World} {a : Option Addr} {n : Nat} {bs : List (List (Int × Int))} (h : BlP Q w a n bs) : BlP (fun b => Q b ∧ b < w.heap.size) w a n bs := by
  refine ⟨h.1, ?_⟩
  by_cases h0 : n = 0
  · exact .inl h0
  · obtain ⟨b, o, e, hq, r⟩ := h.2.resolve_left h0
    obtain ⟨q, c, h1, _⟩ := r 0 (by have := h.1; omega)
    refine .inr ⟨b, o, e, ⟨hq, cell_lt h1⟩, fun i hi => ?_⟩
    obtain ⟨q', c', k1, k2, k3⟩ := r i hi
    refine ⟨q', c', k1, k2, k3.1, ?_⟩
    by_cases hz : (bs.getD i []).length = 0
    · exact .inl hz
    · obtain ⟨b2, o2, e2, hq2, r2⟩ := k3.2.resolve_left hz
      exact .inr ⟨b2, o2, e2, ⟨hq2, cell_lt (r2 0 (by omega)).1⟩, r2⟩

end Go.Proofs.Yteojpdhmhjoeiaa
