/- Contracts of the document's own answers of layer 1 (package respiteref01). -/
import Derived.Test.YtnkhgofpdgnemaaMemC
import Derived.Test.YtnkhgofpdgnemaaMathC
import Derived.WalkSmall
namespace Go.Proofs.Ytnkhgofpdgnemaa
open Go.ChangeShapes Go.WideShapes Go.ChangeAt Go.RowKit

/-- what a slice of the call's own holds -/
theorem ownsRow_slF {B : Nat} {w : World} {v : Value} {n : Nat} {zs : List Int} (h : w.ownsRow B 3 1 v n (zs.map (Value.int .i64))) : ∃ a c, v = .slice a n c ∧ SlF B w a n zs := by
  obtain ⟨hl, h⟩ := h
  have hl' : zs.length = n := by simpa using hl
  rcases h with ⟨rfl, h0⟩ | ⟨g, cap, cur, rfl, hb, hg, hn, hm, hs, ht⟩
  · exact ⟨none, 0, by rw [h0], hl', .inl h0⟩
  · refine ⟨_, _, rfl, hl', .inr ⟨g, 0, rfl, hb, fun i hi => ?_⟩⟩
    simp only [World.cell?, hg]
    have e : (zs.map (Value.int .i64))[i]? = some (.int .i64 (zs.getD i 0)) := by simp [hi]
    rw [← ht, List.getElem?_take, if_pos (by omega)] at e
    simpa using e

theorem cell_one (w : World) (x : Value) (t : TypeId) : ∀ j u, [x][j]? = some u → (w.alloc (.cells #[x] t)).cell? ((⟨w.heap.size, 0, none⟩ : Addr).add j) = some u := by
  intro j u h
  obtain rfl : j = 0 := by
    have := (List.getElem?_eq_some_iff.1 h).1
    simp at this; omega
  simp at h
  subst h
  simp [Addr.add]
def WithC (zs : List Int) (i x : Int) (k : Nat) : List Value := (withN zs i x k).map (Value.int .i64)
theorem WithC_succ (zs : List Int) (i x : Int) (k : Nat) {y : Int} (h : withE zs i x k = y) : WithC zs i x (k + 1) = WithC zs i x k ++ [.int .i64 y] := by
  simp [WithC, withN, h]
def WithPost (zs : List Int) (w : World) (e : Ending) (w' : World) : Prop := ∃ a c, e = .returned (.slice a zs.length c) ∧ SlF w.heap.size w' a zs.length zs ∧ Below w.heap.size w w'
theorem withPost_mk {zs : List Int} {i x : Int} {w w' : World} {v : Value} {n : Nat} (hn : zs.length = n) (h : w'.ownsRow w.heap.size 3 1 v n (WithC zs i x n)) (hb : Below w.heap.size w w') : WithPost (withZ zs i x) w (.returned v) w' := by
  subst hn
  obtain ⟨a, c, rfl, hs⟩ := ownsRow_slF h
  refine ⟨a, c, ?_, ?_, hb⟩
  · rw [withZ, withN_length]
  · rw [show (withZ zs i x).length = zs.length by rw [withZ, withN_length]]; exact hs

end Go.Proofs.Ytnkhgofpdgnemaa
