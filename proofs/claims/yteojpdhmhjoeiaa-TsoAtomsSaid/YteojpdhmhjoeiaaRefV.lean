/- Contracts of the document's own answers of layer 3 (package respiteref03): Load, with, Store. -/
import Derived.Test.YteojpdhmhjoeiaaRefU
import Derived.Test.YteojpdhmhjoeiaaRefC
import Derived.Test.YteojpdhmhjoeiaaRefN
import Derived.Test.YteojpdhmhjoeiaaMathO
namespace Go.Proofs.Yteojpdhmhjoeiaa
open Go.ChangeShapes Go.WideShapes Go.ChangeAt Go.RowKit

/-- the values of a row of buffers, of all blocks of which Q holds -/
def BValsQ (Q : Nat → Prop) (w : World) (vs : List Value) (bs : List (List (Int × Int))) : Prop := vs.length = bs.length ∧ ∀ i, i < bs.length → ∃ q c, vs[i]? = some (.slice q (bs.getD i []).length c) ∧ CapOk q (bs.getD i []).length c ∧ PlQ Q w q (bs.getD i []).length (bs.getD i [])
theorem bvalsQ_nil (Q : Nat → Prop) (w : World) : BValsQ Q w [] [] := ⟨rfl, fun i hi => by simp at hi⟩
theorem bvalsQB {Q : Nat → Prop} {w w' : World} {vs : List Value} {bs : List (List (Int × Int))} (hb : Below w.heap.size w w') (h : BValsQ Q w vs bs) : BValsQ Q w' vs bs :=
  ⟨h.1, fun i hi => by obtain ⟨q, c, h1, h2, h3⟩ := h.2 i hi; exact ⟨q, c, h1, h2, plQB hb h3⟩⟩
theorem bvalsQ_snoc {Q : Nat → Prop} {w : World} {vs : List Value} {bs : List (List (Int × Int))} {q : Option Addr} {n c : Nat} {b : List (Int × Int)} (h : BValsQ Q w vs bs) (hc : CapOk q n c) (hp : PlQ Q w q n b) : BValsQ Q w (vs ++ [.slice q n c]) (bs ++ [b]) := by
  obtain rfl : b.length = n := hp.1
  refine ⟨by simp [h.1], fun i hi => ?_⟩
  rw [List.length_append, List.length_singleton] at hi
  by_cases e : i = bs.length
  · subst e
    refine ⟨q, c, ?_, ?_, ?_⟩
    · rw [List.getElem?_append_right (by rw [h.1]; exact Nat.le_refl _), h.1]; simp
    · simpa using hc
    · simpa using hp
  · have hi' : i < bs.length := by omega
    obtain ⟨q', c', h1, h2, h3⟩ := h.2 i hi'
    have e2 : (bs ++ [b]).getD i [] = bs.getD i [] := by
      simp only [List.getD_eq_getElem?_getD]
      rw [List.getElem?_append_left hi']
    rw [e2]
    exact ⟨q', c', by rw [List.getElem?_append_left (by rw [h.1]; exact hi')]; exact h1, h2, h3⟩
theorem ownsRow_blQ {Q : Nat → Prop} {e B : Nat} {w : World} {v : Value} {n : Nat} {vs : List Value} {bs : List (List (Int × Int))} (h : w.ownsRow B e 1 v n vs) (hv : BValsQ Q w vs bs) (hQ : ∀ b, B ≤ b → Q b) : ∃ a c, v = .slice a n c ∧ CapOk a n c ∧ BlP Q w a n bs := by
  obtain ⟨hl, h⟩ := h
  have hl' : bs.length = n := by rw [← hv.1, hl, Nat.mul_one]
  rcases h with ⟨rfl, h0⟩ | ⟨g, cap, cur, rfl, hb, hg, hn, hm, hs, ht⟩
  · exact ⟨none, 0, by rw [h0], by subst h0; exact capOk_nil, hl', .inl h0⟩
  · unfold maxLen at hm
    refine ⟨_, _, rfl, ⟨hn, by omega, fun e => by cases e⟩, hl', .inr ⟨g, 0, rfl, hQ _ hb, fun i hi => ?_⟩⟩
    obtain ⟨q, c, h1, h2, h3⟩ := hv.2 i hi
    refine ⟨q, c, ?_, h2, h3⟩
    simp only [World.cell?, hg]
    rw [← ht, List.getElem?_take, if_pos (by omega)] at h1
    simpa using h1
theorem blP_at {Q : Nat → Prop} {w : World} {a : Option Addr} {n : Nat} {bs : List (List (Int × Int))} (h : BlP Q w a n bs) {i : Nat} (hi : i < n) :
    ∃ b o q c, a = some ⟨b, o, none⟩ ∧ w.cell? ⟨b, o + i, none⟩ = some (.slice q (bs.getD i []).length c) ∧ CapOk q (bs.getD i []).length c ∧ PlQ Q w q (bs.getD i []).length (bs.getD i []) := by
  obtain ⟨b, o, e, _, r⟩ := h.2.resolve_left (by omega)
  obtain ⟨q, c, h1, h2, h3⟩ := r i (by rw [h.1]; exact hi)
  exact ⟨b, o, q, c, e, h1, h2, h3⟩
theorem blP_old {Q : Nat → Prop} {w : World} {a : Option Addr} {n : Nat} {bs : List (List (Int × Int))} (hQ : ∀ b, b < w.heap.size → Q b) (h : Bl w a n bs) : BlP Q w a n bs := by
  refine ⟨h.1, ?_⟩
  by_cases h0 : n = 0
  · exact .inl h0
  · obtain ⟨b, o, e, r⟩ := h.2.resolve_left h0
    obtain ⟨q, c, h1, _⟩ := r 0 (by have := h.1; omega)
    refine .inr ⟨b, o, e, hQ _ (cell_lt h1), fun i hi => ?_⟩
    obtain ⟨q', c', k1, k2, k3⟩ := r i hi
    exact ⟨q', c', k1, k2, plQ_old hQ k3⟩
theorem withBs_succ (bs : List (List (Int × Int))) (i : Int) (b : List (Int × Int)) (k : Nat) : withBs bs i b (k + 1) = withBs bs i b k ++ [withB bs i b k] := rfl

end Go.Proofs.Yteojpdhmhjoeiaa
