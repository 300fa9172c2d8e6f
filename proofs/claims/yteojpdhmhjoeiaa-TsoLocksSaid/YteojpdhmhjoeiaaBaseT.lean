/- Rows of buffers in worlds: slices of slices of puts. -/
import Derived.Test.YteojpdhmhjoeiaaBaseP
import Derived.Test.YteojpdhmhjoeiaaMathT
namespace Go.Proofs.Yteojpdhmhjoeiaa
open Go.ChangeShapes Go.WideShapes Go.ChangeAt Go.RowKit

/-- one buffer in its cell -/
def BCell (w : World) (a : Addr) (b : List (Int × Int)) : Prop := ∃ q c, w.cell? a = some (.slice q b.length c) ∧ CapOk q b.length c ∧ Pl w q b.length b
theorem bcellA {w : World} {a : Addr} {b : List (Int × Int)} (o : Obj) (h : BCell w a b) : BCell (w.alloc o) a b := by
  obtain ⟨q, c, h1, h2, h3⟩ := h
  exact ⟨q, c, cellA o h1, h2, plA o h3⟩
theorem bcellB {w w' : World} {a : Addr} {b : List (Int × Int)} (hb : Below w.heap.size w w') (h : BCell w a b) : BCell w' a b := by
  obtain ⟨q, c, h1, h2, h3⟩ := h
  exact ⟨q, c, cellB hb h1, h2, plB hb h3⟩
/-- the cells of a row of buffers -/
def BRow (w : World) (blk off : Nat) (bs : List (List (Int × Int))) : Prop := ∀ i, i < bs.length → BCell w ⟨blk, off + i, none⟩ (bs.getD i [])
/-- a slice of n buffers: nothing is asked of its address where it is empty -/
def Bl (w : World) (a : Option Addr) (n : Nat) (bs : List (List (Int × Int))) : Prop := bs.length = n ∧ (n = 0 ∨ ∃ b o, a = some ⟨b, o, none⟩ ∧ BRow w b o bs)
theorem blA {w : World} {a : Option Addr} {n : Nat} {bs : List (List (Int × Int))} (o : Obj) (h : Bl w a n bs) : Bl (w.alloc o) a n bs :=
  ⟨h.1, h.2.imp id fun ⟨b, f, e, r⟩ => ⟨b, f, e, fun i hi => bcellA o (r i hi)⟩⟩
theorem blB {w w' : World} {a : Option Addr} {n : Nat} {bs : List (List (Int × Int))} (hb : Below w.heap.size w w') (h : Bl w a n bs) : Bl w' a n bs :=
  ⟨h.1, h.2.imp id fun ⟨b, f, e, r⟩ => ⟨b, f, e, fun i hi => bcellB hb (r i hi)⟩⟩
theorem blD {w : World} {a : Option Addr} {n : Nat} {bs : List (List (Int × Int))} (h : Bl w a n bs) : Bl w.drew a n bs := h
theorem bl_nil (w : World) : Bl w none 0 [] := ⟨rfl, .inl rfl⟩
theorem bl_at {w : World} {a : Option Addr} {n : Nat} {bs : List (List (Int × Int))} (h : Bl w a n bs) {i : Nat} (hi : i < n) :
    ∃ b o q c, a = some ⟨b, o, none⟩ ∧ w.cell? ⟨b, o + i, none⟩ = some (.slice q (bs.getD i []).length c) ∧ CapOk q (bs.getD i []).length c ∧ Pl w q (bs.getD i []).length (bs.getD i []) := by
  obtain ⟨b, o, e, r⟩ := h.2.resolve_left (by omega)
  obtain ⟨q, c, h1, h2, h3⟩ := r i (by rw [h.1]; exact hi)
  exact ⟨b, o, q, c, e, h1, h2, h3⟩
/-- the values of a row of buffers, as an append law wants them -/
def BVals (w : World) (vs : List Value) (bs : List (List (Int × Int))) : Prop := vs.length = bs.length ∧ ∀ i, i < bs.length → ∃ q c, vs[i]? = some (.slice q (bs.getD i []).length c) ∧ CapOk q (bs.getD i []).length c ∧ Pl w q (bs.getD i []).length (bs.getD i [])
theorem bvals_nil (w : World) : BVals w [] [] := ⟨rfl, fun i hi => by simp at hi⟩
theorem bvalsB {w w' : World} {vs : List Value} {bs : List (List (Int × Int))} (hb : Below w.heap.size w w') (h : BVals w vs bs) : BVals w' vs bs :=
  ⟨h.1, fun i hi => by obtain ⟨q, c, h1, h2, h3⟩ := h.2 i hi; exact ⟨q, c, h1, h2, plB hb h3⟩⟩
theorem bvals_snoc {w : World} {vs : List Value} {bs : List (List (Int × Int))} {q : Option Addr} {n c : Nat} {b : List (Int × Int)} (h : BVals w vs bs) (hc : CapOk q n c) (hp : Pl w q n b) : BVals w (vs ++ [.slice q n c]) (bs ++ [b]) := by
  obtain rfl : b.length = n := hp.1
  refine ⟨by simp [h.1], fun i hi => ?_⟩
  rw [List.length_append, List.length_singleton] at hi
  by_cases e : i = bs.length
  · subst e
    refine ⟨q, c, ?_, ?_, ?_⟩
    · rw [List.getElem?_append_right (by rw [h.1]; exact Nat.le_refl _), h.1]; simp
    · simpa using hc
    · simpa using hp
  · have hi' : i < bs.length := by omega
    obtain ⟨q', c', h1, h2, h3⟩ := h.2 i hi'
    have e2 : (bs ++ [b]).getD i [] = bs.getD i [] := by
      simp only [List.getD_eq_getElem?_getD]
      rw [List.getElem?_append_left hi']
    rw [e2]
    exact ⟨q', c', by rw [List.getElem?_append_left (by rw [h.1]; exact hi')]; exact h1, h2, h3⟩
/-- what a slice of buffers of the call's own holds (e: the number of type []api.Put) -/
theorem ownsRow_bl {e B : Nat} {w : World} {v : Value} {n : Nat} {vs : List Value} {bs : List (List (Int × Int))} (h : w.ownsRow B e 1 v n vs) (hv : BVals w vs bs) : ∃ a c, v = .slice a n c ∧ CapOk a n c ∧ Bl w a n bs := by
  obtain ⟨hl, h⟩ := h
  have hl' : bs.length = n := by rw [← hv.1, hl, Nat.mul_one]
  rcases h with ⟨rfl, h0⟩ | ⟨g, cap, cur, rfl, hb, hg, hn, hm, hs, ht⟩
  · exact ⟨none, 0, by rw [h0], by subst h0; exact capOk_nil, hl', .inl h0⟩
  · unfold maxLen at hm
    refine ⟨_, _, rfl, ⟨hn, by omega, fun e => by cases e⟩, hl', .inr ⟨g, 0, rfl, fun i hi => ?_⟩⟩
    obtain ⟨q, c, h1, h2, h3⟩ := hv.2 i hi
    refine ⟨q, c, ?_, h2, h3⟩
    simp only [World.cell?, hg]
    rw [← ht, List.getElem?_take, if_pos (by omega)] at h1
    simpa using h1
end Go.Proofs.Yteojpdhmhjoeiaa
