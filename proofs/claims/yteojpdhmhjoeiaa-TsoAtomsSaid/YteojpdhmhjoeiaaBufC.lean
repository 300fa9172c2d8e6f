/- The contract of buffer.Fold. -/
import Derived.Test.YteojpdhmhjoeiaaBufB
import Derived.Deep.RegionHeld3
import Derived.Deep.DeepCutAuto
namespace Go.Proofs.Yteojpdhmhjoeiaa
open Go.ChangeShapes Go.WideShapes Go.ChangeAt Go.RowKit

/-- a memory, a number and an error -/
def FoldPost (ws ts : List Int) (k x : Int) (w : World) (e : Ending) (w' : World) : Prop :=
  ∃ a n c a' n' c', e = .returned (.tuple #[.agg #[.slice a n c, .slice a' n' c'], .int .i64 k, .int .i64 x]) ∧ SlF w.heap.size w' a n ws ∧ SlF w.heap.size w' a' n' ts ∧ Below w.heap.size w w'
theorem foldPost_nil {ws ts : List Int} {k x : Int} (hw : ws = []) (ht : ts = []) {w w' : World} (hb : Below w.heap.size w w') : FoldPost ws ts k x w (.returned (.tuple #[.agg #[.slice none 0 0, .slice none 0 0], .int .i64 k, .int .i64 x])) w' := by
  subst hw; subst ht; exact ⟨_, _, _, _, _, _, rfl, slF_nil _ _, slF_nil _ _, hb⟩
/-- the memory at work: a variable at block g, its rows not in g, and from F on -/
def MemAt (F g : Nat) (ws ts : List Int) (w : World) : Prop :=
  ∃ p l d p' l' d', w.cell? ⟨g, 0, none⟩ = some (.slice p l d) ∧ w.cell? ⟨g, 1, none⟩ = some (.slice p' l' d') ∧ w.frozen? ⟨g, 0, none⟩ = false ∧ w.frozen? ⟨g, 1, none⟩ = false ∧ SlP (fun b => F ≤ b ∧ b ≠ g) w p l ws ∧ SlP (fun b => F ≤ b ∧ b ≠ g) w p' l' ts
def FoldCut (w w1 : World) (ws ts : List Int) (s7 : Value) (wx : World) : Prop := ∃ g, s7 = .pointer (some ⟨g, 0, none⟩) ∧ w.heap.size + 1 < g ∧ MemAt (w.heap.size + 2) g ws ts wx ∧ Below w1.heap.size w1 wx

theorem slF_P {Q : Nat → Prop} {F : Nat} {w : World} {a : Option Addr} {n : Nat} {zs : List Int} (hQ : ∀ b, Q b → F ≤ b) (h : SlP Q w a n zs) : SlF F w a n zs := ⟨h.1, h.2.imp id fun ⟨b, o, e, hq, r⟩ => ⟨b, o, e, hQ b hq, r⟩⟩
theorem set2_0 {w : World} {g : Nat} (x y : Value) (h : (w.cell? ⟨g, 0, none⟩).isSome = true) : ((w.setCell ⟨g, 0, none⟩ x).setCell ⟨g, 1, none⟩ y).cell? ⟨g, 0, none⟩ = some x := by
  rw [World.cell?_setCell_other]
  · exact World.cell?_setCell_same' _ _ _ h
  · intro h; simp at h
theorem set2_1 {w : World} {g : Nat} (x y : Value) (h : (w.cell? ⟨g, 1, none⟩).isSome = true) : ((w.setCell ⟨g, 0, none⟩ x).setCell ⟨g, 1, none⟩ y).cell? ⟨g, 1, none⟩ = some y := by
  refine World.cell?_setCell_same' _ _ _ ?_
  rw [World.cell?_setCell_other]
  · exact h
  · intro h; simp at h
/-- a row that was there ahead of block g's making, from F on -/
theorem slP_at {F B g : Nat} {w : World} {a : Option Addr} {n : Nat} {zs : List Int} (h : SlF B w a n zs) (hf : F ≤ B) (hg : w.heap.size ≤ g ∨ g < B) : SlP (fun b => F ≤ b ∧ b ≠ g) w a n zs := by
  refine ⟨h.1, ?_⟩
  by_cases h0 : n = 0
  · exact .inl h0
  · obtain ⟨b, o, e, hb, r⟩ := h.2.resolve_left h0
    have := cell_lt (r 0 (by have := h.1; omega))
    dsimp only at this
    exact .inr ⟨b, o, e, ⟨by omega, by omega⟩, r⟩

theorem foldCut_new {w w1 wy : World} {ws ts : List Int} {p p' : Option Addr} {n n' d d' : Nat} (hs1 : w.heap.size + 2 ≤ w1.heap.size) (hb : Below w1.heap.size w1 wy)
    (P1 : SlP (fun b => w.heap.size + 2 ≤ b ∧ b ≠ wy.heap.size) wy p n ws) (P2 : SlP (fun b => w.heap.size + 2 ≤ b ∧ b ≠ wy.heap.size) wy p' n' ts) :
    FoldCut w w1 ws ts (.pointer (some ⟨wy.heap.size, 0, none⟩)) (wy.alloc (.cells #[.slice p n d, .slice p' n' d'] 25)) := by
  have := hb.size
  exact ⟨_, rfl, by omega, ⟨p, n, d, p', n', d', cell_new _ _ _ rfl rfl, cell_new _ _ _ rfl rfl, frozen_new _ _ rfl, frozen_new _ _ rfl, slPA _ P1, slPA _ P2⟩, hb.alloc hb.size _⟩
theorem foldCut_set {w w1 wy : World} {ws ts : List Int} {p p' : Option Addr} {n n' d d' g : Nat} {x y : Value} (hs1 : w.heap.size + 2 ≤ w1.heap.size) (hg : w1.heap.size ≤ g) (hb : Below w1.heap.size w1 wy)
    (Y0 : wy.cell? ⟨g, 0, none⟩ = some x) (Y1 : wy.cell? ⟨g, 1, none⟩ = some y) (Y2 : wy.frozen? ⟨g, 0, none⟩ = false) (Y3 : wy.frozen? ⟨g, 1, none⟩ = false)
    (P1 : SlP (fun b => w.heap.size + 2 ≤ b ∧ b ≠ g) wy p n ws) (P2 : SlP (fun b => w.heap.size + 2 ≤ b ∧ b ≠ g) wy p' n' ts) :
    FoldCut w w1 ws ts (.pointer (some ⟨g, 0, none⟩)) ((wy.setCell ⟨g, 0, none⟩ (.slice p n d)).setCell ⟨g, 1, none⟩ (.slice p' n' d')) :=
  ⟨g, rfl, by omega, ⟨p, n, d, p', n', d', set2_0 _ _ (by rw [Y0]; rfl), set2_1 _ _ (by rw [Y1]; rfl), by rw [World.frozen?_setCell, World.frozen?_setCell]; exact Y2, by rw [World.frozen?_setCell, World.frozen?_setCell]; exact Y3,
    slP_set ⟨g, 1, none⟩ (fun b hb => hb.2) _ (slP_set ⟨g, 0, none⟩ (fun b hb => hb.2) _ P1), slP_set ⟨g, 1, none⟩ (fun b hb => hb.2) _ (slP_set ⟨g, 0, none⟩ (fun b hb => hb.2) _ P2)⟩, (hb.setCell hg _).setCell hg _⟩
theorem frozenB {w w' : World} {a : Addr} {v : Value} (hb : Below w.heap.size w w') (h : w.cell? a = some v) (f : w.frozen? a = false) : w'.frozen? a = false := (hb.frozen (cell_lt h)).trans f

end Go.Proofs.Yteojpdhmhjoeiaa
