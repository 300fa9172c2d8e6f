/- Contracts of the document's own answers of layer 3 (package respiteref03): Flush. -/
import Derived.Test.YteojpdhmhjoeiaaRefX
namespace Go.Proofs.Yteojpdhmhjoeiaa
open Go.ChangeShapes Go.WideShapes Go.ChangeAt Go.RowKit

theorem refStoreF_any (F0 : Nat) (a a' : Option Addr) (n c n' c' : Nat) (ws ts : List Int) (i v : Int) (w : World) (S1 : Sl w a n ws) (U2 : SlP (fun b => b < F0) w a' n' ts) (hm : mayB ws ts = true) :
    Calls Try.prog 34 #[.agg #[.slice a n c, .slice a' n' c'], .int .i64 i, .int .i64 v] w (MemResQ (fun b => b < F0 ∨ w.heap.size ≤ b) (storeW ws ts i v) (storeT ws ts i) (usableZ ws ts i) w) :=
  refStoreQ_any _ a a' n c n' c' ws ts i v w S1 (slP_mono (fun _ h => .inl h) U2) (fun _ h => .inr h) hm
/-- the memory that a store told, in a variable of one's own -/
def FlushCut (F0 : Nat) (W : World) (ws ts : List Int) (E : Int) (s7 s8 : Value) (wx : World) : Prop :=
  ∃ g a n c a' n' c', s7 = .pointer (some ⟨g, 0, none⟩) ∧ s8 = .int .i64 E ∧ W.heap.size ≤ g ∧ wx.cell? ⟨g, 0, none⟩ = some (.slice a n c) ∧ wx.cell? ⟨g, 1, none⟩ = some (.slice a' n' c') ∧ SlP (fun b => b < F0 ∨ W.heap.size ≤ b) wx a n ws ∧ SlP (fun b => b < F0 ∨ W.heap.size ≤ b) wx a' n' ts ∧ Below W.heap.size W wx
theorem flushCut_new {F0 : Nat} {W wx : World} {ws ts : List Int} {E : Int} {a a' : Option Addr} {n c n' c' : Nat} (hb : Below W.heap.size W wx) (u1 : SlP (fun b => b < F0 ∨ W.heap.size ≤ b) wx a n ws) (u2 : SlP (fun b => b < F0 ∨ W.heap.size ≤ b) wx a' n' ts) :
    FlushCut F0 W ws ts E (.pointer (some ⟨wx.heap.size, 0, none⟩)) (.int .i64 E) (wx.alloc (.cells #[.slice a n c, .slice a' n' c'] 25)) :=
  ⟨_, _, _, _, _, _, _, rfl, rfl, hb.size, cell_new _ _ _ rfl rfl, cell_new _ _ _ rfl rfl, slPA _ u1, slPA _ u2, hb.alloc hb.size _⟩
theorem flushCut_set {F0 : Nat} {W wx : World} {ws ts : List Int} {E : Int} {a a' : Option Addr} {n c n' c' : Nat} {x y : Value} (hF : F0 ≤ W.heap.size) (hb : Below W.heap.size W wx) (Y0 : wx.cell? ⟨W.heap.size, 0, none⟩ = some x) (Y1 : wx.cell? ⟨W.heap.size, 1, none⟩ = some y)
    (u1 : SlP (fun b => b < F0 ∨ W.heap.size + 1 ≤ b) wx a n ws) (u2 : SlP (fun b => b < F0 ∨ W.heap.size + 1 ≤ b) wx a' n' ts) :
    FlushCut F0 W ws ts E (.pointer (some ⟨W.heap.size, 0, none⟩)) (.int .i64 E) ((wx.setCell ⟨W.heap.size, 0, none⟩ (.slice a n c)).setCell ⟨W.heap.size, 1, none⟩ (.slice a' n' c')) := by
  have k : ∀ b, (b < F0 ∨ W.heap.size + 1 ≤ b) → b ≠ W.heap.size := fun b h => by omega
  refine ⟨_, _, _, _, _, _, _, rfl, rfl, Nat.le_refl _, set2_0 _ _ (by rw [Y0]; rfl), set2_1 _ _ (by rw [Y1]; rfl), ?_, ?_, (hb.setCell (p := ⟨W.heap.size, 0, none⟩) (Nat.le_refl _) _).setCell (p := ⟨W.heap.size, 1, none⟩) (Nat.le_refl _) _⟩
  · exact slP_mono (fun b h => by omega) (slP_set ⟨W.heap.size, 1, none⟩ k _ (slP_set ⟨W.heap.size, 0, none⟩ k _ u1))
  · exact slP_mono (fun b h => by omega) (slP_set ⟨W.heap.size, 1, none⟩ k _ (slP_set ⟨W.heap.size, 0, none⟩ k _ u2))

theorem var4_set01 {w : World} {g : Nat} {x y z u : Value} (h : Var4 w g x y z u) (x' y' : Value) : Var4 ((w.setCell ⟨g, 0, none⟩ x').setCell ⟨g, 1, none⟩ y') g x' y' z u := by
  obtain ⟨⟨a, b, c, d⟩, e, f, i, j⟩ := h
  have ne : ∀ k i, k ≠ i → (⟨g, k, none⟩ : Addr) ≠ ⟨g, i, none⟩ := fun k i hk e => hk (congrArg Addr.off e)
  refine ⟨⟨set2_0 _ _ (by rw [a]; rfl), set2_1 _ _ (by rw [b]; rfl), ?_, ?_⟩, ?_, ?_, ?_, ?_⟩
  · rw [World.cell?_setCell_other _ _ _ _ (ne _ _ (by decide)), World.cell?_setCell_other _ _ _ _ (ne _ _ (by decide))]; exact c
  · rw [World.cell?_setCell_other _ _ _ _ (ne _ _ (by decide)), World.cell?_setCell_other _ _ _ _ (ne _ _ (by decide))]; exact d
  all_goals (rw [World.frozen?_setCell, World.frozen?_setCell]; assumption)
theorem set2_old {W wx : World} {b o : Nat} {v x y : Value} (hb : Below W.heap.size W wx) (h : W.cell? ⟨b, o, none⟩ = some v) : ((wx.setCell ⟨W.heap.size, 0, none⟩ x).setCell ⟨W.heap.size, 1, none⟩ y).cell? ⟨b, o, none⟩ = some v := by
  have ne : ∀ j, (⟨W.heap.size, j, none⟩ : Addr) ≠ ⟨b, o, none⟩ := fun j e => by have h1 := congrArg Addr.block e; have h2 := cell_lt h; dsimp only at h1 h2; omega
  rw [World.cell?_setCell_other _ _ _ _ (ne _), World.cell?_setCell_other _ _ _ _ (ne _)]
  exact cellB hb h

end Go.Proofs.Yteojpdhmhjoeiaa
