/- Contracts of package memory: New, copied, Store. -/
import Derived.Test.YtnkhgofpdgnemaaMemB
namespace Go.Proofs.Ytnkhgofpdgnemaa
open Go.ChangeShapes Go.WideShapes Go.ChangeAt Go.RowKit

/-- a memory and an error: the memory reads as the two lists -/
def MemRet (ws ts : List Int) (x : Int) (w : World) (e : Ending) (w' : World) : Prop :=
  ∃ a n c a' n' c', e = .returned (.tuple #[.agg #[.slice a n c, .slice a' n' c'], .int .i64 x]) ∧ SlF w.heap.size w' a n ws ∧ SlF w.heap.size w' a' n' ts ∧ Below w.heap.size w w'
theorem memRet_nil {x : Int} {w w' : World} (hb : Below w.heap.size w w') : MemRet [] [] x w (.returned (.tuple #[.agg #[.slice none 0 0, .slice none 0 0], .int .i64 x])) w' :=
  ⟨_, _, _, _, _, _, rfl, slF_nil _ _, slF_nil _ _, hb⟩
theorem memRet_rows {x : Int} {w w' : World} {p q n m c c' : Nat} {ws ts : List Int} (hw : ws.length = n) (ht : ts.length = m) {t t' : TypeId} {fr fr' : Nat × Nat} (hp : w.heap.size ≤ p) (hq : w.heap.size ≤ q) (h1 : w'.heap[p]? = some (.cells (Ir ws) t fr)) (h2 : w'.heap[q]? = some (.cells (Ir ts) t' fr')) (hb : Below w.heap.size w w') :
    MemRet ws ts x w (.returned (.tuple #[.agg #[.slice (some ⟨p, 0, none⟩) n c, .slice (some ⟨q, 0, none⟩) m c'], .int .i64 x])) w' :=
  ⟨_, _, _, _, _, _, rfl, ⟨hw, .inr ⟨_, _, rfl, hp, row_heap h1⟩⟩, ⟨ht, .inr ⟨_, _, rfl, hq, row_heap h2⟩⟩, hb⟩

def CopyPost (n : Nat) (ws ts : List Int) (w : World) (e : Ending) (w' : World) : Prop :=
  ∃ p q : Nat, e = .returned (.agg #[.slice (some ⟨p, 0, none⟩) n n, .slice (some ⟨q, 0, none⟩) n n]) ∧ p ≠ q ∧ w.heap.size ≤ p ∧ w.heap.size ≤ q ∧ w'.heap[p]? = some (.cells (Ir ws) 3) ∧ w'.heap[q]? = some (.cells (Ir ts) 3) ∧ Below w.heap.size w w'

theorem cell_row {w : World} {b k : Nat} {zs : List Int} {t : TypeId} {fr : Nat × Nat} (h : w.heap[b]? = some (.cells (Ir zs) t fr)) (hk : k < zs.length) : w.cell? ⟨b, k, none⟩ = some (.int .i64 (zs.getD k 0)) := by
  simp only [World.cell?, h]
  simpa using Ir_get zs k hk
theorem set_row {w : World} {b k : Nat} {zs : List Int} {t : TypeId} {fr : Nat × Nat} {v : Int} (h : w.heap[b]? = some (.cells (Ir zs) t fr)) : (w.setCell ⟨b, k, none⟩ (.int .i64 v)).heap[b]? = some (.cells (Ir (zs.set k v)) t fr) := by
  have hb : b < w.heap.size := (Array.getElem?_eq_some_iff.1 h).1
  simp only [World.setCell, Array.getElem?_modify, ↓reduceIte, h, Option.map_some]
  simp [Ir_set]
theorem heap_lt {w : World} {b : Nat} {o : Obj} (h : w.heap[b]? = some o) : b < w.heap.size := (Array.getElem?_eq_some_iff.1 h).1

end Go.Proofs.Ytnkhgofpdgnemaa
