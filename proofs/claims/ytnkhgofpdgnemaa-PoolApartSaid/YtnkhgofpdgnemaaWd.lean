/- Words on worlds that all walks use; nothing of the program is named. -/
import Derived.Test.YtnkhgofpdgnemaaRows
import Derived.WalkKit
import Derived.ProofKit
import Derived.Handy
import Derived.Lib.Hide
import Derived.Carry
namespace Go.Proofs.Ytnkhgofpdgnemaa
open Go.ChangeShapes Go.WideShapes Go.ChangeAt Go.RowKit

theorem cell_lt {w : World} {a : Addr} {v : Value} (h : w.cell? a = some v) : a.block < w.heap.size := by
  apply Classical.byContradiction
  intro hn
  have : w.heap[a.block]? = none := by simp; omega
  simp [World.cell?, this] at h
theorem cellA {w : World} {a : Addr} {v : Value} (o : Obj) (h : w.cell? a = some v) : (w.alloc o).cell? a = some v := by
  rw [World.cell?_alloc_lt _ _ _ (cell_lt h)]; exact h
theorem heap_new (w : World) (o : Obj) (g : Nat) (hg : g = w.heap.size) : (w.alloc o).heap[g]? = some o := by
  subst hg; show (w.heap.push o)[w.heap.size]? = some o; simp
theorem heap_old (w : World) (o : Obj) (g : Nat) (hg : g < w.heap.size) : (w.alloc o).heap[g]? = w.heap[g]? := Below.heap_alloc w o g hg
theorem heap_drew (w : World) : w.drew.heap = w.heap := rfl
theorem setRow_new (w : World) (c cs : Array Value) (t : TypeId) (fr : Nat × Nat) (g : Nat) (hg : g = w.heap.size) : (w.alloc (.cells c t fr)).setRow g cs = w.alloc (.cells cs t fr) := by
  subst hg
  simp only [World.setRow, World.alloc]
  congr 1
  apply Array.ext
  · simp
  · intro i h1 h2
    simp only [Array.getElem_modify, Array.getElem_push]
    split
    · subst_vars; simp
    · have : i < w.heap.size := by simp at h2; omega
      simp [this]
theorem setRow_old (w : World) (o : Obj) (cs : Array Value) (g : Nat) (hg : g < w.heap.size) : (w.alloc o).setRow g cs = (w.setRow g cs).alloc o := by
  simp only [World.setRow, World.alloc]
  congr 1
  apply Array.ext
  · simp
  · intro i h1 h2
    simp only [Array.getElem_modify, Array.getElem_push, Array.size_modify]
    split
    · subst_vars; simp [hg]
    · rfl
theorem setRow_drew (w : World) (cs : Array Value) (g : Nat) : w.drew.setRow g cs = (w.setRow g cs).drew := rfl

theorem below_from {w w0 w1 : World} (h0 : Below w.heap.size w w0) (h : Below w0.heap.size w0 w1) : Below w.heap.size w w1 := h0.trans (h.mono h0.size)
theorem bcell {W w1 : World} (hb : Below W.heap.size W w1) : (∀ b o, b < W.heap.size → w1.cell? ⟨b, o, none⟩ = W.cell? ⟨b, o, none⟩) ∧ (∀ b o, b < W.heap.size → w1.frozen? ⟨b, o, none⟩ = W.frozen? ⟨b, o, none⟩) :=
  ⟨fun b o h => hb.cell (p := ⟨b, o, none⟩) h, fun b o h => hb.frozen (p := ⟨b, o, none⟩) h⟩
theorem cellB {w w' : World} {a : Addr} {v : Value} (hb : Below w.heap.size w w') (h : w.cell? a = some v) : w'.cell? a = some v := by
  rw [hb.cell (cell_lt h)]; exact h

theorem free_row {w : World} {b k : Nat} {c : Array Value} {t : TypeId} (h : w.heap[b]? = some (.cells c t)) : w.frozen? ⟨b, k, none⟩ = false := by
  simp [World.frozen?, h]
theorem cell_new {w : World} {c : Array Value} {t : TypeId} {fr : Nat × Nat} (g k : Nat) (v : Value) (hg : g = w.heap.size) (hv : c[k]? = some v) : (w.alloc (.cells c t fr)).cell? ⟨g, k, none⟩ = some v := by
  simp only [World.cell?, heap_new w _ g hg]
  simpa using hv
theorem frozen_old {w : World} {g k : Nat} (o : Obj) (hg : g < w.heap.size) : (w.alloc o).frozen? ⟨g, k, none⟩ = w.frozen? ⟨g, k, none⟩ := by
  simp only [World.frozen?, heap_old w o g hg]
theorem frozen_new {w : World} {c : Array Value} {t : TypeId} (g k : Nat) (hg : g = w.heap.size) : (w.alloc (.cells c t)).frozen? ⟨g, k, none⟩ = false := free_row (heap_new w _ g hg)
def BoolPost (r : Bool) (w : World) (e : Ending) (w' : World) : Prop := e = .returned (.bool r) ∧ Below w.heap.size w w'
theorem boolPost_mk {r s : Bool} {w w' : World} (h : r = s) (hb : Below w.heap.size w w') : BoolPost r w (.returned (.bool s)) w' := by subst h; exact ⟨rfl, hb⟩
def PureB (r : Bool) (w : World) (e : Ending) (w' : World) : Prop := e = .returned (.bool r) ∧ w' = w
theorem pureB_mk {r s : Bool} {w : World} (h : r = s) : PureB r w (.returned (.bool s)) w := by subst h; exact ⟨rfl, rfl⟩
theorem bp_cell_tmp {fn : Func} {R : Ending → World → Prop} {a : Act} {w : World} {p u : Tmp} {ty : TypeId} {X : Value} (ad : Addr) (hr : fn.results = #[.cell p ty, .tmp u]) (hd : a.defers = [])
    (hp : a.tmps.getD p undef = .pointer (some ad)) (hl : (loadVar ty ad).run Try.prog w = .ok X w) (h : R (.returned (.tuple #[X, a.tmps.getD u undef])) w) : bodyPost Try.prog fn R .ret a w := by
  refine bodyPost_ret (v := .tuple #[X, a.tmps.getD u undef]) ?_ hd h
  rw [results_cell_tmp hr, hp]
  simp [asAddr, Result.andThen, hl]
theorem bp_cell {fn : Func} {R : Ending → World → Prop} {a : Act} {w : World} {p : Tmp} {ty : TypeId} {X : Value} (ad : Addr) (hr : fn.results = #[.cell p ty]) (hd : a.defers = [])
    (hp : a.tmps.getD p undef = .pointer (some ad)) (hl : (loadVar ty ad).run Try.prog w = .ok X w) (h : R (.returned X) w) : bodyPost Try.prog fn R .ret a w := by
  refine bodyPost_ret (v := X) ?_ hd h
  have hp' : a.tmps[p]?.getD undef = .pointer (some ad) := by simpa using hp
  simp [results, hr, asAddr, hp', hl]
theorem bp_cell_tmp2 {fn : Func} {R : Ending → World → Prop} {a : Act} {w : World} {p u v : Tmp} {ty : TypeId} {X : Value} (ad : Addr) (hr : fn.results = #[.cell p ty, .tmp u, .tmp v]) (hd : a.defers = [])
    (hp : a.tmps.getD p undef = .pointer (some ad)) (hl : (loadVar ty ad).run Try.prog w = .ok X w) (h : R (.returned (.tuple #[X, a.tmps.getD u undef, a.tmps.getD v undef])) w) : bodyPost Try.prog fn R .ret a w := by
  refine bodyPost_ret (v := .tuple #[X, a.tmps.getD u undef, a.tmps.getD v undef]) ?_ hd h
  have hp' : a.tmps[p]?.getD undef = .pointer (some ad) := by simpa using hp
  simp [results, hr, asAddr, hp', hl]
theorem step_copy_run {P : Program} {ops : Array Oper} {o : Oper} {a : Act} {w : World} {K : Act → World → Prop} {Q : Exit → Act → World → Prop} {E : Prop}
    (hg : o.guard = none) (d s : Operand) (dT sT : TypeId) (hop : o.op = Op.call { callee := Callee.builtin Builtin.copy, args := #[d, s], argTypes := #[dT, sT] })
    (vd vs v' : Value) (w' : World) (hd : a.eval d = vd) (hs : a.eval s = vs) (hr : (Builtin.copy_ #[dT, sT] o.type #[vd, vs]).run P w = .ok v' w') (hK : K (a.put o.dst v') w') :
    if Region.wanted o (yielded ops a.tmps) = true then Oper.wp P o a w K Q else E := by
  have hw : Region.wanted o (yielded ops a.tmps) = true := by simp [Region.wanted, hg]
  rw [if_pos hw]
  unfold Oper.wp
  simp [execOp, hop, resolve, invoke, builtin, hd, hs, hr, Result.andThen]
  exact hK
end Go.Proofs.Ytnkhgofpdgnemaa
