/- Wd, Base, put together. -/
import Derived.Test.YtiebaeaomgpicaaGreatRows
import Derived.WalkKit
import Derived.ProofKit
import Derived.Handy
import Derived.Lib.Hide
import Derived.Carry
import Derived.Test.YtiebaeaomgpicaaGreatM1
import Derived.BigQuiet
import Derived.Deep.QuietTactic
import Derived.RegionTactic
import Derived.Laws.CopyOwn
/- Words on worlds that all walks use; nothing of the program is named. -/
namespace Go.Proofs.YtiebaeaomgpicaaGreat
open Go.ChangeShapes Go.WideShapes Go.ChangeAt Go.RowKit

theorem cell_lt {w : World} {a : Addr} {v : Value} (h : w.cell? a = some v) : a.block < w.heap.size := by
  apply Classical.byContradiction
  intro hn
  have : w.heap[a.block]? = none := by simp; omega
  simp [World.cell?, this] at h
theorem cellA {w : World} {a : Addr} {v : Value} (o : Obj) (h : w.cell? a = some v) : (w.alloc o).cell? a = some v := by
  rw [World.cell?_alloc_lt _ _ _ (cell_lt h)]; exact h
theorem heap_new (w : World) (o : Obj) (g : Nat) (hg : g = w.heap.size) : (w.alloc o).heap[g]? = some o := by
  subst hg; show (w.heap.push o)[w.heap.size]? = some o; simp
theorem heap_old (w : World) (o : Obj) (g : Nat) (hg : g < w.heap.size) : (w.alloc o).heap[g]? = w.heap[g]? := Below.heap_alloc w o g hg
theorem heap_drew (w : World) : w.drew.heap = w.heap := rfl
theorem setRow_new (w : World) (c cs : Array Value) (t : TypeId) (fr : Nat × Nat) (g : Nat) (hg : g = w.heap.size) : (w.alloc (.cells c t fr)).setRow g cs = w.alloc (.cells cs t fr) := by
  subst hg
  simp only [World.setRow, World.alloc]
  congr 1
  apply Array.ext
  · simp
  · intro i h1 h2
    simp only [Array.getElem_modify, Array.getElem_push]
    split
    · subst_vars; simp
    · have : i < w.heap.size := by simp at h2; omega
      simp [this]
theorem setRow_old (w : World) (o : Obj) (cs : Array Value) (g : Nat) (hg : g < w.heap.size) : (w.alloc o).setRow g cs = (w.setRow g cs).alloc o := by
  simp only [World.setRow, World.alloc]
  congr 1
  apply Array.ext
  · simp
  · intro i h1 h2
    simp only [Array.getElem_modify, Array.getElem_push, Array.size_modify]
    split
    · subst_vars; simp [hg]
    · rfl
theorem setRow_drew (w : World) (cs : Array Value) (g : Nat) : w.drew.setRow g cs = (w.setRow g cs).drew := rfl

theorem below_from {w w0 w1 : World} (h0 : Below w.heap.size w w0) (h : Below w0.heap.size w0 w1) : Below w.heap.size w w1 := h0.trans (h.mono h0.size)
theorem bcell {W w1 : World} (hb : Below W.heap.size W w1) : (∀ b o, b < W.heap.size → w1.cell? ⟨b, o, none⟩ = W.cell? ⟨b, o, none⟩) ∧ (∀ b o, b < W.heap.size → w1.frozen? ⟨b, o, none⟩ = W.frozen? ⟨b, o, none⟩) :=
  ⟨fun b o h => hb.cell (p := ⟨b, o, none⟩) h, fun b o h => hb.frozen (p := ⟨b, o, none⟩) h⟩
theorem cellB {w w' : World} {a : Addr} {v : Value} (hb : Below w.heap.size w w') (h : w.cell? a = some v) : w'.cell? a = some v := by
  rw [hb.cell (cell_lt h)]; exact h

theorem free_row {w : World} {b k : Nat} {c : Array Value} {t : TypeId} (h : w.heap[b]? = some (.cells c t)) : w.frozen? ⟨b, k, none⟩ = false := by
  simp [World.frozen?, h]
theorem cell_new {w : World} {c : Array Value} {t : TypeId} {fr : Nat × Nat} (g k : Nat) (v : Value) (hg : g = w.heap.size) (hv : c[k]? = some v) : (w.alloc (.cells c t fr)).cell? ⟨g, k, none⟩ = some v := by
  simp only [World.cell?, heap_new w _ g hg]
  simpa using hv
theorem frozen_old {w : World} {g k : Nat} (o : Obj) (hg : g < w.heap.size) : (w.alloc o).frozen? ⟨g, k, none⟩ = w.frozen? ⟨g, k, none⟩ := by
  simp only [World.frozen?, heap_old w o g hg]
theorem frozen_new {w : World} {c : Array Value} {t : TypeId} (g k : Nat) (hg : g = w.heap.size) : (w.alloc (.cells c t)).frozen? ⟨g, k, none⟩ = false := free_row (heap_new w _ g hg)
def BoolPost (r : Bool) (w : World) (e : Ending) (w' : World) : Prop := e = .returned (.bool r) ∧ Below w.heap.size w w'
theorem boolPost_mk {r s : Bool} {w w' : World} (h : r = s) (hb : Below w.heap.size w w') : BoolPost r w (.returned (.bool s)) w' := by subst h; exact ⟨rfl, hb⟩
def PureB (r : Bool) (w : World) (e : Ending) (w' : World) : Prop := e = .returned (.bool r) ∧ w' = w
theorem pureB_mk {r s : Bool} {w : World} (h : r = s) : PureB r w (.returned (.bool s)) w := by subst h; exact ⟨rfl, rfl⟩
theorem bp_cell_tmp {fn : Func} {R : Ending → World → Prop} {a : Act} {w : World} {p u : Tmp} {ty : TypeId} {X : Value} (ad : Addr) (hr : fn.results = #[.cell p ty, .tmp u]) (hd : a.defers = [])
    (hp : a.tmps.getD p undef = .pointer (some ad)) (hl : (loadVar ty ad).run Tryz.prog w = .ok X w) (h : R (.returned (.tuple #[X, a.tmps.getD u undef])) w) : bodyPost Tryz.prog fn R .ret a w := by
  refine bodyPost_ret (v := .tuple #[X, a.tmps.getD u undef]) ?_ hd h
  rw [results_cell_tmp hr, hp]
  simp [asAddr, Result.andThen, hl]
theorem bp_cell {fn : Func} {R : Ending → World → Prop} {a : Act} {w : World} {p : Tmp} {ty : TypeId} {X : Value} (ad : Addr) (hr : fn.results = #[.cell p ty]) (hd : a.defers = [])
    (hp : a.tmps.getD p undef = .pointer (some ad)) (hl : (loadVar ty ad).run Tryz.prog w = .ok X w) (h : R (.returned X) w) : bodyPost Tryz.prog fn R .ret a w := by
  refine bodyPost_ret (v := X) ?_ hd h
  have hp' : a.tmps[p]?.getD undef = .pointer (some ad) := by simpa using hp
  simp [results, hr, asAddr, hp', hl]
theorem bp_cell_tmp2 {fn : Func} {R : Ending → World → Prop} {a : Act} {w : World} {p u v : Tmp} {ty : TypeId} {X : Value} (ad : Addr) (hr : fn.results = #[.cell p ty, .tmp u, .tmp v]) (hd : a.defers = [])
    (hp : a.tmps.getD p undef = .pointer (some ad)) (hl : (loadVar ty ad).run Tryz.prog w = .ok X w) (h : R (.returned (.tuple #[X, a.tmps.getD u undef, a.tmps.getD v undef])) w) : bodyPost Tryz.prog fn R .ret a w := by
  refine bodyPost_ret (v := .tuple #[X, a.tmps.getD u undef, a.tmps.getD v undef]) ?_ hd h
  have hp' : a.tmps[p]?.getD undef = .pointer (some ad) := by simpa using hp
  simp [results, hr, asAddr, hp', hl]
theorem step_copy_run {P : Program} {ops : Array Oper} {o : Oper} {a : Act} {w : World} {K : Act → World → Prop} {Q : Exit → Act → World → Prop} {E : Prop}
    (hg : o.guard = none) (d s : Operand) (dT sT : TypeId) (hop : o.op = Op.call { callee := Callee.builtin Builtin.copy, args := #[d, s], argTypes := #[dT, sT] })
    (vd vs v' : Value) (w' : World) (hd : a.eval d = vd) (hs : a.eval s = vs) (hr : (Builtin.copy_ #[dT, sT] o.type #[vd, vs]).run P w = .ok v' w') (hK : K (a.put o.dst v') w') :
    if Region.wanted o (yielded ops a.tmps) = true then Oper.wp P o a w K Q else E := by
  have hw : Region.wanted o (yielded ops a.tmps) = true := by simp [Region.wanted, hg]
  rw [if_pos hw]
  unfold Oper.wp
  simp [execOp, hop, resolve, invoke, builtin, hd, hs, hr, Result.andThen]
  exact hK
end Go.Proofs.YtiebaeaomgpicaaGreat
/- Words on worlds that all walks of this seat use: rows of integers, what stays below a block, the builtins make and copy at []int. -/
namespace Go.Proofs.YtiebaeaomgpicaaGreat
open Go.ChangeShapes Go.WideShapes Go.ChangeAt Go.RowKit

/-- the cells of a row of integers -/
def Row (w : World) (b off : Nat) (zs : List Int) : Prop := ∀ i, i < zs.length → w.cell? ⟨b, off + i, none⟩ = some (.int .i64 (zs.getD i 0))
theorem rowA {w : World} {b off : Nat} {zs : List Int} (o : Obj) (h : Row w b off zs) : Row (w.alloc o) b off zs := fun i hi => cellA o (h i hi)
theorem rowD {w : World} {b off : Nat} {zs : List Int} (h : Row w b off zs) : Row w.drew b off zs := h
theorem rowB {w w' : World} {b off : Nat} {zs : List Int} (hb : Below w.heap.size w w') (h : Row w b off zs) : Row w' b off zs := fun i hi => cellB hb (h i hi)
/-- a slice of n integers: nothing is asked of its address where it is empty -/
def Sl (w : World) (a : Option Addr) (n : Nat) (zs : List Int) : Prop := zs.length = n ∧ (n = 0 ∨ ∃ b o, a = some ⟨b, o, none⟩ ∧ Row w b o zs)
theorem slA {w : World} {a : Option Addr} {n : Nat} {zs : List Int} (o : Obj) (h : Sl w a n zs) : Sl (w.alloc o) a n zs :=
  ⟨h.1, h.2.imp id fun ⟨b, f, e, r⟩ => ⟨b, f, e, rowA o r⟩⟩
theorem slB {w w' : World} {a : Option Addr} {n : Nat} {zs : List Int} (hb : Below w.heap.size w w') (h : Sl w a n zs) : Sl w' a n zs :=
  ⟨h.1, h.2.imp id fun ⟨b, f, e, r⟩ => ⟨b, f, e, rowB hb r⟩⟩
theorem slD {w : World} {a : Option Addr} {n : Nat} {zs : List Int} (h : Sl w a n zs) : Sl w.drew a n zs := h
/-- the same, and the row lies in a block from F on -/
def SlF (F : Nat) (w : World) (a : Option Addr) (n : Nat) (zs : List Int) : Prop := zs.length = n ∧ (n = 0 ∨ ∃ b o, a = some ⟨b, o, none⟩ ∧ F ≤ b ∧ Row w b o zs)
theorem SlF.sl {F : Nat} {w : World} {a : Option Addr} {n : Nat} {zs : List Int} (h : SlF F w a n zs) : Sl w a n zs := ⟨h.1, h.2.imp id fun ⟨b, o, e, _, r⟩ => ⟨b, o, e, r⟩⟩
theorem slF_nil (F : Nat) (w : World) : SlF F w none 0 [] := ⟨rfl, .inl rfl⟩
theorem slF_set {F : Nat} {w : World} {a : Option Addr} {n : Nat} {zs : List Int} (h : SlF F w a n zs) (p : Addr) (hp : p.block < F) (v : Value) : SlF F (w.setCell p v) a n zs := by
  refine ⟨h.1, h.2.imp id ?_⟩
  rintro ⟨b, o, rfl, hf, r⟩
  refine ⟨b, o, rfl, hf, fun i hi => ?_⟩
  rw [World.cell?_setCell_other]
  · exact r i hi
  · intro e; rw [e] at hp; simp at hp; omega
theorem slF_alloc {F : Nat} {w : World} {a : Option Addr} {n : Nat} {zs : List Int} (o : Obj) (h : SlF F w a n zs) : SlF F (w.alloc o) a n zs :=
  ⟨h.1, h.2.imp id fun ⟨b, f, e, hf, r⟩ => ⟨b, f, e, hf, rowA o r⟩⟩
theorem slF_below {F : Nat} {w w' : World} {a : Option Addr} {n : Nat} {zs : List Int} (hb : Below w.heap.size w w') (h : SlF F w a n zs) : SlF F w' a n zs :=
  ⟨h.1, h.2.imp id fun ⟨b, f, e, hf, r⟩ => ⟨b, f, e, hf, rowB hb r⟩⟩
theorem sl_nil (w : World) : Sl w none 0 [] := ⟨rfl, .inl rfl⟩
theorem sl_some {w : World} {a : Option Addr} {n : Nat} {zs : List Int} (h : Sl w a n zs) (hn : 1 ≤ n) : zs.length = n ∧ ∃ b o, a = some ⟨b, o, none⟩ ∧ Row w b o zs :=
  ⟨h.1, h.2.resolve_left (by omega)⟩

/-- the same, and of the row's block Q holds -/
def SlP (Q : Nat → Prop) (w : World) (a : Option Addr) (n : Nat) (zs : List Int) : Prop := zs.length = n ∧ (n = 0 ∨ ∃ b o, a = some ⟨b, o, none⟩ ∧ Q b ∧ Row w b o zs)
theorem SlP.sl {Q : Nat → Prop} {w : World} {a : Option Addr} {n : Nat} {zs : List Int} (h : SlP Q w a n zs) : Sl w a n zs := ⟨h.1, h.2.imp id fun ⟨b, o, e, _, r⟩ => ⟨b, o, e, r⟩⟩
theorem slP_of {w : World} {a : Option Addr} {n : Nat} {zs : List Int} (h : Sl w a n zs) : SlP (fun _ => True) w a n zs := ⟨h.1, h.2.imp id fun ⟨b, o, e, r⟩ => ⟨b, o, e, trivial, r⟩⟩
theorem slP_slF {Q : Nat → Prop} {F : Nat} {w : World} {a : Option Addr} {n : Nat} {zs : List Int} (hQ : ∀ b, F ≤ b → Q b) (h : SlF F w a n zs) : SlP Q w a n zs := ⟨h.1, h.2.imp id fun ⟨b, o, e, hf, r⟩ => ⟨b, o, e, hQ b hf, r⟩⟩
theorem slP_mono {Q Q' : Nat → Prop} {w : World} {a : Option Addr} {n : Nat} {zs : List Int} (hQ : ∀ b, Q b → Q' b) (h : SlP Q w a n zs) : SlP Q' w a n zs := ⟨h.1, h.2.imp id fun ⟨b, o, e, hf, r⟩ => ⟨b, o, e, hQ b hf, r⟩⟩
theorem slP_nil (Q : Nat → Prop) (w : World) : SlP Q w none 0 [] := ⟨rfl, .inl rfl⟩
theorem slP_old {Q : Nat → Prop} {w : World} {a : Option Addr} {n : Nat} {zs : List Int} (hQ : ∀ b, b < w.heap.size → Q b) (h : Sl w a n zs) : SlP Q w a n zs := by
  refine ⟨h.1, ?_⟩
  by_cases h0 : n = 0
  · exact .inl h0
  · obtain ⟨b, o, e, r⟩ := h.2.resolve_left h0
    exact .inr ⟨b, o, e, hQ b (cell_lt (r 0 (by have := h.1; omega))), r⟩
theorem slPB {Q : Nat → Prop} {w w' : World} {a : Option Addr} {n : Nat} {zs : List Int} (hb : Below w.heap.size w w') (h : SlP Q w a n zs) : SlP Q w' a n zs :=
  ⟨h.1, h.2.imp id fun ⟨b, f, e, q, r⟩ => ⟨b, f, e, q, rowB hb r⟩⟩
theorem slPA {Q : Nat → Prop} {w : World} {a : Option Addr} {n : Nat} {zs : List Int} (o : Obj) (h : SlP Q w a n zs) : SlP Q (w.alloc o) a n zs :=
  ⟨h.1, h.2.imp id fun ⟨b, f, e, q, r⟩ => ⟨b, f, e, q, rowA o r⟩⟩
theorem slP_set {Q : Nat → Prop} {w : World} {a : Option Addr} {n : Nat} {zs : List Int} (p : Addr) (hp : ∀ b, Q b → b ≠ p.block) (v : Value) (h : SlP Q w a n zs) : SlP Q (w.setCell p v) a n zs := by
  refine ⟨h.1, h.2.imp id ?_⟩
  rintro ⟨b, o, rfl, hf, r⟩
  refine ⟨b, o, rfl, hf, fun i hi => ?_⟩
  rw [World.cell?_setCell_other]
  · exact r i hi
  · intro e; exact hp b hf (by rw [e])

/-- what the frame of a statement's proof tells of a slice of integers that came in -/
def IsRow (k : IntKind) (w : World) (a : Option Addr) (len cap : Nat) (zs : List Int) : Prop :=
  (a = none ∧ len = 0 ∧ cap = 0 ∧ zs = []) ∨
  ∃ x, a = some x ∧ len ≤ cap ∧ cap ≤ maxLen ∧ zs.length = cap ∧ (∀ i, i < zs.length → w.cell? (x.add i) = some (.int k (zs.getD i 0))) ∧ ∀ n ∈ zs, (Lit.int k n).wf = true
theorem isRow_sl {w : World} {a : Option Addr} {len cap : Nat} {zs : List Int} (h : IsRow .i64 w a len cap zs) (k : Nat) (hk : k ≤ len) : Sl w a k (zs.take k) ∧ len ≤ cap ∧ cap ≤ 9223372036854775807 := by
  rcases h with ⟨rfl, rfl, rfl, rfl⟩ | ⟨x, rfl, hl, hm, hz, hcell, -⟩
  · obtain rfl : k = 0 := by omega
    exact ⟨⟨rfl, .inl rfl⟩, by omega, by omega⟩
  · unfold maxLen at hm
    refine ⟨⟨by rw [List.length_take]; omega, ?_⟩, hl, by omega⟩
    by_cases h0 : k = 0
    · exact .inl h0
    · right
      obtain ⟨b, o, s⟩ := x
      have hc := hcell 0 (by omega)
      have hs : s = none := by simpa [Addr.add] using World.cell?_spot hc
      subst hs
      refine ⟨b, o, rfl, fun i hi => ?_⟩
      rw [List.length_take] at hi
      have := hcell i (by omega)
      have e : (⟨b, o, none⟩ : Addr).add i = ⟨b, o + i, none⟩ := by
        simp only [Addr.add]; split
        · subst_vars; rfl
        · rfl
      rw [e] at this
      rw [this]
      simp only [List.getD_eq_getElem?_getD, List.getElem?_take]
      rw [if_pos (by omega)]

theorem ret_bool {a b : Bool} (h : a = b) : Ending.returned (.bool a) = .returned (.bool b) := by rw [h]
theorem ret_int {k : IntKind} {a b : Int} (h : a = b) : Ending.returned (.int k a) = .returned (.int k b) := by rw [h]
theorem ret_two {k k' : IntKind} {a b c d : Int} (h : a = b) (h' : c = d) : Ending.returned (.tuple #[.int k a, .int k' c]) = .returned (.tuple #[.int k b, .int k' d]) := by rw [h, h']

def Zr (n : Nat) : Array Value := madeCells #[.int .i64 0] n
def Ir (zs : List Int) : Array Value := (zs.map (Value.int .i64)).toArray
theorem Ir_get (zs : List Int) (i : Nat) (h : i < zs.length) : (Ir zs)[i]? = some (.int .i64 (zs.getD i 0)) := by
  simp [Ir, List.getD, h]
theorem Ir_set (zs : List Int) (i : Nat) (v : Int) : (Ir zs).setIfInBounds i (.int .i64 v) = Ir (zs.set i v) := by
  simp [Ir, List.map_set]
theorem Zr_eq (n : Nat) : Zr n = Ir (List.replicate n 0) := by
  unfold Zr Ir madeCells
  apply Array.ext
  · simp
  · intro i h1 h2
    simp only [Array.getElem_map, Array.getElem_range]
    simp [Nat.mod_one]
theorem row_heap {w : World} {b : Nat} {zs : List Int} {t : TypeId} {fr : Nat × Nat} (h : w.heap[b]? = some (.cells (Ir zs) t fr)) : Row w b 0 zs := by
  intro i hi
  simp only [World.cell?, h]
  simpa using Ir_get zs i hi
theorem Tryz.info3 : (Tryz.prog.info? 3).map (fun i => (i.zero, i.size, i.bytes)) = some (some (.int .i64 0), 1, 8) := by kernel_rfl
theorem Tryz.size3 : (Tryz.prog.info? 3).map (·.size) = some 1 := by kernel_rfl

theorem make_ints (n : Nat) (h : n ≤ 1000) (w : World) : (Instr.makeSlice 23 (.int .i64 n) (.int .i64 n)).run Tryz.prog w = .ok (.slice (some ⟨w.heap.size, 0, none⟩) n n) (w.alloc (.cells (Zr n) 3)) := by
  obtain ⟨i0, hi, hz0, hz1, hz2⟩ := info_parts Tryz.info3
  have := run_make (P := Tryz.prog) w 23 3 i0 (.int .i64 0) Tryz.underlying23 hi hz0 .i64 .i64 n n (by omega) (by omega) (by rw [hz2]; omega) (by omega)
  rw [this]
  simp [hz1, Zr, Value.cells]
/-- copy of a whole row into a row of zeros of the call's own -/
theorem copy_ints (w : World) (ty : TypeId) (g n c b o c' : Nat) (zs : List Int) (hz : zs.length = n) (hg : w.heap[g]? = some (.cells (Zr n) 3 (0, 0))) (R : Row w b o zs) :
    (Builtin.copy_ #[23, 23] ty #[.slice (some ⟨g, 0, none⟩) n c, .slice (some ⟨b, o, none⟩) n c']).run Tryz.prog w = .ok (.int .i64 n) (w.setRow g (Ir zs)) := by
  have := run_copy_row (P := Tryz.prog) w 23 23 ty 3 g 0 n c ⟨b, o, none⟩ n c' (Zr n) 3 (zs.map (Value.int .i64)) Tryz.underlying23 Tryz.size3 hg (by simp [hz]) (by
    intro j v hv
    rw [List.getElem?_map] at hv
    cases hj : zs[j]? with
    | none => simp [hj] at hv
    | some z =>
      simp [hj] at hv
      subst hv
      have h1 : j < zs.length := (List.getElem?_eq_some_iff.1 hj).1
      have h2 := R j h1
      have h3 : zs.getD j 0 = z := by simp [List.getD, hj]
      rw [h3] at h2
      have h4 : (⟨b, o, none⟩ : Addr).add j = ⟨b, o + j, none⟩ := by
        simp only [Addr.add]; split
        · subst_vars; rfl
        · rfl
      rw [h4]; exact h2) (by simp [Zr, size_madeCells, hz]) (by intro v hv; simp at hv; obtain ⟨z, _, rfl⟩ := hv; rfl)
  rw [this]
  have h1 : (Zr n).toList.drop (0 + (zs.map (Value.int .i64)).length) = [] := by
    apply List.drop_eq_nil_of_le
    simp [Zr, size_madeCells, hz]
  rw [h1]
  simp [Ir, goInt, hz]

/-! results that lie in memory -/
theorem load_mem (w : World) (b : Nat) (x y : Value) (k0 : w.cell? ⟨b, 0, none⟩ = some x) (k1 : w.cell? ⟨b, 1, none⟩ = some y) : (loadVar 43 ⟨b, 0, none⟩).run Tryz.prog w = .ok (.agg #[x, y]) w := by
  simp [go_sem, k0, k1]
end Go.Proofs.YtiebaeaomgpicaaGreat
