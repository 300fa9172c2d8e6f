/- Words on worlds that all walks of this seat use: rows of integers, what stays below a block, the builtins make and copy at []int. -/
import Derived.Test.YtnkhgofpdgnemaaRows
import Derived.Test.YtnkhgofpdgnemaaMathA
import Derived.Test.YtnkhgofpdgnemaaWd
import Derived.WalkKit
import Derived.ProofKit
import Derived.Handy
import Derived.Lib.Hide
import Derived.BigQuiet
import Derived.Deep.QuietTactic
import Derived.RegionTactic
import Derived.Laws.CopyOwn
import Derived.Carry
namespace Go.Proofs.Ytnkhgofpdgnemaa
open Go.ChangeShapes Go.WideShapes Go.ChangeAt Go.RowKit

/-- the cells of a row of integers -/
def Row (w : World) (b off : Nat) (zs : List Int) : Prop := ∀ i, i < zs.length → w.cell? ⟨b, off + i, none⟩ = some (.int .i64 (zs.getD i 0))
theorem rowA {w : World} {b off : Nat} {zs : List Int} (o : Obj) (h : Row w b off zs) : Row (w.alloc o) b off zs := fun i hi => cellA o (h i hi)
theorem rowD {w : World} {b off : Nat} {zs : List Int} (h : Row w b off zs) : Row w.drew b off zs := h
theorem rowB {w w' : World} {b off : Nat} {zs : List Int} (hb : Below w.heap.size w w') (h : Row w b off zs) : Row w' b off zs := fun i hi => cellB hb (h i hi)
/-- a slice of n integers: nothing is asked of its address where it is empty -/
def Sl (w : World) (a : Option Addr) (n : Nat) (zs : List Int) : Prop := zs.length = n ∧ (n = 0 ∨ ∃ b o, a = some ⟨b, o, none⟩ ∧ Row w b o zs)
theorem slA {w : World} {a : Option Addr} {n : Nat} {zs : List Int} (o : Obj) (h : Sl w a n zs) : Sl (w.alloc o) a n zs :=
  ⟨h.1, h.2.imp id fun ⟨b, f, e, r⟩ => ⟨b, f, e, rowA o r⟩⟩
theorem slB {w w' : World} {a : Option Addr} {n : Nat} {zs : List Int} (hb : Below w.heap.size w w') (h : Sl w a n zs) : Sl w' a n zs :=
  ⟨h.1, h.2.imp id fun ⟨b, f, e, r⟩ => ⟨b, f, e, rowB hb r⟩⟩
theorem slD {w : World} {a : Option Addr} {n : Nat} {zs : List Int} (h : Sl w a n zs) : Sl w.drew a n zs := h
/-- the same, and the row lies in a block from F on -/
def SlF (F : Nat) (w : World) (a : Option Addr) (n : Nat) (zs : List Int) : Prop := zs.length = n ∧ (n = 0 ∨ ∃ b o, a = some ⟨b, o, none⟩ ∧ F ≤ b ∧ Row w b o zs)
theorem SlF.sl {F : Nat} {w : World} {a : Option Addr} {n : Nat} {zs : List Int} (h : SlF F w a n zs) : Sl w a n zs := ⟨h.1, h.2.imp id fun ⟨b, o, e, _, r⟩ => ⟨b, o, e, r⟩⟩
theorem slF_nil (F : Nat) (w : World) : SlF F w none 0 [] := ⟨rfl, .inl rfl⟩
theorem slF_set {F : Nat} {w : World} {a : Option Addr} {n : Nat} {zs : List Int} (h : SlF F w a n zs) (p : Addr) (hp : p.block < F) (v : Value) : SlF F (w.setCell p v) a n zs := by
  refine ⟨h.1, h.2.imp id ?_⟩
  rintro ⟨b, o, rfl, hf, r⟩
  refine ⟨b, o, rfl, hf, fun i hi => ?_⟩
  rw [World.cell?_setCell_other]
  · exact r i hi
  · intro e; rw [e] at hp; simp at hp; omega
theorem slF_alloc {F : Nat} {w : World} {a : Option Addr} {n : Nat} {zs : List Int} (o : Obj) (h : SlF F w a n zs) : SlF F (w.alloc o) a n zs :=
  ⟨h.1, h.2.imp id fun ⟨b, f, e, hf, r⟩ => ⟨b, f, e, hf, rowA o r⟩⟩
theorem slF_below {F : Nat} {w w' : World} {a : Option Addr} {n : Nat} {zs : List Int} (hb : Below w.heap.size w w') (h : SlF F w a n zs) : SlF F w' a n zs :=
  ⟨h.1, h.2.imp id fun ⟨b, f, e, hf, r⟩ => ⟨b, f, e, hf, rowB hb r⟩⟩
theorem sl_nil (w : World) : Sl w none 0 [] := ⟨rfl, .inl rfl⟩
theorem sl_some {w : World} {a : Option Addr} {n : Nat} {zs : List Int} (h : Sl w a n zs) (hn : 1 ≤ n) : zs.length = n ∧ ∃ b o, a = some ⟨b, o, none⟩ ∧ Row w b o zs :=
  ⟨h.1, h.2.resolve_left (by omega)⟩

/-- the same, and of the row's block Q holds -/
def SlP (Q : Nat → Prop) (w : World) (a : Option Addr) (n : Nat) (zs : List Int) : Prop := zs.length = n ∧ (n = 0 ∨ ∃ b o, a = some ⟨b, o, none⟩ ∧ Q b ∧ Row w b o zs)
theorem SlP.sl {Q : Nat → Prop} {w : World} {a : Option Addr} {n : Nat} {zs : List Int} (h : SlP Q w a n zs) : Sl w a n zs := ⟨h.1, h.2.imp id fun ⟨b, o, e, _, r⟩ => ⟨b, o, e, r⟩⟩
theorem slP_of {w : World} {a : Option Addr} {n : Nat} {zs : List Int} (h : Sl w a n zs) : SlP (fun _ => True) w a n zs := ⟨h.1, h.2.imp id fun ⟨b, o, e, r⟩ => ⟨b, o, e, trivial, r⟩⟩
theorem slP_slF {Q : Nat → Prop} {F : Nat} {w : World} {a : Option Addr} {n : Nat} {zs : List Int} (hQ : ∀ b, F ≤ b → Q b) (h : SlF F w a n zs) : SlP Q w a n zs := ⟨h.1, h.2.imp id fun ⟨b, o, e, hf, r⟩ => ⟨b, o, e, hQ b hf, r⟩⟩
theorem slP_mono {Q Q' : Nat → Prop} {w : World} {a : Option Addr} {n : Nat} {zs : List Int} (hQ : ∀ b, Q b → Q' b) (h : SlP Q w a n zs) : SlP Q' w a n zs := ⟨h.1, h.2.imp id fun ⟨b, o, e, hf, r⟩ => ⟨b, o, e, hQ b hf, r⟩⟩
theorem slP_nil (Q : Nat → Prop) (w : World) : SlP Q w none 0 [] := ⟨rfl, .inl rfl⟩
theorem slP_old {Q : Nat → Prop} {w : World} {a : Option Addr} {n : Nat} {zs : List Int} (hQ : ∀ b, b < w.heap.size → Q b) (h : Sl w a n zs) : SlP Q w a n zs := by
  refine ⟨h.1, ?_⟩
  by_cases h0 : n = 0
  · exact .inl h0
  · obtain ⟨b, o, e, r⟩ := h.2.resolve_left h0
    exact .inr ⟨b, o, e, hQ b (cell_lt (r 0 (by have := h.1; omega))), r⟩
theorem slPB {Q : Nat → Prop} {w w' : World} {a : Option Addr} {n : Nat} {zs : List Int} (hb : Below w.heap.size w w') (h : SlP Q w a n zs) : SlP Q w' a n zs :=
  ⟨h.1, h.2.imp id fun ⟨b, f, e, q, r⟩ => ⟨b, f, e, q, rowB hb r⟩⟩
theorem slPA {Q : Nat → Prop} {w : World} {a : Option Addr} {n : Nat} {zs : List Int} (o : Obj) (h : SlP Q w a n zs) : SlP Q (w.alloc o) a n zs :=
  ⟨h.1, h.2.imp id fun ⟨b, f, e, q, r⟩ => ⟨b, f, e, q, rowA o r⟩⟩
theorem slP_set {Q : Nat → Prop} {w : World} {a : Option Addr} {n : Nat} {zs : List Int} (p : Addr) (hp : ∀ b, Q b → b ≠ p.block) (v : Value) (h : SlP Q w a n zs) : SlP Q (w.setCell p v) a n zs := by
  refine ⟨h.1, h.2.imp id ?_⟩
  rintro ⟨b, o, rfl, hf, r⟩
  refine ⟨b, o, rfl, hf, fun i hi => ?_⟩
  rw [World.cell?_setCell_other]
  · exact r i hi
  · intro e; exact hp b hf (by rw [e])

/-- what the frame of a statement's proof tells of a slice of integers that came in -/
def IsRow (k : IntKind) (w : World) (a : Option Addr) (len cap : Nat) (zs : List Int) : Prop :=
  (a = none ∧ len = 0 ∧ cap = 0 ∧ zs = []) ∨
  ∃ x, a = some x ∧ len ≤ cap ∧ cap ≤ maxLen ∧ zs.length = cap ∧ (∀ i, i < zs.length → w.cell? (x.add i) = some (.int k (zs.getD i 0))) ∧ ∀ n ∈ zs, (Lit.int k n).wf = true
theorem isRow_sl {w : World} {a : Option Addr} {len cap : Nat} {zs : List Int} (h : IsRow .i64 w a len cap zs) (k : Nat) (hk : k ≤ len) : Sl w a k (zs.take k) ∧ len ≤ cap ∧ cap ≤ 9223372036854775807 := by
  rcases h with ⟨rfl, rfl, rfl, rfl⟩ | ⟨x, rfl, hl, hm, hz, hcell, -⟩
  · obtain rfl : k = 0 := by omega
    exact ⟨⟨rfl, .inl rfl⟩, by omega, by omega⟩
  · unfold maxLen at hm
    refine ⟨⟨by rw [List.length_take]; omega, ?_⟩, hl, by omega⟩
    by_cases h0 : k = 0
    · exact .inl h0
    · right
      obtain ⟨b, o, s⟩ := x
      have hc := hcell 0 (by omega)
      have hs : s = none := by simpa [Addr.add] using World.cell?_spot hc
      subst hs
      refine ⟨b, o, rfl, fun i hi => ?_⟩
      rw [List.length_take] at hi
      have := hcell i (by omega)
      have e : (⟨b, o, none⟩ : Addr).add i = ⟨b, o + i, none⟩ := by
        simp only [Addr.add]; split
        · subst_vars; rfl
        · rfl
      rw [e] at this
      rw [this]
      simp only [List.getD_eq_getElem?_getD, List.getElem?_take]
      rw [if_pos (by omega)]

theorem ret_bool {a b : Bool} (h : a = b) : Ending.returned (.bool a) = .returned (.bool b) := by rw [h]
theorem ret_int {k : IntKind} {a b : Int} (h : a = b) : Ending.returned (.int k a) = .returned (.int k b) := by rw [h]
theorem ret_two {k k' : IntKind} {a b c d : Int} (h : a = b) (h' : c = d) : Ending.returned (.tuple #[.int k a, .int k' c]) = .returned (.tuple #[.int k b, .int k' d]) := by rw [h, h']

def Zr (n : Nat) : Array Value := madeCells #[.int .i64 0] n
def Ir (zs : List Int) : Array Value := (zs.map (Value.int .i64)).toArray
theorem Ir_get (zs : List Int) (i : Nat) (h : i < zs.length) : (Ir zs)[i]? = some (.int .i64 (zs.getD i 0)) := by
  simp [Ir, List.getD, h]
theorem Ir_set (zs : List Int) (i : Nat) (v : Int) : (Ir zs).setIfInBounds i (.int .i64 v) = Ir (zs.set i v) := by
  simp [Ir, List.map_set]
theorem Zr_eq (n : Nat) : Zr n = Ir (List.replicate n 0) := by
  unfold Zr Ir madeCells
  apply Array.ext
  · simp
  · intro i h1 h2
    simp only [Array.getElem_map, Array.getElem_range]
    simp [Nat.mod_one]
theorem row_heap {w : World} {b : Nat} {zs : List Int} {t : TypeId} {fr : Nat × Nat} (h : w.heap[b]? = some (.cells (Ir zs) t fr)) : Row w b 0 zs := by
  intro i hi
  simp only [World.cell?, h]
  simpa using Ir_get zs i hi
theorem Try.info3 : (Try.prog.info? 3).map (fun i => (i.zero, i.size, i.bytes)) = some (some (.int .i64 0), 1, 8) := by kernel_rfl
theorem Try.size3 : (Try.prog.info? 3).map (·.size) = some 1 := by kernel_rfl

theorem make_ints (n : Nat) (h : n ≤ 1000) (w : World) : (Instr.makeSlice 22 (.int .i64 n) (.int .i64 n)).run Try.prog w = .ok (.slice (some ⟨w.heap.size, 0, none⟩) n n) (w.alloc (.cells (Zr n) 3)) := by
  obtain ⟨i0, hi, hz0, hz1, hz2⟩ := info_parts Try.info3
  have := run_make (P := Try.prog) w 22 3 i0 (.int .i64 0) Try.underlying22 hi hz0 .i64 .i64 n n (by omega) (by omega) (by rw [hz2]; omega) (by omega)
  rw [this]
  simp [hz1, Zr, Value.cells]
/-- copy of a whole row into a row of zeros of the call's own -/
theorem copy_ints (w : World) (ty : TypeId) (g n c b o c' : Nat) (zs : List Int) (hz : zs.length = n) (hg : w.heap[g]? = some (.cells (Zr n) 3 (0, 0))) (R : Row w b o zs) :
    (Builtin.copy_ #[22, 22] ty #[.slice (some ⟨g, 0, none⟩) n c, .slice (some ⟨b, o, none⟩) n c']).run Try.prog w = .ok (.int .i64 n) (w.setRow g (Ir zs)) := by
  have := run_copy_row (P := Try.prog) w 22 22 ty 3 g 0 n c ⟨b, o, none⟩ n c' (Zr n) 3 (zs.map (Value.int .i64)) Try.underlying22 Try.size3 hg (by simp [hz]) (by
    intro j v hv
    rw [List.getElem?_map] at hv
    cases hj : zs[j]? with
    | none => simp [hj] at hv
    | some z =>
      simp [hj] at hv
      subst hv
      have h1 : j < zs.length := (List.getElem?_eq_some_iff.1 hj).1
      have h2 := R j h1
      have h3 : zs.getD j 0 = z := by simp [List.getD, hj]
      rw [h3] at h2
      have h4 : (⟨b, o, none⟩ : Addr).add j = ⟨b, o + j, none⟩ := by
        simp only [Addr.add]; split
        · subst_vars; rfl
        · rfl
      rw [h4]; exact h2) (by simp [Zr, size_madeCells, hz]) (by intro v hv; simp at hv; obtain ⟨z, _, rfl⟩ := hv; rfl)
  rw [this]
  have h1 : (Zr n).toList.drop (0 + (zs.map (Value.int .i64)).length) = [] := by
    apply List.drop_eq_nil_of_le
    simp [Zr, size_madeCells, hz]
  rw [h1]
  simp [Ir, goInt, hz]

/-! results that lie in memory -/
end Go.Proofs.Ytnkhgofpdgnemaa
