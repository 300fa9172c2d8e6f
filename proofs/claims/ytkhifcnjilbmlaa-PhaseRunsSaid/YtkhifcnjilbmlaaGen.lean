/- Rows and slices of whatever can be read from cells: one word for all element types. Nothing of the program is named. -/
import Derived.Test.YtkhifcnjilbmlaaRows
import Derived.WalkKit
import Derived.ProofKit
import Derived.Handy
import Derived.Lib.Hide
import Derived.Carry
import Derived.Deep.Slices
import Derived.Deep.Strs
import Derived.Laws.IdiomCopy
namespace Go.Proofs.Ytkhifcnjilbmlaa.Gen
open Go.ChangeShapes Go.WideShapes Go.ChangeAt Go.RowKit

theorem lt_of_cell {w : World} {a : Addr} {v : Value} (h : w.cell? a = some v) : a.block < w.heap.size := by
  apply Classical.byContradiction
  intro hn
  have : w.heap[a.block]? = none := by simp; omega
  simp [World.cell?, this] at h
/-- cells of blocks in Q are as they were -/
def Kept (Q : Nat → Prop) (w w' : World) : Prop := ∀ (b o : Nat) (v : Value), Q b → w.cell? ⟨b, o, none⟩ = some v → w'.cell? ⟨b, o, none⟩ = some v
theorem kept_refl (Q : Nat → Prop) (w : World) : Kept Q w w := fun _ _ _ _ h => h
theorem kept_trans {Q : Nat → Prop} {w w' w2 : World} (h : Kept Q w w') (h' : Kept Q w' w2) : Kept Q w w2 := fun b o v hq hv => h' b o v hq (h b o v hq hv)
theorem kept_B {Q : Nat → Prop} {w w' : World} (hb : Below w.heap.size w w') : Kept Q w w' := fun b o v _ h => by
  rw [hb.cell (p := ⟨b, o, none⟩) (lt_of_cell h)]; exact h
theorem kept_A {Q : Nat → Prop} (w : World) (o : Obj) : Kept Q w (w.alloc o) := fun b k v _ h => by
  rw [World.cell?_alloc_lt _ _ _ (lt_of_cell h)]; exact h
theorem kept_D {Q : Nat → Prop} (w : World) : Kept Q w w.drew := fun _ _ _ _ h => h
theorem kept_set {Q : Nat → Prop} (w : World) (p : Addr) (x : Value) (hp : ∀ b, Q b → b ≠ p.block) : Kept Q w (w.setCell p x) := fun b o v hq hv => by
  rw [World.cell?_setCell_other]
  · exact hv
  · intro e; exact hp b hq (congrArg Addr.block e).symm
theorem kept_low {F : Nat} {Q : Nat → Prop} {w w' : World} (hb : Below F w w') (hQ : ∀ b, Q b → b < F) : Kept Q w w' := fun b o v hq h => by
  rw [hb.cell (p := ⟨b, o, none⟩) (hQ b hq)]; exact h

/-- how an element lies in cells: R Q w cs y: at world w the cells cs say y, and all that they lead to lies in blocks of Q -/
structure Rep (α : Type) where
  R : (Nat → Prop) → World → List Value → α → Prop
  k : Nat
  pos : 0 < k
  len : ∀ {Q w cs y}, R Q w cs y → cs.length = k
  keep : ∀ {Q w w' cs y}, Kept Q w w' → R Q w cs y → R Q w' cs y
  mono : ∀ {Q Q' w cs y}, (∀ b, Q b → Q' b) → R Q w cs y → R Q' w cs y
  und : ∀ {Q w cs y}, R Q w cs y → R (fun b => Q b ∧ b < w.heap.size) w cs y

/-- an element at a place -/
def At {α : Type} (r : Rep α) (Q : Nat → Prop) (w : World) (b o : Nat) (y : α) : Prop :=
  ∃ cs, r.R Q w cs y ∧ ∀ j v, cs[j]? = some v → w.cell? ⟨b, o + j, none⟩ = some v
/-- a slice of elements -/
def Vs {α : Type} (r : Rep α) (Q : Nat → Prop) (w : World) (a : Option Addr) (n : Nat) (ys : List α) : Prop :=
  ys.length = n ∧ (n = 0 ∨ ∃ b o, a = some ⟨b, o, none⟩ ∧ Q b ∧ ∀ i y, ys[i]? = some y → At r Q w b (o + i * r.k) y)
/-- nothing is asked of blocks -/
def Any (_ : Nat) : Prop := True

section
variable {α : Type} {r : Rep α} {Q Q' : Nat → Prop} {w w' : World} {a : Option Addr} {n b o : Nat} {ys : List α} {y : α}
theorem at_keep (hb : Q b) (hk : Kept Q w w') (h : At r Q w b o y) : At r Q w' b o y := by
  obtain ⟨cs, h1, h2⟩ := h
  exact ⟨cs, r.keep hk h1, fun j v hj => hk _ _ _ hb (h2 j v hj)⟩
theorem at_mono (hQ : ∀ b, Q b → Q' b) (h : At r Q w b o y) : At r Q' w b o y := by
  obtain ⟨cs, h1, h2⟩ := h
  exact ⟨cs, r.mono hQ h1, h2⟩
theorem vs_keep (hk : Kept Q w w') (h : Vs r Q w a n ys) : Vs r Q w' a n ys := by
  obtain ⟨h1, h2⟩ := h
  refine ⟨h1, h2.imp id ?_⟩
  rintro ⟨b, o, e, hq, f⟩
  exact ⟨b, o, e, hq, fun i y hi => at_keep hq hk (f i y hi)⟩
theorem vs_mono (hQ : ∀ b, Q b → Q' b) (h : Vs r Q w a n ys) : Vs r Q' w a n ys := by
  obtain ⟨h1, h2⟩ := h
  refine ⟨h1, h2.imp id ?_⟩
  rintro ⟨b, o, e, hq, f⟩
  exact ⟨b, o, e, hQ b hq, fun i y hi => at_mono hQ (f i y hi)⟩
theorem vs_any (h : Vs r Q w a n ys) : Vs r Any w a n ys := vs_mono (fun _ _ => trivial) h
theorem vs_nil : Vs r Q w none 0 ([] : List α) := ⟨rfl, .inl rfl⟩
theorem vs_empty {c : Option Addr} : Vs r Q w c 0 ([] : List α) := ⟨rfl, .inl rfl⟩
theorem vs_B (hb : Below w.heap.size w w') (h : Vs r Q w a n ys) : Vs r Q w' a n ys := vs_keep (kept_B hb) h
theorem vs_A (ob : Obj) (h : Vs r Q w a n ys) : Vs r Q (w.alloc ob) a n ys := vs_keep (kept_A w ob) h
theorem vs_D (h : Vs r Q w a n ys) : Vs r Q w.drew a n ys := vs_keep (kept_D w) h
theorem at_cell0 (h : At r Q w b o y) : ∃ v, w.cell? ⟨b, o, none⟩ = some v := by
  obtain ⟨cs, h1, h2⟩ := h
  have hl := r.len h1
  have hp := r.pos
  obtain ⟨v, hv⟩ : ∃ v, cs[0]? = some v := ⟨cs[0]'(by omega), by simp [show 0 < cs.length by omega]⟩
  exact ⟨v, h2 0 v hv⟩
theorem vs_und (h : Vs r Q w a n ys) : Vs r (fun b => Q b ∧ b < w.heap.size) w a n ys := by
  obtain ⟨h1, h2⟩ := h
  by_cases h0 : n = 0
  · exact ⟨h1, .inl h0⟩
  · obtain ⟨b, o, e, hq, f⟩ := h2.resolve_left h0
    refine ⟨h1, .inr ⟨b, o, e, ⟨hq, ?_⟩, fun i y hi => ?_⟩⟩
    · obtain ⟨y, hy⟩ : ∃ y, ys[0]? = some y := ⟨ys[0]'(by omega), by simp [show 0 < ys.length by omega]⟩
      obtain ⟨v, hv⟩ := at_cell0 (f 0 y hy)
      exact lt_of_cell hv
    · obtain ⟨cs, h3, h4⟩ := f i y hi
      exact ⟨cs, r.und h3, h4⟩
theorem vs_old (h : Vs r Any w a n ys) : Vs r (fun b => b < w.heap.size) w a n ys := vs_mono (fun _ h => h.2) (vs_und h)
/-- the element of that number -/
theorem vs_at (h : Vs r Q w a n ys) {i : Nat} (hi : i < n) : ∃ b o y, a = some ⟨b, o, none⟩ ∧ ys[i]? = some y ∧ Q b ∧ At r Q w b (o + i * r.k) y := by
  obtain ⟨h1, h2⟩ := h
  obtain ⟨b, o, e, hq, f⟩ := h2.resolve_left (by omega)
  have hy : ys[i]? = some (ys[i]'(by omega)) := by simp [show i < ys.length by omega]
  exact ⟨b, o, _, e, hy, hq, f i _ hy⟩
theorem vs_take (h : Vs r Q w a n ys) (m : Nat) (hm : m ≤ n) : Vs r Q w a m (ys.take m) := by
  obtain ⟨h1, h2⟩ := h
  refine ⟨by rw [List.length_take]; omega, ?_⟩
  by_cases h0 : m = 0
  · exact .inl h0
  · obtain ⟨b, o, e, hq, f⟩ := h2.resolve_left (by omega)
    refine .inr ⟨b, o, e, hq, fun i y hi => f i y ?_⟩
    rw [List.getElem?_take] at hi
    split at hi
    · exact hi
    · cases hi
theorem vs_drop (h : Vs r Q w (some ⟨b, o, none⟩) n ys) (m : Nat) (hm : m ≤ n) : Vs r Q w (some ⟨b, o + m * r.k, none⟩) (n - m) (ys.drop m) := by
  obtain ⟨h1, h2⟩ := h
  refine ⟨by rw [List.length_drop]; omega, ?_⟩
  by_cases h0 : n = 0
  · exact .inl (by omega)
  · obtain ⟨b', o', e, hq, f⟩ := h2.resolve_left h0
    injection e with e
    injection e with e1 e2
    subst e1 e2
    refine .inr ⟨b, _, rfl, hq, fun i y hi => ?_⟩
    rw [List.getElem?_drop] at hi
    have := f _ y hi
    rw [Nat.add_mul, ← Nat.add_assoc] at this
    exact this
/-- elements one behind the other, as cells -/
def Flat (r : Rep α) (Q : Nat → Prop) (w : World) : List Value → List α → Prop
  | cs, [] => cs = []
  | cs, y :: ys => ∃ c d, cs = c ++ d ∧ r.R Q w c y ∧ Flat r Q w d ys
theorem flat_keep (hk : Kept Q w w') : ∀ {ys : List α} {cs : List Value}, Flat r Q w cs ys → Flat r Q w' cs ys
  | [], _, h => h
  | _ :: _, _, ⟨c, d, e, h1, h2⟩ => ⟨c, d, e, r.keep hk h1, flat_keep hk h2⟩
theorem flat_mono (hQ : ∀ b, Q b → Q' b) : ∀ {ys : List α} {cs : List Value}, Flat r Q w cs ys → Flat r Q' w cs ys
  | [], _, h => h
  | _ :: _, _, ⟨c, d, e, h1, h2⟩ => ⟨c, d, e, r.mono hQ h1, flat_mono hQ h2⟩
theorem flat_len : ∀ {ys : List α} {cs : List Value}, Flat r Q w cs ys → cs.length = ys.length * r.k
  | [], _, h => by rw [show _ = [] from h]; simp
  | y :: ys, _, ⟨c, d, e, h1, h2⟩ => by
    rw [e, List.length_append, r.len h1, flat_len h2, List.length_cons, Nat.add_mul, Nat.one_mul, Nat.add_comm]
theorem flat_snoc {c : List Value} (h : r.R Q w c y) : ∀ {ys : List α} {cs : List Value}, Flat r Q w cs ys → Flat r Q w (cs ++ c) (ys ++ [y])
  | [], _, e => by
    rw [show _ = [] from e]
    exact ⟨c, [], by simp, h, rfl⟩
  | _ :: _, _, ⟨c', d, e, h1, h2⟩ => ⟨c', d ++ c, by rw [e, List.append_assoc], h1, flat_snoc h h2⟩
theorem flat_at : ∀ {ys : List α} {cs : List Value}, Flat r Q w cs ys → ∀ i y, ys[i]? = some y → ∃ c, r.R Q w c y ∧ ∀ j v, c[j]? = some v → cs[i * r.k + j]? = some v
  | [], _, _, i, y, hi => by simp at hi
  | y' :: ys, _, ⟨c, d, e, h1, h2⟩, 0, y, hi => by
    obtain rfl : y' = y := by simpa using hi
    refine ⟨c, h1, fun j v hj => ?_⟩
    subst e
    rw [Nat.zero_mul, Nat.zero_add, List.getElem?_append_left (by have := List.getElem?_eq_some_iff.1 hj; exact this.1)]
    exact hj
  | y' :: ys, _, ⟨c, d, e, h1, h2⟩, i + 1, y, hi => by
    obtain ⟨c', h3, h4⟩ := flat_at h2 i y (by simpa using hi)
    refine ⟨c', h3, fun j v hj => ?_⟩
    subst e
    have hl := r.len h1
    rw [List.getElem?_append_right (by rw [hl, Nat.add_mul]; omega), hl]
    have := h4 j v hj
    rw [show (i + 1) * r.k + j - r.k = i * r.k + j by rw [Nat.add_mul]; omega]
    exact this
theorem flat_nil : Flat r Q w [] ([] : List α) := rfl
/-- a slice of the call's own reads as what its cells say -/
theorem vs_own {B : Nat} {e : TypeId} {v : Value} {cs : List Value} (h : w.ownsRow B e r.k v n cs) (hf : Flat r Q w cs ys) (hQ : ∀ b, B ≤ b → b < w.heap.size → Q b) :
    ∃ a c, v = .slice a n c ∧ n ≤ c ∧ c ≤ 9223372036854775807 ∧ (a = none → c = 0) ∧ Vs r Q w a n ys := by
  obtain ⟨hl, h⟩ := h
  have hl' : ys.length = n := by
    have := flat_len hf
    rw [this] at hl
    exact Nat.eq_of_mul_eq_mul_right r.pos hl
  rcases h with ⟨rfl, h0⟩ | ⟨g, cap, cur, rfl, hb, hg, hn, hm, hs, ht⟩
  · exact ⟨none, 0, by rw [h0], by omega, by omega, fun _ => rfl, hl', .inl h0⟩
  · unfold maxLen at hm
    have hlt : g < w.heap.size := by
      have := Array.getElem?_eq_some_iff.1 hg
      exact this.1
    refine ⟨_, _, rfl, hn, by omega, (fun e => by cases e), hl', .inr ⟨g, 0, rfl, hQ g hb hlt, fun i y hi => ?_⟩⟩
    obtain ⟨c, h1, h2⟩ := flat_at hf i y hi
    refine ⟨c, h1, fun j v hj => ?_⟩
    have e := h2 j v hj
    rw [← ht, List.getElem?_take] at e
    split at e
    · simp only [World.cell?, hg]
      rw [Nat.zero_add]
      simpa using e
    · cases e
end

/-! ### kinds of elements -/
/-- an element of one cell that is a function of it -/
def rep1 {α : Type} (f : α → Value) : Rep α where
  R _ _ cs y := cs = [f y]
  k := 1
  pos := by decide
  len h := by rw [h]; rfl
  keep _ h := h
  mono _ h := h
  und h := h
/-- an element of some cells that are a function of it -/
def repF {α : Type} (k : Nat) (hk : 0 < k) (f : α → List Value) (hf : ∀ y, (f y).length = k) : Rep α where
  R _ _ cs y := cs = f y
  k := k
  pos := hk
  len h := by rw [h]; exact hf _
  keep _ h := h
  mono _ h := h
  und h := h
def repInt : Rep Int := rep1 (.int .i64)
/-- a slice in a cell, with its capacity -/
def repSlice {α : Type} (r : Rep α) : Rep (List α) where
  R Q w cs ys := ∃ q c, cs = [.slice q ys.length c] ∧ ys.length ≤ c ∧ c ≤ 9223372036854775807 ∧ (q = none → c = 0) ∧ Vs r Q w q ys.length ys
  k := 1
  pos := by decide
  len h := by obtain ⟨q, c, h, _⟩ := h; rw [h]; rfl
  keep hk h := by obtain ⟨q, c, h1, h2, h3, h4, h5⟩ := h; exact ⟨q, c, h1, h2, h3, h4, vs_keep hk h5⟩
  mono hQ h := by obtain ⟨q, c, h1, h2, h3, h4, h5⟩ := h; exact ⟨q, c, h1, h2, h3, h4, vs_mono hQ h5⟩
  und h := by obtain ⟨q, c, h1, h2, h3, h4, h5⟩ := h; exact ⟨q, c, h1, h2, h3, h4, vs_und h5⟩
/-- three integers -/
def int3 (y : Int × Int × Int) : List Value := [.int .i64 y.1, .int .i64 y.2.1, .int .i64 y.2.2]
def repInt3 : Rep (Int × Int × Int) := repF 3 (by decide) int3 (fun _ => rfl)
def int2 (y : Int × Int) : List Value := [.int .i64 y.1, .int .i64 y.2]
def repInt2 : Rep (Int × Int) := repF 2 (by decide) int2 (fun _ => rfl)

section
variable {Q : Nat → Prop} {w : World} {b o : Nat}
theorem at_int {z : Int} (h : At repInt Q w b o z) : w.cell? ⟨b, o, none⟩ = some (.int .i64 z) := by
  obtain ⟨cs, h1, h2⟩ := h
  have h1 : cs = [.int .i64 z] := h1
  subst h1
  exact h2 0 _ rfl
theorem at_int3 {x y z : Int} (h : At repInt3 Q w b o (x, y, z)) : w.cell? ⟨b, o, none⟩ = some (.int .i64 x) ∧ w.cell? ⟨b, o + 1, none⟩ = some (.int .i64 y) ∧ w.cell? ⟨b, o + 2, none⟩ = some (.int .i64 z) := by
  obtain ⟨cs, h1, h2⟩ := h
  have h1 : cs = int3 (x, y, z) := h1
  subst h1
  exact ⟨h2 0 _ rfl, h2 1 _ rfl, h2 2 _ rfl⟩
theorem at_int2 {x y : Int} (h : At repInt2 Q w b o (x, y)) : w.cell? ⟨b, o, none⟩ = some (.int .i64 x) ∧ w.cell? ⟨b, o + 1, none⟩ = some (.int .i64 y) := by
  obtain ⟨cs, h1, h2⟩ := h
  have h1 : cs = int2 (x, y) := h1
  subst h1
  exact ⟨h2 0 _ rfl, h2 1 _ rfl⟩
theorem at_slice {α : Type} {r : Rep α} {ys : List α} (h : At (repSlice r) Q w b o ys) : ∃ q c, w.cell? ⟨b, o, none⟩ = some (.slice q ys.length c) ∧ ys.length ≤ c ∧ c ≤ 9223372036854775807 ∧ (q = none → c = 0) ∧ Vs r Q w q ys.length ys := by
  obtain ⟨cs, ⟨q, c, h1, h3⟩, h2⟩ := h
  subst h1
  exact ⟨q, c, h2 0 _ rfl, h3⟩
end

theorem flat_map1 {α : Type} (f : α → Value) {Q : Nat → Prop} {w : World} : ∀ (ys : List α), Flat (rep1 f) Q w (ys.map f) ys
  | [] => rfl
  | y :: ys => ⟨[f y], ys.map f, rfl, rfl, flat_map1 f ys⟩
theorem vs_cells1 {α : Type} {f : α → Value} {Q : Nat → Prop} {w : World} {a : Option Addr} {n : Nat} {ys : List α} (h : Vs (rep1 f) Q w a n ys) : ∀ b, a = some b → ∀ j u, (ys.map f)[j]? = some u → w.cell? (b.add j) = some u := by
  intro b hb j u hu
  obtain ⟨h1, h2⟩ := h
  have hj : j < ys.length := by simpa using (List.getElem?_eq_some_iff.1 hu).1
  obtain ⟨b', o, e, _, r⟩ := h2.resolve_left (by omega)
  rw [hb] at e
  injection e with e
  subst e
  obtain ⟨cs, e1, e2⟩ := r j _ (List.getElem?_eq_getElem hj)
  have e1 : cs = [f ys[j]] := e1
  subst e1
  have h3 := e2 0 _ rfl
  have hu' : f ys[j] = u := by simpa [hj] using hu
  rw [← hu']
  have e3 : (⟨b', o, none⟩ : Addr).add j = ⟨b', o + j, none⟩ := by
    simp only [Addr.add]; split
    · subst_vars; rfl
    · rfl
  rw [e3]
  simpa [rep1] using h3

/-! ### arguments -/
section
variable {H : Type} {enc : TypeId × Value → H} {P : Program} {w : World} {base : Nat} {spare : Nat → Bool} {held : Bool}
/-- what an element's cells that came in say -/
def Opens {α : Type} (r : Rep α) (ok : α → Prop) (enc : TypeId × Value → H) (P : Program) (w : World) (base : Nat) (spare : Nat → Bool) (held : Bool) (e : TypeId) : Prop :=
  ∀ fuel cs x, DataW.trod enc P w base spare held fuel e cs = some x → ∃ y, r.R Any w cs y ∧ ok y
theorem opens_int {t : TypeId} (ht : P.underlying t = some (.int .i64)) : Opens repInt (fun z => (Lit.int .i64 z).wf = true) enc P w base spare held t := by
  intro fuel cs x h
  obtain ⟨n, h1, _, h2⟩ := DataW.trod_int ht h
  exact ⟨n, h1, h2⟩
/-- what is told of a slice that came in -/
def IsVs {α : Type} (r : Rep α) (ok : α → Prop) (w : World) (a : Option Addr) (len cap : Nat) (ys : List α) : Prop :=
  len ≤ cap ∧ cap ≤ 9223372036854775807 ∧ (a = none → cap = 0) ∧ Vs r Any w a len ys ∧ ∀ y ∈ ys, ok y
theorem add_plain (b off j : Nat) : (⟨b, off, none⟩ : Addr).add j = ⟨b, off + j, none⟩ := by
  simp only [Addr.add]; split
  · subst_vars; rfl
  · rfl
theorem opens_slice {α : Type} {r : Rep α} {ok : α → Prop} {t e : TypeId} (ht : P.underlying t = some (.slice e)) (hk : P.cellsOf e = r.k) (ho : Opens r ok enc P w base spare held e) [Inhabited α] :
    ∀ fuel cs x, DataW.trod enc P w base spare held fuel t cs = some x → ∃ a len cap ys, cs = [.slice a len cap] ∧ IsVs r ok w a len cap ys := by
  intro fuel cs x h
  rcases Go.Deep.open_slice ht h with ⟨hcs, _⟩ | ⟨a, len, cap, m, n, D, Pl, hcs, _, hl, hm, hmm, _, hc⟩
  · exact ⟨none, 0, 0, [], hcs, Nat.le_refl _, by omega, fun _ => rfl, vs_nil, by simp⟩
  · unfold maxLen at hm
    have hlm : len ≤ m := by rw [hmm]; split <;> omega
    rw [hk] at hc
    have each : ∀ i, i < len → ∃ y : α, (∃ cs', w.cells? base (a.add (i * r.k)) r.k = some cs' ∧ r.R Any w cs' y) ∧ ok y := by
      intro i hi
      obtain ⟨cs', h1, h2⟩ := hc i (by omega)
      obtain ⟨y, h3, h4⟩ := ho _ _ _ h2
      exact ⟨y, ⟨cs', h1, h3⟩, h4⟩
    obtain ⟨f, hf⟩ := Go.Deep.choose_lt each
    refine ⟨some a, len, cap, (List.range len).map f, hcs, hl, by omega, (fun e => by cases e), ⟨by simp, ?_⟩, ?_⟩
    · by_cases h0 : len = 0
      · exact .inl h0
      · right
        obtain ⟨b, o, s⟩ := a
        have hs : s = none := by
          obtain ⟨⟨cs', h1, h3⟩, _⟩ := hf 0 (by omega)
          obtain ⟨_, hlen, hcell⟩ := World.cells?_some h1
          have hp := r.pos
          have h5 := hcell 0 (by omega)
          rw [Go.Deep.add_add, Nat.zero_mul, List.getElem?_eq_getElem (by omega)] at h5
          simpa [Addr.add] using World.cell?_spot h5
        subst hs
        refine ⟨b, o, rfl, trivial, fun i y hi => ?_⟩
        have hil : i < len := by
          have := (List.getElem?_eq_some_iff.1 hi).1
          simpa using this
        have hy : f i = y := by simpa [hil] using hi
        obtain ⟨⟨cs', h1, h3⟩, _⟩ := hf i hil
        rw [hy] at h3
        obtain ⟨_, hlen, hcell⟩ := World.cells?_some h1
        refine ⟨cs', h3, fun j v hj => ?_⟩
        have hjl : j < r.k := by
          have := (List.getElem?_eq_some_iff.1 hj).1
          omega
        have h5 := hcell j hjl
        rw [Go.Deep.add_add, add_plain] at h5
        rw [Nat.add_assoc, h5, hj]
    · intro y hy
      obtain ⟨i, hi, rfl⟩ := List.mem_map.1 hy
      exact (hf i (by simpa using hi)).2
/-- a struct of three integers -/
theorem opens_int3 {t : TypeId} {f0 f1 f2 : Field} (ht : P.underlying t = some (.struct #[f0, f1, f2])) (h0 : P.underlying f0.type = some (.int .i64)) (h1 : P.underlying f1.type = some (.int .i64)) (h2 : P.underlying f2.type = some (.int .i64))
    (c : P.cellsOf t = 3) (c0 : P.cellsOf f0.type = 1) (c1 : P.cellsOf f1.type = 1) (c2 : P.cellsOf f2.type = 1) (o0 : f0.offset = 0) (o1 : f1.offset = 1) (o2 : f2.offset = 2) :
    Opens repInt3 (fun y => (Lit.int .i64 y.1).wf = true ∧ (Lit.int .i64 y.2.1).wf = true ∧ (Lit.int .i64 y.2.2).wf = true) enc P w base spare held t := by
  intro fuel cs x h
  obtain ⟨y0, y1, y2, n, _, hl, t0, t1, t2⟩ := Go.Deep.trod_struct3 ht h
  rw [c] at hl
  match cs, hl with
  | [a0, a1, a2], _ =>
    rw [c0, o0] at t0
    rw [c1, o1] at t1
    rw [c2, o2] at t2
    obtain ⟨z0, e0, _, w0⟩ := DataW.trod_int h0 t0
    obtain ⟨z1, e1, _, w1⟩ := DataW.trod_int h1 t1
    obtain ⟨z2, e2, _, w2⟩ := DataW.trod_int h2 t2
    simp at e0 e1 e2
    subst e0 e1 e2
    exact ⟨(z0, z1, z2), rfl, w0, w1, w2⟩
theorem opens_slice_slice {α : Type} {r : Rep α} {ok : α → Prop} {t : TypeId} (h : ∀ fuel cs x, DataW.trod enc P w base spare held fuel t cs = some x → ∃ a len cap ys, cs = [.slice a len cap] ∧ IsVs r ok w a len cap ys) :
    Opens (repSlice r) (fun ys => ∀ y ∈ ys, ok y) enc P w base spare held t := by
  intro fuel cs x hx
  obtain ⟨a, len, cap, ys, h1, h2, h3, h4, h5, h6⟩ := h _ _ _ hx
  obtain rfl := h5.1
  exact ⟨ys, ⟨a, cap, h1, h2, h3, h4, h5⟩, h6⟩
end

/-! ### variables of many cells -/
theorem heap_at_new (w : World) (o : Obj) (g : Nat) (hg : g = w.heap.size) : (w.alloc o).heap[g]? = some o := by
  subst hg; show (w.heap.push o)[w.heap.size]? = some o; simp
/-- the cells of a variable, none of them frozen -/
def VarN (w : World) (g : Nat) (vs : List Value) : Prop := ∀ i v, vs[i]? = some v → w.cell? ⟨g, i, none⟩ = some v ∧ w.frozen? ⟨g, i, none⟩ = false
section
variable {w w' : World} {g : Nat} {vs xs : List Value}
theorem varN_new (vs : List Value) {t : TypeId} (g : Nat) (hg : g = w.heap.size) : VarN (w.alloc (.cells vs.toArray t)) g vs := by
  intro i v hi
  have hh := heap_at_new w (.cells vs.toArray t) g hg
  refine ⟨?_, by simp [World.frozen?, hh]⟩
  simp only [World.cell?, hh]
  simpa using hi
theorem varN_lt (h : VarN w g vs) (h0 : 0 < vs.length) : g < w.heap.size := by
  obtain ⟨v, hv⟩ : ∃ v, vs[0]? = some v := ⟨vs[0], by simp [h0]⟩
  exact lt_of_cell (h 0 v hv).1
theorem varN_low {F : Nat} (hb : Below F w w') (hg : g < F) (h : VarN w g vs) : VarN w' g vs := fun i v hi =>
  ⟨(hb.cell (p := ⟨g, i, none⟩) hg).trans (h i v hi).1, (hb.frozen (p := ⟨g, i, none⟩) hg).trans (h i v hi).2⟩
theorem varN_B (hb : Below w.heap.size w w') (h : VarN w g vs) : VarN w' g vs := fun i v hi =>
  varN_low hb (lt_of_cell (h i v hi).1) h i v hi
theorem varN_A (o : Obj) (h : VarN w g vs) : VarN (w.alloc o) g vs := varN_B ((Below.refl _ _).alloc (Nat.le_refl _) _) h
theorem varN_D (h : VarN w g vs) : VarN w.drew g vs := varN_B (Below.refl _ _).drew h
theorem varN_other {g' o : Nat} (h : VarN w g vs) (hne : g' ≠ g) (x : Value) : VarN (w.setCell ⟨g', o, none⟩ x) g vs := fun i v hi => by
  obtain ⟨h1, h2⟩ := h i v hi
  refine ⟨?_, by rw [World.frozen?_setCell]; exact h2⟩
  rw [World.cell?_setCell_other _ _ _ _ (fun e => hne (congrArg Addr.block e))]
  exact h1
theorem varN_set (h : VarN w g vs) (i : Nat) (hi : i < vs.length) (x : Value) : VarN (w.setCell ⟨g, i, none⟩ x) g (vs.set i x) := by
  intro j v hj
  rw [List.getElem?_set] at hj
  by_cases e : i = j
  · subst e
    rw [if_pos rfl, if_pos hi] at hj
    obtain rfl : x = v := by injection hj
    obtain ⟨u, hu⟩ : ∃ u, vs[i]? = some u := ⟨vs[i], by simp [hi]⟩
    obtain ⟨h1, h2⟩ := h i u hu
    exact ⟨World.cell?_setCell_same' _ _ _ (by rw [h1]; rfl), by rw [World.frozen?_setCell]; exact h2⟩
  · rw [if_neg e] at hj
    obtain ⟨h1, h2⟩ := h j v hj
    refine ⟨?_, by rw [World.frozen?_setCell]; exact h2⟩
    rw [World.cell?_setCell_other _ _ _ _ (fun h => e (congrArg Addr.off h))]
    exact h1
/-- cells stored one behind the other -/
def setN (w : World) (g : Nat) : Nat → List Value → World
  | _, [] => w
  | k, x :: xs => setN (w.setCell ⟨g, k, none⟩ x) g (k + 1) xs
theorem varN_setN : ∀ {xs : List Value} {w : World} {vs : List Value} (k : Nat), VarN w g vs → k + xs.length ≤ vs.length → VarN (setN w g k xs) g (vs.take k ++ xs ++ vs.drop (k + xs.length))
  | [], w, vs, k, h, _ => by simpa [setN] using h
  | x :: xs, w, vs, k, h, hl => by
    rw [List.length_cons] at hl
    have h1 := varN_set h k (by omega) x
    have h2 := varN_setN (xs := xs) (k + 1) h1 (by rw [List.length_set]; omega)
    have e : (vs.set k x).take (k + 1) ++ xs ++ (vs.set k x).drop (k + 1 + xs.length) = vs.take k ++ (x :: xs) ++ vs.drop (k + (x :: xs).length) := by
      rw [List.take_succ_eq_append_getElem (by rw [List.length_set]; omega), List.getElem_set_self, List.take_set_of_le (Nat.le_refl _), List.drop_set_of_lt (by omega), List.length_cons]
      simp [Nat.add_comm, Nat.add_left_comm]
    rw [e] at h2
    exact h2
theorem varN_all (h : VarN w g vs) (hl : xs.length = vs.length) : VarN (setN w g 0 xs) g xs := by
  have := varN_setN (xs := xs) 0 h (by omega)
  simpa [hl] using this
theorem below_setN {F : Nat} (hg : F ≤ g) : ∀ {xs : List Value} {w0 w : World} {k : Nat}, Below F w0 w → Below F w0 (setN w g k xs)
  | [], _, _, _, h => h
  | x :: xs, w0, w, k, h => by
    show Below F w0 (setN (w.setCell ⟨g, k, none⟩ x) g (k + 1) xs)
    exact below_setN hg (h.setCell (p := ⟨g, k, none⟩) hg x)
theorem kept_setN {Q : Nat → Prop} (hQ : ∀ b, Q b → b ≠ g) : ∀ {xs : List Value} {w : World} {k : Nat}, Kept Q w (setN w g k xs)
  | [], _, _ => kept_refl _ _
  | x :: xs, w, k => by
    show Kept Q w (setN (w.setCell ⟨g, k, none⟩ x) g (k + 1) xs)
    exact kept_trans (kept_set w ⟨g, k, none⟩ _ (fun b hb => hQ b hb)) (kept_setN hQ)
theorem varN_others {g' : Nat} (hne : g' ≠ g) : ∀ {xs : List Value} {w : World} {k : Nat}, VarN w g vs → VarN (setN w g' k xs) g vs
  | [], _, _, h => h
  | x :: xs, w, k, h => by
    show VarN (setN (w.setCell ⟨g', k, none⟩ x) g' (k + 1) xs) g vs
    exact varN_others hne (varN_other h hne _)
end
theorem setN_cells (w : World) (g : Nat) : ∀ (vs : List Value) (k : Nat), w.setCells g k vs = setN w g k vs := by
  intro vs
  induction vs generalizing w with
  | nil => intro k; rfl
  | cons v vs ih => intro k; exact ih _ _
/-! ### rows of the call's own -/
section
variable {w w' : World} {B : Nat} {e : TypeId} {size : Nat} {v : Value} {n : Nat} {xs : List Value}
theorem own_below (h : w.ownsRow B e size v n xs) (hb : Below w.heap.size w w') : w'.ownsRow B e size v n xs :=
  h.kept (row := none) ⟨hb.os, hb.tape, hb.output, hb.size, fun j hj _ => hb.block j hj⟩ (by cases hv : v.ownBlock <;> simp)
theorem own_block (h : w.ownsRow B e size v n xs) {g : Nat} (hg : v.ownBlock = some g) : B ≤ g ∧ g < w.heap.size := h.lt g hg
theorem own_set (h : w.ownsRow B e size v n xs) (p : Addr) (hp : v.ownBlock ≠ some p.block) (x : Value) : (w.setCell p x).ownsRow B e size v n xs := by
  obtain ⟨h1, h2⟩ := h
  refine ⟨h1, ?_⟩
  rcases h2 with h2 | ⟨g, cap, cur, hv, hg, hh, r⟩
  · exact Or.inl h2
  · refine Or.inr ⟨g, cap, cur, hv, hg, ?_, r⟩
    rw [Below.heap_setCell _ _ _ _ (fun e => hp (by rw [hv]; exact congrArg some e))]
    exact hh
theorem own_form (h : w.ownsRow B e size v n xs) : ∃ a c, v = .slice a n c := by
  rcases h.2 with ⟨rfl, rfl⟩ | ⟨g, cap, cur, rfl, _⟩
  · exact ⟨_, _, rfl⟩
  · exact ⟨_, _, rfl⟩
theorem own_le {B' : Nat} (h : w.ownsRow B e size v n xs) (hb : B' ≤ B) : w.ownsRow B' e size v n xs :=
  ⟨h.1, h.2.imp id fun ⟨g, cap, cur, h1, h2, h3⟩ => ⟨g, cap, cur, h1, Nat.le_trans hb h2, h3⟩⟩
theorem own_fresh {p : Addr} (h : w.ownsRow B e size v n xs) (hp : w.heap.size ≤ p.block ∨ p.block < B) : v.ownBlock ≠ some p.block := fun e => by
  have := own_block h e; omega
theorem own_setN {g : Nat} (hne : v.ownBlock ≠ some g) : ∀ {us : List Value} {w : World} {k : Nat}, w.ownsRow B e size v n xs → (setN w g k us).ownsRow B e size v n xs
  | [], _, _, h => h
  | u :: us, w, k, h => by
    show (setN (w.setCell ⟨g, k, none⟩ u) g (k + 1) us).ownsRow B e size v n xs
    exact own_setN hne (own_set h ⟨g, k, none⟩ hne u)
end
section
variable {w w' : World} {row : Option Nat}
theorem grown_cell (hg : w.grownBy w' row) {b : Nat} (hb : b < w.heap.size) (hne : row ≠ some b) (o : Nat) : w'.cell? ⟨b, o, none⟩ = w.cell? ⟨b, o, none⟩ ∧ w'.frozen? ⟨b, o, none⟩ = w.frozen? ⟨b, o, none⟩ :=
  ⟨World.cell?_of_block (a := ⟨b, o, none⟩) (hg.block b hb (fun e => hne e.symm)), World.frozen?_of_block (a := ⟨b, o, none⟩) (hg.block b hb (fun e => hne e.symm))⟩
theorem varN_grown {g : Nat} {vs : List Value} (hg : w.grownBy w' row) (hne : row ≠ some g) (h : VarN w g vs) : VarN w' g vs := fun i v hi => by
  obtain ⟨h1, h2⟩ := h i v hi
  obtain ⟨e1, e2⟩ := grown_cell hg (lt_of_cell h1) hne i
  exact ⟨e1.trans h1, e2.trans h2⟩
theorem kept_grown {Q : Nat → Prop} (hg : w.grownBy w' row) (hQ : ∀ b, Q b → row ≠ some b) : Kept Q w w' := fun b o v hq h => by
  rw [(grown_cell hg (lt_of_cell h) (hQ b hq) o).1]; exact h
end
end Go.Proofs.Ytkhifcnjilbmlaa.Gen
