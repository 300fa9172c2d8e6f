/- Package asm: Parse. -/
import Derived.Test.YthcogkcjmhjjmaaDoorAsH
import Derived.Maps.AppendAt
import Derived.Deep.AppendLies
import Derived.Shelf.RegionOpen
namespace Go.Proofs.YthcogkcjmhjjmaaDoor
open Go.ChangeShapes Go.WideShapes Go.ChangeAt Go.RowKit Go.Shelf
open Gen

attribute [local go_sem] Oper.semAt_some

def insOf (i : Ins) : List Value := [.int .i64 i.1, .int .i64 i.2.1, .int .i64 i.2.2.1, .int .i64 i.2.2.2]
def insCells (c : List Ins) : List Value := c.flatMap insOf
theorem insCells_snoc (c : List Ins) (i : Ins) : insCells (c ++ [i]) = insCells c ++ insOf i := by simp [insCells]
theorem Tryd.infoIns : (Tryd.prog.info? 39).map (fun i => (i.zero, i.size, i.bytes)) = some (some (.agg #[.int .i64 0, .int .i64 0, .int .i64 0, .int .i64 0]), 4, 32) := by kernel_rfl

/-- between two lines: h: the results; g: the map of labels, and behind it; B: the heap when the loop began -/
def PaI (h g5 g6 b km N B : Nat) (f : Bs → Option (Int × Int)) (w : World) (pre : List Ln) (W : World) : Prop :=
  (W.cell? ⟨h, 0, none⟩ = some (.slice none 0 0) ∧ W.frozen? ⟨h, 0, none⟩ = false ∧ W.cell? ⟨h + 1, 0, none⟩ = some (.int .i64 0) ∧ W.frozen? ⟨h + 1, 0, none⟩ = false ∧ W.cell? ⟨h + 1 + 1, 0, none⟩ = some (.int .i64 0) ∧ W.frozen? ⟨h + 1 + 1, 0, none⟩ = false) ∧
  (W.cell? ⟨g5, 0, none⟩ = some (.map (some b)) ∧ W.cell? ⟨g6, 0, none⟩ = some (.map (some km)) ∧ W.cell? ⟨g6 + 1 + 1, 0, none⟩ = some (.int .i64 (pre.length : Nat)) ∧ W.frozen? ⟨g6 + 1 + 1, 0, none⟩ = false) ∧
  (∃ v, W.cell? ⟨g6 + 1, 0, none⟩ = some v ∧ W.frozen? ⟨g6 + 1, 0, none⟩ = false ∧ W.ownsRow B 39 4 v (aheadL (vals pre)) (insCells (codeOf f (vals pre)))) ∧
  LabMap W b N f ∧ KindMap W km (some b) ∧ Below w.heap.size w W ∧ AllOk f (vals pre) ∧ aheadL (vals pre) ≤ 1000 ∧ B ≤ W.heap.size
/-- a round has left -/
def PaX (h : Nat) (f : Bs → Option (Int × Int)) (w : World) (c : Code) (pre : List Ln) (W : World) : Prop :=
  c = .ret ∧ (∃ ini x e, pre = ini ++ [x] ∧ AllOk f (vals ini) ∧ errL f (vals ini) x.1 = e ∧ e ≠ 0 ∧ W.cell? ⟨h, 0, none⟩ = some (.slice none 0 0) ∧ W.cell? ⟨h + 1, 0, none⟩ = some (.int .i64 ((ini.length : Int) + 1)) ∧ W.cell? ⟨h + 1 + 1, 0, none⟩ = some (.int .i64 e)) ∧ Below w.heap.size w W
theorem paI_own {h g5 g6 b km N B : Nat} {f : Bs → Option (Int × Int)} {w : World} (hB : w.heap.size ≤ B) (hb : b < B) (hk : km < B) : OwnFrom B (PaI h g5 g6 b km N B f w) := fun pre W W' row hs hg hr => by
  obtain ⟨⟨e1, e2, e3, e4, e5, e6⟩, ⟨e7, e8, e9, e10⟩, ⟨v, e11, e12, e13⟩, hm, hkm, hbl, hok, hle, hBs⟩ := hs
  have hr' : ∀ r, row = some r → ∃ o : Obj, W.heap[r]? = some o ∧ o.isCells = false := fun r e => (hr r e).2
  refine ⟨⟨cell_kept e1 hg hr', (frozen_kept e1 hg hr').trans e2, cell_kept e3 hg hr', (frozen_kept e3 hg hr').trans e4, cell_kept e5 hg hr', (frozen_kept e5 hg hr').trans e6⟩,
    ⟨cell_kept e7 hg hr', cell_kept e8 hg hr', cell_kept e9 hg hr', (frozen_kept e9 hg hr').trans e10⟩, ⟨v, cell_kept e11 hg hr', (frozen_kept e11 hg hr').trans e12, e13.kept hg ?_⟩,
    labMap_kept hm hg (fun e => by have := (hr _ e.symm).1; omega), kindMap_kept hkm hg (fun e => by have := (hr _ e.symm).1; omega), hbl.grown hg hbl.size (fun r e => Nat.le_trans hB (hr r e).1), hok, hle, Nat.le_trans hBs hg.size⟩
  rcases e13.2 with ⟨rfl, _⟩ | ⟨g, cap, cur, rfl, _, hgb, _⟩
  · exact .inl rfl
  · refine .inr fun e' => ?_
    obtain ⟨o, ho, hc⟩ := hr' g (by simpa [Value.ownBlock] using e'.symm)
    rw [hgb] at ho
    cases ho
    cases hc
theorem paX_own {h B : Nat} {f : Bs → Option (Int × Int)} {w : World} (hB : w.heap.size ≤ B) (c : Code) : OwnFrom B (PaX h f w c) := fun pre W W' row hs hg hr => by
  obtain ⟨hc, ⟨ini, x, e, h1, h2, h3, h4, e1, e2, e3⟩, hbl⟩ := hs
  have hr' : ∀ r, row = some r → ∃ o : Obj, W.heap[r]? = some o ∧ o.isCells = false := fun r e => (hr r e).2
  exact ⟨hc, ⟨ini, x, e, h1, h2, h3, h4, cell_kept e1 hg hr', cell_kept e2 hg hr', cell_kept e3 hg hr'⟩, hbl.grown hg hbl.size (fun r e => Nat.le_trans hB (hr r e).1)⟩

/-- a slice of instructions, a number and an error -/
def ParsePost (r : List Ins × Int × Int) (w : World) (e : Ending) (w' : World) : Prop :=
  ∃ v, e = .returned (.tuple #[v, .int .i64 r.2.1, .int .i64 r.2.2]) ∧ w'.ownsRow w.heap.size 39 4 v r.1.length (insCells r.1) ∧ Below w.heap.size w w'
theorem own_sl {w : World} {B : Nat} {e : TypeId} {k : Nat} {v : Value} {n : Nat} {xs : List Value} (h : w.ownsRow B e k v n xs) : ∃ a c, v = .slice a n c := by
  rcases h.2 with ⟨rfl, h0⟩ | ⟨g, cap, cur, rfl, _⟩
  · exact ⟨none, 0, by rw [h0]⟩
  · exact ⟨_, _, rfl⟩
theorem own_B {B k : Nat} {w w' : World} {e : TypeId} {v : Value} {n : Nat} {xs : List Value} (hb : Below w.heap.size w w') (h : w.ownsRow B e k v n xs) : w'.ownsRow B e k v n xs := by
  obtain ⟨h1, h2⟩ := h
  refine ⟨h1, h2.imp id ?_⟩
  rintro ⟨g, cap, cur, e1, e2, e3, e4⟩
  exact ⟨g, cap, cur, e1, e2, (hb.block g (Array.getElem?_eq_some_iff.1 e3).1).trans e3, e4⟩
theorem own_low {B B' k : Nat} {w : World} {e : TypeId} {v : Value} {n : Nat} {xs : List Value} (hB : B' ≤ B) (h : w.ownsRow B e k v n xs) : w.ownsRow B' e k v n xs := by
  obtain ⟨h1, h2⟩ := h
  refine ⟨h1, h2.imp id ?_⟩
  rintro ⟨g, cap, cur, e1, e2, e3, e4⟩
  exact ⟨g, cap, cur, e1, by omega, e3, e4⟩
theorem own_set {B k : Nat} {w : World} {e : TypeId} {v : Value} {n : Nat} {xs : List Value} (h : w.ownsRow B e k v n xs) (a : Addr) (ha : a.block < B) (x : Value) : (w.setCell a x).ownsRow B e k v n xs := by
  obtain ⟨h1, h2⟩ := h
  refine ⟨h1, h2.imp id ?_⟩
  rintro ⟨g, cap, cur, e1, e2, e3, e4⟩
  refine ⟨g, cap, cur, e1, e2, ?_, e4⟩
  rw [World.setCell, Array.getElem?_modify, if_neg (by omega)]
  exact e3
theorem own_put {B k D : Nat} {w : World} {e : TypeId} {v : Value} {n : Nat} {xs : List Value} {o o' : Obj} (h : w.ownsRow B e k v n xs) (hD : w.heap[D]? = some o) (hc : o.isCells = false) : (w.putObj D o').ownsRow B e k v n xs := by
  refine h.kept (grownBy_putObj' w D o') ?_
  rcases h.2 with ⟨rfl, _⟩ | ⟨g, cap, cur, rfl, _, hg, _⟩
  · exact .inl rfl
  · refine .inr fun q => ?_
    obtain rfl : g = D := by simpa [Value.ownBlock] using q
    rw [hg] at hD
    cases hD
    cases hc
theorem keeps_B {w w' : World} (hb : Below w.heap.size w w') : KeepsOthers w w' := ⟨hb.size, fun i _ hi _ => (hb.block i (Array.getElem?_eq_some_iff.1 hi).1).trans hi⟩
theorem keeps_own {B k : Nat} {w w' : World} {e : TypeId} {v : Value} {n : Nat} {xs : List Value} (h : w.ownsRow B e k v n xs) (hg : w.grownBy w' v.ownBlock) : KeepsOthers w w' := by
  refine ⟨hg.size, fun i o hi hc => ?_⟩
  by_cases hne : some i = v.ownBlock
  · exfalso
    rcases h.2 with ⟨rfl, _⟩ | ⟨g, cap, cur, rfl, _, e3, _⟩
    · simp [Value.ownBlock] at hne
    · obtain rfl : i = g := by simpa [Value.ownBlock] using hne
      rw [hi] at e3
      cases e3
      cases hc
  · exact (hg.block i (Array.getElem?_eq_some_iff.1 hi).1 hne).trans hi
theorem own_far {B k g : Nat} {w : World} {e : TypeId} {v : Value} {n : Nat} {xs : List Value} (h : w.ownsRow B e k v n xs) (hg : g < B) : some g ≠ v.ownBlock := by
  intro q
  rcases h.2 with ⟨rfl, _⟩ | ⟨g', cap, cur, rfl, hb, _⟩
  · simp [Value.ownBlock] at q
  · simp [Value.ownBlock] at q; omega
/-- three stores in whatever order -/
def R3 (w W : World) (A B C : Value) (W' : World) : Prop :=
  KeepsOthers W W' ∧ Below w.heap.size w W' ∧ W'.cell? ⟨w.heap.size, 0, none⟩ = some A ∧ W'.cell? ⟨w.heap.size + 1, 0, none⟩ = some B ∧ W'.cell? ⟨w.heap.size + 1 + 1, 0, none⟩ = some C
section
variable {w W W' : World} {A B C x : Value}
theorem r3_0 (h : R3 w W A B C W') : R3 w W x B C (W'.setCell ⟨w.heap.size, 0, none⟩ x) := by
  obtain ⟨h1, h2, h3, h4, h5⟩ := h
  exact ⟨h1.trans (KeepsOthers.setCell _ _ _), h2.setCell (p := ⟨w.heap.size, 0, none⟩) (Nat.le_refl _) _, set_eq _ h3, set_ne _ (by intro e; simp at e) h4, set_ne _ (by intro e; simp at e) h5⟩
theorem r3_1 (h : R3 w W A B C W') : R3 w W A x C (W'.setCell ⟨w.heap.size + 1, 0, none⟩ x) := by
  obtain ⟨h1, h2, h3, h4, h5⟩ := h
  exact ⟨h1.trans (KeepsOthers.setCell _ _ _), h2.setCell (p := ⟨w.heap.size + 1, 0, none⟩) (by show w.heap.size ≤ w.heap.size + 1; omega) _, set_ne _ (by intro e; simp at e) h3, set_eq _ h4, set_ne _ (by intro e; simp at e) h5⟩
theorem r3_2 (h : R3 w W A B C W') : R3 w W A B x (W'.setCell ⟨w.heap.size + 1 + 1, 0, none⟩ x) := by
  obtain ⟨h1, h2, h3, h4, h5⟩ := h
  exact ⟨h1.trans (KeepsOthers.setCell _ _ _), h2.setCell (p := ⟨w.heap.size + 1 + 1, 0, none⟩) (by show w.heap.size ≤ w.heap.size + 1 + 1; omega) _, set_ne _ (by intro e; simp at e) h3, set_ne _ (by intro e; simp at e) h4, set_eq _ h5⟩
theorem r3_d (h : R3 w W A B C W') : R3 w W A B C W'.drew := by
  obtain ⟨h1, h2, h3, h4, h5⟩ := h
  exact ⟨h1.trans (KeepsOthers.drew _), h2.drew, h3, h4, h5⟩
theorem r3_fin {f : Bs → Option (Int × Int)} {pre : List Ln} {y : Ln} {e : Int} {k B0 : Nat} (hk : pre.length = k) (hok : AllOk f (vals pre)) (hx : errL f (vals pre) y.1 = e) (he : e ≠ 0) (h : R3 w W (.slice none 0 0) (.int .i64 ((k : Int) + 1)) (.int .i64 e) W') :
    KeepsFrom B0 W W' ∧ PaX w.heap.size f w .ret (pre ++ [y]) W' := by
  subst hk
  obtain ⟨h1, h2, h3, h4, h5⟩ := h
  exact ⟨h1.from _, rfl, ⟨pre, y, e, rfl, hok, hx, he, h3, h4, h5⟩, h2⟩
end
theorem paI_label {w W : World} {g5 g6 b km N B : Nat} {f : Bs → Option (Int × Int)} {pre : List Ln} {x : Ln} (h1 : w.heap.size + 3 ≤ g5) (h2 : g5 < g6) (hB : B = g6 + 4) (hbb : b < g5) (hkk : km < g6) (hx : labB x.1.1 = true) (he : errL f (vals pre) x.1 = 0) (h : PaI w.heap.size g5 g6 b km N B f w pre W) :
    PaI w.heap.size g5 g6 b km N B f w (pre ++ [x]) (W.setCell ⟨g6 + 1 + 1, 0, none⟩ (.int .i64 ((pre.length : Int) + 1))) := by
  obtain ⟨⟨e1, e2, e3, e4, e5, e6⟩, ⟨e7, e8, e9, e10⟩, ⟨v, e11, e12, e13⟩, hm, hkm, hb, hok, hle, hBs⟩ := h
  have ea : aheadL (vals (pre ++ [x])) = aheadL (vals pre) := by rw [vals_snoc, aheadL_snoc, hx]; rfl
  have ec : codeOf f (vals (pre ++ [x])) = codeOf f (vals pre) := by rw [vals_snoc, codeOf_snoc, hx]; simp
  have ne : ∀ {k : Nat}, k ≠ g6 + 1 + 1 → (⟨g6 + 1 + 1, 0, none⟩ : Addr) ≠ ⟨k, 0, none⟩ := fun hk e => hk (congrArg Addr.block e).symm
  refine ⟨⟨set_ne _ (ne (by omega)) e1, by rw [World.frozen?_setCell]; exact e2, set_ne _ (ne (by omega)) e3, by rw [World.frozen?_setCell]; exact e4, set_ne _ (ne (by omega)) e5, by rw [World.frozen?_setCell]; exact e6⟩,
    ⟨set_ne _ (ne (by omega)) e7, set_ne _ (ne (by omega)) e8, by rw [List.length_append]; exact set_eq _ e9, by rw [World.frozen?_setCell]; exact e10⟩,
    ⟨v, set_ne _ (ne (by omega)) e11, by rw [World.frozen?_setCell]; exact e12, ?_⟩, labMap_set hm (by show b ≠ g6 + 1 + 1; omega) _, kindMap_set hkm (by show km ≠ g6 + 1 + 1; omega) _, hb.setCell (p := ⟨g6 + 1 + 1, 0, none⟩) (by show w.heap.size ≤ g6 + 1 + 1; omega) _, by rw [vals_snoc]; exact allOk_snoc hok he, by rw [ea]; exact hle, by rw [World.size_setCell]; exact hBs⟩
  rw [ea, ec]
  obtain ⟨o1, o2⟩ := e13
  refine ⟨o1, o2.imp id ?_⟩
  rintro ⟨g, cap, cur, q1, q2, q3, q4⟩
  refine ⟨g, cap, cur, q1, q2, ?_, q4⟩
  rw [World.setCell, Array.getElem?_modify, if_neg (by show ¬ g6 + 1 + 1 = g; omega)]
  exact q3
theorem paI_ins {w W W3 W5 : World} {g5 g6 b km N B : Nat} {f : Bs → Option (Int × Int)} {pre : List Ln} {x : Ln} {v v' : Value} {i : Ins} (h1 : w.heap.size + 3 ≤ g5) (h2 : g5 < g6) (hB : B = g6 + 4) (hbb : b < g5) (hkk : km < g6) (hx : labB x.1.1 = false) (he : errL f (vals pre) x.1 = 0) (hle : aheadL (vals pre) ≠ 1000) (hi : (instrE f x.1.1).1 = i)
    (h : PaI w.heap.size g5 g6 b km N B f w pre W) (hv : W.cell? ⟨g6 + 1, 0, none⟩ = some v) (hb3 : Below W.heap.size (W.setCell ⟨g6 + 1 + 1, 0, none⟩ (.int .i64 ((pre.length : Int) + 1))) W3) (hg : W3.grownBy W5 v.ownBlock) (ho : W5.ownsRow B 39 4 v' (aheadL (vals pre) + 1) (insCells (codeOf f (vals pre)) ++ insOf i)) :
    PaI w.heap.size g5 g6 b km N B f w (pre ++ [x]) (W5.setCell ⟨g6 + 1, 0, none⟩ v') := by
  obtain ⟨⟨e1, e2, e3, e4, e5, e6⟩, ⟨e7, e8, e9, e10⟩, ⟨v0, e11, e12, e13⟩, hm, hkm, hb, hok, hle2, hBs⟩ := h
  obtain rfl : v0 = v := by rw [e11] at hv; injection hv
  have ea : aheadL (vals (pre ++ [x])) = aheadL (vals pre) + 1 := by rw [vals_snoc, aheadL_snoc, hx]; rfl
  have ec : codeOf f (vals (pre ++ [x])) = codeOf f (vals pre) ++ [i] := by rw [vals_snoc, codeOf_snoc, hx, ← hi]; simp
  have hown : ∀ k, k < B → some k ≠ v0.ownBlock := by
    intro k hk e
    rcases e13.2 with ⟨rfl, _⟩ | ⟨g, cap, cur, rfl, q2, _⟩
    · simp [Value.ownBlock] at e
    · simp [Value.ownBlock] at e; omega
  have hsz : (W.setCell ⟨g6 + 1 + 1, 0, none⟩ (.int .i64 ((pre.length : Int) + 1))).heap.size = W.heap.size := World.size_setCell _ _ _
  have far : ∀ (k : Nat) (u : Value), k < B → k ≠ g6 + 1 → (W.setCell ⟨g6 + 1 + 1, 0, none⟩ (.int .i64 ((pre.length : Int) + 1))).cell? ⟨k, 0, none⟩ = some u → (W5.setCell ⟨g6 + 1, 0, none⟩ v').cell? ⟨k, 0, none⟩ = some u := by
    intro k u hk hne hu
    have hlt : k < W.heap.size := by rw [← hsz]; exact cell_lt hu
    have h3 := (hb3.cell (p := ⟨k, 0, none⟩) hlt).trans hu
    exact set_ne _ (fun e => hne (congrArg Addr.block e).symm) ((hg.cell_far ⟨k, 0, none⟩ (cell_lt h3) (hown k hk)).trans h3)
  have fro : ∀ (k : Nat) (u : Value), k < B → W.cell? ⟨k, 0, none⟩ = some u → W.frozen? ⟨k, 0, none⟩ = false → (W5.setCell ⟨g6 + 1, 0, none⟩ v').frozen? ⟨k, 0, none⟩ = false := by
    intro k u hk hu hf
    have hlt : k < W.heap.size := cell_lt hu
    have hlt3 : k < W3.heap.size := by have := hb3.size; rw [hsz] at this; omega
    rw [World.frozen?_setCell, hg.frozen_far ⟨k, 0, none⟩ hlt3 (hown k hk), hb3.frozen (p := ⟨k, 0, none⟩) hlt, World.frozen?_setCell]
    exact hf
  have ne : ∀ {k : Nat}, k ≠ g6 + 1 + 1 → (⟨g6 + 1 + 1, 0, none⟩ : Addr) ≠ ⟨k, 0, none⟩ := fun hk e => hk (congrArg Addr.block e).symm
  have hbw : Below w.heap.size w W3 := (hb.setCell (p := ⟨g6 + 1 + 1, 0, none⟩) (by show w.heap.size ≤ g6 + 1 + 1; omega) _).trans (hb3.mono hb.size)
  refine ⟨⟨far _ _ (by omega) (by omega) (set_ne _ (ne (by omega)) e1), fro _ _ (by omega) e1 e2, far _ _ (by omega) (by omega) (set_ne _ (ne (by omega)) e3), fro _ _ (by omega) e3 e4, far _ _ (by omega) (by omega) (set_ne _ (ne (by omega)) e5), fro _ _ (by omega) e5 e6⟩,
    ⟨far _ _ (by omega) (by omega) (set_ne _ (ne (by omega)) e7), far _ _ (by omega) (by omega) (set_ne _ (ne (by omega)) e8), by rw [List.length_append]; exact far _ _ (by omega) (by omega) (set_eq _ e9), fro _ _ (by omega) e9 e10⟩,
    ⟨v', ?_, fro _ _ (by omega) e11 e12, ?_⟩, ?_, ?_, ?_, by rw [vals_snoc]; exact allOk_snoc hok he, by rw [ea]; omega, by rw [World.size_setCell]; exact Nat.le_trans (by have h9 := hb3.size; rw [hsz] at h9; exact Nat.le_trans hBs h9) hg.size⟩
  · have hlt : g6 + 1 < W.heap.size := cell_lt e11
    have h3 := (hb3.cell (p := ⟨g6 + 1, 0, none⟩) hlt).trans (set_ne _ (ne (by omega)) e11)
    exact set_eq _ ((hg.cell_far ⟨g6 + 1, 0, none⟩ (cell_lt h3) (hown (g6 + 1) (by omega))).trans h3)
  · rw [ea, ec, insCells_snoc]
    obtain ⟨o1, o2⟩ := ho
    refine ⟨o1, o2.imp id ?_⟩
    rintro ⟨g, cap, cur, q1, q2, q3, q4⟩
    refine ⟨g, cap, cur, q1, q2, ?_, q4⟩
    rw [World.setCell, Array.getElem?_modify, if_neg (by show ¬ g6 + 1 = g; omega)]
    exact q3
  · have hlt : b < W.heap.size := labMap_lt hm
    exact labMap_set (labMap_kept (labMap_low hb3 hlt (labMap_set hm (by show b ≠ g6 + 1 + 1; omega) _)) hg (hown b (by omega))) (by show b ≠ g6 + 1; omega) _
  · have hlt : km < W.heap.size := kindMap_lt hkm
    exact kindMap_set (kindMap_kept (kindMap_low hb3 hlt (kindMap_set hkm (by show km ≠ g6 + 1 + 1; omega) _)) hg (hown km (by omega))) (by show km ≠ g6 + 1; omega) _
  · refine (hbw.grown hg hbw.size (fun r e => ?_)).setCell (p := ⟨g6 + 1, 0, none⟩) (by show w.heap.size ≤ g6 + 1; omega) _
    rcases Nat.lt_or_ge r B with hr | hr
    · exact absurd e.symm (hown r hr)
    · omega

set_option maxRecDepth 100000 in
set_option maxHeartbeats 8000000 in
theorem Parse_short (t : Bs) (w : World) (ht : t.length ≤ 40000) (G : Glob w) : Calls Tryd.prog 9 #[.string (str t)] w (ParsePost (parseL t) w) := by
  refine (callsIn_wide (n := 3)).1 ?_
  refine callsIn_of_wp_marks Tryd.func9 rfl trivial ?_ rfl
  simp only [Tryd.ntmps9, List.size_toArray, List.length_cons, List.length_nil, Nat.reduceAdd, Nat.reduceSub, Array.replicate_succ, Array.replicate_zero, List.push_toArray, List.append_toArray, List.nil_append, List.cons_append]
  obtain ⟨wA, hwA⟩ : ∃ wA, wA = ((w.alloc (Obj.cells #[.slice none 0 0] 23)).alloc (Obj.cells #[.int .i64 0] 3)).alloc (Obj.cells #[.int .i64 0] 24) := ⟨_, rfl⟩
  have GA : Glob wA := by rw [hwA]; exact ((G.A _).A _).A _
  have BA : Below w.heap.size w wA := by rw [hwA]; go_grown
  have sA : wA.heap.size = w.heap.size + 3 := by rw [hwA]; simp
  have a0 : wA.cell? ⟨w.heap.size, 0, none⟩ = some (.slice none 0 0) := by rw [hwA]; exact cellA _ (cellA _ (cell_new _ _ _ rfl rfl))
  have a1 : wA.cell? ⟨w.heap.size + 1, 0, none⟩ = some (.int .i64 0) := by rw [hwA]; exact cellA _ (cell_new _ _ _ (by simp) rfl)
  have a2 : wA.cell? ⟨w.heap.size + 1 + 1, 0, none⟩ = some (.int .i64 0) := by rw [hwA]; exact cell_new _ _ _ (by simp) rfl
  have b0 : wA.frozen? ⟨w.heap.size, 0, none⟩ = false := by rw [hwA, frozen_old _ (by simp; omega), frozen_old _ (by simp)]; exact frozen_new _ _ rfl
  have b1 : wA.frozen? ⟨w.heap.size + 1, 0, none⟩ = false := by rw [hwA, frozen_old _ (by simp)]; exact frozen_new _ _ (by simp)
  have b2 : wA.frozen? ⟨w.heap.size + 1 + 1, 0, none⟩ = false := by rw [hwA]; exact frozen_new _ _ (by simp)
  have hlab := labelled_any t wA (by omega) GA
  have h40 : ¬ (40000 : Int) < (List.length t : Nat) := by omega
  have HWA := Lib.hid hwA
  clear hwA
  gi_wp2_with (first | (refine ⟨trivial, ?_⟩; gi_at_call 20; rw [← HWA.out]; refine (callsIn_wide.2 hlab).mono ?_; rintro e w1 ⟨b, N, rfl, hbge, hN, L1, hb1⟩) | (refine ⟨trivial, ?_⟩; gi_at_call 21; refine (callsIn_wide.2 (kinds_any (some b) _)).mono ?_; rintro e w2 ⟨km, rfl, hkge, K2, hb2⟩) | (refine ⟨trivial, ?_⟩; gi_at_call 22; refine (lines_in 2 t _).mono ?_; rintro e w' ⟨rfl, rfl⟩))
  obtain ⟨W0, hW0⟩ : ∃ W0, ((((w2.alloc (Obj.cells #[Value.map (some km)] 43)).alloc (Obj.cells #[Value.slice none 0 0] 23)).alloc (Obj.cells #[Value.int IntKind.i64 0] 3)).alloc (Obj.cells #[Value.string (str t)] 9)) = W0 := ⟨_, rfl⟩
  have hb1' : Below wA.heap.size wA (w1.alloc (Obj.cells #[Value.map (some b)] 41)) := hb1.alloc hb1.size _
  have hb2' : Below w2.heap.size w2 W0 := by rw [← hW0]; go_grown
  have hb3 : Below wA.heap.size wA W0 := below_from (below_from hb1' hb2) hb2'
  have hs1 := hb1.size
  have hs2 := hb2.size
  rw [World.size_alloc] at hs2 hkge
  have hs0 : W0.heap.size = w2.heap.size + 4 := by rw [← hW0]; simp
  have hb5 : Below (w1.heap.size + 1) (w1.alloc (Obj.cells #[Value.map (some b)] 41)) W0 := by
    have := hb2.trans (hb2'.mono hb2.size)
    rwa [World.size_alloc] at this
  have c0 := cellB hb3 a0
  have c1 := cellB hb3 a1
  have c2 := cellB hb3 a2
  have d0 := (hb3.frozen (p := ⟨w.heap.size, 0, none⟩) (by show w.heap.size < wA.heap.size; omega)).trans b0
  have d1 := (hb3.frozen (p := ⟨w.heap.size + 1, 0, none⟩) (by show w.heap.size + 1 < wA.heap.size; omega)).trans b1
  have d2 := (hb3.frozen (p := ⟨w.heap.size + 1 + 1, 0, none⟩) (by show w.heap.size + 1 + 1 < wA.heap.size; omega)).trans b2
  have c5 : W0.cell? ⟨w1.heap.size, 0, none⟩ = some (.map (some b)) := by
    rw [hb5.cell (p := ⟨w1.heap.size, 0, none⟩) (by show w1.heap.size < w1.heap.size + 1; omega)]
    exact cell_new _ _ _ rfl rfl
  have c6 : W0.cell? ⟨w2.heap.size, 0, none⟩ = some (.map (some km)) := by rw [← hW0]; exact cellA _ (cellA _ (cellA _ (cell_new _ _ _ rfl rfl)))
  have c7 : W0.cell? ⟨w2.heap.size + 1, 0, none⟩ = some (.slice none 0 0) := by rw [← hW0]; exact cellA _ (cellA _ (cell_new _ _ _ (by simp) rfl))
  have c8 : W0.cell? ⟨w2.heap.size + 1 + 1, 0, none⟩ = some (.int .i64 0) := by rw [← hW0]; exact cellA _ (cell_new _ _ _ (by simp) rfl)
  have c9 : W0.cell? ⟨w2.heap.size + 1 + 1 + 1, 0, none⟩ = some (.string (str t)) := by rw [← hW0]; exact cell_new _ _ _ (by simp) rfl
  have d7 : W0.frozen? ⟨w2.heap.size + 1, 0, none⟩ = false := by rw [← hW0, frozen_old _ (by simp), frozen_old _ (by simp)]; exact frozen_new _ _ (by simp)
  have d8 : W0.frozen? ⟨w2.heap.size + 1 + 1, 0, none⟩ = false := by rw [← hW0, frozen_old _ (by simp)]; exact frozen_new _ _ (by simp)
  have hbl := labMap_lt L1
  have L0 : LabMap W0 b N (labAt (linesL t)) := labMap_low hb5 (by omega) (labMap_B ((Below.refl _ w1).alloc (Nat.le_refl _) _) L1)
  have K0 : KindMap W0 km (some b) := kindMap_B hb2' K2
  have hkl := kindMap_lt K2
  have B0 : Below w.heap.size w W0 := below_from BA hb3
  obtain ⟨f, hf⟩ : ∃ f, labAt (linesL t) = f := ⟨_, rfl⟩
  rw [hf] at L0
  have HF := Lib.hid hf
  obtain ⟨g5, hg5⟩ : ∃ g5, w1.heap.size = g5 := ⟨_, rfl⟩
  obtain ⟨g6, hg6⟩ : ∃ g6, w2.heap.size = g6 := ⟨_, rfl⟩
  rw [hW0]
  rw [hg6] at c6 c7 c8 c9 d7 d8 hs0 hkl hs2 ⊢
  rw [hg5] at c5 hbl hs1 hs2 hkge ⊢
  have hGl := G.size
  have hN2 : (linesL t).length ≤ 40000 := Nat.le_trans (linesL_len _ t (Nat.le_refl _)) ht
  clear hlab a0 a1 a2 b0 b1 b2 hW0 hb1' hb2' hb3 hb5 hb1 hb2 L1 K2 hf hg5 hg6 HWA GA BA
  refine wpIn_rangeFunc_ownG rfl (by omega) (gf := 50) (lb := #[.pointer (some ⟨g6 + 1 + 1 + 1, 0, none⟩)]) rfl trivial (enters_of Tryd.func50 (by kernel_rfl) rfl)
    (lines_stops 2 (by omega) (g6 + 1 + 1 + 1) w.heap.size hGl t (by omega) W0 c9 (G.B B0)) belowK_t (belowK_b (by omega)) (Below.refl _ _) (fun _ => rfl)
    (PaI w.heap.size g5 g6 b km N W0.heap.size f w) (PaX w.heap.size f w) (paI_own (by omega) (by omega) (by omega)) (paX_own (by omega))
    ⟨⟨c0, d0, c1, d1, c2, d2⟩, ⟨c5, c6, c8, d8⟩, ⟨_, c7, d7, World.ownsRow_nil _ _ _ _⟩, L0, K0, B0, allOk_nil f, by simp [vals, aheadL], Nat.le_refl _⟩
    (fun x => { tmps := #[.string (str t), undef, .pointer (some ⟨w.heap.size, 0, none⟩), .pointer (some ⟨w.heap.size + 1, 0, none⟩), .pointer (some ⟨w.heap.size + 1 + 1, 0, none⟩), .pointer (some ⟨g5, 0, none⟩), .pointer (some ⟨g6, 0, none⟩), .pointer (some ⟨g6 + 1, 0, none⟩), .pointer (some ⟨g6 + 1 + 1, 0, none⟩), .string (str x.1.1), .bool x.1.2, undef, undef, undef, .string (str t), .int .i64 (List.length t : Nat), .bool false, .string (str t), .map (some b), .map (some b), .map (some km), .string (str t), .func (.func 50) #[] #[.pointer (some ⟨g6 + 1 + 1 + 1, 0, none⟩)], .string (str x.1.1), .bool x.1.2, undef, undef, undef, undef, undef, undef, undef, undef, undef, undef, undef, undef, undef, undef, undef, undef, undef, undef, undef, undef, undef, undef, undef, undef, undef, undef, undef, undef, undef, undef, undef, undef, undef, undef, undef, undef, undef], defers := [] }) ?assign ?body ?done ?stop
  case assign =>
    intro l x W K hK
    simp only [encLn]
    gi_wp2
    exact hK
  case body =>
    intro l pre x W hI hlt
    obtain ⟨⟨e1, e2, e3, e4, e5, e6⟩, ⟨e7, e8, e9, e10⟩, ⟨v, e11, e12, e13⟩, hm, hkm, hb, hok, hle, hBs⟩ := id hI
    have HI := Lib.hid hI
    obtain ⟨⟨⟨a, en⟩, hal⟩, hxe⟩ : ∃ y : Ln, y = x := ⟨x, rfl⟩
    rw [← hxe]
    dsimp only
    have HX := Lib.hid hxe
    obtain ⟨k, hk⟩ : ∃ k, pre.length = k := ⟨_, rfl⟩
    rw [hk] at e9 hlt
    have hkl2 : k ≤ 40000 := by omega
    have HK := Lib.hid hk
    have HOK := Lib.hid hok
    have hsz := hb.size
    have hal' : a.length ≤ 50000 := hal
    have hsa : (str a).size ≤ 9223372036854775807 := by rw [str_size]; omega
    clear hxe hI hk hlt hok
    have hBB : W0.heap.size = g6 + 4 := hs0
    have n8 : ∀ {m : Nat}, m ≠ g6 + 1 + 1 → (⟨g6 + 1 + 1, 0, none⟩ : Addr) ≠ ⟨m, 0, none⟩ := fun hk e => hk (congrArg Addr.block e).symm
    obtain ⟨W1, hW1⟩ : ∃ W1, W1 = W.setCell ⟨g6 + 1 + 1, 0, none⟩ (.int .i64 ((k : Int) + 1)) := ⟨_, rfl⟩
    have k0 : W1.cell? ⟨w.heap.size, 0, none⟩ = some (.slice none 0 0) := by rw [hW1]; exact set_ne _ (n8 (by omega)) e1
    have k1 : W1.cell? ⟨w.heap.size + 1, 0, none⟩ = some (.int .i64 0) := by rw [hW1]; exact set_ne _ (n8 (by omega)) e3
    have k2 : W1.cell? ⟨w.heap.size + 1 + 1, 0, none⟩ = some (.int .i64 0) := by rw [hW1]; exact set_ne _ (n8 (by omega)) e5
    have k5 : W1.cell? ⟨g5, 0, none⟩ = some (.map (some b)) := by rw [hW1]; exact set_ne _ (n8 (by omega)) e7
    have k6 : W1.cell? ⟨g6, 0, none⟩ = some (.map (some km)) := by rw [hW1]; exact set_ne _ (n8 (by omega)) e8
    have k7 : W1.cell? ⟨g6 + 1, 0, none⟩ = some v := by rw [hW1]; exact set_ne _ (n8 (by omega)) e11
    have k8 : W1.cell? ⟨g6 + 1 + 1, 0, none⟩ = some (.int .i64 ((k : Int) + 1)) := by rw [hW1]; exact set_eq _ e9
    have q0 : W1.frozen? ⟨w.heap.size, 0, none⟩ = false := by rw [hW1, World.frozen?_setCell]; exact e2
    have q1 : W1.frozen? ⟨w.heap.size + 1, 0, none⟩ = false := by rw [hW1, World.frozen?_setCell]; exact e4
    have q2 : W1.frozen? ⟨w.heap.size + 1 + 1, 0, none⟩ = false := by rw [hW1, World.frozen?_setCell]; exact e6
    have q7 : W1.frozen? ⟨g6 + 1, 0, none⟩ = false := by rw [hW1, World.frozen?_setCell]; exact e12
    have hz1 : W1.heap.size = W.heap.size := by rw [hW1, World.size_setCell]
    have HKO : KeepsOthers W W1 := by rw [hW1]; exact KeepsOthers.setCell _ _ _
    have hBW : Below w.heap.size W W1 := by rw [hW1]; exact (Below.refl w.heap.size W).setCell (p := ⟨g6 + 1 + 1, 0, none⟩) (by show w.heap.size ≤ g6 + 1 + 1; omega) _
    have hb1 : Below w.heap.size w W1 := hb.trans hBW
    have HL1 := Lib.hid (show LabMap W1 b N f by rw [hW1]; exact labMap_set hm (by show b ≠ g6 + 1 + 1; omega) _)
    have HK1 := Lib.hid (show KindMap W1 km (some b) by rw [hW1]; exact kindMap_set hkm (by show km ≠ g6 + 1 + 1; omega) _)
    have HO1 := Lib.hid (show W1.ownsRow W0.heap.size 39 4 v (aheadL (vals pre)) (insCells (codeOf f (vals pre))) by
      rw [hW1]
      obtain ⟨o1, o2⟩ := e13
      refine ⟨o1, o2.imp id ?_⟩
      rintro ⟨g, cap, cur, z1, z2, z3, z4⟩
      refine ⟨g, cap, cur, z1, z2, ?_, z4⟩
      rw [World.setCell, Array.getElem?_modify, if_neg (by show ¬ g6 + 1 + 1 = g; omega)]
      exact z3)
    have HG1 := Lib.hid (G.low hGl hb1)
    have HE11 := Lib.hid e11
    have HW1 := Lib.hid hW1
    have hD0 : W0.heap.size ≤ W1.heap.size := by rw [hz1]; exact hBs
    have mixed : Tryd.prog.follows .mixedOrders = true := by kernel_rfl
    clear hW1 e1 e2 e3 e4 e5 e6 e7 e8 e11 e12 e13 hm hkm
    cases en with
    | false =>
      have HE := Lib.hid (show errL f (vals pre) (a, false) = 12 by simp only [errL]; rw [if_pos trivial])
      gi_wp2
      rw [← HW1.out]
      gi_region_o
      all_goals gi_wp2
      all_goals
        refine r3_fin (y := ⟨(a, false), hal⟩) HK.out HOK.out HE.out (by decide) ?_
        repeat first | apply r3_d | apply r3_0 | apply r3_1 | apply r3_2
        exact ⟨HKO, hb1, k0, k1, k2⟩
    | true =>
      cases hlb : labB a with
      | true =>
        have HLB := Lib.hid hlb
        obtain ⟨e, hee⟩ : ∃ e, faultE f a ((k : Int) + 1) = e := ⟨_, rfl⟩
        have HE := Lib.hid (show errL f (vals pre) (a, true) = e by
          simp only [errL]
          rw [if_neg (by decide), if_pos hlb, vals_len, HK.out]
          exact hee)
        have hfa := fault_any (str a) b N f ((k : Int) + 1) W1 (by rw [str_size]; omega) HL1.out
        rw [str_data, hee] at hfa
        have HEE := Lib.hid hee
        clear hlb hee
        by_cases he0 : e = 0
        · subst he0
          gi_wp2_with (first | (refine ⟨trivial, ?_⟩; gi_at_call 23; rw [← HW1.out]; refine (CallsIn.inRound l (callsIn_wide.2 (labelling_any _ _ hsa))).mono ?_; rintro e w' ⟨rfl, hw⟩; obtain rfl := hw.symm; rw [str_data, HLB.out]) | (refine ⟨trivial, ?_⟩; gi_at_call 24; refine (CallsIn.inRound l (callsIn_wide.2 hfa)).mono ?_; rintro e w' ⟨rfl, hw⟩; obtain rfl := hw.symm))
          refine ⟨HKO.from _, hBW, ?_⟩
          have hfin := paI_label (x := ⟨(a, true), hal⟩) (by omega) (by omega) hBB (by omega) (by omega) HLB.out HE.out HI.out
          rw [HK.out, ← HW1.out] at hfin
          exact hfin
        · have he1 : (e != 0) = true := by simpa using he0
          have HE0 := Lib.hid he0
          clear he0
          gi_wp2_with (first | (refine ⟨trivial, ?_⟩; gi_at_call 23; rw [← HW1.out]; refine (CallsIn.inRound l (callsIn_wide.2 (labelling_any _ _ hsa))).mono ?_; rintro e w' ⟨rfl, hw⟩; obtain rfl := hw.symm; rw [str_data, HLB.out]) | (refine ⟨trivial, ?_⟩; gi_at_call 24; refine (CallsIn.inRound l (callsIn_wide.2 hfa)).mono ?_; rintro e w' ⟨rfl, hw⟩; obtain rfl := hw.symm))
          gi_region_o
          all_goals gi_wp2
          all_goals
            refine r3_fin (y := ⟨(a, true), hal⟩) HK.out HOK.out HE.out HE0.out ?_
            repeat first | apply r3_d | apply r3_0 | apply r3_1 | apply r3_2
            exact ⟨HKO, hb1, k0, k1, k2⟩
      | false =>
        have HLB := Lib.hid hlb
        have hins := instruction_any a km b N f W1 hal' HG1.out HK1.out HL1.out
        obtain ⟨⟨⟨i0, i1, i2, i3⟩, e⟩, hie⟩ : ∃ r, instrE f a = r := ⟨_, rfl⟩
        rw [hie] at hins
        unfold InsPost insV at hins
        dsimp only at hins
        obtain ⟨va, vc, rfl⟩ := own_sl HO1.out
        obtain ⟨m, hmm⟩ : ∃ m, aheadL (vals pre) = m := ⟨_, rfl⟩
        have hm1 : m ≤ 1000 := by rw [← hmm]; exact hle
        rw [hmm] at k7
        have HM := Lib.hid hmm
        have HIE := Lib.hid hie
        have HEL : Hid (errL f (vals pre) (a, true) = if e = 0 ∧ m = 1000 then 2 else e) := by
          show errL f (vals pre) (a, true) = _
          simp only [errL]
          rw [if_neg (by decide), hlb, if_neg (by decide), hie, hmm]
        clear hlb hle hmm hie k5
        by_cases he0 : e = 0
        · subst he0
          by_cases h1000 : m = 1000
          · subst h1000
            have HE := Lib.hid (show errL f (vals pre) (a, true) = 2 by rw [HEL.out, if_pos ⟨rfl, rfl⟩])
            have HE0 := Lib.hid (show (2 : Int) ≠ 0 by decide)
            gi_wp2_with (first | (refine ⟨trivial, ?_⟩; gi_at_call 23; rw [← HW1.out]; refine (CallsIn.inRound l (callsIn_wide.2 (labelling_any _ _ hsa))).mono ?_; rintro e w' ⟨rfl, hw⟩; obtain rfl := hw.symm; rw [str_data, HLB.out]) | (refine ⟨trivial, ?_⟩; gi_at_call 25; refine (CallsIn.inRound l (callsIn_wide.2 hins)).mono ?_; rintro e5 w3 ⟨rfl, hb3⟩; have j7 := cellA (Obj.cells #[Value.int .i64 i0, Value.int .i64 i1, Value.int .i64 i2, Value.int .i64 i3] 39) (cellB hb3 k7); obtain ⟨W3, hW3⟩ : ∃ W3, W3 = w3.alloc (Obj.cells #[Value.int .i64 i0, Value.int .i64 i1, Value.int .i64 i2, Value.int .i64 i3] 39) := ⟨_, rfl⟩; have hb4 : Below W1.heap.size W1 W3 := (by rw [hW3]; exact hb3.alloc hb3.size _); have i70 : W3.cell? ⟨w3.heap.size, 0, none⟩ = some (.int .i64 i0) := (by rw [hW3]; exact cell_new _ _ _ rfl rfl); have i71 : W3.cell? ⟨w3.heap.size, 1, none⟩ = some (.int .i64 i1) := (by rw [hW3]; exact cell_new _ _ _ rfl rfl); have i72 : W3.cell? ⟨w3.heap.size, 2, none⟩ = some (.int .i64 i2) := (by rw [hW3]; exact cell_new _ _ _ rfl rfl); have i73 : W3.cell? ⟨w3.heap.size, 3, none⟩ = some (.int .i64 i3) := (by rw [hW3]; exact cell_new _ _ _ rfl rfl); have HW3 := Lib.hid hW3; clear hW3 hb3))
            rw [← HW3.out]
            have j0 := cellB hb4 k0
            have j1 := cellB hb4 k1
            have j2 := cellB hb4 k2
            have j8 := cellB hb4 k8
            have r0 := (hb4.frozen (p := ⟨w.heap.size, 0, none⟩) (cell_lt k0)).trans q0
            have r1 := (hb4.frozen (p := ⟨w.heap.size + 1, 0, none⟩) (cell_lt k1)).trans q1
            have r2 := (hb4.frozen (p := ⟨w.heap.size + 1 + 1, 0, none⟩) (cell_lt k2)).trans q2
            have hko : KeepsOthers W W3 := HKO.trans ⟨hb4.size, fun i o hi _ => (hb4.block i (Array.getElem?_eq_some_iff.1 hi).1).trans hi⟩
            have hbw : Below w.heap.size w W3 := hb1.trans (hb4.mono hb1.size)
            clear j7 i70 i71 i72 i73
            gi_region_o
            all_goals gi_wp2
            all_goals
              refine r3_fin (y := ⟨(a, true), hal⟩) HK.out HOK.out HE.out HE0.out ?_
              repeat first | apply r3_d | apply r3_0 | apply r3_1 | apply r3_2
              exact ⟨hko, hbw, j0, j1, j2⟩
          · have hm2 : ((m : Int) == 1000) = false := by simp; omega
            have HE := Lib.hid (show errL f (vals pre) (a, true) = 0 by rw [HEL.out, if_neg (fun q => h1000 q.2)])
            obtain ⟨ii, hi, hz0, hz1, hz2⟩ := info_parts Tryd.infoIns
            have HI2 := Lib.hid (And.intro hi (And.intro hz0 (And.intro hz1 hz2)))
            have HM1 := Lib.hid h1000
            clear hi hz0 hz1 hz2 h1000
            gi_wp2_with (first | (refine ⟨trivial, ?_⟩; gi_at_call 23; rw [← HW1.out]; refine (CallsIn.inRound l (callsIn_wide.2 (labelling_any _ _ hsa))).mono ?_; rintro e w' ⟨rfl, hw⟩; obtain rfl := hw.symm; rw [str_data, HLB.out]) | (refine ⟨trivial, ?_⟩; gi_at_call 25; refine (CallsIn.inRound l (callsIn_wide.2 hins)).mono ?_; rintro e5 w3 ⟨rfl, hb3⟩; have j7 := cellA (Obj.cells #[Value.int .i64 i0, Value.int .i64 i1, Value.int .i64 i2, Value.int .i64 i3] 39) (cellB hb3 k7); obtain ⟨W3, hW3⟩ : ∃ W3, W3 = w3.alloc (Obj.cells #[Value.int .i64 i0, Value.int .i64 i1, Value.int .i64 i2, Value.int .i64 i3] 39) := ⟨_, rfl⟩; have hb4 : Below W1.heap.size W1 W3 := (by rw [hW3]; exact hb3.alloc hb3.size _); have i70 : W3.cell? ⟨w3.heap.size, 0, none⟩ = some (.int .i64 i0) := (by rw [hW3]; exact cell_new _ _ _ rfl rfl); have i71 : W3.cell? ⟨w3.heap.size, 1, none⟩ = some (.int .i64 i1) := (by rw [hW3]; exact cell_new _ _ _ rfl rfl); have i72 : W3.cell? ⟨w3.heap.size, 2, none⟩ = some (.int .i64 i2) := (by rw [hW3]; exact cell_new _ _ _ rfl rfl); have i73 : W3.cell? ⟨w3.heap.size, 3, none⟩ = some (.int .i64 i3) := (by rw [hW3]; exact cell_new _ _ _ rfl rfl); have HW3 := Lib.hid hW3; have HO3 := Lib.hid (show (w3.alloc (Obj.cells #[Value.int .i64 i0, Value.int .i64 i1, Value.int .i64 i2, Value.int .i64 i3] 39)).ownsRow W0.heap.size 39 4 (.slice va m vc) m (insCells (codeOf f (vals pre))) from (by rw [← hW3]; have h := own_B hb4 HO1.out; rw [HM.out] at h; exact h)); clear hW3 hb3) | (gi_at_builtin; refine wpListIn_append_own _ rfl _ _ 23 rfl W0.heap.size 39 ii (.agg #[.int .i64 0, .int .i64 0, .int .i64 0, .int .i64 0]) 4 32 Tryd.underlying23 HI2.out.1 HI2.out.2.1 HI2.out.2.2.1 HI2.out.2.2.2 rfl (by decide) _ m _ rfl (HO3.out.alloc _) ⟨w3.heap.size + 1, 0, none⟩ 1 1 (insOf (i0, i1, i2, i3)) rfl rfl ?c1 ?c2 ?c3 ?c4 ?c5 ?_))
            case c1 =>
              intro j u hu
              have hj : j < 4 := (List.getElem?_eq_some_iff.1 hu).1
              rw [Gen.add_plain, Nat.zero_add]
              refine cell_new _ _ _ (by simp) ?_
              rcases (show j = 0 ∨ j = 1 ∨ j = 2 ∨ j = 3 by omega) with rfl | rfl | rfl | rfl <;> exact hu
            case c2 => intro u hu; simp [insOf] at hu; rcases hu with rfl | rfl | rfl | rfl <;> rfl
            case c3 => unfold maxLen; omega
            case c4 => omega
            case c5 => have h5 := hb4.size; rw [HW3.out] at h5; rw [World.size_alloc]; have := hD0; omega
            intro v' w5 hown hgrow _
            obtain ⟨va', vc', rfl⟩ := own_sl hown
            have hB5 := hb4
            rw [HW3.out] at hB5
            have hB6 := hB5.alloc hB5.size (Obj.cells #[Value.int .i64 i0, Value.int .i64 i1, Value.int .i64 i2, Value.int .i64 i3] 39)
            have hO6 := HO3.out.alloc (Obj.cells #[Value.int .i64 i0, Value.int .i64 i1, Value.int .i64 i2, Value.int .i64 i3] 39)
            have m7 := cellB hB6 k7
            have s7 := (hB6.frozen (p := ⟨g6 + 1, 0, none⟩) (cell_lt k7)).trans q7
            have far7 := own_far (g := g6 + 1) hO6 (by omega)
            have u7 := (hgrow.cell_far ⟨g6 + 1, 0, none⟩ (cell_lt m7) far7).trans m7
            have t7 := (hgrow.frozen_far ⟨g6 + 1, 0, none⟩ (cell_lt m7) far7).trans s7
            have hKO6 := (HKO.trans (keeps_B hB6)).trans (keeps_own hO6 hgrow)
            have hBW6 : Below w.heap.size W w5 := by
              have h7 := hBW.trans (hB6.mono hb1.size)
              refine h7.grown hgrow (Nat.le_trans hsz h7.size) (fun r e => ?_)
              rcases Nat.lt_or_ge r (g6 + 4) with hr | hr
              · exact absurd e.symm (own_far hO6 (by omega))
              · omega
            have HOWN := Lib.hid hown
            have HGROW := Lib.hid hgrow
            have HB6 := Lib.hid hB6
            have HKO6 := Lib.hid hKO6
            have HBW6 := Lib.hid hBW6
            clear hown hgrow hB5 hB6 hO6 m7 s7 far7 hKO6 hBW6 j7 i70 i71 i72 i73 k0 k1 k2 k6 k7 k8 q0 q1 q2 q7 hb4
            gi_wp2
            refine ⟨(HKO6.out.trans (KeepsOthers.setCell _ _ _)).from _, HBW6.out.setCell (p := ⟨g6 + 1, 0, none⟩) (by show w.heap.size ≤ g6 + 1; omega) _, ?_⟩
            have hk7 : W.cell? ⟨g6 + 1, 0, none⟩ = some (.slice va m vc) := by
              have h := HE11.out
              rw [HM.out] at h
              exact h
            refine paI_ins (x := ⟨(a, true), hal⟩) (i := (i0, i1, i2, i3)) (by omega) (by omega) hBB (by omega) (by omega) HLB.out HE.out (by rw [HM.out]; exact HM1.out) (by rw [HIE.out]) HI.out hk7 ?_ HGROW.out (by rw [HM.out, hBB]; exact HOWN.out)
            rw [HK.out, ← HW1.out, ← hz1]
            exact HB6.out
        · have he1 : (e == 0) = false := by simpa using he0
          have he2 : (e != 0) = true := by simpa using he0
          have HE := Lib.hid (show errL f (vals pre) (a, true) = e by rw [HEL.out, if_neg (fun q => he0 q.1)])
          have HE0 := Lib.hid he0
          clear he0
          gi_wp2_with (first | (refine ⟨trivial, ?_⟩; gi_at_call 23; rw [← HW1.out]; refine (CallsIn.inRound l (callsIn_wide.2 (labelling_any _ _ hsa))).mono ?_; rintro e w' ⟨rfl, hw⟩; obtain rfl := hw.symm; rw [str_data, HLB.out]) | (refine ⟨trivial, ?_⟩; gi_at_call 25; refine (CallsIn.inRound l (callsIn_wide.2 hins)).mono ?_; rintro e5 w3 ⟨rfl, hb3⟩; have j7 := cellA (Obj.cells #[Value.int .i64 i0, Value.int .i64 i1, Value.int .i64 i2, Value.int .i64 i3] 39) (cellB hb3 k7); obtain ⟨W3, hW3⟩ : ∃ W3, W3 = w3.alloc (Obj.cells #[Value.int .i64 i0, Value.int .i64 i1, Value.int .i64 i2, Value.int .i64 i3] 39) := ⟨_, rfl⟩; have hb4 : Below W1.heap.size W1 W3 := (by rw [hW3]; exact hb3.alloc hb3.size _); have i70 : W3.cell? ⟨w3.heap.size, 0, none⟩ = some (.int .i64 i0) := (by rw [hW3]; exact cell_new _ _ _ rfl rfl); have i71 : W3.cell? ⟨w3.heap.size, 1, none⟩ = some (.int .i64 i1) := (by rw [hW3]; exact cell_new _ _ _ rfl rfl); have i72 : W3.cell? ⟨w3.heap.size, 2, none⟩ = some (.int .i64 i2) := (by rw [hW3]; exact cell_new _ _ _ rfl rfl); have i73 : W3.cell? ⟨w3.heap.size, 3, none⟩ = some (.int .i64 i3) := (by rw [hW3]; exact cell_new _ _ _ rfl rfl); have HW3 := Lib.hid hW3; clear hW3 hb3))
          rw [← HW3.out]
          have j0 := cellB hb4 k0
          have j1 := cellB hb4 k1
          have j2 := cellB hb4 k2
          have j8 := cellB hb4 k8
          have r0 := (hb4.frozen (p := ⟨w.heap.size, 0, none⟩) (cell_lt k0)).trans q0
          have r1 := (hb4.frozen (p := ⟨w.heap.size + 1, 0, none⟩) (cell_lt k1)).trans q1
          have r2 := (hb4.frozen (p := ⟨w.heap.size + 1 + 1, 0, none⟩) (cell_lt k2)).trans q2
          have hko : KeepsOthers W W3 := HKO.trans ⟨hb4.size, fun i o hi _ => (hb4.block i (Array.getElem?_eq_some_iff.1 hi).1).trans hi⟩
          have hbw : Below w.heap.size w W3 := hb1.trans (hb4.mono hb1.size)
          clear j7 i70 i71 i72 i73
          gi_region_o
          all_goals gi_wp2
          all_goals
            refine r3_fin (y := ⟨(a, true), hal⟩) HK.out HOK.out HE.out HE0.out ?_
            repeat first | apply r3_d | apply r3_0 | apply r3_1 | apply r3_2
            exact ⟨hko, hbw, j0, j1, j2⟩
  case done =>
    rintro D ys W hD hys ⟨⟨e1, e2, e3, e4, e5, e6⟩, ⟨e7, e8, e9, e10⟩, ⟨v, e11, e12, e13⟩, hm, hkm, hb, hok, hle, hBs⟩ hK
    obtain ⟨va, vc, rfl⟩ := own_sl e13
    have hBB : W0.heap.size = g6 + 4 := hs0
    rw [hys] at hok e13
    have HP := Lib.hid (show parseL t = (codeOf f (linesL t), 0, 0) by
      rw [parseL, if_neg (by omega), HF.out]
      exact parseOf_ok hok)
    obtain ⟨m, hmm⟩ : ∃ m, aheadL (vals ys) = m := ⟨_, rfl⟩
    have hmm2 := hmm
    rw [hys] at hmm2
    rw [hmm] at e11
    rw [hmm2] at e13
    have HCL := Lib.hid (show (codeOf f (linesL t)).length = m by rw [codeOf_len]; exact hmm2)
    have HO := Lib.hid e13
    clear hmm hmm2 hys hm hkm hok hle e13
    gi_wp2
    obtain ⟨W5, hW5⟩ : ∃ W5, W5 = ((W.setCell ⟨w.heap.size, 0, none⟩ (.slice va m vc)).setCell ⟨w.heap.size + 1, 0, none⟩ (.int .i64 0)).setCell ⟨w.heap.size + 1 + 1, 0, none⟩ (.int .i64 0) := ⟨_, rfl⟩
    have hKO : KeepsOthers W W5 := by rw [hW5]; exact ((KeepsOthers.setCell _ _ _).trans (KeepsOthers.setCell _ _ _)).trans (KeepsOthers.setCell _ _ _)
    have hK5 := hKO.same D _ hK rfl
    have z0 : W5.cell? ⟨w.heap.size, 0, none⟩ = some (.slice va m vc) := by rw [hW5]; exact set_ne _ (by intro e; simp at e) (set_ne _ (by intro e; simp at e) (set_eq _ e1))
    have z1 : W5.cell? ⟨w.heap.size + 1, 0, none⟩ = some (.int .i64 0) := by rw [hW5]; exact set_ne _ (by intro e; simp at e) (set_eq _ (set_ne _ (by intro e; simp at e) e3))
    have z2 : W5.cell? ⟨w.heap.size + 1 + 1, 0, none⟩ = some (.int .i64 0) := by rw [hW5]; exact set_eq _ (set_ne _ (by intro e; simp at e) (set_ne _ (by intro e; simp at e) e5))
    have hb5 : Below w.heap.size w W5 := by
      rw [hW5]
      exact ((hb.setCell (p := ⟨w.heap.size, 0, none⟩) (Nat.le_refl _) _).setCell (p := ⟨w.heap.size + 1, 0, none⟩) (by show w.heap.size ≤ w.heap.size + 1; omega) _).setCell (p := ⟨w.heap.size + 1 + 1, 0, none⟩) (by show w.heap.size ≤ w.heap.size + 1 + 1; omega) _
    have ho5 : W5.ownsRow W0.heap.size 39 4 (.slice va m vc) m (insCells (codeOf f (linesL t))) := by
      rw [hW5]
      exact own_set (own_set (own_set HO.out _ (by show w.heap.size < W0.heap.size; omega) _) _ (by show w.heap.size + 1 < W0.heap.size; omega) _) _ (by show w.heap.size + 1 + 1 < W0.heap.size; omega) _
    rw [← hW5]
    refine ⟨by simp, .inl ⟨_, _, rfl, run_takeDeferred hK5, ?_⟩⟩
    have hrow : ∀ r, (some D : Option Nat) = some r → ∃ o : Obj, W5.heap[r]? = some o ∧ o.isCells = false := fun r e => by cases e; exact ⟨_, hK5, rfl⟩
    have j0 := cell_kept z0 (grownBy_putObj' _ D (.deferred none)) hrow
    have j1 := cell_kept z1 (grownBy_putObj' _ D (.deferred none)) hrow
    have j2 := cell_kept z2 (grownBy_putObj' _ D (.deferred none)) hrow
    refine ⟨.tuple #[.slice va m vc, .int .i64 0, .int .i64 0], ?_, .slice va m vc, by rw [HP.out], ?_, ?_⟩
    · simp [results, Tryd.f9, go_sem, j0, j1, j2]
    · rw [HP.out]
      dsimp only
      rw [HCL.out]
      exact own_low (by omega) (own_put ho5 hK5 rfl)
    · exact hb5.trans (belowK_b (w := w) (Nat.le_refl _) W5 D _ _ (by omega) hK5 rfl rfl)
  case stop =>
    rintro D c pre W hD ⟨r, hr⟩ ⟨rfl, ⟨ini, x, e, rfl, h2, h3, h4, z0, z1, z2⟩, hb⟩ hK
    rw [vals_snoc] at hr
    have HP := Lib.hid (show parseL t = ([], (ini.length : Int) + 1, e) by
      rw [parseL, if_neg (by omega), HF.out, parseOf_no hr.symm h2 (by rw [h3]; exact h4), h3, vals_len])
    clear hr h2 h3 h4
    gi_wp2
    refine ⟨by simp, .inl ⟨_, _, rfl, run_takeDeferred hK, ?_⟩⟩
    have hrow : ∀ r, (some D : Option Nat) = some r → ∃ o : Obj, W.heap[r]? = some o ∧ o.isCells = false := fun r e => by cases e; exact ⟨_, hK, rfl⟩
    have j0 := cell_kept z0 (grownBy_putObj' _ D (.deferred none)) hrow
    have j1 := cell_kept z1 (grownBy_putObj' _ D (.deferred none)) hrow
    have j2 := cell_kept z2 (grownBy_putObj' _ D (.deferred none)) hrow
    refine ⟨.tuple #[.slice none 0 0, .int .i64 ((ini.length : Int) + 1), .int .i64 e], ?_, .slice none 0 0, by rw [HP.out], ?_, ?_⟩
    · simp [results, Tryd.f9, go_sem, j0, j1, j2]
    · rw [HP.out]
      exact World.ownsRow_nil _ _ _ _
    · exact hb.trans (belowK_b (w := w) (Nat.le_refl _) W D _ _ (by omega) hK rfl rfl)
end Go.Proofs.YthcogkcjmhjjmaaDoor
