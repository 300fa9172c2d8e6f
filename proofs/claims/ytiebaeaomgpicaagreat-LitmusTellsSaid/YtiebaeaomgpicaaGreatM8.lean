/- Reg, TsoJ, put together. -/
import Derived.Deep.RegionHeld3
import Derived.Deep.DrawnRows
import Derived.Test.YtiebaeaomgpicaaGreatM7
/- A law for regions that draw their order: one relation on what has come up so far, shown once for each operation. -/
namespace Go.Proofs.YtiebaeaomgpicaaGreat
/-- the region of that number, out of a function's code -/
def findRegion (n : Nat) : Code → Option Code
  | .region id ops b => if id = n then some (.region id ops b) else none
  | .seq a b => match findRegion n a with
    | some c => some c
    | none => findRegion n b
  | .cond _ a b => match findRegion n a with
    | some c => some c
    | none => findRegion n b
  | .block _ c => findRegion n c
  | .loop c => findRegion n c
  | .scope c => findRegion n c
  | _ => none

section
variable {P : Program} {ops : Array Oper} {Q : Exit → Act → World → Prop} {md : Region.Mode}

/-- has number i come up? -/
def Up (listed : Array Bool) (i : Nat) : Prop := listed.getD i true = true
theorem up_set {listed : Array Bool} {i j : Nat} : Up (listed.setIfInBounds i true) j ↔ j = i ∨ Up listed j := by
  unfold Up
  simp only [Array.getD_eq_getD_getElem?, Array.getElem?_setIfInBounds]
  by_cases h : i = j
  · subst h
    by_cases hl : i < listed.size
    · simp [hl]
    · simp [hl]
  · rw [if_neg h]
    simp [Ne.symm h]
theorem up_self {listed : Array Bool} {i : Nat} : Up (listed.setIfInBounds i true) i := up_set.2 (.inl rfl)
theorem up_old {listed : Array Bool} {i j : Nat} (h : Up listed j) : Up (listed.setIfInBounds i true) j := up_set.2 (.inr h)
theorem up_back {listed : Array Bool} {i j : Nat} (h : Up (listed.setIfInBounds i true) j) (hne : j ≠ i) : Up listed j := (up_set.1 h).resolve_left hne
/-- those that it waits for -/
def Waits (md : Region.Mode) (o : Oper) : List Nat := (o.after.toList.filter (Region.binds md)).map (·.on)

def Steps (P : Program) (md : Region.Mode) (ops : Array Oper) (Q : Exit → Act → World → Prop) (Inv : Array Bool → Act → World → Prop) (rs : List Nat) : Prop :=
  ∀ i ∈ rs, ∀ listed a w, Inv listed a w → i ∈ Region.ready md ops listed → wpOp P ops Q i (fun a' w' => Inv (listed.setIfInBounds i true) a' w') a w
theorem Steps.nil {Inv : Array Bool → Act → World → Prop} : Steps P md ops Q Inv [] := fun _ h => by cases h
theorem Steps.cons {Inv : Array Bool → Act → World → Prop} {i : Nat} {o : Oper} {rs ws : List Nat} (ho : ops[i]? = some o) (hw : Waits md o = ws)
    (h : ∀ listed a w, Inv listed a w → ¬ Up listed i → (∀ j ∈ ws, Up listed j) → ∀ K' : Act → World → Prop, Shut (∀ a' w', Inv (listed.setIfInBounds i true) a' w' → K' a' w') → if Region.wanted o (yielded ops a.tmps) = true then Oper.wp P o a w K' Q else K' (a.put o.dst undef) w)
    (hs : Steps P md ops Q Inv rs) : Steps P md ops Q Inv (i :: rs) := fun j hj listed a w hi hr => by
  rcases List.mem_cons.1 hj with rfl | hj
  · refine wpOp_step ho (fun K' hK => h listed a w hi ?_ ?_ K' hK)
    · have := (mem_ready.1 hr).1
      unfold Up; rw [this]; decide
    · obtain ⟨_, o', ho', hall⟩ := mem_ready.1 hr
      rw [ho] at ho'
      obtain rfl : o = o' := by injection ho'
      intro k hk
      rw [← hw] at hk
      obtain ⟨e, he, rfl⟩ := List.mem_map.1 hk
      obtain ⟨he1, he2⟩ := List.mem_filter.1 he
      have := hall e (by simpa using he1) he2
      unfold Up
      rw [Array.getD_eq_getD_getElem?] at this ⊢
      cases hx : listed[e.on]? with
      | none => rfl
      | some b => rw [hx] at this; simpa using this
  · exact hs j hj listed a w hi hr

/-- each waits for such alone as stand ahead of it -/
def backB (md : Region.Mode) (ops : Array Oper) : Bool := (List.range ops.size).all fun i => match ops[i]? with | some o => (Waits md o).all (fun j => decide (j < i)) | none => true
theorem all_up {listed : Array Bool} (hsz : listed.size = ops.size) (hb : backB md ops = true) (hr : Region.ready md ops listed = []) : ∀ i, Up listed i := by
  intro i
  induction i using Nat.strongRecOn with
  | _ i ih =>
    by_cases hi : i < ops.size
    · cases hu : listed.getD i true with
      | true => exact hu
      | false =>
        exfalso
        obtain ⟨o, ho⟩ : ∃ o, ops[i]? = some o := ⟨ops[i], by simp [hi]⟩
        have hx := List.all_eq_true.1 hb i (List.mem_range.2 hi)
        rw [ho] at hx
        have hmem : i ∈ Region.ready md ops listed := mem_ready.2 ⟨hu, o, ho, fun e he hbd => by
          have hlt : e.on < i := by
            have := List.all_eq_true.1 hx e.on (List.mem_map.2 ⟨e, List.mem_filter.2 ⟨by simpa using he, hbd⟩, rfl⟩)
            simpa using this
          have h2 := ih e.on hlt
          unfold Up at h2
          have hlt2 : e.on < listed.size := by omega
          rw [Array.getD_eq_getD_getElem?] at h2 ⊢
          simpa [hlt2] using h2⟩
        rw [hr] at hmem
        cases hmem
    · have : listed[i]? = none := by rw [Array.getElem?_eq_none_iff]; omega
      unfold Up
      rw [Array.getD_eq_getD_getElem?, this]; rfl

theorem count_set {l : List Bool} {i : Nat} (h : l[i]? = some false) : (l.set i true).count false + 1 = l.count false := by
  induction l generalizing i with
  | nil => simp at h
  | cons b l ih =>
    cases i with
    | zero => simp at h; subst h; simp
    | succ i =>
      have := ih (i := i) (by simpa using h)
      simp only [List.set_cons_succ, List.count_cons]
      omega

theorem wpAny_inv {Inv : Array Bool → Act → World → Prop} (hb : backB md ops = true) (hs : Steps P md ops Q Inv (List.range ops.size))
    (hend : ∀ listed a w, Inv listed a w → (∀ i, Up listed i) → Q .normal a w) :
    ∀ (fuel : Nat) (listed : Array Bool) (a : Act) (w : World), listed.size = ops.size → listed.toList.count false ≤ fuel → Inv listed a w → wpAny P md ops Q fuel listed a w := by
  intro fuel
  induction fuel with
  | zero =>
    intro listed a w hsz hc hi
    have hr : Region.ready md ops listed = [] := by
      apply List.eq_nil_iff_forall_not_mem.2
      intro i hi
      have h1 := (mem_ready.1 hi).1
      have h2 : false ∈ listed.toList := by
        by_cases hl : i < listed.size
        · have : listed[i] = false := by simpa [hl] using h1
          rw [← this]
          simp
        · simp [hl] at h1
      have h3 := List.count_pos_iff.2 h2
      omega
    exact ⟨hr, hend listed a w hi (all_up hsz hb hr)⟩
  | succ fuel ih =>
    intro listed a w hsz hc hi
    refine ⟨fun hr => hend listed a w hi (all_up hsz hb hr), fun i hr => ?_⟩
    obtain ⟨h1, o, ho, _⟩ := mem_ready.1 hr
    have hlt : i < ops.size := by
      by_cases h : i < ops.size
      · exact h
      · have : ops[i]? = none := by rw [Array.getElem?_eq_none_iff]; omega
        rw [this] at ho; cases ho
    refine wpOp_mono (fun a' w' h' => ih _ a' w' (by simpa using hsz) ?_ h') (hs i (List.mem_range.2 hlt) listed a w hi hr)
    have hl : i < listed.size := by omega
    have h2 : listed.toList[i]? = some false := by
      have : listed[i] = false := by simpa [hl] using h1
      simp [hl, this]
    have := count_set h2
    simp only [Array.toList_setIfInBounds]
    omega

/-- the steps of a list of operations, from number k on -/
def StepsL (P : Program) (md : Region.Mode) (ops : Array Oper) (Q : Exit → Act → World → Prop) (Inv : Array Bool → Act → World → Prop) (k : Nat) (l : List Oper) : Prop :=
  ∀ j o, l[j]? = some o → ops[k + j]? = some o → ∀ listed a w, Inv listed a w → k + j ∈ Region.ready md ops listed → wpOp P ops Q (k + j) (fun a' w' => Inv (listed.setIfInBounds (k + j) true) a' w') a w
theorem StepsL.nil {Inv : Array Bool → Act → World → Prop} {k : Nat} : StepsL P md ops Q Inv k [] := fun _ _ h => by simp at h
theorem StepsL.cons {Inv : Array Bool → Act → World → Prop} {k : Nat} {o : Oper} {l : List Oper} {ws : List Nat} (hw : Waits md o = ws)
    (h : ∀ listed a w, Inv listed a w → ¬ Up listed k → (∀ j ∈ ws, Up listed j) → ∀ K' : Act → World → Prop, Shut (∀ a' w', Inv (listed.setIfInBounds k true) a' w' → K' a' w') → if Region.wanted o (yielded ops a.tmps) = true then Oper.wp P o a w K' Q else K' (a.put o.dst undef) w)
    (hs : StepsL P md ops Q Inv (k + 1) l) : StepsL P md ops Q Inv k (o :: l) := fun j o' hj ho listed a w hi hr => by
  cases j with
  | zero =>
    obtain rfl : o = o' := by simpa using hj
    exact Steps.cons (rs := []) ho hw h Steps.nil _ (List.mem_singleton.2 rfl) listed a w hi hr
  | succ j =>
    have e : k + (j + 1) = k + 1 + j := by omega
    rw [e] at ho hr ⊢
    exact hs j o' (by simpa using hj) ho listed a w hi hr
theorem StepsL.all {Inv : Array Bool → Act → World → Prop} {l : List Oper} (h : StepsL P md l.toArray Q Inv 0 l) : Steps P md l.toArray Q Inv (List.range l.toArray.size) := fun i hi listed a w hI hr => by
  have hlt : i < l.length := by simpa using hi
  have := h i l[i] (by simp [hlt]) (by simp [hlt]) listed a w hI (by simpa using hr)
  simpa using this

/-- THE LAW: a relation of what has come up so far, the frame and the world, that each operation keeps. -/
theorem wp_region_inv {id : Nat} {l : List Oper} {a : Act} {w : World} (Inv : Act → World → Array Bool → Act → World → Prop) (hm : P.follows .mixedOrders = true) (hb : backB .any l.toArray = true)
    (h0 : ∀ listed, (∀ i, i < l.length → ¬ Up listed i) → Inv a w listed a w.drew) (hs : StepsL P .any l.toArray Q (Inv a w) 0 l)
    (hend : ∀ listed a' w', Inv a w listed a' w' → (∀ i, Up listed i) → Q .normal a' w') : (Code.region id l.toArray true).wp P Q a w := by
  refine wp_region_any hm (wpAny_inv (Inv := Inv a w) hb hs.all hend l.toArray.size _ a _ (by simp) (by simp) (h0 _ ?_))
  intro i hi hu
  unfold Up at hu
  simp [hi] at hu
end
end Go.Proofs.YtiebaeaomgpicaaGreat
/- What holds in package tso's Locked within its two statements whose order is open. -/
namespace Go.Proofs.YtiebaeaomgpicaaGreat
open Go.ChangeShapes Go.WideShapes Go.ChangeAt Go.RowKit

attribute [local go_sem] store_func
attribute [local go_sem ↓] Go.wp_at_zero Go.wp_at_succ
def Var3 (w : World) (g : Nat) (x y z : Value) : Prop := (w.cell? ⟨g, 0, none⟩ = some x ∧ w.cell? ⟨g, 1, none⟩ = some y ∧ w.cell? ⟨g, 2, none⟩ = some z) ∧ w.frozen? ⟨g, 0, none⟩ = false ∧ w.frozen? ⟨g, 1, none⟩ = false ∧ w.frozen? ⟨g, 2, none⟩ = false
theorem var3_new {w : World} {x y z : Value} {t : TypeId} (g : Nat) (hg : g = w.heap.size) : Var3 (w.alloc (.cells #[x, y, z] t)) g x y z :=
  ⟨⟨cell_new _ _ _ hg rfl, cell_new _ _ _ hg rfl, cell_new _ _ _ hg rfl⟩, frozen_new _ _ hg, frozen_new _ _ hg, frozen_new _ _ hg⟩
theorem var3_B {w w' : World} {g : Nat} {x y z : Value} (hb : Below w.heap.size w w') (h : Var3 w g x y z) : Var3 w' g x y z := by
  obtain ⟨⟨a, b, c⟩, e, f, i⟩ := h
  exact ⟨⟨cellB hb a, cellB hb b, cellB hb c⟩, frozenB hb a e, frozenB hb b f, frozenB hb c i⟩
theorem var3_A {w : World} {g : Nat} {x y z : Value} (o : Obj) (h : Var3 w g x y z) : Var3 (w.alloc o) g x y z := var3_B ((Below.refl _ _).alloc (Nat.le_refl _) _) h
theorem var3_lt {w : World} {g : Nat} {x y z : Value} (h : Var3 w g x y z) : g < w.heap.size := cell_lt h.1.1
theorem var3_other {w : World} {g g' o : Nat} {x y z : Value} (h : Var3 w g x y z) (hne : g' ≠ g) (v : Value) : Var3 (w.setCell ⟨g', o, none⟩ v) g x y z := by
  obtain ⟨⟨a, b, c⟩, e, f, i⟩ := h
  have ne : ∀ k, (⟨g', o, none⟩ : Addr) ≠ ⟨g, k, none⟩ := fun k e => hne (congrArg Addr.block e)
  refine ⟨⟨?_, ?_, ?_⟩, ?_, ?_, ?_⟩
  · rw [World.cell?_setCell_other _ _ _ _ (ne _)]; exact a
  · rw [World.cell?_setCell_other _ _ _ _ (ne _)]; exact b
  · rw [World.cell?_setCell_other _ _ _ _ (ne _)]; exact c
  all_goals (rw [World.frozen?_setCell]; assumption)
theorem var3_set {w : World} {g : Nat} {x y z : Value} (h : Var3 w g x y z) (x' y' z' : Value) : Var3 (((w.setCell ⟨g, 0, none⟩ x').setCell ⟨g, 1, none⟩ y').setCell ⟨g, 2, none⟩ z') g x' y' z' := by
  obtain ⟨⟨a, b, c⟩, e, f, i⟩ := h
  have ne : ∀ k i, k ≠ i → (⟨g, k, none⟩ : Addr) ≠ ⟨g, i, none⟩ := fun k i hk e => hk (congrArg Addr.off e)
  refine ⟨⟨?_, ?_, ?_⟩, ?_, ?_, ?_⟩
  · rw [World.cell?_setCell_other _ _ _ _ (ne _ _ (by decide)), World.cell?_setCell_other _ _ _ _ (ne _ _ (by decide))]
    exact World.cell?_setCell_same' _ _ _ (by rw [a]; rfl)
  · rw [World.cell?_setCell_other _ _ _ _ (ne _ _ (by decide))]
    exact World.cell?_setCell_same' _ _ _ (by rw [World.cell?_setCell_other _ _ _ _ (ne _ _ (by decide)), b]; rfl)
  · exact World.cell?_setCell_same' _ _ _ (by rw [World.cell?_setCell_other _ _ _ _ (ne _ _ (by decide)), World.cell?_setCell_other _ _ _ _ (ne _ _ (by decide)), c]; rfl)
  all_goals (simp only [World.frozen?_setCell]; assumption)

theorem below_set3 {F g : Nat} {w w' : World} (h : Below F w w') (hg : F ≤ g) (x y z : Value) : Below F w (((w'.setCell ⟨g, 0, none⟩ x).setCell ⟨g, 1, none⟩ y).setCell ⟨g, 2, none⟩ z) :=
  ((h.setCell (p := ⟨g, 0, none⟩) hg x).setCell (p := ⟨g, 1, none⟩) hg y).setCell (p := ⟨g, 2, none⟩) hg z
theorem var3_set4 {w : World} {g g' : Nat} {x y z a b c d : Value} (h : Var3 w g x y z) (hne : g' ≠ g) : Var3 ((((w.setCell ⟨g', 0, none⟩ a).setCell ⟨g', 1, none⟩ b).setCell ⟨g', 2, none⟩ c).setCell ⟨g', 3, none⟩ d) g x y z :=
  var3_other (var3_other (var3_other (var3_other h hne _) hne _) hne _) hne _
theorem var4_set3' {w : World} {g g' : Nat} {x y z u a b c : Value} (h : Var4 w g x y z u) (hne : g' ≠ g) : Var4 (((w.setCell ⟨g', 0, none⟩ a).setCell ⟨g', 1, none⟩ b).setCell ⟨g', 2, none⟩ c) g x y z u := by
  obtain ⟨⟨a, b, c, d⟩, e, f, i, j⟩ := h
  have ne : ∀ k m, (⟨g', m, none⟩ : Addr) ≠ ⟨g, k, none⟩ := fun k m e => hne (congrArg Addr.block e)
  refine ⟨⟨?_, ?_, ?_, ?_⟩, ?_, ?_, ?_, ?_⟩
  · rw [World.cell?_setCell_other _ _ _ _ (ne _ _), World.cell?_setCell_other _ _ _ _ (ne _ _), World.cell?_setCell_other _ _ _ _ (ne _ _)]; exact a
  · rw [World.cell?_setCell_other _ _ _ _ (ne _ _), World.cell?_setCell_other _ _ _ _ (ne _ _), World.cell?_setCell_other _ _ _ _ (ne _ _)]; exact b
  · rw [World.cell?_setCell_other _ _ _ _ (ne _ _), World.cell?_setCell_other _ _ _ _ (ne _ _), World.cell?_setCell_other _ _ _ _ (ne _ _)]; exact c
  · rw [World.cell?_setCell_other _ _ _ _ (ne _ _), World.cell?_setCell_other _ _ _ _ (ne _ _), World.cell?_setCell_other _ _ _ _ (ne _ _)]; exact d
  all_goals (simp only [World.frozen?_setCell]; assumption)
/-- Locked's first statement: what has come up so far -/
inductive LockInv (x y z u : Value) (a0 : Act) (w0 : World) (listed : Array Bool) (act' : Act) (w' : World) : Prop
  | mk (p20 p21 p22 p15 p16 : Value) (gx : Nat) (go : Nat) (x0 : Value) (x1 : Value) (x2 : Value) (x3 : Value) (y0 : Value) (y1 : Value) (y2 : Value) (ea : act' = (((((a0.put (some 20) p20).put (some 21) p21).put (some 22) p22).put (some 15) p15).put (some 16) p16)) (hb : Below w0.heap.size w0 w') (hf0 : Up listed 0 → p20 = .agg #[x, y, z, u]) (hf1 : Up listed 1 → p21 = .agg #[x, y, z, u]) (hf2 : Up listed 2 → p22 = .agg #[.func (.func 94) #[] #[], .func (.func 95) #[] #[], .func (.func 96) #[] #[]]) (hX : Up listed 3 → p15 = .pointer (some ⟨gx, 0, none⟩) ∧ w0.heap.size ≤ gx ∧ Var4 w' gx x0 x1 x2 x3) (hO : Up listed 4 → p16 = .pointer (some ⟨go, 0, none⟩) ∧ w0.heap.size ≤ go ∧ Var3 w' go y0 y1 y2 ∧ (Up listed 3 → gx ≠ go)) (hSX : Up listed 5 → Up listed 3 ∧ x0 = x ∧ x1 = y ∧ x2 = z ∧ x3 = u) (hSO : Up listed 6 → Up listed 4 ∧ y0 = (.func (.func 94) #[] #[]) ∧ y1 = (.func (.func 95) #[] #[]) ∧ y2 = (.func (.func 96) #[] #[])) : LockInv x y z u a0 w0 listed act' w'
def LockCut (W : World) (x y z u : Value) (s15 s16 : Value) (wx : World) : Prop :=
  ∃ gx go, s15 = .pointer (some ⟨gx, 0, none⟩) ∧ s16 = .pointer (some ⟨go, 0, none⟩) ∧ Var4 wx gx x y z u ∧ Var3 wx go (.func (.func 94) #[] #[]) (.func (.func 95) #[] #[]) (.func (.func 96) #[] #[]) ∧ W.heap.size ≤ gx ∧ W.heap.size ≤ go ∧ Below W.heap.size W wx

theorem slP_und {Q : Nat → Prop} {w : World} {a : Option Addr} {n : Nat} {zs : List Int} (h : SlP Q w a n zs) : SlP (fun b => Q b ∧ b < w.heap.size) w a n zs := by
  obtain ⟨h1, h2⟩ := h
  by_cases h0 : n = 0
  · exact ⟨h1, .inl h0⟩
  · obtain ⟨b, o, e, hq, r⟩ := h2.resolve_left h0
    exact ⟨h1, .inr ⟨b, o, e, ⟨hq, cell_lt (r 0 (by omega))⟩, r⟩⟩
theorem plQ_und {Q : Nat → Prop} {w : World} {a : Option Addr} {n : Nat} {zs : List (Int × Int)} (h : PlQ Q w a n zs) : PlQ (fun b => Q b ∧ b < w.heap.size) w a n zs := by
  obtain ⟨h1, h2⟩ := h
  by_cases h0 : n = 0
  · exact ⟨h1, .inl h0⟩
  · obtain ⟨b, o, e, hq, r⟩ := h2.resolve_left h0
    exact ⟨h1, .inr ⟨b, o, e, ⟨hq, cell_lt (r 0 (by omega)).1⟩, r⟩⟩
theorem blP_und {Q : Nat → Prop} {w : World} {a : Option Addr} {n : Nat} {bs : List (List (Int × Int))} (h : BlP Q w a n bs) : BlP (fun b => Q b ∧ b < w.heap.size) w a n bs := by
  obtain ⟨h1, h2⟩ := h
  by_cases h0 : n = 0
  · exact ⟨h1, .inl h0⟩
  · obtain ⟨b, o, e, hq, r⟩ := h2.resolve_left h0
    refine ⟨h1, .inr ⟨b, o, e, ⟨hq, ?_⟩, fun i hi => ?_⟩⟩
    · obtain ⟨q, c, k, _⟩ := r 0 (by omega)
      exact cell_lt k
    · obtain ⟨q, c, k, k2, k3⟩ := r i hi
      exact ⟨q, c, k, k2, plQ_und k3⟩
theorem blPA {Q : Nat → Prop} {w : World} {a : Option Addr} {n : Nat} {bs : List (List (Int × Int))} (o : Obj) (h : BlP Q w a n bs) : BlP Q (w.alloc o) a n bs := blP_keep (fun _ _ _ _ hv => cellA o hv) h
theorem cell_set4 {w : World} {g b o : Nat} {v x y z u : Value} (h : w.cell? ⟨b, o, none⟩ = some v) (hne : b ≠ g) : ((((w.setCell ⟨g, 0, none⟩ x).setCell ⟨g, 1, none⟩ y).setCell ⟨g, 2, none⟩ z).setCell ⟨g, 3, none⟩ u).cell? ⟨b, o, none⟩ = some v := by
  have ne : ∀ j, (⟨g, j, none⟩ : Addr) ≠ ⟨b, o, none⟩ := fun j e => hne (congrArg Addr.block e).symm
  rw [World.cell?_setCell_other _ _ _ _ (ne _), World.cell?_setCell_other _ _ _ _ (ne _), World.cell?_setCell_other _ _ _ _ (ne _), World.cell?_setCell_other _ _ _ _ (ne _)]
  exact h
theorem slP_set4 {F v : Nat} {U : Prop} (hu : U) {w : World} {a : Option Addr} {n : Nat} {zs : List Int} {x y z u : Value} (h : SlP (fun b => F ≤ b ∧ (U → b ≠ v)) w a n zs) : SlP (fun b => F ≤ b ∧ (U → b ≠ v)) ((((w.setCell ⟨v, 0, none⟩ x).setCell ⟨v, 1, none⟩ y).setCell ⟨v, 2, none⟩ z).setCell ⟨v, 3, none⟩ u) a n zs :=
  slP_keep (fun _ _ _ hq hv => cell_set4 hv (hq.2 hu)) h
theorem blP_set4 {F v : Nat} {U : Prop} (hu : U) {w : World} {a : Option Addr} {n : Nat} {bs : List (List (Int × Int))} {x y z u : Value} (h : BlP (fun b => F ≤ b ∧ (U → b ≠ v)) w a n bs) : BlP (fun b => F ≤ b ∧ (U → b ≠ v)) ((((w.setCell ⟨v, 0, none⟩ x).setCell ⟨v, 1, none⟩ y).setCell ⟨v, 2, none⟩ z).setCell ⟨v, 3, none⟩ u) a n bs :=
  blP_keep (fun _ _ _ hq hv => cell_set4 hv (hq.2 hu)) h
/-- Locked's last statement but one: what has come up so far -/
inductive LockInv9 (a a' q : Option Addr) (n c n' c' l d : Nat) (ws ts us : List Int) (D : Int) (bs : List (List (Int × Int))) (j go F : Nat) (x y z lv nv : Int) (a0 : Act) (w0 : World) (listed : Array Bool) (act' : Act) (w' : World) : Prop
  | mk (p58 p59 p60 p61 p62 p63 p64 p65 p66 p67 p68 p69 p70 p57 p71 p72 p19 p18 : Value) (p : Option Addr) (m : Nat) (e1 : Nat) (p' : Option Addr) (m' : Nat) (e2 : Nat) (g : Nat) (l2 : Nat) (p3 : Option Addr) (m3 : Nat) (e3 : Nat) (p4 : Option Addr) (m4 : Nat) (e4 : Nat) (v : Nat) (x0 : Value) (x1 : Value) (x2 : Value) (x3 : Value) (ea : act' = ((((((((((((((((((a0.put (some 58) p58).put (some 59) p59).put (some 60) p60).put (some 61) p61).put (some 62) p62).put (some 63) p63).put (some 64) p64).put (some 65) p65).put (some 66) p66).put (some 67) p67).put (some 68) p68).put (some 69) p69).put (some 70) p70).put (some 57) p57).put (some 71) p71).put (some 72) p72).put (some 19) p19).put (some 18) p18)) (hb : Below w0.heap.size w0 w') (hf0 : Up listed 0 → p58 = .agg #[.slice a n c, .slice a' n' c', .int .i64 D, .slice q l d]) (hC : Up listed 1 → p59 = .agg #[.slice p m e1, .slice p' m' e2, .int .i64 D, .slice (some ⟨g, 0, none⟩) l2 l2] ∧ SlP (fun b => w0.heap.size ≤ b ∧ (Up listed 16 → b ≠ v)) w' p m ws ∧ SlP (fun b => w0.heap.size ≤ b ∧ (Up listed 16 → b ≠ v)) w' p' m' ts ∧ BlP (fun b => w0.heap.size ≤ b ∧ (Up listed 16 → b ≠ v)) w' (some ⟨g, 0, none⟩) l2 bs) (hf2 : Up listed 2 → p60 = .int .i64 x) (hf3 : Up listed 3 → p61 = .int .i64 (j : Int)) (hf4 : Up listed 4 → p62 = .pointer (some ⟨go, j, none⟩)) (hf5 : Up listed 5 → p63 = .pointer (some ⟨go, j, none⟩)) (hf6 : Up listed 6 → p64 = .func (.func F) #[] #[]) (hf7 : Up listed 7 → p65 = .int .i64 lv) (hf8 : Up listed 8 → p66 = .int .i64 y) (hf9 : Up listed 9 → p67 = .int .i64 z) (hf10 : Up listed 10 → p68 = .int .i64 nv) (hf11 : Up listed 11 → p69 = .agg #[.int .i64 x, .int .i64 nv]) (hS : Up listed 12 → Up listed 1 ∧ p70 = .tuple #[.agg #[.slice p3 m3 e3, .slice p4 m4 e4, .int .i64 D, .slice (some ⟨g, 0, none⟩) l2 l2], .int .i64 0] ∧ SlP (fun b => w0.heap.size ≤ b ∧ (Up listed 16 → b ≠ v)) w' p3 m3 us ∧ SlP (fun b => w0.heap.size ≤ b ∧ (Up listed 16 → b ≠ v)) w' p4 m4 ts) (hf13 : Up listed 13 → p57 = .tuple #[.agg #[.slice p3 m3 e3, .slice p4 m4 e4, .int .i64 D, .slice (some ⟨g, 0, none⟩) l2 l2], .int .i64 0]) (hW13 : Up listed 13 → Up listed 12 ∧ Up listed 1) (hf14 : Up listed 14 → p71 = .agg #[.slice p3 m3 e3, .slice p4 m4 e4, .int .i64 D, .slice (some ⟨g, 0, none⟩) l2 l2]) (hW14 : Up listed 14 → Up listed 12 ∧ Up listed 1) (hf15 : Up listed 15 → p72 = .int .i64 0) (hA : Up listed 16 → p19 = .pointer (some ⟨v, 0, none⟩) ∧ w0.heap.size ≤ v ∧ Var4 w' v x0 x1 x2 x3) (hT : Up listed 17 → Up listed 16 ∧ Up listed 12 ∧ x0 = .slice p3 m3 e3 ∧ x1 = .slice p4 m4 e4 ∧ x2 = .int .i64 D ∧ x3 = .slice (some ⟨g, 0, none⟩) l2 l2) (hf18 : Up listed 18 → p18 = .int .i64 0) : LockInv9 a a' q n c n' c' l d ws ts us D bs j go F x y z lv nv a0 w0 listed act' w'
def LockCut9 (W : World) (us ts : List Int) (D : Int) (bs : List (List (Int × Int))) (s18 s19 : Value) (wx : World) : Prop :=
  ∃ v a n c a' n' c' q l d, s19 = .pointer (some ⟨v, 0, none⟩) ∧ s18 = .int .i64 0 ∧ W.heap.size ≤ v ∧ Var4 wx v (.slice a n c) (.slice a' n' c') (.int .i64 D) (.slice q l d) ∧ SlP (fun b => W.heap.size ≤ b) wx a n us ∧ SlP (fun b => W.heap.size ≤ b) wx a' n' ts ∧ BlP (fun b => W.heap.size ≤ b) wx q l bs ∧ Below W.heap.size W wx
end Go.Proofs.YtiebaeaomgpicaaGreat
