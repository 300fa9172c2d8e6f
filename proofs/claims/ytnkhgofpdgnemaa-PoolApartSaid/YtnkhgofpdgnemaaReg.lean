/- A law for regions that draw their order: one relation on what has come up so far, shown once for each operation. -/
import Derived.Deep.RegionHeld3
import Derived.Deep.DrawnRows
namespace Go.Proofs.Ytnkhgofpdgnemaa
/-- the region of that number, out of a function's code -/
def findRegion (n : Nat) : Code → Option Code
  | .region id ops b => if id = n then some (.region id ops b) else none
  | .seq a b => match findRegion n a with
    | some c => some c
    | none => findRegion n b
  | .cond _ a b => match findRegion n a with
    | some c => some c
    | none => findRegion n b
  | .block _ c => findRegion n c
  | .loop c => findRegion n c
  | .scope c => findRegion n c
  | _ => none

section
variable {P : Program} {ops : Array Oper} {Q : Exit → Act → World → Prop} {md : Region.Mode}

/-- has number i come up? -/
def Up (listed : Array Bool) (i : Nat) : Prop := listed.getD i true = true
theorem up_set {listed : Array Bool} {i j : Nat} : Up (listed.setIfInBounds i true) j ↔ j = i ∨ Up listed j := by
  unfold Up
  simp only [Array.getD_eq_getD_getElem?, Array.getElem?_setIfInBounds]
  by_cases h : i = j
  · subst h
    by_cases hl : i < listed.size
    · simp [hl]
    · simp [hl]
  · rw [if_neg h]
    simp [Ne.symm h]
theorem up_self {listed : Array Bool} {i : Nat} : Up (listed.setIfInBounds i true) i := up_set.2 (.inl rfl)
theorem up_old {listed : Array Bool} {i j : Nat} (h : Up listed j) : Up (listed.setIfInBounds i true) j := up_set.2 (.inr h)
theorem up_back {listed : Array Bool} {i j : Nat} (h : Up (listed.setIfInBounds i true) j) (hne : j ≠ i) : Up listed j := (up_set.1 h).resolve_left hne
/-- what was known of another number is known still -/
theorem upk {p : Prop} {listed : Array Bool} {i j : Nat} (h : Up listed j → p) (hne : (j == i) = false) (hu : Up (listed.setIfInBounds i true) j) : p := h (up_back hu (by simpa using hne))
theorem cj {a b : Prop} (x : a) (y : b) : a ∧ b := ⟨x, y⟩
/-- those that it waits for -/
def Waits (md : Region.Mode) (o : Oper) : List Nat := (o.after.toList.filter (Region.binds md)).map (·.on)

def Steps (P : Program) (md : Region.Mode) (ops : Array Oper) (Q : Exit → Act → World → Prop) (Inv : Array Bool → Act → World → Prop) (rs : List Nat) : Prop :=
  ∀ i ∈ rs, ∀ listed a w, Inv listed a w → i ∈ Region.ready md ops listed → wpOp P ops Q i (fun a' w' => Inv (listed.setIfInBounds i true) a' w') a w
theorem Steps.nil {Inv : Array Bool → Act → World → Prop} : Steps P md ops Q Inv [] := fun _ h => by cases h
theorem Steps.cons {Inv : Array Bool → Act → World → Prop} {i : Nat} {o : Oper} {rs ws : List Nat} (ho : ops[i]? = some o) (hw : Waits md o = ws)
    (h : ∀ listed a w, Inv listed a w → ¬ Up listed i → (∀ j ∈ ws, Up listed j) → ∀ K' : Act → World → Prop, Shut (∀ a' w', Inv (listed.setIfInBounds i true) a' w' → K' a' w') → if Region.wanted o (yielded ops a.tmps) = true then Oper.wp P o a w K' Q else K' (a.put o.dst undef) w)
    (hs : Steps P md ops Q Inv rs) : Steps P md ops Q Inv (i :: rs) := fun j hj listed a w hi hr => by
  rcases List.mem_cons.1 hj with rfl | hj
  · refine wpOp_step ho (fun K' hK => h listed a w hi ?_ ?_ K' hK)
    · have := (mem_ready.1 hr).1
      unfold Up; rw [this]; decide
    · obtain ⟨_, o', ho', hall⟩ := mem_ready.1 hr
      rw [ho] at ho'
      obtain rfl : o = o' := by injection ho'
      intro k hk
      rw [← hw] at hk
      obtain ⟨e, he, rfl⟩ := List.mem_map.1 hk
      obtain ⟨he1, he2⟩ := List.mem_filter.1 he
      have := hall e (by simpa using he1) he2
      unfold Up
      rw [Array.getD_eq_getD_getElem?] at this ⊢
      cases hx : listed[e.on]? with
      | none => rfl
      | some b => rw [hx] at this; simpa using this
  · exact hs j hj listed a w hi hr

/-- each waits for such alone as stand ahead of it -/
def backB (md : Region.Mode) (ops : Array Oper) : Bool := (List.range ops.size).all fun i => match ops[i]? with | some o => (Waits md o).all (fun j => decide (j < i)) | none => true
theorem all_up {listed : Array Bool} (hsz : listed.size = ops.size) (hb : backB md ops = true) (hr : Region.ready md ops listed = []) : ∀ i, Up listed i := by
  intro i
  induction i using Nat.strongRecOn with
  | _ i ih =>
    by_cases hi : i < ops.size
    · cases hu : listed.getD i true with
      | true => exact hu
      | false =>
        exfalso
        obtain ⟨o, ho⟩ : ∃ o, ops[i]? = some o := ⟨ops[i], by simp [hi]⟩
        have hx := List.all_eq_true.1 hb i (List.mem_range.2 hi)
        rw [ho] at hx
        have hmem : i ∈ Region.ready md ops listed := mem_ready.2 ⟨hu, o, ho, fun e he hbd => by
          have hlt : e.on < i := by
            have := List.all_eq_true.1 hx e.on (List.mem_map.2 ⟨e, List.mem_filter.2 ⟨by simpa using he, hbd⟩, rfl⟩)
            simpa using this
          have h2 := ih e.on hlt
          unfold Up at h2
          have hlt2 : e.on < listed.size := by omega
          rw [Array.getD_eq_getD_getElem?] at h2 ⊢
          simpa [hlt2] using h2⟩
        rw [hr] at hmem
        cases hmem
    · have : listed[i]? = none := by rw [Array.getElem?_eq_none_iff]; omega
      unfold Up
      rw [Array.getD_eq_getD_getElem?, this]; rfl

theorem count_set {l : List Bool} {i : Nat} (h : l[i]? = some false) : (l.set i true).count false + 1 = l.count false := by
  induction l generalizing i with
  | nil => simp at h
  | cons b l ih =>
    cases i with
    | zero => simp at h; subst h; simp
    | succ i =>
      have := ih (i := i) (by simpa using h)
      simp only [List.set_cons_succ, List.count_cons]
      omega

theorem wpAny_inv {Inv : Array Bool → Act → World → Prop} (hb : backB md ops = true) (hs : Steps P md ops Q Inv (List.range ops.size))
    (hend : ∀ listed a w, Inv listed a w → (∀ i, Up listed i) → Q .normal a w) :
    ∀ (fuel : Nat) (listed : Array Bool) (a : Act) (w : World), listed.size = ops.size → listed.toList.count false ≤ fuel → Inv listed a w → wpAny P md ops Q fuel listed a w := by
  intro fuel
  induction fuel with
  | zero =>
    intro listed a w hsz hc hi
    have hr : Region.ready md ops listed = [] := by
      apply List.eq_nil_iff_forall_not_mem.2
      intro i hi
      have h1 := (mem_ready.1 hi).1
      have h2 : false ∈ listed.toList := by
        by_cases hl : i < listed.size
        · have : listed[i] = false := by simpa [hl] using h1
          rw [← this]
          simp
        · simp [hl] at h1
      have h3 := List.count_pos_iff.2 h2
      omega
    exact ⟨hr, hend listed a w hi (all_up hsz hb hr)⟩
  | succ fuel ih =>
    intro listed a w hsz hc hi
    refine ⟨fun hr => hend listed a w hi (all_up hsz hb hr), fun i hr => ?_⟩
    obtain ⟨h1, o, ho, _⟩ := mem_ready.1 hr
    have hlt : i < ops.size := by
      by_cases h : i < ops.size
      · exact h
      · have : ops[i]? = none := by rw [Array.getElem?_eq_none_iff]; omega
        rw [this] at ho; cases ho
    refine wpOp_mono (fun a' w' h' => ih _ a' w' (by simpa using hsz) ?_ h') (hs i (List.mem_range.2 hlt) listed a w hi hr)
    have hl : i < listed.size := by omega
    have h2 : listed.toList[i]? = some false := by
      have : listed[i] = false := by simpa [hl] using h1
      simp [hl, this]
    have := count_set h2
    simp only [Array.toList_setIfInBounds]
    omega

/-- the steps of a list of operations, from number k on -/
def StepsL (P : Program) (md : Region.Mode) (ops : Array Oper) (Q : Exit → Act → World → Prop) (Inv : Array Bool → Act → World → Prop) (k : Nat) (l : List Oper) : Prop :=
  ∀ j o, l[j]? = some o → ops[k + j]? = some o → ∀ listed a w, Inv listed a w → k + j ∈ Region.ready md ops listed → wpOp P ops Q (k + j) (fun a' w' => Inv (listed.setIfInBounds (k + j) true) a' w') a w
theorem StepsL.nil {Inv : Array Bool → Act → World → Prop} {k : Nat} : StepsL P md ops Q Inv k [] := fun _ _ h => by simp at h
theorem StepsL.cons {Inv : Array Bool → Act → World → Prop} {k : Nat} {o : Oper} {l : List Oper} {ws : List Nat} (hw : Waits md o = ws)
    (h : ∀ listed a w, Inv listed a w → ¬ Up listed k → (∀ j ∈ ws, Up listed j) → ∀ K' : Act → World → Prop, Shut (∀ a' w', Inv (listed.setIfInBounds k true) a' w' → K' a' w') → if Region.wanted o (yielded ops a.tmps) = true then Oper.wp P o a w K' Q else K' (a.put o.dst undef) w)
    (hs : StepsL P md ops Q Inv (k + 1) l) : StepsL P md ops Q Inv k (o :: l) := fun j o' hj ho listed a w hi hr => by
  cases j with
  | zero =>
    obtain rfl : o = o' := by simpa using hj
    exact Steps.cons (rs := []) ho hw h Steps.nil _ (List.mem_singleton.2 rfl) listed a w hi hr
  | succ j =>
    have e : k + (j + 1) = k + 1 + j := by omega
    rw [e] at ho hr ⊢
    exact hs j o' (by simpa using hj) ho listed a w hi hr
theorem StepsL.all {Inv : Array Bool → Act → World → Prop} {l : List Oper} (h : StepsL P md l.toArray Q Inv 0 l) : Steps P md l.toArray Q Inv (List.range l.toArray.size) := fun i hi listed a w hI hr => by
  have hlt : i < l.length := by simpa using hi
  have := h i l[i] (by simp [hlt]) (by simp [hlt]) listed a w hI (by simpa using hr)
  simpa using this

/-- THE LAW: a relation of what has come up so far, the frame and the world, that each operation keeps. -/
theorem wp_region_inv {id : Nat} {l : List Oper} {a : Act} {w : World} (Inv : Act → World → Array Bool → Act → World → Prop) (hm : P.follows .mixedOrders = true) (hb : backB .any l.toArray = true)
    (h0 : ∀ listed, (∀ i, i < l.length → ¬ Up listed i) → Inv a w listed a w.drew) (hs : StepsL P .any l.toArray Q (Inv a w) 0 l)
    (hend : ∀ listed a' w', Inv a w listed a' w' → (∀ i, Up listed i) → Q .normal a' w') : (Code.region id l.toArray true).wp P Q a w := by
  refine wp_region_any hm (wpAny_inv (Inv := Inv a w) hb hs.all hend l.toArray.size _ a _ (by simp) (by simp) (h0 _ ?_))
  intro i hi hu
  unfold Up at hu
  simp [hi] at hu
end
end Go.Proofs.Ytnkhgofpdgnemaa
