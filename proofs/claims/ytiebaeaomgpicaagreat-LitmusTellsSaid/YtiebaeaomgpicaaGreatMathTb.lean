/- All stages one behind the other: how many there are at most; that none is left out. Nothing of the program is imported. -/
import Derived.Test.YtiebaeaomgpicaaGreatMS
namespace Go.Proofs.YtiebaeaomgpicaaGreat
section
variable {σ : Type}
theorem len_sub : ∀ (l m : List σ), l.Nodup → (∀ x ∈ l, x ∈ m) → l.length ≤ m.length
  | [], _, _, _ => Nat.zero_le _
  | a :: l, m, hn, hs => by
    obtain ⟨m1, m2, rfl⟩ := List.append_of_mem (hs a (by simp))
    have hn' := List.nodup_cons.1 hn
    have h := len_sub l (m1 ++ m2) hn'.2 (fun x hx => by
      have := hs x (List.mem_cons_of_mem _ hx)
      simp only [List.mem_append, List.mem_cons] at this ⊢
      rcases this with h | rfl | h
      · exact .inl h
      · exact absurd hx hn'.1
      · exact .inr h)
    simp only [List.length_append, List.length_cons] at h ⊢
    omega
/-- what is reached in so many steps, each way for itself -/
def unf (nx : σ → List σ) : Nat → σ → List σ
  | 0, s => s :: []
  | f + 1, s => s :: (nx s).flatMap (unf nx f)
theorem unf_self (nx : σ → List σ) (f : Nat) (s : σ) : s ∈ unf nx f s := by cases f <;> simp [unf]
theorem unf_step (nx : σ → List σ) : ∀ (f : Nat) (b s t : σ), s ∈ unf nx f b → t ∈ nx s → t ∈ unf nx (f + 1) b
  | 0, b, s, t, h, ht => by
    simp only [unf, List.mem_singleton] at h
    subst h
    rw [unf]
    exact List.mem_cons_of_mem _ (List.mem_flatMap.2 ⟨t, ht, unf_self nx 0 t⟩)
  | f + 1, b, s, t, h, ht => by
    rw [unf] at h
    rw [unf]
    rcases List.mem_cons.1 h with rfl | h
    · exact List.mem_cons_of_mem _ (List.mem_flatMap.2 ⟨t, ht, unf_self nx _ t⟩)
    · obtain ⟨c, hc, h⟩ := List.mem_flatMap.1 h
      exact List.mem_cons_of_mem _ (List.mem_flatMap.2 ⟨c, hc, unf_step nx f c s t h ht⟩)
theorem unf_more (nx : σ → List σ) : ∀ (f : Nat) (b s : σ), s ∈ unf nx f b → s ∈ unf nx (f + 1) b
  | 0, b, s, h => by
    simp only [unf, List.mem_singleton] at h
    subst h; exact unf_self nx _ _
  | f + 1, b, s, h => by
    rw [unf] at h
    rw [unf]
    rcases List.mem_cons.1 h with rfl | h
    · exact List.mem_cons_self
    · obtain ⟨c, hc, h⟩ := List.mem_flatMap.1 h
      exact List.mem_cons_of_mem _ (List.mem_flatMap.2 ⟨c, hc, unf_more nx f c s h⟩)
theorem unf_le (nx : σ → List σ) {f g : Nat} (h : f ≤ g) {b s : σ} (hs : s ∈ unf nx f b) : s ∈ unf nx g b := by
  induction g with
  | zero => obtain rfl : f = 0 := by omega
            exact hs
  | succ g ih =>
    by_cases e : f = g + 1
    · subst e; exact hs
    · exact unf_more nx g b s (ih (by omega))
theorem flat_le {α β : Type} (f : α → List β) (n : Nat) : ∀ l : List α, (∀ x ∈ l, (f x).length ≤ n) → (l.flatMap f).length ≤ l.length * n
  | [], _ => by simp
  | a :: l, h => by
    rw [List.flatMap_cons, List.length_append, List.length_cons, Nat.succ_mul]
    have h1 := h a (by simp)
    have h2 := flat_le f n l (fun x hx => h x (List.mem_cons_of_mem _ hx))
    omega
theorem unf_len (nx : σ → List σ) (hn : ∀ s, (nx s).length ≤ 6) : ∀ (f : Nat) (s : σ), (unf nx f s).length ≤ 7 ^ f
  | 0, s => by simp [unf]
  | f + 1, s => by
    rw [unf, List.length_cons, Nat.pow_succ]
    have h1 := flat_le (unf nx f) (7 ^ f) (nx s) (fun x _ => unf_len nx hn f x)
    have h2 := Nat.mul_le_mul_right (7 ^ f) (hn s)
    have h3 : 0 < 7 ^ f := Nat.pow_pos (by decide)
    omega
end
section
variable {W D : Int} {ts : List (List Mv)} {s t : St}
theorem steps_few (s : St) (j : Nat) : (stepsJ s j).length ≤ 2 := by
  rw [stepsJ, List.length_append]
  refine Nat.add_le_add (b := 1) (d := 1) (by split <;> simp) ?_
  split
  · simp
  · split <;> simp
theorem next_few (l : Nat) (hl : l ≤ 3) (s : St) : (nextS l s).length ≤ 6 := by
  have h := flat_le (stepsJ s) 2 (List.range l) (fun j _ => steps_few s j)
  rw [List.length_range] at h
  rw [nextS]; omega
theorem sum_two : ∀ (k : Nat) (ts : List (List Mv)), k ≤ ts.length → ((List.range k).map fun j => 2 * (ts.getD j []).length + 0).sum ≤ 2 * total (ts.take k)
  | 0, _, _ => by simp
  | k + 1, ts, h => by
    have ih := sum_two k ts (by omega)
    have e : ts[k]? = some (ts.getD k []) := by simp [show k < ts.length by omega]
    rw [List.range_succ, List.map_append, List.sum_append, total_succ e]
    simp only [List.map_cons, List.map_nil, List.sum_cons, List.sum_nil]
    omega
theorem mu_begin (hm : mayL W D ts = true) : muS ts.length (beginS W D ts) ≤ 12 := by
  have h1 := sum_two ts.length ts (Nat.le_refl _)
  have h2 := (mayL_parts hm).2.2.1
  rw [List.take_of_length_le (Nat.le_refl _)] at h1
  have e : muS ts.length (beginS W D ts) = ((List.range ts.length).map fun j => 2 * (ts.getD j []).length + 0).sum := by
    rw [muS]
    congr 1
    refine List.map_congr_left fun j hj => ?_
    have hj' := List.mem_range.1 hj
    show 2 * (ts.getD j []).length + ((List.replicate ts.length ([] : List (Int × Int))).getD j []).length = _
    rw [List.getD_eq_getElem?_getD (l := List.replicate _ _), List.getElem?_replicate, if_pos hj']; rfl
  rw [e]; omega
theorem reach_unf (hm : mayL W D ts = true) (h : Reach W D ts s) : ∃ f, f + muS ts.length s ≤ muS ts.length (beginS W D ts) ∧ s ∈ unf (nextS ts.length) f (beginS W D ts) := by
  induction h with
  | refl => exact ⟨0, by omega, unf_self _ _ _⟩
  | step h hf ht ih =>
    obtain ⟨f, h1, h2⟩ := ih
    obtain ⟨j, hj, hs⟩ := (mem_next hm (reach_ok hm h) _).1 ht
    have := (stp_ok hm (reach_ok hm h) hj hs).2
    exact ⟨f + 1, by omega, unf_step _ _ _ _ _ h2 ht⟩
/-- how many stages there are at most -/
theorem reach_few (hm : mayL W D ts = true) {l : List St} (hn : l.Nodup) (h : ∀ s ∈ l, Reach W D ts s) : l.length ≤ 13841287201 := by
  have hl3 := (mayL_parts hm).2.1.2
  have h1 := len_sub l (unf (nextS ts.length) 12 (beginS W D ts)) hn (fun s hs => by
    obtain ⟨f, h1, h2⟩ := reach_unf hm (h s hs)
    have := mu_begin hm
    exact unf_le _ (by omega) h2)
  have h2 := unf_len (nextS ts.length) (next_few ts.length hl3) 12 (beginS W D ts)
  have e : (7 : Nat) ^ 12 = 13841287201 := by decide
  omega
/-- what is closed under steps holds all that can be reached -/
theorem reach_all {l : List St} (h0 : beginS W D ts ∈ l) (h : ∀ s ∈ l, ∀ t ∈ nextS ts.length s, t ∈ l) {s : St} (hs : Reach W D ts s) : s ∈ l := by
  induction hs with
  | refl => exact h0
  | step _ _ ht ih => exact h _ ih _ ht
/-- how many moves each thread has made, and what each noted -/
def atS (ts : List (List Mv)) (s : St) : List Int := (List.range ts.length).map fun j => ((ts.getD j []).length : Int) - ((s.l j).length : Int)
def ntS (l : Nat) (s : St) : List (List Int) := (List.range l).map s.n
def sameS (ts : List (List Mv)) (a b : St) : Bool := decide (a.ws = b.ws ∧ a.ts = b.ts ∧ a.D = b.D ∧ a.bs = b.bs ∧ atS ts a = atS ts b ∧ ntS ts.length a = ntS ts.length b)
theorem map_at {α : Type} {f g : Nat → α} {n : Nat} (h : (List.range n).map f = (List.range n).map g) {j : Nat} (hj : j < n) : f j = g j := by
  have h1 := congrArg (fun l => l[j]?) h
  simpa [hj] using h1
theorem same_eq (hm : mayL W D ts = true) (K : Ok W D ts s) (L : Ok W D ts t) : sameS ts s t = true ↔ s = t := by
  constructor
  · intro h
    simp only [sameS, decide_eq_true_eq] at h
    obtain ⟨h1, h2, h3, h4, h5, h6⟩ := h
    have hl : ∀ j, j < ts.length → (s.l j).length = (t.l j).length := fun j hj => by have := map_at h5 hj; omega
    have hn : s.n = t.n := by
      funext j
      by_cases hj : j < ts.length
      · exact map_at h6 hj
      · rw [(K.rest j (by omega)).2, (L.rest j (by omega)).2]
    have hT : ∀ k, k ≤ ts.length → nameT s k = nameT t k := by
      intro k
      induction k with
      | zero => intro _; rfl
      | succ k ih => intro hk; rw [nameT, nameT, ih (by omega), hl k (by omega), h4]
    refine name_inj hm K L ?_
    rw [nameN, nameN, hT _ (Nat.le_refl _), outS, outS, hn, h1]
  · rintro rfl; simp [sameS]
/-- an ended stage has no steps -/
theorem ended_next (hm : mayL W D ts = true) (K : Ok W D ts s) (h : endedB s ts.length = true) : nextS ts.length s = [] := by
  apply List.eq_nil_iff_forall_not_mem.2
  intro t ht
  obtain ⟨j, hj, hs⟩ := (mem_next hm K t).1 ht
  have h1 := List.all_eq_true.1 h j (List.mem_range.2 hj)
  simp only [doneB, Bool.and_eq_true, decide_eq_true_eq] at h1
  have hl := List.eq_nil_of_length_eq_zero h1.1
  have hb := List.eq_nil_of_length_eq_zero h1.2
  cases hs with
  | flush h => rw [hb] at h; cases h
  | put0 h => rw [hl] at h; cases h
  | put h => rw [hl] at h; cases h
  | load h => rw [hl] at h; cases h
  | fence h => rw [hl] at h; cases h
  | xchg h => rw [hl] at h; cases h
end
end Go.Proofs.YtiebaeaomgpicaaGreat
