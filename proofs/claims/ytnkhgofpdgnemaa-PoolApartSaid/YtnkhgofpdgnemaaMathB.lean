/- Plain facts on what package memory answers: what a store and marks change. -/
import Derived.Test.YtnkhgofpdgnemaaMathA
namespace Go.Proofs.Ytnkhgofpdgnemaa

theorem getD_set (l : List Int) (i j : Nat) (v : Int) (hj : j < l.length) : (l.set i v).getD j 0 = if i = j then v else l.getD j 0 := by
  simp only [List.getD_eq_getElem?_getD, List.getElem?_set]
  by_cases e : i = j
  · subst e; simp [hj]
  · simp [e]
theorem may_set {ws ts : List Int} {i : Nat} {v : Int} (h : mayB ws ts = true) (ht : ts.getD i 0 ≠ 0) : mayB (ws.set i v) ts = true := by
  have hz := mayB_size h
  have hg := mayB_good h
  simp only [mayB, Bool.and_eq_true, sizeB, decide_eq_true_eq, List.length_set]
  refine ⟨hz, goodB_iff.2 fun j hj => ?_⟩
  have := hg j hj
  simp only [okB, decide_eq_true_eq] at this ⊢
  refine ⟨this.1, this.2.1, fun h0 => ?_⟩
  rw [getD_set _ _ _ _ hj]
  by_cases e : i = j
  · subst e; exact absurd h0 ht
  · rw [if_neg e]; exact this.2.2 h0
theorem usable_set {ws ts : List Int} {i k : Int} {v : Int} (h : usableZ ws ts i = 0) : usableZ (ws.set i.toNat v) ts k = usableZ ws ts k := by
  obtain ⟨hm, h0, h1, h2⟩ := usable_zero h
  have hm' : mayB (ws.set i.toNat v) ts = true := may_set hm (by rw [h2]; decide)
  simp only [usableZ, hm, hm', List.length_set]
theorem load_set {ws ts : List Int} {i k : Int} {v : Int} (h : usableZ ws ts i = 0) (hk : k ≠ i) : loadZ (ws.set i.toNat v) ts k = loadZ ws ts k := by
  obtain ⟨hm, h0, h1, h2⟩ := usable_zero h
  simp only [loadZ, usable_set h]
  by_cases e : usableZ ws ts k = 0
  · obtain ⟨_, k0, k1, _⟩ := usable_zero e
    rw [if_pos e, if_pos e, getD_set _ _ _ _ (by omega), if_neg (by omega)]
  · rw [if_neg e, if_neg e]
theorem load_same {ws ts : List Int} {i : Int} {v : Int} (h : usableZ ws ts i = 0) : loadZ (ws.set i.toNat v) ts i = v := by
  obtain ⟨hm, h0, h1, h2⟩ := usable_zero h
  simp only [loadZ, usable_set h]
  rw [if_pos h, getD_set _ _ _ _ (by omega), if_pos rfl]

/-! marks one behind the other -/
theorem may_setR {ws ts : List Int} {i k : Nat} {t : Int} (h : mayB ws ts = true) (ht : t = 1 ∨ t = 2) : mayB ws (setR ts i t k) = true := by
  have hz := mayB_size h
  have hg := mayB_good h
  simp only [mayB, Bool.and_eq_true, sizeB, decide_eq_true_eq, setR_length]
  refine ⟨hz, goodB_iff.2 fun j hj => ?_⟩
  have := hg j hj
  simp only [okB, decide_eq_true_eq] at this ⊢
  rw [setR_get _ _ _ _ _ (by omega)]
  by_cases e : i ≤ j ∧ j < i + k
  · rw [if_pos e]; omega
  · rw [if_neg e]; exact this
theorem scan_setR {f : Int → Int} {ts : List Int} {i k : Nat} {t : Int} (hi : i + k ≤ ts.length) : ∀ j, j < k → f ((setR ts i t k).getD (i + j) 0) = f t := by
  intro j hj
  rw [setR_get _ _ _ _ _ (by omega), if_pos (by omega)]
theorem mark_zero {ws ts : List Int} {i k tag : Int} (h : markE ws ts i k tag = 0) :
    mayB ws ts = true ∧ (tag = 1 ∨ tag = 2) ∧ 1 ≤ k ∧ 0 ≤ i ∧ k ≤ ws.length - i ∧ scanE (refE tag) ts i.toNat k.toNat = 0 := by
  unfold markE at h
  split at h
  · rename_i hm
    split at h
    · rename_i hw
      simp only [withinB, decide_eq_true_eq] at hw
      exact ⟨hm.1, hm.2, hw.1, hw.2.1, hw.2.2, h⟩
    · simp at h
  · simp at h
theorem mark_of {ws ts : List Int} {i k : Nat} {tag : Int} (hm : mayB ws ts = true) (ht : tag = 1 ∨ tag = 2) (hk : 1 ≤ k) (hik : i + k ≤ ws.length) : markE ws ts i k tag = scanE (refE tag) ts i k := by
  have hw : withinB ws.length i k = true := by simp [withinB]; omega
  rw [markE, if_pos ⟨hm, ht⟩, if_pos hw]; simp
/-- what is all of one tag in the range is refused for that tag's reason, or not at all -/
theorem mark_all {ws ts : List Int} {i k : Nat} {tag t : Int} (hm : mayB ws ts = true) (ht : tag = 1 ∨ tag = 2) (h2 : t = 1 ∨ t = 2) (hk : 1 ≤ k) (hik : i + k ≤ ws.length) : markE ws (setR ts i t k) i k tag = refE tag t := by
  have hl : ts.length = ws.length := (mayB_size hm).2.2
  rw [mark_of (may_setR hm h2) ht hk hik]
  have hall := scan_setR (f := refE tag) (ts := ts) (i := i) (k := k) (t := t) (by omega)
  by_cases e : refE tag t = 0
  · rw [e]; exact scanE_zero (fun j hj => by rw [hall j hj, e])
  · exact scanE_first (k := 0) rfl (hall 0 (by omega)) e (by omega)
theorem setR_setR (ts : List Int) (i : Nat) (t t' : Int) (k : Nat) : setR (setR ts i t k) i t' k = setR ts i t' k := by
  apply List.ext_getElem
  · simp [setR_length]
  · intro j h1 h2
    simp only [setR_length] at h1 h2
    have e := setR_get (setR ts i t k) i t' k j (by rw [setR_length]; exact h1)
    have e' := setR_get ts i t' k j h1
    have e'' := setR_get ts i t k j h1
    have x1 : (setR (setR ts i t k) i t' k)[j]'(by simp only [setR_length]; exact h1) = (setR (setR ts i t k) i t' k).getD j 0 := by simp [setR_length, h1]
    have x2 : (setR ts i t' k)[j]'(by simp only [setR_length]; exact h1) = (setR ts i t' k).getD j 0 := by simp [setR_length, h1]
    rw [x1, x2, e, e', e'']
    by_cases c : i ≤ j ∧ j < i + k
    · rw [if_pos c, if_pos c]
    · rw [if_neg c, if_neg c, if_neg c]
theorem usable_in {ws ts : List Int} {i k j : Nat} {t : Int} (hm : mayB ws ts = true) (h2 : t = 1 ∨ t = 2) (hik : i + k ≤ ws.length) (h0 : i ≤ j) (h1 : j < i + k) : usableZ ws (setR ts i t k) j = useE t := by
  have hl : ts.length = ws.length := (mayB_size hm).2.2
  rw [usableZ, if_pos (may_setR hm h2), if_pos ⟨by omega, by omega⟩]
  simp only [Int.toNat_natCast]
  rw [setR_get _ _ _ _ _ (by omega), if_pos ⟨h0, h1⟩]
theorem load_in {ws ts : List Int} {i k j : Nat} (hm : mayB ws ts = true) (hik : i + k ≤ ws.length) (h0 : i ≤ j) (h1 : j < i + k) : loadZ ws (setR ts i 1 k) j = ws.getD j 0 := by
  rw [loadZ, usable_in hm (.inl rfl) hik h0 h1, if_pos (show useE 1 = 0 from rfl)]; simp
theorem load_out {ws ts : List Int} {i k j : Nat} (hm : mayB ws ts = true) (hik : i + k ≤ ws.length) (h0 : i ≤ j) (h1 : j < i + k) : loadZ ws (setR ts i 2 k) j = 0 := by
  rw [loadZ, usable_in hm (.inr rfl) hik h0 h1, if_neg (by decide)]

theorem cnt_set (l : List Int) (j : Nat) (v t : Int) (hj : j < l.length) : cnt (l.set j v) t + (if l.getD j 0 = t then 1 else 0) = cnt l t + (if v = t then 1 else 0) := by
  induction l generalizing j with
  | nil => simp at hj
  | cons a l ih =>
    cases j with
    | zero =>
      simp only [cnt, List.set_cons_zero, List.getD_cons_zero, List.filter_cons, beq_iff_eq]
      by_cases h1 : a = t <;> by_cases h2 : v = t <;> simp [h1, h2]
    | succ j =>
      have := ih j (by simpa using hj)
      simp only [cnt, List.set_cons_succ, List.getD_cons_succ, List.filter_cons, beq_iff_eq] at this ⊢
      by_cases h1 : a = t
      · simp only [h1, ↓reduceIte, List.length_cons]; omega
      · simp only [h1, ↓reduceIte]; omega
theorem cnt_setR {ts : List Int} {i k : Nat} {t t' : Int} (x : Int) (hall : ∀ j, j < k → ts.getD (i + j) 0 = t) (hik : i + k ≤ ts.length) :
    ∀ m, m ≤ k → cnt (setR ts i t' m) x + (if t = x then m else 0) = cnt ts x + (if t' = x then m else 0)
  | 0, _ => by simp [setR]
  | m + 1, hm => by
    have ih := cnt_setR (t' := t') x hall hik m (by omega)
    have h := cnt_set (setR ts i t' m) (i + m) t' x (by rw [setR_length]; omega)
    have e : (setR ts i t' m).getD (i + m) 0 = t := by rw [setR_get _ _ _ _ _ (by omega), if_neg (by omega), hall m (by omega)]
    rw [e] at h
    simp only [setR]
    by_cases h1 : t = x <;> by_cases h2 : t' = x <;> simp only [h1, h2, ↓reduceIte] at ih h ⊢ <;> omega
theorem cnt_free {ts : List Int} {i k : Nat} (x : Int) (hik : i + k ≤ ts.length) : cnt (setR (setR ts i 1 k) i 2 k) x + (if 1 = x then k else 0) = cnt (setR ts i 1 k) x + (if 2 = x then k else 0) :=
  cnt_setR (t := 1) x (fun j hj => by rw [setR_get _ _ _ _ _ (by omega), if_pos (by omega)]) (by rw [setR_length]; exact hik) k (Nat.le_refl _)

/-- where k comes to lie, as the statement reckons it -/
theorem place_in (z : Int) (i k : Nat) (hk : 1 ≤ k) : ∃ j : Nat, (i : Int) + z.tmod k % k = j ∧ i ≤ j ∧ j < i + k := by
  have h1 := Int.emod_nonneg (z.tmod k) (show (k : Int) ≠ 0 by omega)
  have h2 := Int.emod_lt_of_pos (z.tmod k) (show 0 < (k : Int) by omega)
  exact ⟨((i : Int) + z.tmod k % k).toNat, by omega, by omega, by omega⟩
theorem rem_range (k n : Int) (hn : 1 ≤ n) : -n < k.tmod n ∧ k.tmod n < n := by
  have h1 := Int.lt_tmod_of_pos k (show 0 < n by omega)
  have h2 := Int.tmod_lt_of_pos k (show 0 < n by omega)
  exact ⟨by omega, h2⟩
/-- the counts behind a freeing -/
theorem counts_free {ws ts : List Int} {i k : Nat} (hm : mayB ws ts = true) (hik : i + k ≤ ws.length) :
    ∃ a0 a1 a2 : Int, (0 ≤ a0 ∧ a0 ≤ 160) ∧ (0 ≤ a1 ∧ a1 ≤ 160) ∧ (0 ≤ a2 ∧ a2 ≤ 160) ∧ cntZ ws (setR ts i 1 k) 0 = a0 ∧ cntZ ws (setR ts i 1 k) 1 = a1 ∧ cntZ ws (setR ts i 1 k) 2 = a2 ∧
      cntZ ws (setR ts i 2 k) 0 = a0 ∧ cntZ ws (setR ts i 2 k) 1 = a1 - k ∧ cntZ ws (setR ts i 2 k) 2 = a2 + k := by
  have hz := mayB_size hm
  have hl : (setR ts i 1 k).length = ts.length := setR_length _ _ _ _
  have c0 := cnt_free (ts := ts) (i := i) (k := k) 0 (by omega)
  have c1 := cnt_free (ts := ts) (i := i) (k := k) 1 (by omega)
  have c2 := cnt_free (ts := ts) (i := i) (k := k) 2 (by omega)
  rw [setR_setR] at c0 c1 c2
  simp only [show ¬ (1 : Int) = 0 by decide, show ¬ (2 : Int) = 0 by decide, show ¬ (1 : Int) = 2 by decide, show ¬ (2 : Int) = 1 by decide, ↓reduceIte] at c0 c1 c2
  have d0 := cnt_le (setR ts i 1 k) 0
  have d1 := cnt_le (setR ts i 1 k) 1
  have d2 := cnt_le (setR ts i 1 k) 2
  refine ⟨_, _, _, ⟨?_, ?_⟩, ⟨?_, ?_⟩, ⟨?_, ?_⟩, rfl, rfl, rfl, ?_, ?_, ?_⟩ <;> simp only [cntZ, may_setR hm (.inl rfl), may_setR hm (.inr rfl), ↓reduceIte] <;> omega
end Go.Proofs.Ytnkhgofpdgnemaa
