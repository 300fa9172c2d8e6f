/- MathA, MathB, MathC, MathP, MathT, MathS, MathO, put together. -/
import Derived.WalkKit
/- Plain functions on lists that say what package memory answers; nothing of the program is imported. -/
namespace Go.Proofs.YtiebaeaomgpicaaGreat

def okB (ws ts : List Int) (k : Nat) : Bool := decide (0 ≤ ts.getD k 0 ∧ ts.getD k 0 ≤ 2 ∧ (ts.getD k 0 = 0 → ws.getD k 0 = 0))
def goodTo (ws ts : List Int) (k : Nat) : Prop := ∀ i, i < k → okB ws ts i = true
def goodB (ws ts : List Int) (n : Nat) : Bool := (List.range n).all (okB ws ts)
theorem goodB_iff {ws ts : List Int} {n : Nat} : goodB ws ts n = true ↔ goodTo ws ts n := by
  simp [goodB, goodTo]
theorem good_step {ws ts : List Int} {k : Nat} (h : goodTo ws ts k) (h1 : okB ws ts k = true) : goodTo ws ts (k + 1) := by
  intro i hi
  by_cases e : i = k
  · subst e; exact h1
  · exact h i (by omega)
theorem good_not {ws ts : List Int} {k n : Nat} (hk : k < n) (h1 : okB ws ts k = false) : goodB ws ts n = false := by
  cases h : goodB ws ts n with
  | false => rfl
  | true => have := goodB_iff.1 h k hk; simp [h1] at this

def sizeB (n n' : Nat) : Bool := decide (1 ≤ n ∧ n ≤ 160 ∧ n' = n)
def mayB (ws ts : List Int) : Bool := sizeB ws.length ts.length && goodB ws ts ws.length
theorem mayB_size {ws ts : List Int} (h : mayB ws ts = true) : 1 ≤ ws.length ∧ ws.length ≤ 160 ∧ ts.length = ws.length := by
  simp only [mayB, sizeB, Bool.and_eq_true, decide_eq_true_eq] at h; exact h.1
theorem mayB_good {ws ts : List Int} (h : mayB ws ts = true) : goodTo ws ts ws.length := by
  simp only [mayB, Bool.and_eq_true] at h; exact goodB_iff.1 h.2
theorem mayB_tag {ws ts : List Int} (h : mayB ws ts = true) (i : Nat) (hi : i < ws.length) : 0 ≤ ts.getD i 0 ∧ ts.getD i 0 ≤ 2 := by
  have := mayB_good h i hi
  simp only [okB, decide_eq_true_eq] at this
  exact ⟨this.1, this.2.1⟩

def cnt (ts : List Int) (t : Int) : Nat := (ts.filter (· == t)).length
theorem cnt_nil (t : Int) : cnt [] t = 0 := rfl
theorem cnt_take {ts : List Int} {k : Nat} (t : Int) (hk : k < ts.length) : cnt (ts.take (k + 1)) t = cnt (ts.take k) t + if ts.getD k 0 = t then 1 else 0 := by
  have e : ts.take (k + 1) = ts.take k ++ [ts.getD k 0] := by
    rw [List.take_succ_eq_append_getElem hk]; simp [hk]
  rw [e]
  simp only [cnt, List.filter_append, List.length_append]
  by_cases h : ts.getD k 0 = t
  · rw [if_pos h, List.filter_cons, if_pos (by simpa using h)]; simp
  · rw [if_neg h, List.filter_cons, if_neg (by simpa using h)]; simp
theorem cnt_le (ts : List Int) (t : Int) : cnt ts t ≤ ts.length := List.length_filter_le _ _

def cntZ (ws ts : List Int) (t : Int) : Int := if mayB ws ts = true then (cnt ts t : Int) else 0
/-- why a word of that tag can't be used -/
def useE (t : Int) : Int := if t = 0 then 4 else if t = 1 then 0 else 5
/-- why a word of that tag can't be had -/
def takeE (t : Int) : Int := if t = 1 then 6 else 0

def inB (n : Nat) (i : Int) : Bool := decide (0 ≤ i ∧ i < n)
def usableZ (ws ts : List Int) (i : Int) : Int := if mayB ws ts = true then (if 0 ≤ i ∧ i < ws.length then useE (ts.getD i.toNat 0) else 3) else 1
def loadZ (ws ts : List Int) (i : Int) : Int := if usableZ ws ts i = 0 then ws.getD i.toNat 0 else 0
def storeW (ws ts : List Int) (i v : Int) : List Int := if usableZ ws ts i = 0 then ws.set i.toNat v else []
def storeT (ws ts : List Int) (i : Int) : List Int := if usableZ ws ts i = 0 then ts else []

theorem usable_zero {ws ts : List Int} {i : Int} (h : usableZ ws ts i = 0) : mayB ws ts = true ∧ 0 ≤ i ∧ i < ws.length ∧ ts.getD i.toNat 0 = 1 := by
  unfold usableZ at h
  split at h
  · rename_i hm
    split at h
    · rename_i hi
      refine ⟨hm, hi.1, hi.2, ?_⟩
      unfold useE at h
      split at h
      · simp at h
      · split at h
        · assumption
        · simp at h
    · simp at h
  · simp at h
theorem usable_of {ws ts : List Int} {i : Int} (hm : mayB ws ts = true) (h0 : 0 ≤ i) (h1 : i < ws.length) (ht : ts.getD i.toNat 0 = 1) : usableZ ws ts i = 0 := by
  unfold usableZ
  rw [if_pos hm, if_pos ⟨h0, h1⟩, ht]; rfl
theorem usable_range {ws ts : List Int} {i : Int} : 0 ≤ usableZ ws ts i ∧ usableZ ws ts i ≤ 5 := by
  unfold usableZ useE; split
  · split
    · split
      · omega
      · split <;> omega
    · omega
  · omega

/-- the tags behind a mark of k words from i on -/
def setR (ts : List Int) (i : Nat) (t : Int) : Nat → List Int
  | 0 => ts
  | k + 1 => (setR ts i t k).set (i + k) t
theorem setR_length (ts : List Int) (i : Nat) (t : Int) (k : Nat) : (setR ts i t k).length = ts.length := by
  induction k with
  | zero => rfl
  | succ k ih => simp [setR, ih]
theorem setR_get (ts : List Int) (i : Nat) (t : Int) (k j : Nat) (hj : j < ts.length) : (setR ts i t k).getD j 0 = if i ≤ j ∧ j < i + k then t else ts.getD j 0 := by
  induction k with
  | zero => rw [if_neg (by omega)]; rfl
  | succ k ih =>
    have hl := setR_length ts i t k
    simp only [setR, List.getD_eq_getElem?_getD, List.getElem?_set] at ih ⊢
    by_cases e : i + k = j
    · rw [if_pos e, if_pos (by omega), if_pos (by omega)]; simp
    · rw [if_neg e, ih]
      by_cases e2 : i ≤ j ∧ j < i + k
      · rw [if_pos e2, if_pos (by omega)]
      · rw [if_neg e2, if_neg (by omega)]
/-- the first refusal among k words from i on -/
def scanE (f : Int → Int) (ts : List Int) (i : Nat) : Nat → Int
  | 0 => 0
  | k + 1 => if scanE f ts i k = 0 then f (ts.getD (i + k) 0) else scanE f ts i k
theorem scanE_zero {f : Int → Int} {ts : List Int} {i : Nat} : ∀ {k : Nat}, (∀ j, j < k → f (ts.getD (i + j) 0) = 0) → scanE f ts i k = 0
  | 0, _ => rfl
  | k + 1, h => by
    simp only [scanE]
    rw [if_pos (scanE_zero (fun j hj => h j (by omega)))]
    exact h k (by omega)
theorem scanE_all {f : Int → Int} {ts : List Int} {i : Nat} : ∀ {k : Nat}, scanE f ts i k = 0 → ∀ j, j < k → f (ts.getD (i + j) 0) = 0
  | 0, _, _, hj => by omega
  | k + 1, h, j, hj => by
    simp only [scanE] at h
    by_cases e : scanE f ts i k = 0
    · rw [if_pos e] at h
      by_cases ej : j = k
      · subst ej; exact h
      · exact scanE_all e j (by omega)
    · rw [if_neg e] at h; exact absurd h e
theorem scanE_first {f : Int → Int} {ts : List Int} {i : Nat} {k : Nat} {x : Int} (h : scanE f ts i k = 0) (hx : f (ts.getD (i + k) 0) = x) (hn : x ≠ 0) : ∀ {n : Nat}, k < n → scanE f ts i n = x
  | 0, hk => by omega
  | n + 1, hk => by
    simp only [scanE]
    by_cases e : n = k
    · subst e; rw [if_pos h, hx]
    · rw [scanE_first h hx hn (n := n) (by omega), if_neg hn]

def newE (n : Int) : Int := if 1 ≤ n ∧ n ≤ 160 then 0 else 2
def newL (n : Int) : List Int := if 1 ≤ n ∧ n ≤ 160 then List.replicate n.toNat 0 else []
def withinB (n : Nat) (i k : Int) : Bool := decide (1 ≤ k ∧ 0 ≤ i ∧ k ≤ n - i)
def refE (tag : Int) : Int → Int := if tag = 1 then takeE else useE
def markE (ws ts : List Int) (i k tag : Int) : Int :=
  if mayB ws ts = true ∧ (tag = 1 ∨ tag = 2) then (if withinB ws.length i k = true then scanE (refE tag) ts i.toNat k.toNat else 3) else 1
def markW (ws ts : List Int) (i k tag : Int) : List Int := if markE ws ts i k tag = 0 then ws else []
def markT (ws ts : List Int) (i k tag : Int) : List Int := if markE ws ts i k tag = 0 then setR ts i.toNat tag k.toNat else []

end Go.Proofs.YtiebaeaomgpicaaGreat
/- Plain facts on what package memory answers: what a store and marks change. -/
namespace Go.Proofs.YtiebaeaomgpicaaGreat

theorem getD_set (l : List Int) (i j : Nat) (v : Int) (hj : j < l.length) : (l.set i v).getD j 0 = if i = j then v else l.getD j 0 := by
  simp only [List.getD_eq_getElem?_getD, List.getElem?_set]
  by_cases e : i = j
  · subst e; simp [hj]
  · simp [e]
theorem may_set {ws ts : List Int} {i : Nat} {v : Int} (h : mayB ws ts = true) (ht : ts.getD i 0 ≠ 0) : mayB (ws.set i v) ts = true := by
  have hz := mayB_size h
  have hg := mayB_good h
  simp only [mayB, Bool.and_eq_true, sizeB, decide_eq_true_eq, List.length_set]
  refine ⟨hz, goodB_iff.2 fun j hj => ?_⟩
  have := hg j hj
  simp only [okB, decide_eq_true_eq] at this ⊢
  refine ⟨this.1, this.2.1, fun h0 => ?_⟩
  rw [getD_set _ _ _ _ hj]
  by_cases e : i = j
  · subst e; exact absurd h0 ht
  · rw [if_neg e]; exact this.2.2 h0
theorem usable_set {ws ts : List Int} {i k : Int} {v : Int} (h : usableZ ws ts i = 0) : usableZ (ws.set i.toNat v) ts k = usableZ ws ts k := by
  obtain ⟨hm, h0, h1, h2⟩ := usable_zero h
  have hm' : mayB (ws.set i.toNat v) ts = true := may_set hm (by rw [h2]; decide)
  simp only [usableZ, hm, hm', List.length_set]
theorem load_set {ws ts : List Int} {i k : Int} {v : Int} (h : usableZ ws ts i = 0) (hk : k ≠ i) : loadZ (ws.set i.toNat v) ts k = loadZ ws ts k := by
  obtain ⟨hm, h0, h1, h2⟩ := usable_zero h
  simp only [loadZ, usable_set h]
  by_cases e : usableZ ws ts k = 0
  · obtain ⟨_, k0, k1, _⟩ := usable_zero e
    rw [if_pos e, if_pos e, getD_set _ _ _ _ (by omega), if_neg (by omega)]
  · rw [if_neg e, if_neg e]
theorem load_same {ws ts : List Int} {i : Int} {v : Int} (h : usableZ ws ts i = 0) : loadZ (ws.set i.toNat v) ts i = v := by
  obtain ⟨hm, h0, h1, h2⟩ := usable_zero h
  simp only [loadZ, usable_set h]
  rw [if_pos h, getD_set _ _ _ _ (by omega), if_pos rfl]

/-! marks one behind the other -/
theorem may_setR {ws ts : List Int} {i k : Nat} {t : Int} (h : mayB ws ts = true) (ht : t = 1 ∨ t = 2) : mayB ws (setR ts i t k) = true := by
  have hz := mayB_size h
  have hg := mayB_good h
  simp only [mayB, Bool.and_eq_true, sizeB, decide_eq_true_eq, setR_length]
  refine ⟨hz, goodB_iff.2 fun j hj => ?_⟩
  have := hg j hj
  simp only [okB, decide_eq_true_eq] at this ⊢
  rw [setR_get _ _ _ _ _ (by omega)]
  by_cases e : i ≤ j ∧ j < i + k
  · rw [if_pos e]; omega
  · rw [if_neg e]; exact this
theorem scan_setR {f : Int → Int} {ts : List Int} {i k : Nat} {t : Int} (hi : i + k ≤ ts.length) : ∀ j, j < k → f ((setR ts i t k).getD (i + j) 0) = f t := by
  intro j hj
  rw [setR_get _ _ _ _ _ (by omega), if_pos (by omega)]
theorem mark_zero {ws ts : List Int} {i k tag : Int} (h : markE ws ts i k tag = 0) :
    mayB ws ts = true ∧ (tag = 1 ∨ tag = 2) ∧ 1 ≤ k ∧ 0 ≤ i ∧ k ≤ ws.length - i ∧ scanE (refE tag) ts i.toNat k.toNat = 0 := by
  unfold markE at h
  split at h
  · rename_i hm
    split at h
    · rename_i hw
      simp only [withinB, decide_eq_true_eq] at hw
      exact ⟨hm.1, hm.2, hw.1, hw.2.1, hw.2.2, h⟩
    · simp at h
  · simp at h
theorem mark_of {ws ts : List Int} {i k : Nat} {tag : Int} (hm : mayB ws ts = true) (ht : tag = 1 ∨ tag = 2) (hk : 1 ≤ k) (hik : i + k ≤ ws.length) : markE ws ts i k tag = scanE (refE tag) ts i k := by
  have hw : withinB ws.length i k = true := by simp [withinB]; omega
  rw [markE, if_pos ⟨hm, ht⟩, if_pos hw]; simp
/-- what is all of one tag in the range is refused for that tag's reason, or not at all -/
theorem mark_all {ws ts : List Int} {i k : Nat} {tag t : Int} (hm : mayB ws ts = true) (ht : tag = 1 ∨ tag = 2) (h2 : t = 1 ∨ t = 2) (hk : 1 ≤ k) (hik : i + k ≤ ws.length) : markE ws (setR ts i t k) i k tag = refE tag t := by
  have hl : ts.length = ws.length := (mayB_size hm).2.2
  rw [mark_of (may_setR hm h2) ht hk hik]
  have hall := scan_setR (f := refE tag) (ts := ts) (i := i) (k := k) (t := t) (by omega)
  by_cases e : refE tag t = 0
  · rw [e]; exact scanE_zero (fun j hj => by rw [hall j hj, e])
  · exact scanE_first (k := 0) rfl (hall 0 (by omega)) e (by omega)
theorem setR_setR (ts : List Int) (i : Nat) (t t' : Int) (k : Nat) : setR (setR ts i t k) i t' k = setR ts i t' k := by
  apply List.ext_getElem
  · simp [setR_length]
  · intro j h1 h2
    simp only [setR_length] at h1 h2
    have e := setR_get (setR ts i t k) i t' k j (by rw [setR_length]; exact h1)
    have e' := setR_get ts i t' k j h1
    have e'' := setR_get ts i t k j h1
    have x1 : (setR (setR ts i t k) i t' k)[j]'(by simp only [setR_length]; exact h1) = (setR (setR ts i t k) i t' k).getD j 0 := by simp [setR_length, h1]
    have x2 : (setR ts i t' k)[j]'(by simp only [setR_length]; exact h1) = (setR ts i t' k).getD j 0 := by simp [setR_length, h1]
    rw [x1, x2, e, e', e'']
    by_cases c : i ≤ j ∧ j < i + k
    · rw [if_pos c, if_pos c]
    · rw [if_neg c, if_neg c, if_neg c]
theorem usable_in {ws ts : List Int} {i k j : Nat} {t : Int} (hm : mayB ws ts = true) (h2 : t = 1 ∨ t = 2) (hik : i + k ≤ ws.length) (h0 : i ≤ j) (h1 : j < i + k) : usableZ ws (setR ts i t k) j = useE t := by
  have hl : ts.length = ws.length := (mayB_size hm).2.2
  rw [usableZ, if_pos (may_setR hm h2), if_pos ⟨by omega, by omega⟩]
  simp only [Int.toNat_natCast]
  rw [setR_get _ _ _ _ _ (by omega), if_pos ⟨h0, h1⟩]
theorem load_in {ws ts : List Int} {i k j : Nat} (hm : mayB ws ts = true) (hik : i + k ≤ ws.length) (h0 : i ≤ j) (h1 : j < i + k) : loadZ ws (setR ts i 1 k) j = ws.getD j 0 := by
  rw [loadZ, usable_in hm (.inl rfl) hik h0 h1, if_pos (show useE 1 = 0 from rfl)]; simp
theorem load_out {ws ts : List Int} {i k j : Nat} (hm : mayB ws ts = true) (hik : i + k ≤ ws.length) (h0 : i ≤ j) (h1 : j < i + k) : loadZ ws (setR ts i 2 k) j = 0 := by
  rw [loadZ, usable_in hm (.inr rfl) hik h0 h1, if_neg (by decide)]

theorem cnt_set (l : List Int) (j : Nat) (v t : Int) (hj : j < l.length) : cnt (l.set j v) t + (if l.getD j 0 = t then 1 else 0) = cnt l t + (if v = t then 1 else 0) := by
  induction l generalizing j with
  | nil => simp at hj
  | cons a l ih =>
    cases j with
    | zero =>
      simp only [cnt, List.set_cons_zero, List.getD_cons_zero, List.filter_cons, beq_iff_eq]
      by_cases h1 : a = t <;> by_cases h2 : v = t <;> simp [h1, h2]
    | succ j =>
      have := ih j (by simpa using hj)
      simp only [cnt, List.set_cons_succ, List.getD_cons_succ, List.filter_cons, beq_iff_eq] at this ⊢
      by_cases h1 : a = t
      · simp only [h1, ↓reduceIte, List.length_cons]; omega
      · simp only [h1, ↓reduceIte]; omega
theorem cnt_setR {ts : List Int} {i k : Nat} {t t' : Int} (x : Int) (hall : ∀ j, j < k → ts.getD (i + j) 0 = t) (hik : i + k ≤ ts.length) :
    ∀ m, m ≤ k → cnt (setR ts i t' m) x + (if t = x then m else 0) = cnt ts x + (if t' = x then m else 0)
  | 0, _ => by simp [setR]
  | m + 1, hm => by
    have ih := cnt_setR (t' := t') x hall hik m (by omega)
    have h := cnt_set (setR ts i t' m) (i + m) t' x (by rw [setR_length]; omega)
    have e : (setR ts i t' m).getD (i + m) 0 = t := by rw [setR_get _ _ _ _ _ (by omega), if_neg (by omega), hall m (by omega)]
    rw [e] at h
    simp only [setR]
    by_cases h1 : t = x <;> by_cases h2 : t' = x <;> simp only [h1, h2, ↓reduceIte] at ih h ⊢ <;> omega
theorem cnt_free {ts : List Int} {i k : Nat} (x : Int) (hik : i + k ≤ ts.length) : cnt (setR (setR ts i 1 k) i 2 k) x + (if 1 = x then k else 0) = cnt (setR ts i 1 k) x + (if 2 = x then k else 0) :=
  cnt_setR (t := 1) x (fun j hj => by rw [setR_get _ _ _ _ _ (by omega), if_pos (by omega)]) (by rw [setR_length]; exact hik) k (Nat.le_refl _)

/-- where k comes to lie, as the statement reckons it -/
theorem place_in (z : Int) (i k : Nat) (hk : 1 ≤ k) : ∃ j : Nat, (i : Int) + z.tmod k % k = j ∧ i ≤ j ∧ j < i + k := by
  have h1 := Int.emod_nonneg (z.tmod k) (show (k : Int) ≠ 0 by omega)
  have h2 := Int.emod_lt_of_pos (z.tmod k) (show 0 < (k : Int) by omega)
  exact ⟨((i : Int) + z.tmod k % k).toNat, by omega, by omega, by omega⟩
theorem rem_range (k n : Int) (hn : 1 ≤ n) : -n < k.tmod n ∧ k.tmod n < n := by
  have h1 := Int.lt_tmod_of_pos k (show 0 < n by omega)
  have h2 := Int.tmod_lt_of_pos k (show 0 < n by omega)
  exact ⟨by omega, h2⟩
/-- the counts behind a freeing -/
theorem counts_free {ws ts : List Int} {i k : Nat} (hm : mayB ws ts = true) (hik : i + k ≤ ws.length) :
    ∃ a0 a1 a2 : Int, (0 ≤ a0 ∧ a0 ≤ 160) ∧ (0 ≤ a1 ∧ a1 ≤ 160) ∧ (0 ≤ a2 ∧ a2 ≤ 160) ∧ cntZ ws (setR ts i 1 k) 0 = a0 ∧ cntZ ws (setR ts i 1 k) 1 = a1 ∧ cntZ ws (setR ts i 1 k) 2 = a2 ∧
      cntZ ws (setR ts i 2 k) 0 = a0 ∧ cntZ ws (setR ts i 2 k) 1 = a1 - k ∧ cntZ ws (setR ts i 2 k) 2 = a2 + k := by
  have hz := mayB_size hm
  have hl : (setR ts i 1 k).length = ts.length := setR_length _ _ _ _
  have c0 := cnt_free (ts := ts) (i := i) (k := k) 0 (by omega)
  have c1 := cnt_free (ts := ts) (i := i) (k := k) 1 (by omega)
  have c2 := cnt_free (ts := ts) (i := i) (k := k) 2 (by omega)
  rw [setR_setR] at c0 c1 c2
  simp only [show ¬ (1 : Int) = 0 by decide, show ¬ (2 : Int) = 0 by decide, show ¬ (1 : Int) = 2 by decide, show ¬ (2 : Int) = 1 by decide, ↓reduceIte] at c0 c1 c2
  have d0 := cnt_le (setR ts i 1 k) 0
  have d1 := cnt_le (setR ts i 1 k) 1
  have d2 := cnt_le (setR ts i 1 k) 2
  refine ⟨_, _, _, ⟨?_, ?_⟩, ⟨?_, ?_⟩, ⟨?_, ?_⟩, rfl, rfl, rfl, ?_, ?_, ?_⟩ <;> simp only [cntZ, may_setR hm (.inl rfl), may_setR hm (.inr rfl), ↓reduceIte] <;> omega
end Go.Proofs.YtiebaeaomgpicaaGreat
/- Plain facts for the document's own answers of layer 1. -/
namespace Go.Proofs.YtiebaeaomgpicaaGreat

/-- one number of a row is another one -/
def withE (zs : List Int) (i x : Int) (k : Nat) : Int := if (k : Int) = i then x else zs.getD k 0
def withN (zs : List Int) (i x : Int) : Nat → List Int
  | 0 => []
  | k + 1 => withN zs i x k ++ [withE zs i x k]
def withZ (zs : List Int) (i x : Int) : List Int := withN zs i x zs.length
theorem withN_length (zs : List Int) (i x : Int) (k : Nat) : (withN zs i x k).length = k := by
  induction k with
  | zero => rfl
  | succ k ih => simp [withN, ih]
theorem withN_get (zs : List Int) (i x : Int) (k j : Nat) (hj : j < k) : (withN zs i x k).getD j 0 = withE zs i x j := by
  induction k with
  | zero => omega
  | succ k ih =>
    simp only [withN, List.getD_eq_getElem?_getD]
    by_cases e : j = k
    · subst e
      rw [List.getElem?_append_right (by rw [withN_length]; omega)]
      simp [withN_length]
    · rw [List.getElem?_append_left (by rw [withN_length]; omega)]
      have := ih (by omega)
      simpa only [List.getD_eq_getElem?_getD] using this
theorem withZ_set (zs : List Int) (i : Nat) (x : Int) : withZ zs i x = zs.set i x := by
  apply List.ext_getElem
  · simp [withZ, withN_length]
  · intro j h1 h2
    have hj : j < zs.length := by simpa using h2
    have e1 : (withZ zs i x)[j] = (withZ zs i x).getD j 0 := by simp [h1]
    have e2 : (zs.set i x)[j] = (zs.set i x).getD j 0 := by simp [hj]
    rw [e1, e2, withZ, withN_get _ _ _ _ _ hj]
    simp only [withE, List.getD_eq_getElem?_getD, List.getElem?_set]
    by_cases e : i = j
    · subst e; simp [hj]
    · rw [if_neg (by omega), if_neg e]


def sameB (xs ys : List Int) : Bool := decide (xs = ys)
theorem sameB_len {xs ys : List Int} (h : xs.length ≠ ys.length) : sameB xs ys = false := by
  simp only [sameB, decide_eq_false_iff_not]; intro e; rw [e] at h; exact h rfl
theorem sameB_at {xs ys : List Int} (k : Nat) (h : xs.getD k 0 ≠ ys.getD k 0) : sameB xs ys = false := by
  simp only [sameB, decide_eq_false_iff_not]; intro e; rw [e] at h; exact h rfl
theorem sameB_all {xs ys : List Int} (hl : xs.length = ys.length) (h : ∀ j, j < xs.length → xs.getD j 0 = ys.getD j 0) : sameB xs ys = true := by
  simp only [sameB, decide_eq_true_eq]
  apply List.ext_getElem hl
  intro j h1 h2
  have := h j h1
  simpa [h1, h2] using this
theorem sameB_refl (xs : List Int) : sameB xs xs = true := by simp [sameB]
def SameTo (xs ys : List Int) (k : Nat) : Prop := ∀ j, j < k → xs.getD j 0 = ys.getD j 0
theorem sameTo_succ {xs ys : List Int} {k : Nat} {x y : Int} (h : SameTo xs ys k) (hx : xs.getD k 0 = x) (hy : ys.getD k 0 = y) (e : x = y) : SameTo xs ys (k + 1) := by
  intro j hj
  by_cases c : j = k
  · subst c; rw [hx, hy, e]
  · exact h j (by omega)
end Go.Proofs.YtiebaeaomgpicaaGreat
/- Plain functions on rows of puts that say what package buffer answers; nothing of the program is imported. -/
namespace Go.Proofs.YtiebaeaomgpicaaGreat

/-- the newest put for a place -/
def newest (ps : List (Int × Int)) (x : Int) : Option Int := (ps.reverse.find? (fun p => p.1 == x)).map (·.2)
theorem newest_nil (x : Int) : newest [] x = none := rfl
theorem newest_append (ps qs : List (Int × Int)) (x : Int) : newest (ps ++ qs) x = (newest qs x).or (newest ps x) := by
  simp only [newest, List.reverse_append, List.find?_append]
  cases qs.reverse.find? (fun p => p.1 == x) <;> simp
theorem newest_one (p : Int × Int) (x : Int) : newest [p] x = if p.1 = x then some p.2 else none := by
  simp only [newest, List.reverse_singleton, List.find?_cons, List.find?_nil]
  by_cases h : p.1 = x
  · simp [h]
  · have h' : (p.1 == x) = false := by simpa using h
    simp [h', h]
theorem newest_snoc (ps : List (Int × Int)) (p : Int × Int) (x : Int) : newest (ps ++ [p]) x = if p.1 = x then some p.2 else newest ps x := by
  rw [newest_append, newest_one]
  by_cases h : p.1 = x <;> simp [h]
theorem newest_cons (ps : List (Int × Int)) (p : Int × Int) (x : Int) : newest (p :: ps) x = (newest ps x).or (if p.1 = x then some p.2 else none) := by
  rw [show p :: ps = [p] ++ ps from rfl, newest_append, newest_one]
def newestV (ps : List (Int × Int)) (x : Int) : Int := (newest ps x).getD 0
def newestB (ps : List (Int × Int)) (x : Int) : Bool := (newest ps x).isSome

theorem take_snocP (ps : List (Int × Int)) (k : Nat) (h : k < ps.length) : ps.take (k + 1) = ps.take k ++ [ps.getD k (0, 0)] := by
  rw [List.take_succ_eq_append_getElem h]; simp [h]
theorem newest_take (ps : List (Int × Int)) (k : Nat) (x : Int) (h : k < ps.length) : newest (ps.take (k + 1)) x = if (ps.getD k (0, 0)).1 = x then some (ps.getD k (0, 0)).2 else newest (ps.take k) x := by
  rw [take_snocP ps k h, newest_snoc]
theorem newest_none {ps : List (Int × Int)} {x : Int} (h : ∀ j, j < ps.length → (ps.getD j (0, 0)).1 ≠ x) : newest ps x = none := by
  suffices H : ∀ k, k ≤ ps.length → newest (ps.take k) x = none by simpa using H ps.length (Nat.le_refl _)
  intro k
  induction k with
  | zero => intro _; simp [newest]
  | succ k ih => intro hk; rw [newest_take ps k x (by omega), if_neg (h k (by omega)), ih (by omega)]
theorem newest_at {ps : List (Int × Int)} {x : Int} {k : Nat} (hk : k < ps.length) (he : (ps.getD k (0, 0)).1 = x) (h : ∀ j, k < j → j < ps.length → (ps.getD j (0, 0)).1 ≠ x) : newest ps x = some (ps.getD k (0, 0)).2 := by
  suffices H : ∀ m, k + 1 + m ≤ ps.length → newest (ps.take (k + 1 + m)) x = some (ps.getD k (0, 0)).2 by
    have := H (ps.length - (k + 1)) (by omega)
    rw [show k + 1 + (ps.length - (k + 1)) = ps.length by omega] at this
    simpa using this
  intro m
  induction m with
  | zero => intro _; rw [Nat.add_zero, newest_take ps k x hk, if_pos he]
  | succ m ih => intro hm; rw [show k + 1 + (m + 1) = (k + 1 + m) + 1 by omega, newest_take ps _ x (by omega), if_neg (h _ (by omega) (by omega)), ih (by omega)]

/-! a put more, the oldest, the others -/
def pushE (n : Nat) (depth : Int) : Int := if depth < 0 ∨ 8 < depth ∨ depth < n then 1 else if (n : Int) = depth then 7 else 0
def pushL (ps : List (Int × Int)) (depth : Int) (p : Int × Int) : List (Int × Int) := if pushE ps.length depth = 0 then ps ++ [p] else []
def popE (ps : List (Int × Int)) : Int := if ps = [] then 8 else 0
def firstP (ps : List (Int × Int)) : Int × Int := ps.getD 0 (0, 0)
def restP (ps : List (Int × Int)) : List (Int × Int) := ps.drop 1
def samePB (ps qs : List (Int × Int)) : Bool := decide (ps = qs)
theorem samePB_refl (ps : List (Int × Int)) : samePB ps ps = true := by simp [samePB]
theorem samePB_len {xs ys : List (Int × Int)} (h : xs.length ≠ ys.length) : samePB xs ys = false := by
  simp only [samePB, decide_eq_false_iff_not]; intro e; rw [e] at h; exact h rfl
theorem samePB_at {xs ys : List (Int × Int)} (k : Nat) (h : xs.getD k (0, 0) ≠ ys.getD k (0, 0)) : samePB xs ys = false := by
  simp only [samePB, decide_eq_false_iff_not]; intro e; rw [e] at h; exact h rfl
def SamePTo (xs ys : List (Int × Int)) (k : Nat) : Prop := ∀ j, j < k → xs.getD j (0, 0) = ys.getD j (0, 0)
theorem samePB_all {xs ys : List (Int × Int)} (hl : xs.length = ys.length) (h : SamePTo xs ys xs.length) : samePB xs ys = true := by
  simp only [samePB, decide_eq_true_eq]
  apply List.ext_getElem hl
  intro j h1 h2
  have := h j h1
  simpa [h1, h2] using this
theorem samePTo_succ {xs ys : List (Int × Int)} {k : Nat} (h : SamePTo xs ys k) (e : xs.getD k (0, 0) = ys.getD k (0, 0)) : SamePTo xs ys (k + 1) := by
  intro j hj
  by_cases c : j = k
  · subst c; exact e
  · exact h j (by omega)

/-! all puts stored -/
def foldW (ws : List Int) (ps : List (Int × Int)) : List Int := ps.foldl (fun ws p => ws.set p.1.toNat p.2) ws
def scanP (ws ts : List Int) : List (Int × Int) → Int
  | [] => 0
  | p :: ps => if usableZ ws ts p.1 = 0 then scanP ws ts ps else usableZ ws ts p.1
def scanN (ws ts : List Int) : List (Int × Int) → Nat
  | [] => 0
  | p :: ps => if usableZ ws ts p.1 = 0 then scanN ws ts ps + 1 else 0
def foldE (ws ts : List Int) (ps : List (Int × Int)) : Int := if mayB ws ts = true then scanP ws ts ps else 1
def foldN (ws ts : List Int) (ps : List (Int × Int)) : Int := if mayB ws ts = true ∧ scanP ws ts ps ≠ 0 then (scanN ws ts ps : Int) else 0
def foldMW (ws ts : List Int) (ps : List (Int × Int)) : List Int := if foldE ws ts ps = 0 then foldW ws ps else []
def foldMT (ws ts : List Int) (ps : List (Int × Int)) : List Int := if foldE ws ts ps = 0 then ts else []
def okTo (ws ts : List Int) (ps : List (Int × Int)) (k : Nat) : Prop := ∀ j, j < k → usableZ ws ts (ps.getD j (0, 0)).1 = 0
theorem okTo_succ {ws ts : List Int} {ps : List (Int × Int)} {k : Nat} (h : okTo ws ts ps k) (h1 : usableZ ws ts (ps.getD k (0, 0)).1 = 0) : okTo ws ts ps (k + 1) := by
  intro i hi
  by_cases e : i = k
  · subst e; exact h1
  · exact h i (by omega)
theorem scan_bad {ws ts : List Int} {e : Int} (he : e ≠ 0) : ∀ {ps : List (Int × Int)} {k : Nat}, okTo ws ts ps k → k < ps.length → usableZ ws ts (ps.getD k (0, 0)).1 = e → scanP ws ts ps = e ∧ scanN ws ts ps = k
  | [], _, _, hk, _ => by simp at hk
  | p :: ps, 0, _, _, h1 => by
    simp only [List.getD_cons_zero] at h1
    simp only [scanP, scanN]
    rw [if_neg (by rw [h1]; exact he), if_neg (by rw [h1]; exact he)]
    exact ⟨h1, rfl⟩
  | p :: ps, k + 1, h, hk, h1 => by
    have h0 := h 0 (by omega)
    simp only [List.getD_cons_zero] at h0
    simp only [scanP, scanN]
    rw [if_pos h0, if_pos h0]
    have ih := scan_bad he (ps := ps) (k := k) (fun j hj => by simpa using h (j + 1) (by omega)) (by simpa using hk) (by simpa using h1)
    exact ⟨ih.1, by rw [ih.2]⟩
theorem scan_all {ws ts : List Int} : ∀ {ps : List (Int × Int)}, okTo ws ts ps ps.length → scanP ws ts ps = 0
  | [], _ => rfl
  | p :: ps, h => by
    have h0 := h 0 (by simp)
    simp only [List.getD_cons_zero] at h0
    simp only [scanP]
    rw [if_pos h0]
    exact scan_all (fun j hj => by simpa using h (j + 1) (by simpa using hj))
theorem scan_zero {ws ts : List Int} : ∀ {ps : List (Int × Int)}, scanP ws ts ps = 0 → okTo ws ts ps ps.length
  | [], _ => by intro j hj; simp at hj
  | p :: ps, h => by
    simp only [scanP] at h
    by_cases e : usableZ ws ts p.1 = 0
    · rw [if_pos e] at h
      have ih := scan_zero h
      intro j hj
      cases j with
      | zero => simpa using e
      | succ j => simpa using ih j (by simpa using hj)
    · rw [if_neg e] at h; exact absurd h e
theorem fold_zero {ws ts : List Int} {ps : List (Int × Int)} (h : foldE ws ts ps = 0) : mayB ws ts = true ∧ okTo ws ts ps ps.length := by
  unfold foldE at h
  split at h
  · exact ⟨by assumption, scan_zero h⟩
  · simp at h
theorem fold_bad {ws ts : List Int} {ps : List (Int × Int)} {k : Nat} {e : Int} (hm : mayB ws ts = true) (h : okTo ws ts ps k) (hk : k < ps.length) (h1 : usableZ ws ts (ps.getD k (0, 0)).1 = e) (he : e ≠ 0) :
    foldE ws ts ps = e ∧ foldN ws ts ps = k ∧ foldMW ws ts ps = [] ∧ foldMT ws ts ps = [] := by
  have hs := scan_bad he h hk h1
  have h2 : foldE ws ts ps = e := by rw [foldE, if_pos hm, hs.1]
  exact ⟨h2, by rw [foldN, if_pos ⟨hm, by rw [hs.1]; exact he⟩, hs.2], by rw [foldMW, if_neg (by rw [h2]; exact he)], by rw [foldMT, if_neg (by rw [h2]; exact he)]⟩
theorem fold_all {ws ts : List Int} {ps : List (Int × Int)} (hm : mayB ws ts = true) (h : okTo ws ts ps ps.length) :
    foldE ws ts ps = 0 ∧ foldN ws ts ps = 0 ∧ foldMW ws ts ps = foldW ws ps ∧ foldMT ws ts ps = ts := by
  have hs := scan_all h
  have h2 : foldE ws ts ps = 0 := by rw [foldE, if_pos hm, hs]
  exact ⟨h2, by rw [foldN, if_neg (by rw [hs]; simp)], by rw [foldMW, if_pos h2], by rw [foldMT, if_pos h2]⟩
theorem fold_not {ws ts : List Int} {ps : List (Int × Int)} (hm : mayB ws ts = false) :
    foldE ws ts ps = 1 ∧ foldN ws ts ps = 0 ∧ foldMW ws ts ps = [] ∧ foldMT ws ts ps = [] := by
  have h2 : foldE ws ts ps = 1 := by rw [foldE, if_neg (by rw [hm]; decide)]
  exact ⟨h2, by rw [foldN, if_neg (by rw [hm]; simp)], by rw [foldMW, if_neg (by rw [h2]; decide)], by rw [foldMT, if_neg (by rw [h2]; decide)]⟩
theorem foldW_take (ws : List Int) (ps : List (Int × Int)) (k : Nat) (h : k < ps.length) : foldW ws (ps.take (k + 1)) = (foldW ws (ps.take k)).set (ps.getD k (0, 0)).1.toNat (ps.getD k (0, 0)).2 := by
  rw [take_snocP ps k h, foldW, List.foldl_append]; rfl
theorem foldW_split (ws : List Int) (ps : List (Int × Int)) (k : Nat) : foldW (foldW ws (ps.take k)) (ps.drop k) = foldW ws ps := by
  rw [foldW, foldW, ← List.foldl_append, List.take_append_drop]; rfl
theorem fold_usable {ws ts : List Int} {ps : List (Int × Int)} {k : Nat} (hk : k ≤ ps.length) (h : okTo ws ts ps k) : mayB (foldW ws (ps.take k)) ts = mayB ws ts ∧ (foldW ws (ps.take k)).length = ws.length ∧ ∀ i, usableZ (foldW ws (ps.take k)) ts i = usableZ ws ts i := by
  induction k with
  | zero => exact ⟨by simp [foldW], by simp [foldW], fun i => by simp [foldW]⟩
  | succ k ih =>
    obtain ⟨h1, h2, h3⟩ := ih (by omega) (fun j hj => h j (by omega))
    have hu := h k (by omega)
    rw [← h3] at hu
    obtain ⟨hm, _, _, ht⟩ := usable_zero hu
    rw [foldW_take ws ps k (by omega)]
    refine ⟨?_, by rw [List.length_set, h2], fun i => by rw [usable_set hu, h3]⟩
    rw [may_set hm (by rw [ht]; decide), ← h1, hm]
theorem fold_store {ws ts : List Int} {ps : List (Int × Int)} {k : Nat} (hk : k < ps.length) (h : okTo ws ts ps k) (h1 : usableZ ws ts (ps.getD k (0, 0)).1 = 0) :
    storeW (foldW ws (ps.take k)) ts (ps.getD k (0, 0)).1 (ps.getD k (0, 0)).2 = foldW ws (ps.take (k + 1)) ∧ storeT (foldW ws (ps.take k)) ts (ps.getD k (0, 0)).1 = ts ∧ usableZ (foldW ws (ps.take k)) ts (ps.getD k (0, 0)).1 = 0 := by
  have h2 : usableZ (foldW ws (ps.take k)) ts (ps.getD k (0, 0)).1 = 0 := by rw [(fold_usable (by omega) h).2.2, h1]
  exact ⟨by rw [storeW, if_pos h2, foldW_take ws ps k hk], by rw [storeT, if_pos h2], h2⟩
/-- what is seen of a place once all is stored -/
theorem fold_load {ws ts : List Int} {ps : List (Int × Int)} {k : Nat} (x : Int) (hk : k ≤ ps.length) (h : okTo ws ts ps k) :
    loadZ (foldW ws (ps.take k)) ts x = (newest (ps.take k) x).getD (loadZ ws ts x) ∧ ((newest (ps.take k) x).isSome = true → usableZ ws ts x = 0) := by
  induction k with
  | zero => exact ⟨by simp [foldW, newest], by simp [newest]⟩
  | succ k ih =>
    have ho : okTo ws ts ps k := fun j hj => h j (by omega)
    obtain ⟨h1, h2⟩ := ih (by omega) ho
    have hu := h k (by omega)
    have hu' : usableZ (foldW ws (ps.take k)) ts (ps.getD k (0, 0)).1 = 0 := by rw [(fold_usable (by omega) ho).2.2, hu]
    rw [foldW_take ws ps k (by omega), newest_take ps k x (by omega)]
    by_cases e : (ps.getD k (0, 0)).1 = x
    · rw [if_pos e, ← e]
      exact ⟨by rw [load_same hu']; rfl, fun _ => hu⟩
    · rw [if_neg e, load_set hu' (by omega)]
      exact ⟨h1, h2⟩
theorem fold_seen {ws ts : List Int} {ps : List (Int × Int)} (x : Int) (h : okTo ws ts ps ps.length) :
    loadZ (foldW ws ps) ts x = (newest ps x).getD (loadZ ws ts x) ∧ ((newest ps x).isSome = true → usableZ ws ts x = 0) ∧ usableZ (foldW ws ps) ts x = usableZ ws ts x ∧ mayB (foldW ws ps) ts = mayB ws ts ∧ (foldW ws ps).length = ws.length := by
  have h1 := fold_load x (Nat.le_refl _) h
  have h2 := fold_usable (Nat.le_refl _) h
  rw [List.take_length] at h1 h2
  exact ⟨h1.1, h1.2, h2.2.2 x, h2.1, h2.2.1⟩
end Go.Proofs.YtiebaeaomgpicaaGreat
/- Plain functions on machines that say what package tso answers; nothing of the program is imported. -/
namespace Go.Proofs.YtiebaeaomgpicaaGreat

def sizesB (n D : Int) : Bool := decide (1 ≤ n ∧ n ≤ 8 ∧ 0 ≤ D ∧ D ≤ 8)
def inP (N : Nat) (p : Int × Int) : Bool := decide (0 ≤ p.1 ∧ p.1 < N)
def bufB (N : Nat) (D : Int) (b : List (Int × Int)) : Bool := decide ((b.length : Int) ≤ D) && b.all (inP N)
def mayT (ws ts : List Int) (D : Int) (bs : List (List (Int × Int))) : Bool := mayB ws ts && sizesB bs.length D && bs.all (bufB ws.length D)
theorem mayT_parts {ws ts : List Int} {D : Int} {bs : List (List (Int × Int))} (h : mayT ws ts D bs = true) :
    mayB ws ts = true ∧ (1 ≤ bs.length ∧ bs.length ≤ 8) ∧ (0 ≤ D ∧ D ≤ 8) ∧ ∀ i, i < bs.length → (((bs.getD i []).length : Int) ≤ D ∧ ∀ j, j < (bs.getD i []).length → 0 ≤ ((bs.getD i []).getD j (0, 0)).1 ∧ ((bs.getD i []).getD j (0, 0)).1 < ws.length) := by
  simp only [mayT, sizesB, Bool.and_eq_true, decide_eq_true_eq, List.all_eq_true] at h
  obtain ⟨⟨h1, h2⟩, h3⟩ := h
  refine ⟨h1, by omega, by omega, fun i hi => ?_⟩
  have e : bs.getD i [] = bs[i] := by simp [hi]
  have hb := h3 _ (List.getElem_mem hi)
  rw [← e] at hb
  simp only [bufB, Bool.and_eq_true, decide_eq_true_eq, List.all_eq_true, inP] at hb
  refine ⟨hb.1, fun j hj => ?_⟩
  have e2 : (bs.getD i []).getD j (0, 0) = (bs.getD i [])[j] := by
    generalize bs.getD i [] = b at hj ⊢
    simp [hj]
  rw [e2]
  exact hb.2 _ (List.getElem_mem hj)

/-! loops over buffers -/
def BufsTo (N : Nat) (D : Int) (bs : List (List (Int × Int))) (k : Nat) : Prop := ∀ i, i < k → bufB N D (bs.getD i []) = true
def PutsTo (N : Nat) (b : List (Int × Int)) (k : Nat) : Prop := ∀ i, i < k → inP N (b.getD i (0, 0)) = true
theorem putsTo_succ {N : Nat} {b : List (Int × Int)} {k : Nat} (h : PutsTo N b k) (h1 : inP N (b.getD k (0, 0)) = true) : PutsTo N b (k + 1) := by
  intro i hi
  by_cases e : i = k
  · subst e; exact h1
  · exact h i (by omega)
theorem bufsTo_succ {N : Nat} {D : Int} {bs : List (List (Int × Int))} {k : Nat} (h : BufsTo N D bs k) (h1 : bufB N D (bs.getD k []) = true) : BufsTo N D bs (k + 1) := by
  intro i hi
  by_cases e : i = k
  · subst e; exact h1
  · exact h i (by omega)
theorem bufB_done {N : Nat} {D : Int} {b : List (Int × Int)} (hl : (b.length : Int) ≤ D) (h : PutsTo N b b.length) : bufB N D b = true := by
  simp only [bufB, Bool.and_eq_true, decide_eq_true_eq, List.all_eq_true]
  refine ⟨hl, fun p hp => ?_⟩
  obtain ⟨i, hi, rfl⟩ := List.mem_iff_getElem.1 hp
  have := h i hi
  simpa [hi] using this
theorem bufB_put {N : Nat} {D : Int} {b : List (Int × Int)} {k : Nat} (hk : k < b.length) (h : inP N (b.getD k (0, 0)) = false) : bufB N D b = false := by
  have e : b.getD k (0, 0) = b[k] := by simp [hk]
  rw [e] at h
  have : b.all (inP N) = false := List.all_eq_false.2 ⟨b[k], List.getElem_mem hk, by rw [h]; decide⟩
  simp [bufB, this]
theorem mayT_buf {ws ts : List Int} {D : Int} {bs : List (List (Int × Int))} {k : Nat} (hk : k < bs.length) (h : bufB ws.length D (bs.getD k []) = false) : mayT ws ts D bs = false := by
  have e : bs.getD k [] = bs[k] := by simp [hk]
  rw [e] at h
  have : bs.all (bufB ws.length D) = false := List.all_eq_false.2 ⟨bs[k], List.getElem_mem hk, by rw [h]; decide⟩
  simp [mayT, this]
theorem mayT_done {ws ts : List Int} {D : Int} {bs : List (List (Int × Int))} (hm : mayB ws ts = true) (hs : sizesB bs.length D = true) (h : BufsTo ws.length D bs bs.length) : mayT ws ts D bs = true := by
  simp only [mayT, hm, hs, Bool.true_and, List.all_eq_true]
  intro b hb
  obtain ⟨i, hi, rfl⟩ := List.mem_iff_getElem.1 hb
  have := h i hi
  simpa [hi] using this

/-! what is seen, and made -/
def loadTV (ws ts : List Int) (b : List (Int × Int)) (x : Int) : Int := if usableZ ws ts x = 0 then (newest b x).getD (loadZ ws ts x) else 0
def thB (bs : List (List (Int × Int))) (th : Int) : Bool := decide (0 ≤ th ∧ th < bs.length)

/-- one buffer is another one -/
def withB (bs : List (List (Int × Int))) (i : Int) (b : List (Int × Int)) (k : Nat) : List (Int × Int) := if (k : Int) = i then b else bs.getD k []
def withBs (bs : List (List (Int × Int))) (i : Int) (b : List (Int × Int)) : Nat → List (List (Int × Int))
  | 0 => []
  | k + 1 => withBs bs i b k ++ [withB bs i b k]
theorem withBs_length (bs : List (List (Int × Int))) (i : Int) (b : List (Int × Int)) (k : Nat) : (withBs bs i b k).length = k := by
  induction k with
  | zero => rfl
  | succ k ih => simp [withBs, ih]
theorem withBs_get (bs : List (List (Int × Int))) (i : Int) (b : List (Int × Int)) (k j : Nat) (hj : j < k) : (withBs bs i b k).getD j [] = withB bs i b j := by
  induction k with
  | zero => omega
  | succ k ih =>
    simp only [withBs, List.getD_eq_getElem?_getD]
    by_cases e : j = k
    · subst e
      rw [List.getElem?_append_right (by rw [withBs_length]; omega)]
      simp [withBs_length]
    · rw [List.getElem?_append_left (by rw [withBs_length]; omega)]
      have := ih (by omega)
      simpa only [List.getD_eq_getElem?_getD] using this
theorem withBs_set (bs : List (List (Int × Int))) (i : Nat) (b : List (Int × Int)) : withBs bs i b bs.length = bs.set i b := by
  apply List.ext_getElem
  · simp [withBs_length]
  · intro j h1 h2
    have hj : j < bs.length := by simpa using h2
    have e1 : (withBs bs i b bs.length)[j] = (withBs bs i b bs.length).getD j [] := by simp [h1]
    have e2 : (bs.set i b)[j] = (bs.set i b).getD j [] := by simp [hj]
    rw [e1, e2, withBs_get _ _ _ _ _ hj]
    simp only [withB, List.getD_eq_getElem?_getD, List.getElem?_set]
    by_cases e : i = j
    · subst e; simp [hj]
    · rw [if_neg (by omega), if_neg e]

/-! what the calls answer -/
def newTE (ws ts : List Int) (n D : Int) : Int := if mayB ws ts = true then (if sizesB n D = true then 0 else 2) else 1
def newTW (ws ts : List Int) (n D : Int) : List Int := if newTE ws ts n D = 0 then ws else []
def newTT (ws ts : List Int) (n D : Int) : List Int := if newTE ws ts n D = 0 then ts else []
def newTD (ws ts : List Int) (n D : Int) : Int := if newTE ws ts n D = 0 then D else 0
def newTB (ws ts : List Int) (n D : Int) : List (List (Int × Int)) := if newTE ws ts n D = 0 then List.replicate n.toNat [] else []
theorem newT_ok {ws ts : List Int} {n D : Int} (hm : mayB ws ts = true) (hs : sizesB n D = true) : newTE ws ts n D = 0 ∧ newTW ws ts n D = ws ∧ newTT ws ts n D = ts ∧ newTD ws ts n D = D ∧ newTB ws ts n D = List.replicate n.toNat [] := by
  have h : newTE ws ts n D = 0 := by rw [newTE, if_pos hm, if_pos hs]
  refine ⟨h, ?_, ?_, ?_, ?_⟩
  · rw [newTW, if_pos h]
  · rw [newTT, if_pos h]
  · rw [newTD, if_pos h]
  · rw [newTB, if_pos h]
theorem newT_no {ws ts : List Int} {n D : Int} (h : newTE ws ts n D ≠ 0) : newTW ws ts n D = [] ∧ newTT ws ts n D = [] ∧ newTD ws ts n D = 0 ∧ newTB ws ts n D = [] := by
  refine ⟨?_, ?_, ?_, ?_⟩
  · rw [newTW, if_neg h]
  · rw [newTT, if_neg h]
  · rw [newTD, if_neg h]
  · rw [newTB, if_neg h]
theorem may_replicate {ws ts : List Int} {D : Int} {k : Nat} (hm : mayB ws ts = true) (hs : sizesB k D = true) : mayT ws ts D (List.replicate k []) = true := by
  have h0 : 0 ≤ D := by simp only [sizesB, decide_eq_true_eq] at hs; omega
  simp only [mayT, hm, List.length_replicate, hs, Bool.true_and, List.all_eq_true, List.mem_replicate]
  rintro b ⟨_, rfl⟩
  simp [bufB, h0]

/-- the machine may be, and has the thread -/
def hasB (ws ts : List Int) (D : Int) (bs : List (List (Int × Int))) (th : Int) : Bool := mayT ws ts D bs && thB bs th
def bufOf (bs : List (List (Int × Int))) (th : Int) : List (Int × Int) := bs.getD th.toNat []
theorem hasB_parts {ws ts : List Int} {D : Int} {bs : List (List (Int × Int))} {th : Int} (h : hasB ws ts D bs th = true) : mayT ws ts D bs = true ∧ 0 ≤ th ∧ th < bs.length := by
  simp only [hasB, thB, Bool.and_eq_true, decide_eq_true_eq] at h; exact ⟨h.1, h.2.1, h.2.2⟩
def loadTE (ws ts : List Int) (D : Int) (bs : List (List (Int × Int))) (th x : Int) : Int := if hasB ws ts D bs th = true then usableZ ws ts x else 1
def loadT (ws ts : List Int) (D : Int) (bs : List (List (Int × Int))) (th x : Int) : Int := if loadTE ws ts D bs th x = 0 then (newest (bufOf bs th) x).getD (loadZ ws ts x) else 0
def storeTE (ws ts : List Int) (D : Int) (bs : List (List (Int × Int))) (th x : Int) : Int := if hasB ws ts D bs th = true then (if usableZ ws ts x = 0 then (if D = 0 then 0 else if ((bufOf bs th).length : Int) = D then 7 else 0) else usableZ ws ts x) else 1
def storeTW (ws : List Int) (D : Int) (x v : Int) : List Int := if D = 0 then ws.set x.toNat v else ws
def storeTB (D : Int) (bs : List (List (Int × Int))) (th x v : Int) : List (List (Int × Int)) := if D = 0 then bs else bs.set th.toNat (bufOf bs th ++ [(x, v)])
def flushTE (ws ts : List Int) (D : Int) (bs : List (List (Int × Int))) (th : Int) : Int := if hasB ws ts D bs th = true then (if bufOf bs th = [] then 8 else usableZ ws ts (firstP (bufOf bs th)).1) else 1
def flushTW (ws : List Int) (bs : List (List (Int × Int))) (th : Int) : List Int := ws.set (firstP (bufOf bs th)).1.toNat (firstP (bufOf bs th)).2
def flushTB (bs : List (List (Int × Int))) (th : Int) : List (List (Int × Int)) := bs.set th.toNat (restP (bufOf bs th))
/-- a machine, or nothing if it was refused -/
def okL {α : Type} (e : Int) (l : List α) : List α := if e = 0 then l else []
def okZ (e : Int) (z : Int) : Int := if e = 0 then z else 0
theorem okL_pos {α : Type} {e : Int} (h : e = 0) (l : List α) : okL e l = l := if_pos h
theorem okL_neg {α : Type} {e : Int} (h : e ≠ 0) (l : List α) : okL e l = [] := if_neg h
theorem okZ_pos {e : Int} (h : e = 0) (z : Int) : okZ e z = z := if_pos h
theorem okZ_neg {e : Int} (h : e ≠ 0) (z : Int) : okZ e z = 0 := if_neg h
end Go.Proofs.YtiebaeaomgpicaaGreat
/- Plain functions: stages of a test, and their steps. -/
namespace Go.Proofs.YtiebaeaomgpicaaGreat

/-- what a locked operation makes of a word -/
def lockV (kind word a b : Int) : Int := if kind = 0 then (if word = a then b else word) else if kind = 1 then a else IntKind.i64.wrap (word + a)
def kindB (k : Int) : Bool := decide (0 ≤ k ∧ k ≤ 2)
def lockTE (ws ts : List Int) (D : Int) (bs : List (List (Int × Int))) (th k x : Int) : Int := if hasB ws ts D bs th = true ∧ kindB k = true then (if bufOf bs th = [] then usableZ ws ts x else 9) else 1
def lockTW (ws ts : List Int) (k x y z : Int) : List Int := ws.set x.toNat (lockV k (loadZ ws ts x) y z)
abbrev Mv := Int × Int × Int
def fitsB (W : Int) (m : Mv) : Bool := decide (0 ≤ m.2.1 ∧ m.2.1 < W ∧ 0 ≤ m.2.2 ∧ m.2.2 ≤ 9 ∧ (m.1 = 0 ∨ m.1 = 3 ∨ (m.1 = 1 ∧ m.2.2 = 0) ∨ (m.1 = 2 ∧ m.2.1 = 0 ∧ m.2.2 = 0)))
def total (ts : List (List Mv)) : Nat := (ts.map List.length).sum
def mayL (W D : Int) (ts : List (List Mv)) : Bool := decide (1 ≤ W ∧ W ≤ 3 ∧ 0 ≤ D ∧ D ≤ 3) && decide (1 ≤ ts.length ∧ ts.length ≤ 3) && decide (total ts ≤ 6) && ts.all (·.all (fitsB W))
theorem total_succ {ts : List (List Mv)} {k : Nat} {t : List Mv} (h : ts[k]? = some t) : total (ts.take (k + 1)) = total (ts.take k) + t.length := by
  obtain ⟨hk, rfl⟩ := List.getElem?_eq_some_iff.1 h
  rw [List.take_succ_eq_append_getElem hk, total, total, List.map_append, List.sum_append]
  simp
theorem total_bound {ts : List (List Mv)} (h : ∀ t ∈ ts, t.length ≤ 100) (k : Nat) : total (ts.take k) ≤ 100 * k := by
  induction k with
  | zero => simp [total]
  | succ k ih =>
    by_cases hk : k < ts.length
    · rw [total_succ (List.getElem?_eq_getElem hk)]
      have := h _ (List.getElem_mem hk)
      omega
    · rw [List.take_of_length_le (by omega)]
      rw [List.take_of_length_le (by omega)] at ih
      omega
theorem mayL_parts {W D : Int} {ts : List (List Mv)} (h : mayL W D ts = true) : (1 ≤ W ∧ W ≤ 3 ∧ 0 ≤ D ∧ D ≤ 3) ∧ (1 ≤ ts.length ∧ ts.length ≤ 3) ∧ total ts ≤ 6 ∧ ∀ t ∈ ts, ∀ m ∈ t, fitsB W m = true := by
  simp only [mayL, Bool.and_eq_true, decide_eq_true_eq, List.all_eq_true] at h
  exact ⟨h.1.1.1, h.1.1.2, h.1.2, h.2⟩
theorem mayL_mk {W D : Int} {ts : List (List Mv)} (h1 : 1 ≤ W ∧ W ≤ 3 ∧ 0 ≤ D ∧ D ≤ 3) (h2 : 1 ≤ ts.length ∧ ts.length ≤ 3) (h3 : total ts ≤ 6) (h4 : ∀ t ∈ ts, ∀ m ∈ t, fitsB W m = true) : mayL W D ts = true := by
  simp only [mayL, Bool.and_eq_true, decide_eq_true_eq, List.all_eq_true]
  exact ⟨⟨⟨h1, h2⟩, h3⟩, h4⟩
theorem mayL_no {W D : Int} {ts : List (List Mv)} (h : ¬ (1 ≤ W ∧ W ≤ 3 ∧ 0 ≤ D ∧ D ≤ 3) ∨ ¬ (1 ≤ ts.length ∧ ts.length ≤ 3) ∨ ¬ total ts ≤ 6 ∨ ∃ t ∈ ts, ∃ m ∈ t, fitsB W m = false) : mayL W D ts = false := by
  cases hm : mayL W D ts with
  | false => rfl
  | true =>
    obtain ⟨h1, h2, h3, h4⟩ := mayL_parts hm
    rcases h with h | h | h | ⟨t, ht, m, hmm, hf⟩
    · exact absurd h1 h
    · exact absurd h2 h
    · exact absurd h3 h
    · rw [h4 t ht m hmm] at hf; cases hf
def FitsTo (W : Int) (ts : List (List Mv)) (k : Nat) : Prop := ∀ i t, i < k → ts[i]? = some t → ∀ m ∈ t, fitsB W m = true
def FitTo (W : Int) (t : List Mv) (k : Nat) : Prop := ∀ i m, i < k → t[i]? = some m → fitsB W m = true
theorem fitTo_succ {W : Int} {t : List Mv} {k : Nat} {m : Mv} (h : FitTo W t k) (hm : t[k]? = some m) (hf : fitsB W m = true) : FitTo W t (k + 1) := by
  intro i m' hi hm'
  by_cases e : i = k
  · subst e; rw [hm] at hm'; cases hm'; exact hf
  · exact h i m' (by omega) hm'
theorem fitsTo_succ {W : Int} {ts : List (List Mv)} {k : Nat} {t : List Mv} (h : FitsTo W ts k) (ht : ts[k]? = some t) (hf : FitTo W t t.length) : FitsTo W ts (k + 1) := by
  intro i t' hi ht' m hm
  by_cases e : i = k
  · subst e; rw [ht] at ht'; cases ht'
    obtain ⟨j, hj, rfl⟩ := List.mem_iff_getElem.1 hm
    exact hf j _ hj (by simp [hj])
  · exact h i t' (by omega) ht' m hm
theorem fitsTo_all {W : Int} {ts : List (List Mv)} (h : FitsTo W ts ts.length) : ∀ t ∈ ts, ∀ m ∈ t, fitsB W m = true := by
  intro t ht
  obtain ⟨j, hj, rfl⟩ := List.mem_iff_getElem.1 ht
  exact h j _ hj (by simp [hj])
structure St where
  ws : List Int
  ts : List Int
  D : Int
  bs : List (List (Int × Int))
  l : Nat → List Mv
  n : Nat → List Int
def upd {α : Type} (f : Nat → α) (j : Nat) (x : α) : Nat → α := fun i => if i = j then x else f i
theorem upd_same {α : Type} (f : Nat → α) (j : Nat) (x : α) : upd f j x j = x := if_pos rfl
theorem upd_other {α : Type} (f : Nat → α) {i j : Nat} (h : i ≠ j) (x : α) : upd f j x i = f i := if_neg h
/-- a stage whose machine is another one -/
def withM (s : St) (ws ts : List Int) (D : Int) (bs : List (List (Int × Int))) : St := ⟨ws, ts, D, bs, s.l, s.n⟩
def noteS (s : St) (j : Nat) (v : Int) : St := ⟨s.ws, s.ts, s.D, s.bs, s.l, upd s.n j (s.n j ++ [v])⟩
def noSt : St := ⟨[], [], 0, [], fun _ => [], fun _ => []⟩
def leftS (s : St) (j : Nat) (rest : List Mv) : St := ⟨s.ws, s.ts, s.D, s.bs, upd s.l j rest, s.n⟩
/-- a thread's next move -/
def moveS (s : St) (j : Nat) (m : Mv) : St × Bool :=
  if m.1 = 0 then (withM s (okL (storeTE s.ws s.ts s.D s.bs j m.2.1) (storeTW s.ws s.D m.2.1 m.2.2)) (okL (storeTE s.ws s.ts s.D s.bs j m.2.1) s.ts) (okZ (storeTE s.ws s.ts s.D s.bs j m.2.1) s.D) (okL (storeTE s.ws s.ts s.D s.bs j m.2.1) (storeTB s.D s.bs j m.2.1 m.2.2)), storeTE s.ws s.ts s.D s.bs j m.2.1 == 0)
  else if m.1 = 1 then (noteS s j (loadT s.ws s.ts s.D s.bs j m.2.1), loadTE s.ws s.ts s.D s.bs j m.2.1 == 0)
  else if m.1 = 2 then (s, !decide (0 < (s.bs.getD j []).length))
  else (noteS (withM s (okL (lockTE s.ws s.ts s.D s.bs j 1 m.2.1) (lockTW s.ws s.ts 1 m.2.1 m.2.2 0)) (okL (lockTE s.ws s.ts s.D s.bs j 1 m.2.1) s.ts) (okZ (lockTE s.ws s.ts s.D s.bs j 1 m.2.1) s.D) (okL (lockTE s.ws s.ts s.D s.bs j 1 m.2.1) s.bs)) j (okZ (lockTE s.ws s.ts s.D s.bs j 1 m.2.1) (loadZ s.ws s.ts m.2.1)), lockTE s.ws s.ts s.D s.bs j 1 m.2.1 == 0)
theorem move0 (s : St) (j : Nat) (x v : Int) : moveS s j (0, x, v) = (withM s (okL (storeTE s.ws s.ts s.D s.bs j x) (storeTW s.ws s.D x v)) (okL (storeTE s.ws s.ts s.D s.bs j x) s.ts) (okZ (storeTE s.ws s.ts s.D s.bs j x) s.D) (okL (storeTE s.ws s.ts s.D s.bs j x) (storeTB s.D s.bs j x v)), storeTE s.ws s.ts s.D s.bs j x == 0) := if_pos rfl
theorem move1 (s : St) (j : Nat) (x v : Int) : moveS s j (1, x, v) = (noteS s j (loadT s.ws s.ts s.D s.bs j x), loadTE s.ws s.ts s.D s.bs j x == 0) := by simp [moveS]
theorem move2 (s : St) (j : Nat) (x v : Int) : moveS s j (2, x, v) = (s, !decide (0 < (s.bs.getD j []).length)) := by simp [moveS]
theorem move3 (s : St) (j : Nat) (x v : Int) : moveS s j (3, x, v) = (noteS (withM s (okL (lockTE s.ws s.ts s.D s.bs j 1 x) (lockTW s.ws s.ts 1 x v 0)) (okL (lockTE s.ws s.ts s.D s.bs j 1 x) s.ts) (okZ (lockTE s.ws s.ts s.D s.bs j 1 x) s.D) (okL (lockTE s.ws s.ts s.D s.bs j 1 x) s.bs)) j (okZ (lockTE s.ws s.ts s.D s.bs j 1 x) (loadZ s.ws s.ts x)), lockTE s.ws s.ts s.D s.bs j 1 x == 0) := by simp [moveS]
def doneB (s : St) (i : Nat) : Bool := decide ((s.l i).length = 0) && decide ((s.bs.getD i []).length = 0)
/-- all moves are made, and nothing waits -/
def endedB (s : St) (l : Nat) : Bool := (List.range l).all (doneB s)
theorem endedB_no {s : St} {l i : Nat} (hi : i < l) (h : doneB s i = false) : endedB s l = false :=
  List.all_eq_false.2 ⟨i, List.mem_range.2 hi, by rw [h]; decide⟩
theorem endedB_yes {s : St} {l : Nat} (h : ∀ i, i < l → doneB s i = true) : endedB s l = true :=
  List.all_eq_true.2 fun i hi => h i (List.mem_range.1 hi)
def outS (s : St) : List Int := s.n 0 ++ s.n 1 ++ s.n 2 ++ s.ws
def b8 (z : Int) : Int := z % 256
/-- the numbers of a stage's name that tell of its threads -/
def nameT (s : St) : Nat → List Int
  | 0 => []
  | k + 1 => nameT s k ++ [b8 (s.l k).length, b8 (s.bs.getD k []).length]
theorem nameT_len (s : St) (k : Nat) : (nameT s k).length = 2 * k := by
  induction k with
  | zero => rfl
  | succ k ih => rw [nameT, List.length_append, ih]; simp; omega
def nameN (s : St) (l : Nat) : List Int := nameT s l ++ (outS s).map b8
def beginS (W D : Int) (ts : List (List Mv)) : St := ⟨List.replicate W.toNat 0, List.replicate W.toNat 1, D, List.replicate ts.length [], fun i => ts.getD i [], fun _ => []⟩
end Go.Proofs.YtiebaeaomgpicaaGreat
/- Plain facts on machines: what a store leaves, and who sees it. -/
namespace Go.Proofs.YtiebaeaomgpicaaGreat

theorem mayT_iff {ws ts : List Int} {D : Int} {bs : List (List (Int × Int))} : mayT ws ts D bs = true ↔ mayB ws ts = true ∧ sizesB bs.length D = true ∧ ∀ b ∈ bs, bufB ws.length D b = true := by
  simp only [mayT, Bool.and_eq_true, List.all_eq_true, and_assoc]
theorem bufB_snoc {N : Nat} {D x v : Int} {b : List (Int × Int)} (hb : bufB N D b = true) (hl : (b.length : Int) ≠ D) (h0 : 0 ≤ x) (h1 : x < N) : bufB N D (b ++ [(x, v)]) = true := by
  simp only [bufB, Bool.and_eq_true, decide_eq_true_eq, List.all_eq_true] at hb ⊢
  refine ⟨by rw [List.length_append, List.length_singleton]; have := hb.1; omega, fun p hp => ?_⟩
  rcases List.mem_append.1 hp with h | h
  · exact hb.2 p h
  · simp at h; subst h; simp [inP, h0, h1]
theorem may_of_set {ws ts : List Int} {D x v : Int} {bs : List (List (Int × Int))} (hm : mayT ws ts D bs = true) (hu : usableZ ws ts x = 0) : mayT (ws.set x.toNat v) ts D bs = true := by
  obtain ⟨h1, h2, h3⟩ := mayT_iff.1 hm
  obtain ⟨_, _, _, ht⟩ := usable_zero hu
  refine mayT_iff.2 ⟨may_set h1 (by rw [ht]; decide), h2, ?_⟩
  rw [List.length_set]; exact h3
theorem may_of_buf {ws ts : List Int} {D : Int} {bs : List (List (Int × Int))} {j : Nat} {b : List (Int × Int)} (hm : mayT ws ts D bs = true) (hb : bufB ws.length D b = true) : mayT ws ts D (bs.set j b) = true := by
  obtain ⟨h1, h2, h3⟩ := mayT_iff.1 hm
  refine mayT_iff.2 ⟨h1, by rw [List.length_set]; exact h2, fun c hc => ?_⟩
  rcases List.mem_or_eq_of_mem_set hc with h | h
  · exact h3 c h
  · rw [h]; exact hb
theorem may_bufOf {ws ts : List Int} {D th : Int} {bs : List (List (Int × Int))} (h : hasB ws ts D bs th = true) : bufB ws.length D (bufOf bs th) = true := by
  obtain ⟨hm, h0, h1⟩ := hasB_parts h
  have e : bufOf bs th = bs[th.toNat]'(by omega) := by simp [bufOf, show th.toNat < bs.length by omega]
  rw [e]
  exact (mayT_iff.1 hm).2.2 _ (List.getElem_mem _)
theorem bufOf_set {bs : List (List (Int × Int))} {th o : Int} {b : List (Int × Int)} (h0 : 0 ≤ th) (h1 : th < bs.length) (h2 : 0 ≤ o) : bufOf (bs.set th.toNat b) o = if o = th then b else bufOf bs o := by
  simp only [bufOf, List.getD_eq_getElem?_getD, List.getElem?_set]
  by_cases e : o = th
  · subst e; rw [if_pos rfl, if_pos rfl, if_pos (by omega)]; rfl
  · rw [if_neg (by omega), if_neg e]
theorem store_zero {ws ts : List Int} {D th x : Int} {bs : List (List (Int × Int))} (h : storeTE ws ts D bs th x = 0) : hasB ws ts D bs th = true ∧ usableZ ws ts x = 0 ∧ (D = 0 ∨ (D ≠ 0 ∧ ((bufOf bs th).length : Int) ≠ D)) := by
  unfold storeTE at h
  split at h
  · rename_i h1
    split at h
    · rename_i h2
      refine ⟨h1, h2, ?_⟩
      split at h
      · left; assumption
      · rename_i h3
        split at h
        · simp at h
        · right; exact ⟨h3, by assumption⟩
    · exact absurd h (by assumption)
  · simp at h
theorem has_th {ws ts ws' : List Int} {D th o : Int} {bs bs' : List (List (Int × Int))} (h : hasB ws ts D bs th = true) (hm : mayT ws' ts D bs' = true) (hl : bs'.length = bs.length) : hasB ws' ts D bs' o = hasB ws ts D bs o := by
  have h1 := (hasB_parts h).1
  simp only [hasB, hm, h1, thB, hl]
theorem bufs_nil {ws ts : List Int} {th : Int} {bs : List (List (Int × Int))} (h : hasB ws ts 0 bs th = true) : bufOf bs th = [] := by
  have := may_bufOf h
  simp only [bufB, Bool.and_eq_true, decide_eq_true_eq] at this
  exact List.eq_nil_of_length_eq_zero (by omega)
theorem loadT_of {ws ts : List Int} {D th x : Int} {bs : List (List (Int × Int))} : loadT ws ts D bs th x = if hasB ws ts D bs th = true then (if usableZ ws ts x = 0 then (newest (bufOf bs th) x).getD (loadZ ws ts x) else 0) else 0 := by
  unfold loadT loadTE
  by_cases h : hasB ws ts D bs th = true
  · rw [if_pos h, if_pos h]
  · rw [if_neg h, if_neg h]; rfl

/-- what a store leaves: same threads, places, and what each sees -/
theorem store_after {ws ts : List Int} {D th x v : Int} {bs : List (List (Int × Int))} (h : storeTE ws ts D bs th x = 0) (o k : Int) :
    loadTE (storeTW ws D x v) ts D (storeTB D bs th x v) o k = loadTE ws ts D bs o k ∧
    loadT (storeTW ws D x v) ts D (storeTB D bs th x v) o k = if loadTE ws ts D bs o k = 0 ∧ k = x ∧ (o = th ∨ D = 0) then v else loadT ws ts D bs o k := by
  obtain ⟨hh, hu, hd⟩ := store_zero h
  obtain ⟨hm, t0, t1⟩ := hasB_parts hh
  rcases hd with rfl | ⟨hd, hl⟩
  · have e1 : storeTW ws 0 x v = ws.set x.toNat v := if_pos rfl
    have e2 : storeTB 0 bs th x v = bs := if_pos rfl
    rw [e1, e2]
    have hm' := may_of_set (v := v) hm hu
    have hhs : hasB (ws.set x.toNat v) ts 0 bs o = hasB ws ts 0 bs o := has_th hh hm' rfl
    have hus : usableZ (ws.set x.toNat v) ts k = usableZ ws ts k := usable_set hu
    have hE : loadTE (ws.set x.toNat v) ts 0 bs o k = loadTE ws ts 0 bs o k := by simp only [loadTE, hhs, hus]
    refine ⟨hE, ?_⟩
    rw [loadT_of, loadT_of, hhs, hus]
    by_cases ho : hasB ws ts 0 bs o = true
    · rw [if_pos ho, if_pos ho, bufs_nil ho]
      have hE2 : loadTE ws ts 0 bs o k = usableZ ws ts k := if_pos ho
      rw [hE2]
      by_cases hk : usableZ ws ts k = 0
      · rw [if_pos hk, if_pos hk]
        by_cases e : k = x
        · subst e; rw [if_pos ⟨hk, rfl, .inr rfl⟩, load_same hu]; rfl
        · rw [if_neg (fun h => e h.2.1), load_set hu e]
      · rw [if_neg hk, if_neg hk, if_neg (fun h => hk h.1)]
    · have hE2 : loadTE ws ts 0 bs o k = 1 := if_neg ho
      rw [if_neg ho, if_neg ho, hE2, if_neg (fun h => absurd h.1 (by decide))]
  · have e1 : storeTW ws D x v = ws := if_neg hd
    have e2 : storeTB D bs th x v = bs.set th.toNat (bufOf bs th ++ [(x, v)]) := if_neg hd
    rw [e1, e2]
    obtain ⟨_, x0, x1, _⟩ := usable_zero hu
    have hm' := may_of_buf (j := th.toNat) hm (bufB_snoc (v := v) (may_bufOf hh) hl x0 x1)
    have hhs : hasB ws ts D (bs.set th.toNat (bufOf bs th ++ [(x, v)])) o = hasB ws ts D bs o := has_th hh hm' (by rw [List.length_set])
    have hE : loadTE ws ts D (bs.set th.toNat (bufOf bs th ++ [(x, v)])) o k = loadTE ws ts D bs o k := by simp only [loadTE, hhs]
    refine ⟨hE, ?_⟩
    rw [loadT_of, loadT_of, hhs]
    by_cases ho : hasB ws ts D bs o = true
    · have hE2 : loadTE ws ts D bs o k = usableZ ws ts k := if_pos ho
      rw [if_pos ho, if_pos ho, hE2, bufOf_set t0 t1 (hasB_parts ho).2.1]
      by_cases hk : usableZ ws ts k = 0
      · rw [if_pos hk, if_pos hk]
        by_cases e : o = th
        · subst e
          rw [if_pos rfl, newest_snoc]
          by_cases ek : k = x
          · subst ek; rw [if_pos rfl, if_pos ⟨hk, rfl, .inl rfl⟩]; rfl
          · rw [if_neg (fun h => ek h.symm), if_neg (fun h => ek h.2.1)]
        · rw [if_neg e, if_neg (fun h => h.2.2.elim e hd)]
      · rw [if_neg hk, if_neg hk, if_neg (fun h => hk h.1)]
    · have hE2 : loadTE ws ts D bs o k = 1 := if_neg ho
      rw [if_neg ho, if_neg ho, hE2, if_neg (fun h => absurd h.1 (by decide))]
theorem store_own {ws ts : List Int} {D th x v : Int} {bs : List (List (Int × Int))} (h : storeTE ws ts D bs th x = 0) : loadTE (storeTW ws D x v) ts D (storeTB D bs th x v) th x = 0 ∧ loadT (storeTW ws D x v) ts D (storeTB D bs th x v) th x = v := by
  obtain ⟨h1, h2⟩ := store_after (v := v) h th x
  obtain ⟨hh, hu, _⟩ := store_zero h
  have hE : loadTE ws ts D bs th x = 0 := by rw [loadTE, if_pos hh, hu]
  exact ⟨h1.trans hE, by rw [h2, if_pos ⟨hE, rfl, .inl rfl⟩]⟩
theorem loadTE_range {ws ts : List Int} {D th x : Int} {bs : List (List (Int × Int))} : loadTE ws ts D bs th x = if hasB ws ts D bs th = true then usableZ ws ts x else 1 := rfl
end Go.Proofs.YtiebaeaomgpicaaGreat
