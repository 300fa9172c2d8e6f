/- Plain functions on lists that say what package memory answers; nothing of the program is imported. -/
namespace Go.Proofs.Ytnkhgofpdgnemaa

def okB (ws ts : List Int) (k : Nat) : Bool := decide (0 ≤ ts.getD k 0 ∧ ts.getD k 0 ≤ 2 ∧ (ts.getD k 0 = 0 → ws.getD k 0 = 0))
def goodTo (ws ts : List Int) (k : Nat) : Prop := ∀ i, i < k → okB ws ts i = true
def goodB (ws ts : List Int) (n : Nat) : Bool := (List.range n).all (okB ws ts)
theorem goodB_iff {ws ts : List Int} {n : Nat} : goodB ws ts n = true ↔ goodTo ws ts n := by
  simp [goodB, goodTo]
theorem good_step {ws ts : List Int} {k : Nat} (h : goodTo ws ts k) (h1 : okB ws ts k = true) : goodTo ws ts (k + 1) := by
  intro i hi
  by_cases e : i = k
  · subst e; exact h1
  · exact h i (by omega)
theorem good_not {ws ts : List Int} {k n : Nat} (hk : k < n) (h1 : okB ws ts k = false) : goodB ws ts n = false := by
  cases h : goodB ws ts n with
  | false => rfl
  | true => have := goodB_iff.1 h k hk; simp [h1] at this

def sizeB (n n' : Nat) : Bool := decide (1 ≤ n ∧ n ≤ 160 ∧ n' = n)
def mayB (ws ts : List Int) : Bool := sizeB ws.length ts.length && goodB ws ts ws.length
theorem mayB_size {ws ts : List Int} (h : mayB ws ts = true) : 1 ≤ ws.length ∧ ws.length ≤ 160 ∧ ts.length = ws.length := by
  simp only [mayB, sizeB, Bool.and_eq_true, decide_eq_true_eq] at h; exact h.1
theorem mayB_good {ws ts : List Int} (h : mayB ws ts = true) : goodTo ws ts ws.length := by
  simp only [mayB, Bool.and_eq_true] at h; exact goodB_iff.1 h.2
theorem mayB_tag {ws ts : List Int} (h : mayB ws ts = true) (i : Nat) (hi : i < ws.length) : 0 ≤ ts.getD i 0 ∧ ts.getD i 0 ≤ 2 := by
  have := mayB_good h i hi
  simp only [okB, decide_eq_true_eq] at this
  exact ⟨this.1, this.2.1⟩

def cnt (ts : List Int) (t : Int) : Nat := (ts.filter (· == t)).length
theorem cnt_nil (t : Int) : cnt [] t = 0 := rfl
theorem cnt_take {ts : List Int} {k : Nat} (t : Int) (hk : k < ts.length) : cnt (ts.take (k + 1)) t = cnt (ts.take k) t + if ts.getD k 0 = t then 1 else 0 := by
  have e : ts.take (k + 1) = ts.take k ++ [ts.getD k 0] := by
    rw [List.take_succ_eq_append_getElem hk]; simp [hk]
  rw [e]
  simp only [cnt, List.filter_append, List.length_append]
  by_cases h : ts.getD k 0 = t
  · rw [if_pos h, List.filter_cons, if_pos (by simpa using h)]; simp
  · rw [if_neg h, List.filter_cons, if_neg (by simpa using h)]; simp
theorem cnt_le (ts : List Int) (t : Int) : cnt ts t ≤ ts.length := List.length_filter_le _ _

def cntZ (ws ts : List Int) (t : Int) : Int := if mayB ws ts = true then (cnt ts t : Int) else 0
/-- why a word of that tag can't be used -/
def useE (t : Int) : Int := if t = 0 then 4 else if t = 1 then 0 else 5
/-- why a word of that tag can't be had -/
def takeE (t : Int) : Int := if t = 1 then 6 else 0

def inB (n : Nat) (i : Int) : Bool := decide (0 ≤ i ∧ i < n)
def usableZ (ws ts : List Int) (i : Int) : Int := if mayB ws ts = true then (if 0 ≤ i ∧ i < ws.length then useE (ts.getD i.toNat 0) else 3) else 1
def loadZ (ws ts : List Int) (i : Int) : Int := if usableZ ws ts i = 0 then ws.getD i.toNat 0 else 0
def storeW (ws ts : List Int) (i v : Int) : List Int := if usableZ ws ts i = 0 then ws.set i.toNat v else []
def storeT (ws ts : List Int) (i : Int) : List Int := if usableZ ws ts i = 0 then ts else []

theorem usable_zero {ws ts : List Int} {i : Int} (h : usableZ ws ts i = 0) : mayB ws ts = true ∧ 0 ≤ i ∧ i < ws.length ∧ ts.getD i.toNat 0 = 1 := by
  unfold usableZ at h
  split at h
  · rename_i hm
    split at h
    · rename_i hi
      refine ⟨hm, hi.1, hi.2, ?_⟩
      unfold useE at h
      split at h
      · simp at h
      · split at h
        · assumption
        · simp at h
    · simp at h
  · simp at h
theorem usable_of {ws ts : List Int} {i : Int} (hm : mayB ws ts = true) (h0 : 0 ≤ i) (h1 : i < ws.length) (ht : ts.getD i.toNat 0 = 1) : usableZ ws ts i = 0 := by
  unfold usableZ
  rw [if_pos hm, if_pos ⟨h0, h1⟩, ht]; rfl
theorem usable_range {ws ts : List Int} {i : Int} : 0 ≤ usableZ ws ts i ∧ usableZ ws ts i ≤ 5 := by
  unfold usableZ useE; split
  · split
    · split
      · omega
      · split <;> omega
    · omega
  · omega

/-- the tags behind a mark of k words from i on -/
def setR (ts : List Int) (i : Nat) (t : Int) : Nat → List Int
  | 0 => ts
  | k + 1 => (setR ts i t k).set (i + k) t
theorem setR_length (ts : List Int) (i : Nat) (t : Int) (k : Nat) : (setR ts i t k).length = ts.length := by
  induction k with
  | zero => rfl
  | succ k ih => simp [setR, ih]
theorem setR_get (ts : List Int) (i : Nat) (t : Int) (k j : Nat) (hj : j < ts.length) : (setR ts i t k).getD j 0 = if i ≤ j ∧ j < i + k then t else ts.getD j 0 := by
  induction k with
  | zero => rw [if_neg (by omega)]; rfl
  | succ k ih =>
    have hl := setR_length ts i t k
    simp only [setR, List.getD_eq_getElem?_getD, List.getElem?_set] at ih ⊢
    by_cases e : i + k = j
    · rw [if_pos e, if_pos (by omega), if_pos (by omega)]; simp
    · rw [if_neg e, ih]
      by_cases e2 : i ≤ j ∧ j < i + k
      · rw [if_pos e2, if_pos (by omega)]
      · rw [if_neg e2, if_neg (by omega)]
/-- the first refusal among k words from i on -/
def scanE (f : Int → Int) (ts : List Int) (i : Nat) : Nat → Int
  | 0 => 0
  | k + 1 => if scanE f ts i k = 0 then f (ts.getD (i + k) 0) else scanE f ts i k
theorem scanE_zero {f : Int → Int} {ts : List Int} {i : Nat} : ∀ {k : Nat}, (∀ j, j < k → f (ts.getD (i + j) 0) = 0) → scanE f ts i k = 0
  | 0, _ => rfl
  | k + 1, h => by
    simp only [scanE]
    rw [if_pos (scanE_zero (fun j hj => h j (by omega)))]
    exact h k (by omega)
theorem scanE_all {f : Int → Int} {ts : List Int} {i : Nat} : ∀ {k : Nat}, scanE f ts i k = 0 → ∀ j, j < k → f (ts.getD (i + j) 0) = 0
  | 0, _, _, hj => by omega
  | k + 1, h, j, hj => by
    simp only [scanE] at h
    by_cases e : scanE f ts i k = 0
    · rw [if_pos e] at h
      by_cases ej : j = k
      · subst ej; exact h
      · exact scanE_all e j (by omega)
    · rw [if_neg e] at h; exact absurd h e
theorem scanE_first {f : Int → Int} {ts : List Int} {i : Nat} {k : Nat} {x : Int} (h : scanE f ts i k = 0) (hx : f (ts.getD (i + k) 0) = x) (hn : x ≠ 0) : ∀ {n : Nat}, k < n → scanE f ts i n = x
  | 0, hk => by omega
  | n + 1, hk => by
    simp only [scanE]
    by_cases e : n = k
    · subst e; rw [if_pos h, hx]
    · rw [scanE_first h hx hn (n := n) (by omega), if_neg hn]

def newE (n : Int) : Int := if 1 ≤ n ∧ n ≤ 160 then 0 else 2
def newL (n : Int) : List Int := if 1 ≤ n ∧ n ≤ 160 then List.replicate n.toNat 0 else []
def withinB (n : Nat) (i k : Int) : Bool := decide (1 ≤ k ∧ 0 ≤ i ∧ k ≤ n - i)
def refE (tag : Int) : Int → Int := if tag = 1 then takeE else useE
def markE (ws ts : List Int) (i k tag : Int) : Int :=
  if mayB ws ts = true ∧ (tag = 1 ∨ tag = 2) then (if withinB ws.length i k = true then scanE (refE tag) ts i.toNat k.toNat else 3) else 1
def markW (ws ts : List Int) (i k tag : Int) : List Int := if markE ws ts i k tag = 0 then ws else []
def markT (ws ts : List Int) (i k tag : Int) : List Int := if markE ws ts i k tag = 0 then setR ts i.toNat tag k.toNat else []

end Go.Proofs.Ytnkhgofpdgnemaa
