/- Plain functions on rows of puts that say what package buffer answers; nothing of the program is imported. -/
import Derived.Test.YtnkhgofpdgnemaaMathB
namespace Go.Proofs.Ytnkhgofpdgnemaa

/-- the newest put for a place -/
def newest (ps : List (Int × Int)) (x : Int) : Option Int := (ps.reverse.find? (fun p => p.1 == x)).map (·.2)
theorem newest_nil (x : Int) : newest [] x = none := rfl
theorem newest_append (ps qs : List (Int × Int)) (x : Int) : newest (ps ++ qs) x = (newest qs x).or (newest ps x) := by
  simp only [newest, List.reverse_append, List.find?_append]
  cases qs.reverse.find? (fun p => p.1 == x) <;> simp
theorem newest_one (p : Int × Int) (x : Int) : newest [p] x = if p.1 = x then some p.2 else none := by
  simp only [newest, List.reverse_singleton, List.find?_cons, List.find?_nil]
  by_cases h : p.1 = x
  · simp [h]
  · have h' : (p.1 == x) = false := by simpa using h
    simp [h', h]
theorem newest_snoc (ps : List (Int × Int)) (p : Int × Int) (x : Int) : newest (ps ++ [p]) x = if p.1 = x then some p.2 else newest ps x := by
  rw [newest_append, newest_one]
  by_cases h : p.1 = x <;> simp [h]
theorem newest_cons (ps : List (Int × Int)) (p : Int × Int) (x : Int) : newest (p :: ps) x = (newest ps x).or (if p.1 = x then some p.2 else none) := by
  rw [show p :: ps = [p] ++ ps from rfl, newest_append, newest_one]
def newestV (ps : List (Int × Int)) (x : Int) : Int := (newest ps x).getD 0
def newestB (ps : List (Int × Int)) (x : Int) : Bool := (newest ps x).isSome

theorem take_snocP (ps : List (Int × Int)) (k : Nat) (h : k < ps.length) : ps.take (k + 1) = ps.take k ++ [ps.getD k (0, 0)] := by
  rw [List.take_succ_eq_append_getElem h]; simp [h]
theorem newest_take (ps : List (Int × Int)) (k : Nat) (x : Int) (h : k < ps.length) : newest (ps.take (k + 1)) x = if (ps.getD k (0, 0)).1 = x then some (ps.getD k (0, 0)).2 else newest (ps.take k) x := by
  rw [take_snocP ps k h, newest_snoc]
theorem newest_none {ps : List (Int × Int)} {x : Int} (h : ∀ j, j < ps.length → (ps.getD j (0, 0)).1 ≠ x) : newest ps x = none := by
  suffices H : ∀ k, k ≤ ps.length → newest (ps.take k) x = none by simpa using H ps.length (Nat.le_refl _)
  intro k
  induction k with
  | zero => intro _; simp [newest]
  | succ k ih => intro hk; rw [newest_take ps k x (by omega), if_neg (h k (by omega)), ih (by omega)]
theorem newest_at {ps : List (Int × Int)} {x : Int} {k : Nat} (hk : k < ps.length) (he : (ps.getD k (0, 0)).1 = x) (h : ∀ j, k < j → j < ps.length → (ps.getD j (0, 0)).1 ≠ x) : newest ps x = some (ps.getD k (0, 0)).2 := by
  suffices H : ∀ m, k + 1 + m ≤ ps.length → newest (ps.take (k + 1 + m)) x = some (ps.getD k (0, 0)).2 by
    have := H (ps.length - (k + 1)) (by omega)
    rw [show k + 1 + (ps.length - (k + 1)) = ps.length by omega] at this
    simpa using this
  intro m
  induction m with
  | zero => intro _; rw [Nat.add_zero, newest_take ps k x hk, if_pos he]
  | succ m ih => intro hm; rw [show k + 1 + (m + 1) = (k + 1 + m) + 1 by omega, newest_take ps _ x (by omega), if_neg (h _ (by omega) (by omega)), ih (by omega)]

/-! a put more, the oldest, the others -/
def pushE (n : Nat) (depth : Int) : Int := if depth < 0 ∨ 8 < depth ∨ depth < n then 1 else if (n : Int) = depth then 7 else 0
def pushL (ps : List (Int × Int)) (depth : Int) (p : Int × Int) : List (Int × Int) := if pushE ps.length depth = 0 then ps ++ [p] else []
def popE (ps : List (Int × Int)) : Int := if ps = [] then 8 else 0
def firstP (ps : List (Int × Int)) : Int × Int := ps.getD 0 (0, 0)
def restP (ps : List (Int × Int)) : List (Int × Int) := ps.drop 1
def samePB (ps qs : List (Int × Int)) : Bool := decide (ps = qs)
theorem samePB_refl (ps : List (Int × Int)) : samePB ps ps = true := by simp [samePB]
theorem samePB_len {xs ys : List (Int × Int)} (h : xs.length ≠ ys.length) : samePB xs ys = false := by
  simp only [samePB, decide_eq_false_iff_not]; intro e; rw [e] at h; exact h rfl
theorem samePB_at {xs ys : List (Int × Int)} (k : Nat) (h : xs.getD k (0, 0) ≠ ys.getD k (0, 0)) : samePB xs ys = false := by
  simp only [samePB, decide_eq_false_iff_not]; intro e; rw [e] at h; exact h rfl
def SamePTo (xs ys : List (Int × Int)) (k : Nat) : Prop := ∀ j, j < k → xs.getD j (0, 0) = ys.getD j (0, 0)
theorem samePB_all {xs ys : List (Int × Int)} (hl : xs.length = ys.length) (h : SamePTo xs ys xs.length) : samePB xs ys = true := by
  simp only [samePB, decide_eq_true_eq]
  apply List.ext_getElem hl
  intro j h1 h2
  have := h j h1
  simpa [h1, h2] using this
theorem samePTo_succ {xs ys : List (Int × Int)} {k : Nat} (h : SamePTo xs ys k) (e : xs.getD k (0, 0) = ys.getD k (0, 0)) : SamePTo xs ys (k + 1) := by
  intro j hj
  by_cases c : j = k
  · subst c; exact e
  · exact h j (by omega)

/-! all puts stored -/
def foldW (ws : List Int) (ps : List (Int × Int)) : List Int := ps.foldl (fun ws p => ws.set p.1.toNat p.2) ws
def scanP (ws ts : List Int) : List (Int × Int) → Int
  | [] => 0
  | p :: ps => if usableZ ws ts p.1 = 0 then scanP ws ts ps else usableZ ws ts p.1
def scanN (ws ts : List Int) : List (Int × Int) → Nat
  | [] => 0
  | p :: ps => if usableZ ws ts p.1 = 0 then scanN ws ts ps + 1 else 0
def foldE (ws ts : List Int) (ps : List (Int × Int)) : Int := if mayB ws ts = true then scanP ws ts ps else 1
def foldN (ws ts : List Int) (ps : List (Int × Int)) : Int := if mayB ws ts = true ∧ scanP ws ts ps ≠ 0 then (scanN ws ts ps : Int) else 0
def foldMW (ws ts : List Int) (ps : List (Int × Int)) : List Int := if foldE ws ts ps = 0 then foldW ws ps else []
def foldMT (ws ts : List Int) (ps : List (Int × Int)) : List Int := if foldE ws ts ps = 0 then ts else []
def okTo (ws ts : List Int) (ps : List (Int × Int)) (k : Nat) : Prop := ∀ j, j < k → usableZ ws ts (ps.getD j (0, 0)).1 = 0
theorem okTo_succ {ws ts : List Int} {ps : List (Int × Int)} {k : Nat} (h : okTo ws ts ps k) (h1 : usableZ ws ts (ps.getD k (0, 0)).1 = 0) : okTo ws ts ps (k + 1) := by
  intro i hi
  by_cases e : i = k
  · subst e; exact h1
  · exact h i (by omega)
theorem scan_bad {ws ts : List Int} {e : Int} (he : e ≠ 0) : ∀ {ps : List (Int × Int)} {k : Nat}, okTo ws ts ps k → k < ps.length → usableZ ws ts (ps.getD k (0, 0)).1 = e → scanP ws ts ps = e ∧ scanN ws ts ps = k
  | [], _, _, hk, _ => by simp at hk
  | p :: ps, 0, _, _, h1 => by
    simp only [List.getD_cons_zero] at h1
    simp only [scanP, scanN]
    rw [if_neg (by rw [h1]; exact he), if_neg (by rw [h1]; exact he)]
    exact ⟨h1, rfl⟩
  | p :: ps, k + 1, h, hk, h1 => by
    have h0 := h 0 (by omega)
    simp only [List.getD_cons_zero] at h0
    simp only [scanP, scanN]
    rw [if_pos h0, if_pos h0]
    have ih := scan_bad he (ps := ps) (k := k) (fun j hj => by simpa using h (j + 1) (by omega)) (by simpa using hk) (by simpa using h1)
    exact ⟨ih.1, by rw [ih.2]⟩
theorem scan_all {ws ts : List Int} : ∀ {ps : List (Int × Int)}, okTo ws ts ps ps.length → scanP ws ts ps = 0
  | [], _ => rfl
  | p :: ps, h => by
    have h0 := h 0 (by simp)
    simp only [List.getD_cons_zero] at h0
    simp only [scanP]
    rw [if_pos h0]
    exact scan_all (fun j hj => by simpa using h (j + 1) (by simpa using hj))
theorem scan_zero {ws ts : List Int} : ∀ {ps : List (Int × Int)}, scanP ws ts ps = 0 → okTo ws ts ps ps.length
  | [], _ => by intro j hj; simp at hj
  | p :: ps, h => by
    simp only [scanP] at h
    by_cases e : usableZ ws ts p.1 = 0
    · rw [if_pos e] at h
      have ih := scan_zero h
      intro j hj
      cases j with
      | zero => simpa using e
      | succ j => simpa using ih j (by simpa using hj)
    · rw [if_neg e] at h; exact absurd h e
theorem fold_zero {ws ts : List Int} {ps : List (Int × Int)} (h : foldE ws ts ps = 0) : mayB ws ts = true ∧ okTo ws ts ps ps.length := by
  unfold foldE at h
  split at h
  · exact ⟨by assumption, scan_zero h⟩
  · simp at h
theorem fold_bad {ws ts : List Int} {ps : List (Int × Int)} {k : Nat} {e : Int} (hm : mayB ws ts = true) (h : okTo ws ts ps k) (hk : k < ps.length) (h1 : usableZ ws ts (ps.getD k (0, 0)).1 = e) (he : e ≠ 0) :
    foldE ws ts ps = e ∧ foldN ws ts ps = k ∧ foldMW ws ts ps = [] ∧ foldMT ws ts ps = [] := by
  have hs := scan_bad he h hk h1
  have h2 : foldE ws ts ps = e := by rw [foldE, if_pos hm, hs.1]
  exact ⟨h2, by rw [foldN, if_pos ⟨hm, by rw [hs.1]; exact he⟩, hs.2], by rw [foldMW, if_neg (by rw [h2]; exact he)], by rw [foldMT, if_neg (by rw [h2]; exact he)]⟩
theorem fold_all {ws ts : List Int} {ps : List (Int × Int)} (hm : mayB ws ts = true) (h : okTo ws ts ps ps.length) :
    foldE ws ts ps = 0 ∧ foldN ws ts ps = 0 ∧ foldMW ws ts ps = foldW ws ps ∧ foldMT ws ts ps = ts := by
  have hs := scan_all h
  have h2 : foldE ws ts ps = 0 := by rw [foldE, if_pos hm, hs]
  exact ⟨h2, by rw [foldN, if_neg (by rw [hs]; simp)], by rw [foldMW, if_pos h2], by rw [foldMT, if_pos h2]⟩
theorem fold_not {ws ts : List Int} {ps : List (Int × Int)} (hm : mayB ws ts = false) :
    foldE ws ts ps = 1 ∧ foldN ws ts ps = 0 ∧ foldMW ws ts ps = [] ∧ foldMT ws ts ps = [] := by
  have h2 : foldE ws ts ps = 1 := by rw [foldE, if_neg (by rw [hm]; decide)]
  exact ⟨h2, by rw [foldN, if_neg (by rw [hm]; simp)], by rw [foldMW, if_neg (by rw [h2]; decide)], by rw [foldMT, if_neg (by rw [h2]; decide)]⟩
theorem foldW_take (ws : List Int) (ps : List (Int × Int)) (k : Nat) (h : k < ps.length) : foldW ws (ps.take (k + 1)) = (foldW ws (ps.take k)).set (ps.getD k (0, 0)).1.toNat (ps.getD k (0, 0)).2 := by
  rw [take_snocP ps k h, foldW, List.foldl_append]; rfl
theorem foldW_split (ws : List Int) (ps : List (Int × Int)) (k : Nat) : foldW (foldW ws (ps.take k)) (ps.drop k) = foldW ws ps := by
  rw [foldW, foldW, ← List.foldl_append, List.take_append_drop]; rfl
theorem fold_usable {ws ts : List Int} {ps : List (Int × Int)} {k : Nat} (hk : k ≤ ps.length) (h : okTo ws ts ps k) : mayB (foldW ws (ps.take k)) ts = mayB ws ts ∧ (foldW ws (ps.take k)).length = ws.length ∧ ∀ i, usableZ (foldW ws (ps.take k)) ts i = usableZ ws ts i := by
  induction k with
  | zero => exact ⟨by simp [foldW], by simp [foldW], fun i => by simp [foldW]⟩
  | succ k ih =>
    obtain ⟨h1, h2, h3⟩ := ih (by omega) (fun j hj => h j (by omega))
    have hu := h k (by omega)
    rw [← h3] at hu
    obtain ⟨hm, _, _, ht⟩ := usable_zero hu
    rw [foldW_take ws ps k (by omega)]
    refine ⟨?_, by rw [List.length_set, h2], fun i => by rw [usable_set hu, h3]⟩
    rw [may_set hm (by rw [ht]; decide), ← h1, hm]
theorem fold_store {ws ts : List Int} {ps : List (Int × Int)} {k : Nat} (hk : k < ps.length) (h : okTo ws ts ps k) (h1 : usableZ ws ts (ps.getD k (0, 0)).1 = 0) :
    storeW (foldW ws (ps.take k)) ts (ps.getD k (0, 0)).1 (ps.getD k (0, 0)).2 = foldW ws (ps.take (k + 1)) ∧ storeT (foldW ws (ps.take k)) ts (ps.getD k (0, 0)).1 = ts ∧ usableZ (foldW ws (ps.take k)) ts (ps.getD k (0, 0)).1 = 0 := by
  have h2 : usableZ (foldW ws (ps.take k)) ts (ps.getD k (0, 0)).1 = 0 := by rw [(fold_usable (by omega) h).2.2, h1]
  exact ⟨by rw [storeW, if_pos h2, foldW_take ws ps k hk], by rw [storeT, if_pos h2], h2⟩
/-- what is seen of a place once all is stored -/
theorem fold_load {ws ts : List Int} {ps : List (Int × Int)} {k : Nat} (x : Int) (hk : k ≤ ps.length) (h : okTo ws ts ps k) :
    loadZ (foldW ws (ps.take k)) ts x = (newest (ps.take k) x).getD (loadZ ws ts x) ∧ ((newest (ps.take k) x).isSome = true → usableZ ws ts x = 0) := by
  induction k with
  | zero => exact ⟨by simp [foldW, newest], by simp [newest]⟩
  | succ k ih =>
    have ho : okTo ws ts ps k := fun j hj => h j (by omega)
    obtain ⟨h1, h2⟩ := ih (by omega) ho
    have hu := h k (by omega)
    have hu' : usableZ (foldW ws (ps.take k)) ts (ps.getD k (0, 0)).1 = 0 := by rw [(fold_usable (by omega) ho).2.2, hu]
    rw [foldW_take ws ps k (by omega), newest_take ps k x (by omega)]
    by_cases e : (ps.getD k (0, 0)).1 = x
    · rw [if_pos e, ← e]
      exact ⟨by rw [load_same hu']; rfl, fun _ => hu⟩
    · rw [if_neg e, load_set hu' (by omega)]
      exact ⟨h1, h2⟩
theorem fold_seen {ws ts : List Int} {ps : List (Int × Int)} (x : Int) (h : okTo ws ts ps ps.length) :
    loadZ (foldW ws ps) ts x = (newest ps x).getD (loadZ ws ts x) ∧ ((newest ps x).isSome = true → usableZ ws ts x = 0) ∧ usableZ (foldW ws ps) ts x = usableZ ws ts x ∧ mayB (foldW ws ps) ts = mayB ws ts ∧ (foldW ws ps).length = ws.length := by
  have h1 := fold_load x (Nat.le_refl _) h
  have h2 := fold_usable (Nat.le_refl _) h
  rw [List.take_length] at h1 h2
  exact ⟨h1.1, h1.2, h2.2.2 x, h2.1, h2.2.1⟩
end Go.Proofs.Ytnkhgofpdgnemaa
