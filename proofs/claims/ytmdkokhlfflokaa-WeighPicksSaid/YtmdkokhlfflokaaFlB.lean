/- Picks by weights, in plain numbers: who is picked, and what follows. Nothing of the program is named. -/
import Derived.Test.YtmdkokhlfflokaaFlA
namespace Go.Proofs.Ytmdkokhlfflokaa.Fl
open Ieee
def one : Nat := 4607182418800017408
/-- does the weight count? -/
def cnt (x : Nat) : Bool := decide (0 < x ∧ x ≤ 9218868437227405312)
theorem cnt_ge {x : Nat} (h : cnt x = true) : ge0 x ∧ 0 < x := by
  simp only [cnt, decide_eq_true_eq] at h
  exact ⟨h.2, h.1⟩
def invF (x : Nat) : Nat := (double.div one x).getD 0
def addF (p r : Nat) : Nat := (double.add p r).getD 0
theorem inv_ok {x : Nat} (h : cnt x = true) : double.div one x = some (invF x) ∧ ge0 (invF x) := by
  obtain ⟨r, h1, h2⟩ := div_ge (cnt_ge h).1 (cnt_ge h).2
  have e : double.div one x = some r := h1
  rw [invF, e]; exact ⟨rfl, h2⟩
theorem add_ok {p r : Nat} (hp : ge0 p) (hr : ge0 r) : double.add p r = some (addF p r) ∧ ge0 (addF p r) ∧ p ≤ addF p r := by
  obtain ⟨s, h1, h2, h3, -⟩ := add_ge hp hr
  rw [addF, h1]; exact ⟨rfl, h2, h3⟩
/-- of numbers that are not below 0 the less one comes ahead -/
theorem less_ge {x y : Nat} (hx : ge0 x) (hy : ge0 y) : lessF x y = decide (x < y) := by
  obtain ⟨x1, x2, x3⟩ := ge0_rung hx
  obtain ⟨y1, y2, y3⟩ := ge0_rung hy
  unfold lessF K
  rw [x1, x2, x3, y1, y2, y3]
  simp only [Bool.false_eq_true, if_false]
  rw [decide_eq_decide]; omega
theorem gt_ge {x y : Nat} (hx : ge0 x) (hy : ge0 y) : (double.order x y == some .gt) = decide (y < x) := by
  obtain ⟨x1, x2, x3⟩ := ge0_rung hx
  obtain ⟨y1, y2, y3⟩ := ge0_rung hy
  rw [gt_of, x3, y3]
  unfold S sv
  rw [x1, x2, y1, y2]
  simp only [Bool.false_eq_true, if_false, Bool.not_false, Bool.true_and]
  rw [decide_eq_decide]; omega
/-- the place picked so far, and one more looked at -/
def pickF (ws ps : List Nat) (k : Option Nat) (j : Nat) : Option Nat :=
  match k with
  | none => if cnt (ws.getD j 0) = true then some j else none
  | some i => if cnt (ws.getD j 0) = true ∧ lessF (ps.getD j 0) (ps.getD i 0) = true then some j else some i
def leastTo (ws ps : List Nat) (n : Nat) : Option Nat := (List.range n).foldl (pickF ws ps) none
theorem leastTo_succ (ws ps : List Nat) (n : Nat) : leastTo ws ps (n + 1) = pickF ws ps (leastTo ws ps n) n := by
  rw [leastTo, List.range_succ, List.foldl_append]; rfl
/-- the first place of the least pass among those that count -/
structure Least (ws ps : List Nat) (n k : Nat) : Prop where
  lt : k < n
  cn : cnt (ws.getD k 0) = true
  le : ∀ j, j < n → cnt (ws.getD j 0) = true → K (ps.getD k 0) ≤ K (ps.getD j 0)
  fst : ∀ j, j < k → cnt (ws.getD j 0) = true → K (ps.getD k 0) < K (ps.getD j 0)
theorem leastTo_ok (ws ps : List Nat) : ∀ n, (leastTo ws ps n = none ∧ ∀ j, j < n → cnt (ws.getD j 0) = false) ∨ ∃ k, leastTo ws ps n = some k ∧ Least ws ps n k
  | 0 => .inl ⟨rfl, fun j h => by omega⟩
  | n + 1 => by
    rw [leastTo_succ]
    rcases leastTo_ok ws ps n with ⟨e, h⟩ | ⟨k, e, h⟩
    · rw [e, pickF]
      by_cases hc : cnt (ws.getD n 0) = true
      · rw [if_pos hc]
        refine .inr ⟨n, rfl, by omega, hc, fun j hj hj2 => ?_, fun j hj hj2 => ?_⟩
        · by_cases ej : j = n
          · subst ej; exact Int.le_refl _
          · rw [h j (by omega)] at hj2; cases hj2
        · rw [h j hj] at hj2; cases hj2
      · rw [if_neg hc]
        refine .inl ⟨rfl, fun j hj => ?_⟩
        by_cases ej : j = n
        · subst ej; simpa using hc
        · exact h j (by omega)
    · rw [e, pickF]
      by_cases hc : cnt (ws.getD n 0) = true ∧ lessF (ps.getD n 0) (ps.getD k 0) = true
      · rw [if_pos hc]
        have hl : K (ps.getD n 0) < K (ps.getD k 0) := by have := hc.2; simpa [lessF] using this
        refine .inr ⟨n, rfl, by omega, hc.1, fun j hj hj2 => ?_, fun j hj hj2 => ?_⟩
        · by_cases ej : j = n
          · subst ej; exact Int.le_refl _
          · have := h.le j (by omega) hj2; omega
        · have := h.le j (by omega) hj2; omega
      · rw [if_neg hc]
        refine .inr ⟨k, rfl, by have := h.lt; omega, h.cn, fun j hj hj2 => ?_, h.fst⟩
        by_cases ej : j = n
        · subst ej
          have : ¬ lessF (ps.getD j 0) (ps.getD k 0) = true := fun hl => hc ⟨hj2, hl⟩
          simp only [lessF, decide_eq_true_eq] at this
          omega
        · exact h.le j (by omega) hj2
theorem least_uniq {ws ps : List Nat} {n k l : Nat} (h1 : Least ws ps n k) (h2 : Least ws ps n l) : k = l := by
  rcases Nat.lt_trichotomy k l with h | h | h
  · have a := h2.fst k h h1.cn; have b := h1.le l h2.lt h2.cn; omega
  · exact h
  · have a := h1.fst l h h2.cn; have b := h2.le k h1.lt h1.cn; omega
def someB (ws : List Nat) : Bool := ws.any cnt
theorem leastTo_some {ws ps : List Nat} (h : someB ws = true) : ∃ k, leastTo ws ps ws.length = some k ∧ Least ws ps ws.length k := by
  rcases leastTo_ok ws ps ws.length with ⟨-, h2⟩ | h2
  · rw [someB, List.any_eq_true] at h
    obtain ⟨x, hx, hc⟩ := h
    obtain ⟨j, hj, rfl⟩ := List.mem_iff_getElem.1 hx
    have := h2 j hj
    rw [List.getD_eq_getElem?_getD, List.getElem?_eq_getElem hj, Option.getD_some] at this
    rw [this] at hc; cases hc
  · exact h2
/-- the passes behind a pick -/
def passF (ws ps : List Nat) (k : Nat) : List Nat := ps.set k (addF (ps.getD k 0) (invF (ws.getD k 0)))
/-- so many picks, and the passes behind them -/
def picksF (ws : List Nat) : Nat → List Nat × List Nat
  | 0 => ([], List.replicate ws.length 0)
  | n + 1 => match leastTo ws (picksF ws n).2 ws.length with
    | none => picksF ws n
    | some k => ((picksF ws n).1 ++ [k], passF ws (picksF ws n).2 k)
/-- passes are not below 0 -/
structure PassOk (ws ps : List Nat) : Prop where
  len : ps.length = ws.length
  ge : ∀ j, j < ps.length → ge0 (ps.getD j 0)
theorem getD_setF (l : List Nat) (k j x : Nat) (hk : k < l.length) : (l.set k x).getD j 0 = if j = k then x else l.getD j 0 := by
  rw [List.getD_eq_getElem?_getD, List.getElem?_set, List.getD_eq_getElem?_getD]
  by_cases e : k = j
  · subst e; rw [if_pos rfl, if_pos hk, if_pos rfl]; rfl
  · rw [if_neg e, if_neg (fun h => e h.symm)]
theorem pass_begin (ws : List Nat) : PassOk ws (List.replicate ws.length 0) :=
  ⟨by simp, fun j hj => by
    rw [List.length_replicate] at hj
    rw [List.getD_eq_getElem?_getD, List.getElem?_replicate, if_pos hj]; exact Nat.zero_le _⟩
theorem pass_next {ws ps : List Nat} {k : Nat} (P : PassOk ws ps) (hk : k < ws.length) (hc : cnt (ws.getD k 0) = true) : PassOk ws (passF ws ps k) ∧ ∀ j, ps.getD j 0 ≤ (passF ws ps k).getD j 0 := by
  have hk2 : k < ps.length := by rw [P.len]; exact hk
  obtain ⟨-, h2, h3⟩ := add_ok (P.ge k hk2) (inv_ok hc).2
  refine ⟨⟨by rw [passF, List.length_set]; exact P.len, fun j hj => ?_⟩, fun j => ?_⟩
  · rw [passF, getD_setF _ _ _ _ hk2]
    split
    · exact h2
    · rw [passF, List.length_set] at hj; exact P.ge j hj
  · rw [passF, getD_setF _ _ _ _ hk2]
    split
    · rename_i e; subst e; exact h3
    · exact Nat.le_refl _
theorem picks_pass {ws : List Nat} (hs : someB ws = true) : ∀ n, PassOk ws (picksF ws n).2 ∧ (picksF ws n).1.length = n
  | 0 => ⟨pass_begin ws, rfl⟩
  | n + 1 => by
    obtain ⟨h1, h2⟩ := picks_pass hs n
    obtain ⟨k, e, L⟩ := leastTo_some (ps := (picksF ws n).2) hs
    rw [picksF, e]
    exact ⟨(pass_next h1 L.lt L.cn).1, by simp [h2]⟩
/-- the passes just ahead of each place's last pick, told from the picks alone -/
def befF (ws : List Nat) (st : List Nat × List Nat) (k : Nat) : List Nat × List Nat := (st.1.set k (st.2.getD k 0), passF ws st.2 k)
def beforeF (ws l : List Nat) : List Nat × List Nat := l.foldl (befF ws) (List.replicate ws.length 0, List.replicate ws.length 0)
theorem before_snoc (ws l : List Nat) (k : Nat) : beforeF ws (l ++ [k]) = befF ws (beforeF ws l) k := by
  rw [beforeF, List.foldl_append]; rfl
/-- who is picked for the last time had then no greater pass than anybody who counts has in the end -/
theorem fair {ws : List Nat} (hs : someB ws = true) : ∀ n, (beforeF ws (picksF ws n).1).2 = (picksF ws n).2 ∧ (beforeF ws (picksF ws n).1).1.length = ws.length ∧ (∀ k ∈ (picksF ws n).1, k < ws.length ∧ cnt (ws.getD k 0) = true) ∧
    ∀ i j, j < ws.length → cnt (ws.getD j 0) = true → (beforeF ws (picksF ws n).1).1.getD i 0 ≤ (picksF ws n).2.getD j 0
  | 0 => by
    refine ⟨rfl, by simp [beforeF, picksF], fun k hk => (by cases hk), fun i j hj _ => ?_⟩
    show (List.replicate ws.length 0).getD i 0 ≤ _
    rw [List.getD_eq_getElem?_getD, List.getElem?_replicate]
    split <;> exact Nat.zero_le _
  | n + 1 => by
    obtain ⟨h1, h2, h3, h4⟩ := fair hs n
    obtain ⟨P, -⟩ := picks_pass hs n
    obtain ⟨k, e, L⟩ := leastTo_some (ps := (picksF ws n).2) hs
    have hp : picksF ws (n + 1) = ((picksF ws n).1 ++ [k], passF ws (picksF ws n).2 k) := by rw [picksF, e]
    obtain ⟨-, hup⟩ := pass_next P L.lt L.cn
    rw [hp]
    dsimp only
    rw [before_snoc, befF, h1]
    refine ⟨rfl, by rw [List.length_set]; exact h2, fun x hx => ?_, fun i j hj hc => ?_⟩
    · rcases List.mem_append.1 hx with hx | hx
      · exact h3 x hx
      · rw [List.mem_singleton] at hx; subst hx; exact ⟨L.lt, L.cn⟩
    · rw [getD_setF _ _ _ _ (by rw [h2]; exact L.lt)]
      refine Nat.le_trans ?_ (hup j)
      split
      · have a := L.le j hj hc
        have gk := ge0_rung (P.ge k (by rw [P.len]; exact L.lt))
        have gj := ge0_rung (P.ge j (by rw [P.len]; exact hj))
        unfold K at a
        rw [gk.1, gk.2.1, gk.2.2, gj.1, gj.2.1, gj.2.2] at a
        simp only [Bool.false_eq_true, if_false] at a
        omega
      · exact h4 i j hj hc
/-- the place of the least number, the first of them -/
def leastL (l : List Nat) : Nat → Nat
  | 0 => 0
  | n + 1 => if lessF (l.getD n 0) (l.getD (leastL l n) 0) = true then n else leastL l n
theorem leastL_ok (l : List Nat) : ∀ n, 0 < n → leastL l n < n ∧ (∀ j, j < n → K (l.getD (leastL l n) 0) ≤ K (l.getD j 0)) ∧ ∀ j, j < leastL l n → K (l.getD (leastL l n) 0) < K (l.getD j 0)
  | 0, h => by omega
  | 1, _ => by
    have e : leastL l 1 = 0 := by rw [leastL]; split <;> rfl
    rw [e]
    exact ⟨by omega, fun j hj => by obtain rfl : j = 0 := by omega
                                    exact Int.le_refl _, fun j hj => by omega⟩
  | n + 2, _ => by
    obtain ⟨h1, h2, h3⟩ := leastL_ok l (n + 1) (by omega)
    rw [leastL]
    split
    · rename_i h
      have h : K (l.getD (n + 1) 0) < K (l.getD (leastL l (n + 1)) 0) := by simpa [lessF] using h
      refine ⟨by omega, fun j hj => ?_, fun j hj => ?_⟩
      · by_cases e : j = n + 1
        · subst e; exact Int.le_refl _
        · have := h2 j (by omega); omega
      · have := h2 j hj; omega
    · rename_i h
      have h : ¬ K (l.getD (n + 1) 0) < K (l.getD (leastL l (n + 1)) 0) := by simpa [lessF] using h
      refine ⟨by omega, fun j hj => ?_, h3⟩
      by_cases e : j = n + 1
      · subst e; omega
      · exact h2 j (by omega)
end Go.Proofs.Ytmdkokhlfflokaa.Fl
