/- Picks among the places that count alone are the picks among all: plain mathematics. -/
import Derived.Test.YtmdkokhlfflokaaFlB
namespace Go.Proofs.Ytmdkokhlfflokaa.Fl
open Ieee
/-- the places that count, among the first ones -/
def plT (ws : List Nat) (n : Nat) : List Nat := (List.range n).filter fun j => cnt (ws.getD j 0)
theorem plT_succ (ws : List Nat) (n : Nat) : plT ws (n + 1) = plT ws n ++ (if cnt (ws.getD n 0) = true then [n] else []) := by
  rw [plT, List.range_succ, List.filter_append]
  congr 1
  by_cases h : cnt (ws.getD n 0) = true
  · rw [if_pos h]; simp only [List.filter_cons, h, if_true, List.filter_nil]
  · rw [if_neg h]; simp only [List.filter_cons, if_neg h, List.filter_nil]
theorem mem_plT {ws : List Nat} {n j : Nat} : j ∈ plT ws n ↔ j < n ∧ cnt (ws.getD j 0) = true := by
  rw [plT, List.mem_filter, List.mem_range]
theorem plT_le (ws : List Nat) (n : Nat) : (plT ws n).length ≤ n := by
  have := List.length_filter_le (fun j => cnt (ws.getD j 0)) (List.range n)
  rwa [List.length_range] at this
theorem plT_sorted (ws : List Nat) (n : Nat) : (plT ws n).Pairwise (· < ·) := List.Pairwise.filter _ List.pairwise_lt_range
theorem plT_lt {ws : List Nat} {n i j : Nat} (hi : i < (plT ws n).length) (hj : j < (plT ws n).length) (h : i < j) : (plT ws n)[i] < (plT ws n)[j] :=
  List.pairwise_iff_getElem.1 (plT_sorted ws n) i j hi hj h
theorem plT_none {ws : List Nat} : (plT ws ws.length).length = 0 ↔ someB ws = false := by
  constructor
  · intro h
    cases hs : someB ws with
    | false => rfl
    | true =>
      obtain ⟨k, -, L⟩ := leastTo_some (ps := []) hs
      have := mem_plT.2 ⟨L.lt, L.cn⟩
      rw [List.length_eq_zero_iff.1 h] at this; cases this
  · intro h
    apply Classical.byContradiction
    intro hn
    have h0 : 0 < (plT ws ws.length).length := by omega
    obtain ⟨h1, h2⟩ := mem_plT.1 (List.getElem_mem h0)
    rw [someB, List.any_eq_false] at h
    have := h _ (List.getElem_mem h1)
    rw [List.getD_eq_getElem?_getD, List.getElem?_eq_getElem h1, Option.getD_some] at h2
    exact this h2
/-- the passes of the places that count -/
def subF (ws ps : List Nat) : List Nat := (plT ws ws.length).map fun j => ps.getD j 0
theorem sub_len (ws ps : List Nat) : (subF ws ps).length = (plT ws ws.length).length := by rw [subF, List.length_map]
theorem sub_at {ws ps : List Nat} {i : Nat} (h : i < (plT ws ws.length).length) : (subF ws ps).getD i 0 = ps.getD (plT ws ws.length)[i] 0 := by
  rw [List.getD_eq_getElem?_getD, subF, List.getElem?_map, List.getElem?_eq_getElem h]; rfl
/-- the least of them is the place that is picked -/
theorem sub_pick {ws ps : List Nat} (hs : someB ws = true) : ∃ (h : leastL (subF ws ps) (plT ws ws.length).length < (plT ws ws.length).length), leastTo ws ps ws.length = some (plT ws ws.length)[leastL (subF ws ps) (plT ws ws.length).length] := by
  have h0 : 0 < (plT ws ws.length).length := by
    apply Classical.byContradiction
    intro hn
    have := plT_none.1 (show (plT ws ws.length).length = 0 by omega)
    rw [this] at hs; cases hs
  obtain ⟨h1, h2, h3⟩ := leastL_ok (subF ws ps) (plT ws ws.length).length h0
  refine ⟨h1, ?_⟩
  obtain ⟨k, hk, L⟩ := leastTo_some (ps := ps) hs
  obtain ⟨m1, m2⟩ := mem_plT.1 (List.getElem_mem h1)
  rw [hk]
  congr 1
  refine least_uniq L ⟨m1, m2, fun j hj hc => ?_, fun j hj hc => ?_⟩
  · obtain ⟨i, hi, e⟩ := List.getElem_of_mem (mem_plT.2 ⟨hj, hc⟩)
    have := h2 i hi
    rw [sub_at h1, sub_at hi, e] at this
    exact this
  · obtain ⟨i, hi, e⟩ := List.getElem_of_mem (mem_plT.2 ⟨show j < ws.length by omega, hc⟩)
    have hiq : i < leastL (subF ws ps) (plT ws ws.length).length := by
      apply Classical.byContradiction
      intro hn
      rcases Nat.lt_or_ge (leastL (subF ws ps) (plT ws ws.length).length) i with h | h
      · have := plT_lt h1 hi h; omega
      · have e2 : leastL (subF ws ps) (plT ws ws.length).length = i := by omega
        have : (plT ws ws.length)[leastL (subF ws ps) (plT ws ws.length).length] = (plT ws ws.length)[i] := by simp only [e2]
        omega
    have := h3 i hiq
    rw [sub_at h1, sub_at hi, e] at this
    exact this
/-- the passes behind a pick -/
theorem sub_pass {ws ps : List Nat} (hl : ps.length = ws.length) {q : Nat} (hq : q < (plT ws ws.length).length) :
    subF ws (passF ws ps (plT ws ws.length)[q]) = (subF ws ps).set q (addF ((subF ws ps).getD q 0) (invF (ws.getD (plT ws ws.length)[q] 0))) := by
  have hk : (plT ws ws.length)[q] < ps.length := by rw [hl]; exact (mem_plT.1 (List.getElem_mem hq)).1
  apply List.ext_getElem
  · rw [List.length_set, sub_len, sub_len]
  · intro i hi1 hi2
    have hi : i < (plT ws ws.length).length := by rw [sub_len] at hi1; exact hi1
    rw [List.getElem_set]
    have e1 : (subF ws (passF ws ps (plT ws ws.length)[q]))[i] = (passF ws ps (plT ws ws.length)[q]).getD (plT ws ws.length)[i] 0 := by simp [subF]
    have e2 : (subF ws ps)[i]'(by rw [sub_len]; exact hi) = ps.getD (plT ws ws.length)[i] 0 := by simp [subF]
    rw [e1, e2, passF, getD_setF _ _ _ _ hk, sub_at hq]
    by_cases e : q = i
    · subst e; rw [if_pos rfl, if_pos rfl]
    · rw [if_neg e, if_neg]
      intro h
      rcases Nat.lt_or_ge q i with h5 | h5
      · have := plT_lt hq hi h5; omega
      · have := plT_lt hi hq (by omega); omega
theorem sub_begin (ws : List Nat) : subF ws (List.replicate ws.length 0) = List.replicate (plT ws ws.length).length 0 := by
  apply List.ext_getElem
  · rw [sub_len, List.length_replicate]
  · intro i h1 h2
    rw [List.getElem_replicate]
    simp only [subF, List.getElem_map, List.getD_eq_getElem?_getD, List.getElem?_replicate]
    split <;> rfl
end Go.Proofs.Ytmdkokhlfflokaa.Fl
