/- Plain functions: the code that a text tells. -/
import Derived.Test.YthcogkcjmhjjmaaDoorMathM
namespace Go.Proofs.YthcogkcjmhjjmaaDoor

/-- why a label's line is not right -/
def faultE (f : Bs → Option (Int × Int)) (line : Bs) (n : Int) : Int := if nameB (nmL line) = false then 12 else if ((f (nmL line)).getD (0, 0)).1 = n then 0 else 11
/-- why a line is not right that comes behind these -/
def errL (f : Bs → Option (Int × Int)) (pre : List (Bs × Bool)) (x : Bs × Bool) : Int :=
  if x.2 = false then 12
  else if labB x.1 = true then faultE f x.1 ((pre.length : Int) + 1)
  else if (instrE f x.1).2 = 0 ∧ aheadL pre = 1000 then 2 else (instrE f x.1).2
def codeOf (f : Bs → Option (Int × Int)) (ls : List (Bs × Bool)) : List Ins := (ls.filter (fun x => !labB x.1)).map (fun x => (instrE f x.1).1)
theorem codeOf_len (f : Bs → Option (Int × Int)) (ls : List (Bs × Bool)) : (codeOf f ls).length = aheadL ls := by simp [codeOf, aheadL]
theorem codeOf_snoc (f : Bs → Option (Int × Int)) (ls : List (Bs × Bool)) (x : Bs × Bool) : codeOf f (ls ++ [x]) = codeOf f ls ++ (if labB x.1 then [] else [(instrE f x.1).1]) := by
  simp only [codeOf, List.filter_append, List.map_append]
  cases h : labB x.1 <;> simp [h]
def AllOk (f : Bs → Option (Int × Int)) (ls : List (Bs × Bool)) : Prop := ∀ i x, ls[i]? = some x → errL f (ls.take i) x = 0
theorem allOk_nil (f : Bs → Option (Int × Int)) : AllOk f [] := fun i x h => by simp at h
theorem allOk_snoc {f : Bs → Option (Int × Int)} {ls : List (Bs × Bool)} {x : Bs × Bool} (h : AllOk f ls) (hx : errL f ls x = 0) : AllOk f (ls ++ [x]) := by
  intro i y hi
  by_cases hl : i < ls.length
  · rw [List.getElem?_append_left hl] at hi
    rw [List.take_append_of_le_length (by omega)]
    exact h i y hi
  · have hi2 : i = ls.length := by
      have := (List.getElem?_eq_some_iff.1 hi).1
      simp at this; omega
    subst hi2
    simp at hi
    subst hi
    simpa using hx
/-- the code of a text, or its first line that is not right, and why -/
def parseOf (ls : List (Bs × Bool)) (f : Bs → Option (Int × Int)) : List Ins × Int × Int :=
  match (List.range ls.length).find? (fun i => decide (errL f (ls.take i) (ls.getD i ([], true)) ≠ 0)) with
  | some i => ([], (i : Int) + 1, errL f (ls.take i) (ls.getD i ([], true)))
  | none => (codeOf f ls, 0, 0)
def parseL (t : Bs) : List Ins × Int × Int := if 40000 < t.length then ([], 0, 2) else parseOf (linesL t) (labAt (linesL t))
theorem parseOf_ok {ls : List (Bs × Bool)} {f : Bs → Option (Int × Int)} (h : AllOk f ls) : parseOf ls f = (codeOf f ls, 0, 0) := by
  have : (List.range ls.length).find? (fun i => decide (errL f (ls.take i) (ls.getD i ([], true)) ≠ 0)) = none := by
    simp only [List.find?_eq_none, List.mem_range, decide_eq_true_eq]
    intro i hi q
    exact q (h i _ (by simp [hi]))
  rw [parseOf, this]
theorem parseOf_no {ls ini r : List (Bs × Bool)} {x : Bs × Bool} {f : Bs → Option (Int × Int)} (he : ls = ini ++ [x] ++ r) (h : AllOk f ini) (hx : errL f ini x ≠ 0) : parseOf ls f = ([], (ini.length : Int) + 1, errL f ini x) := by
  have e1 : ls.take ini.length = ini := by rw [he, List.append_assoc]; simp
  have e2 : ls.getD ini.length ([], true) = x := by rw [he]; simp
  have hl : ini.length < ls.length := by rw [he]; simp
  have : (List.range ls.length).find? (fun i => decide (errL f (ls.take i) (ls.getD i ([], true)) ≠ 0)) = some ini.length := by
    rw [List.find?_range_eq_some]
    refine ⟨by rw [e1, e2]; simpa using hx, by simpa using hl, fun j hj => ?_⟩
    have e3 : ls.getD j ([], true) = ini.getD j ([], true) := by rw [he, List.append_assoc, List.getD_eq_getElem?_getD, List.getD_eq_getElem?_getD, List.getElem?_append_left hj]
    have e4 : ls.take j = ini.take j := by rw [he, List.append_assoc, List.take_append_of_le_length (by omega)]
    rw [e3, e4]
    have := h j (ini.getD j ([], true)) (by simp [hj])
    simpa using this
  rw [parseOf, this]
  dsimp only
  rw [e1, e2]
end Go.Proofs.YthcogkcjmhjjmaaDoor
