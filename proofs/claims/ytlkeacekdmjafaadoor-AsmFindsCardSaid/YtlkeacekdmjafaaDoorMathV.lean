/- The document's own reading of a text: each line's fault. -/
import Derived.Test.YtlkeacekdmjafaaDoorAsS
import Derived.Test.YtlkeacekdmjafaaDoorMathU
namespace Go.Proofs.YtlkeacekdmjafaaDoor

theorem ends_len (ls : List Bs) : (ends ls).length = ls.length := by simp [ends]
theorem ends_snoc (ls : List Bs) (s : Bs) : ends (ls ++ [s]) = ends ls ++ [(s, true)] := by simp [ends]
theorem take_ends {ls : List Bs} {k : Nat} {s : Bs} (h : ls[k]? = some s) : ls.take (k + 1) = ls.take k ++ [s] := by rw [List.take_add_one, h]; rfl
theorem instr_R (ls : List Bs) (s : Bs) : instrE (labAt (ends ls)) s = instrG (opRn ls) (parts 32 s) := by
  rw [instrE_G]
  congr 1
  funext c p
  exact (opR_E ls c p).symm
theorem err_bad {f : Bs → Option (Int × Int)} {pre : List (Bs × Bool)} {s : Bs} (hl : labB s = true) (hn : nameB (nmL s) = false) : errL f pre (s, true) = 12 := by
  rw [errL, if_neg (by simp), if_pos hl, faultE, if_pos hn]
theorem err_old {ls : List Bs} {k j : Nat} {s : Bs} (hk : ls[k]? = some s) (hj : ls[j]? = some s) (hjk : j < k) (hl : labB s = true) (hn : nameB (nmL s) = true) : errL (labAt (ends ls)) (ends (ls.take k)) (s, true) = 11 := by
  have hkl := (List.getElem?_eq_some_iff.1 hk).1
  have h := first_old hj hjk hl hn
  rw [errL, if_neg (by simp), if_pos hl, faultE, if_neg (by rw [hn]; decide), ends_len, List.length_take, Nat.min_eq_left (by omega), if_neg h]
theorem err_new {ls : List Bs} {k : Nat} {s : Bs} (hk : ls[k]? = some s) (hj : ∀ j, j < k → ls[j]? ≠ some s) (hl : labB s = true) (hn : nameB (nmL s) = true) : errL (labAt (ends ls)) (ends (ls.take k)) (s, true) = 0 := by
  have hkl := (List.getElem?_eq_some_iff.1 hk).1
  have h := first_new hk hl hn hj
  rw [errL, if_neg (by simp), if_pos hl, faultE, if_neg (by rw [hn]; decide), ends_len, List.length_take, Nat.min_eq_left (by omega), if_pos h]
theorem err_ins {ls : List Bs} {pre : List (Bs × Bool)} {s : Bs} (hl : labB s = false) (hm : aheadL pre ≤ 1000) : errL (labAt (ends ls)) pre (s, true) = (capR (aheadL pre) (instrG (opRn ls) (parts 32 s))).2 := by
  rw [errL, if_neg (by simp), if_neg (by rw [hl]; decide), instr_R, capR]
  by_cases h : (instrG (opRn ls) (parts 32 s)).2 = 0 ∧ aheadL pre = 1000
  · rw [if_pos h, if_pos ⟨h.1, by omega⟩]
  · rw [if_neg h, if_neg (fun q => h ⟨q.1, by omega⟩)]
theorem cap_ok {m : Nat} {r : Ins × Int} (h : (capR m r).2 = 0) : capR m r = r ∧ m < 1000 ∧ r.2 = 0 := by
  unfold capR at h ⊢
  by_cases q : r.2 = 0 ∧ 1000 ≤ m
  · rw [if_pos q] at h; cases h
  · rw [if_neg q] at h ⊢
    exact ⟨rfl, by
      rcases Nat.lt_or_ge m 1000 with p | p
      · exact p
      · exact absurd ⟨h, p⟩ q, h⟩
/-- what the loop has read -/
structure Rd (ls : List Bs) (k m : Nat) (c : List Ins) : Prop where
  ok : AllOk (labAt (ends ls)) (ends (ls.take k))
  ahead : aheadL (ends (ls.take k)) = m
  code : codeOf (labAt (ends ls)) (ends (ls.take k)) = c
theorem rd_zero (ls : List Bs) : Rd ls 0 0 [] := ⟨by simpa [ends] using allOk_nil _, rfl, rfl⟩
theorem rd_label {ls : List Bs} {k m : Nat} {c : List Ins} {s : Bs} (h : Rd ls k m c) (hk : ls[k]? = some s) (hl : labB s = true) (he : errL (labAt (ends ls)) (ends (ls.take k)) (s, true) = 0) : Rd ls (k + 1) m c := by
  have e := take_ends hk
  refine ⟨?_, ?_, ?_⟩
  · rw [e, ends_snoc]; exact allOk_snoc h.ok he
  · rw [e, ends_snoc, aheadL_snoc, hl]; exact h.ahead
  · rw [e, ends_snoc, codeOf_snoc, hl]; simpa using h.code
theorem rd_ins {ls : List Bs} {k m : Nat} {c : List Ins} {s : Bs} {i : Ins} (h : Rd ls k m c) (hm : m ≤ 1000) (hk : ls[k]? = some s) (hl : labB s = false) (he : capR m (instrG (opRn ls) (parts 32 s)) = (i, 0)) : Rd ls (k + 1) (m + 1) (c ++ [i]) ∧ m + 1 ≤ 1000 := by
  have e := take_ends hk
  have h1 := cap_ok (m := m) (r := instrG (opRn ls) (parts 32 s)) (by rw [he])
  refine ⟨⟨?_, ?_, ?_⟩, by omega⟩
  · rw [e, ends_snoc]; exact allOk_snoc h.ok (by rw [err_ins hl (by rw [h.ahead]; exact hm), h.ahead, he])
  · rw [e, ends_snoc, aheadL_snoc, hl, h.ahead]; rfl
  · rw [e, ends_snoc, codeOf_snoc, hl, h.code, instr_R, ← h1.1, he]; rfl
theorem parse_is {t : Bs} {ls : List Bs} {z : Bs} (ht : t.length ≤ 40000) (h : parts 10 t = ls ++ [z]) : parseL t = parseOf (ends ls ++ (if z = [] then [] else [(z, false)])) (labAt (ends ls)) := by
  rw [parseL, if_neg (by omega), lines_parts h]
  congr 1
  funext nm
  exact lab_parts
theorem parse_stop {t : Bs} {ls : List Bs} {z s : Bs} {k m : Nat} {c : List Ins} {e : Int} (ht : t.length ≤ 40000) (h : parts 10 t = ls ++ [z]) (hr : Rd ls k m c) (hk : ls[k]? = some s) (he : errL (labAt (ends ls)) (ends (ls.take k)) (s, true) = e) (h0 : e ≠ 0) : parseL t = ([], (k : Int) + 1, e) := by
  have hkl := (List.getElem?_eq_some_iff.1 hk).1
  have h1 : ends ls ++ (if z = [] then [] else [(z, false)]) = ends (ls.take k) ++ [(s, true)] ++ (ends (ls.drop (k + 1)) ++ (if z = [] then [] else [(z, false)])) := by
    have h2 : ls = ls.take k ++ [s] ++ ls.drop (k + 1) := by rw [← take_ends hk]; exact (List.take_append_drop _ _).symm
    have h3 : ends ls = ends (ls.take k) ++ [(s, true)] ++ ends (ls.drop (k + 1)) := by
      have := congrArg ends h2
      simpa [ends] using this
    rw [h3]
    simp
  have h2 := parseOf_no h1 hr.ok (by rw [he]; exact h0)
  rw [parse_is ht h, h2, ends_len, List.length_take, Nat.min_eq_left (by omega), he]
theorem parse_last {t : Bs} {ls : List Bs} {z : Bs} {m : Nat} {c : List Ins} (ht : t.length ≤ 40000) (h : parts 10 t = ls ++ [z]) (hr : Rd ls ls.length m c) (hz : z ≠ []) : parseL t = ([], (ls.length : Int) + 1, 12) := by
  have h1 := hr.ok
  rw [List.take_length] at h1
  have he : errL (labAt (ends ls)) (ends ls) (z, false) = 12 := by rw [errL, if_pos rfl]
  have h2 := parseOf_no (r := []) (show ends ls ++ (if z = [] then [] else [(z, false)]) = ends ls ++ [(z, false)] ++ [] by rw [if_neg hz]; simp) h1 (by rw [he]; decide)
  rw [parse_is ht h, h2, ends_len, he]
theorem parse_all {t : Bs} {ls : List Bs} {m : Nat} {c : List Ins} (ht : t.length ≤ 40000) (h : parts 10 t = ls ++ [[]]) (hr : Rd ls ls.length m c) : parseL t = (c, 0, 0) ∧ c.length = m := by
  obtain ⟨h1, h2, h3⟩ := hr
  rw [List.take_length] at h1 h2 h3
  rw [parse_is ht h, if_pos rfl, List.append_nil, parseOf_ok h1, h3]
  refine ⟨rfl, ?_⟩
  rw [← h3, codeOf_len, h2]
end Go.Proofs.YtlkeacekdmjafaaDoor
