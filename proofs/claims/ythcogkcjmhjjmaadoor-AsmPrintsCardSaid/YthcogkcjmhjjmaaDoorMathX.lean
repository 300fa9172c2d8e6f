/- What is printed of any code is read as that code. -/
import Derived.Test.YthcogkcjmhjjmaaDoorMathW
namespace Go.Proofs.YthcogkcjmhjjmaaDoor

def endT (ls : List Bs) : List (Bs × Bool) := ls.map fun l => (l, true)
theorem endT_app (l m : List Bs) : endT (l ++ m) = endT l ++ endT m := by simp [endT]
theorem rightC_at' {c : List Ins} (h : rightC c = true) : c.length ≤ 1000 ∧ ∀ i ∈ c, mayB i c.length = true := by
  simp only [rightC, Bool.and_eq_true, decide_eq_true_eq, List.all_eq_true] at h
  exact h
theorem lineOf_mem {c : List Ins} {k : Nat} {l : Bs} (h : l ∈ lineOf c k) : l = labL k ++ [58] ∨ ∃ i ∈ c, l = toldL i := by
  unfold lineOf at h
  rcases List.mem_append.1 h with h | h
  · split at h
    · exact .inl (by simpa using h)
    · cases h
  · split at h
    · rename_i i hi
      exact .inr ⟨i, List.mem_of_getElem? hi, by simpa using h⟩
    · cases h
theorem linesTo_mem {c : List Ins} {m : Nat} {l : Bs} (h : l ∈ linesTo c m) : ∃ k, k < m ∧ l ∈ lineOf c k := by
  simp only [linesTo, List.mem_flatMap, List.mem_range] at h
  exact h
theorem linesTo_not {c : List Ins} (h : rightC c = true) (m : Nat) : ∀ p ∈ linesTo c m, (10 : UInt8) ∉ p := by
  intro p hp
  obtain ⟨k, _, hl⟩ := linesTo_mem hp
  rcases lineOf_mem hl with rfl | ⟨i, hi, rfl⟩
  · exact labL_not k
  · exact (toldL_not (mayB_opnd ((rightC_at' h).2 i hi)).1).1
theorem linesTo_more (c : List Ins) (m : Nat) : ∀ d, ∃ r, linesTo c (m + d) = linesTo c m ++ r
  | 0 => ⟨[], by simp⟩
  | d + 1 => by
    obtain ⟨r, hr⟩ := linesTo_more c m d
    exact ⟨r ++ lineOf c (m + d), by rw [← Nat.add_assoc, linesTo_succ, hr, List.append_assoc]⟩
theorem told_no {c : List Ins} (h : rightC c = true) {i : Ins} (hi : i ∈ c) : labB (toldL i) = false := lab_no (toldL_not (mayB_opnd ((rightC_at' h).2 i hi)).1).2
theorem ahead_lines {c : List Ins} (h : rightC c = true) : ∀ m, m ≤ c.length → aheadL (endT (linesTo c m)) = m
  | 0, _ => rfl
  | m + 1, hm => by
    have ih := ahead_lines h m (by omega)
    obtain ⟨i, hi⟩ : ∃ i, c[m]? = some i := ⟨_, List.getElem?_eq_getElem (by omega)⟩
    have ht := told_no h (List.mem_of_getElem? hi)
    rw [linesTo_succ, endT_app, aheadL_app, ih]
    congr 1
    unfold lineOf
    rw [hi]
    split
    · simp [endT, aheadL, ht, (lab_yes (labL m)).1]
    · simp [endT, aheadL, ht]
theorem lab_none {c : List Ins} (h : rightC c = true) (k : Nat) : labAt (endT (linesTo c k)) (labL k) = none := by
  cases hl : labAt (endT (linesTo c k)) (labL k) with
  | none => rfl
  | some p =>
    exfalso
    obtain ⟨j, x, h1, h2, h3, _⟩ := labAt_mem hl
    have hx := List.mem_of_getElem? h1
    simp only [endT, List.mem_map] at hx
    obtain ⟨l, hl, rfl⟩ := hx
    obtain ⟨q, hq, hm⟩ := linesTo_mem hl
    rcases lineOf_mem hm with rfl | ⟨i, hi, rfl⟩
    · dsimp only at h3
      rw [(lab_yes _).2] at h3
      have := labL_inj h3
      omega
    · dsimp only at h2
      rw [told_no h hi] at h2; cases h2
theorem prt_at {c : List Ins} (h : rightC c = true) {k : Nat} (hk : k ≤ c.length) (ha : aimB c k = true) : labAt (endT (linesTo c (c.length + 1))) (labL k) = some (((linesTo c k).length : Int) + 1, (k : Int)) := by
  obtain ⟨r, hr⟩ := linesTo_more c (k + 1) (c.length - k)
  rw [show k + 1 + (c.length - k) = c.length + 1 by omega, linesTo_succ c k] at hr
  have he : lineOf c k = (labL k ++ [58]) :: (match c[k]? with | some i => [toldL i] | none => []) := by
    rw [lineOf, if_pos ha]; rfl
  have hn : nameB (labL k) = true := labL_name k (by have := (rightC_at' h).1; omega)
  rw [hr, he, List.append_assoc, endT_app, labAt_app, lab_none h, ahead_lines h k hk, Option.none_or]
  have hg : labAt (endT ((labL k ++ [58]) :: (match c[k]? with | some i => [toldL i] | none => []) ++ r)) (labL k) = some (((1 : Nat) : Int), ((0 : Nat) : Int)) := by
    rw [List.cons_append]
    show labAt.go ((labL k ++ [58], true) :: endT _) 0 0 (labL k) = _
    unfold labAt.go
    rw [if_pos (lab_yes _).1, if_pos ⟨(lab_yes _).2, rfl, hn⟩]
  rw [hg]
  simp only [Option.map_some, shP, endT, List.length_map]
  congr 1
  ext
  · simp; omega
  · simp
theorem lines_back {c : List Ins} (h : rightC c = true) (f : Bs → Option (Int × Int)) (hf : f = labAt (endT (linesTo c (c.length + 1)))) : ∀ m, m ≤ c.length + 1 → AllOk f (endT (linesTo c m)) ∧ codeOf f (endT (linesTo c m)) = c.take m
  | 0, _ => ⟨allOk_nil f, by simp [linesTo, endT, codeOf]⟩
  | m + 1, hm => by
    obtain ⟨h1, h2⟩ := lines_back h f hf m (by omega)
    obtain ⟨hc, hall⟩ := rightC_at' h
    have hlab : aimB c m = true → errL f (endT (linesTo c m)) (labL m ++ [58], true) = 0 := by
      intro ha
      have hl := prt_at h (by omega) ha
      have hn : nameB (labL m) = true := labL_name m (by omega)
      unfold errL
      rw [if_neg (by simp), if_pos (lab_yes _).1]
      unfold faultE
      rw [(lab_yes _).2, hn, if_neg (by simp), hf, hl]
      simp [endT]
    rw [linesTo_succ, endT_app]
    have key : ∃ pre, endT (linesTo c m) ++ endT (if aimB c m then [labL m ++ [58]] else []) = pre ∧ AllOk f pre ∧ codeOf f pre = c.take m ∧ (m < c.length → aheadL pre = m) := by
      refine ⟨_, rfl, ?_⟩
      by_cases ha : aimB c m = true
      · rw [if_pos ha]
        refine ⟨allOk_snoc h1 (hlab ha), ?_, fun hlt => ?_⟩
        · show codeOf f (endT (linesTo c m) ++ [(labL m ++ [58], true)]) = _
          rw [codeOf_snoc, if_pos (lab_yes _).1, h2, List.append_nil]
        · show aheadL (endT (linesTo c m) ++ [(labL m ++ [58], true)]) = _
          rw [aheadL_snoc, if_pos (lab_yes _).1, ahead_lines h m (by omega), Nat.add_zero]
      · rw [if_neg ha]
        refine ⟨?_, ?_, fun hlt => ?_⟩
        · simpa [endT] using h1
        · simpa [endT] using h2
        · simpa [endT] using ahead_lines h m (by omega)
    obtain ⟨pre, he, p1, p2, p3⟩ := key
    unfold lineOf
    rw [endT_app, ← List.append_assoc, he]
    cases hi : c[m]? with
    | none =>
      have : c.length ≤ m := List.getElem?_eq_none_iff.1 hi
      show AllOk f (pre ++ []) ∧ codeOf f (pre ++ []) = _
      rw [List.append_nil]
      exact ⟨p1, by rw [p2, List.take_of_length_le (by omega), List.take_of_length_le (by omega)]⟩
    | some i =>
      have hlt : m < c.length := (List.getElem?_eq_some_iff.1 hi).1
      have hm := List.mem_of_getElem? hi
      have hb := instr_back (f := f) hc (hall i hm) (fun v v1 v2 hv => by
        obtain ⟨k, rfl⟩ : ∃ k : Nat, v = k := ⟨v.toNat, by omega⟩
        have ha : aimB c k = true := by simp only [aimB, List.any_eq_true]; exact ⟨i, hm, hv⟩
        rw [hf]
        exact ⟨_, prt_at h (by omega) ha⟩)
      show AllOk f (pre ++ [(toldL i, true)]) ∧ codeOf f (pre ++ [(toldL i, true)]) = _
      refine ⟨allOk_snoc p1 ?_, ?_⟩
      · unfold errL
        rw [if_neg (by simp), told_no h hm, if_neg (by simp), hb, p3 hlt, if_neg (by omega)]
      · rw [codeOf_snoc, told_no h hm, if_neg (by simp), hb, p2, List.take_add_one, hi]
        rfl

theorem tellP_len {ch : Nat} {v : Int} {n : Nat} (hn : n ≤ 1000) (h : fitsK ch v n = true) : (tellP ch v).length ≤ 12 := by
  have hv : -1000000000 ≤ v ∧ v ≤ 1000000000 := by
    unfold fitsK at h
    split at h
    · rw [decide_eq_true_eq] at h; omega
    · split at h
      · rw [decide_eq_true_eq] at h; omega
      · rw [decide_eq_true_eq] at h; omega
  have := itoa_len v hv.1 hv.2
  unfold tellP
  split
  · simp; omega
  · split
    · omega
    · simp; omega
theorem tellTo_len {i : Ins} {n : Nat} (hn : n ≤ 1000) (h : mayB i n = true) : ∀ k, k ≤ (sgOf i).length → (tellTo i (sgOf i) k).length ≤ 13 * k
  | 0, _ => by simp [tellTo_zero]
  | k + 1, hk => by
    have ih := tellTo_len hn h k (by omega)
    obtain ⟨h0, hok⟩ := mayB_opnd h
    obtain ⟨s1, _⟩ := signs_ok i.1.toNat (by omega)
    have s1 : (sgOf i).length ≤ 3 := s1
    have h2 := hok k (by omega)
    rw [kOk, if_pos (by omega)] at h2
    have := tellP_len hn h2
    rw [tellTo_succ, List.length_append, List.length_cons]
    omega
theorem toldL_len {i : Ins} {n : Nat} (hn : n ≤ 1000) (h : mayB i n = true) : (toldL i).length ≤ 44 := by
  obtain ⟨h0, hok⟩ := mayB_opnd h
  obtain ⟨s1, _⟩ := signs_ok i.1.toNat (by omega)
  have s1 : (sgOf i).length ≤ 3 := s1
  have h1 := tellTo_len hn h (sgOf i).length (Nat.le_refl _)
  have h2 := (names_ok i.1.toNat (by omega)).2.2.2.2
  rw [toldL, List.length_append]
  omega
theorem endAll_app (l m : List Bs) : endAll (l ++ m) = endAll l ++ endAll m := by simp [endAll]
def insP (o : Option Ins) : Bs := match o with | some i => toldL i ++ [10] | none => []
def labP (c : List Ins) (m : Nat) : Bs := if aimB c m then labL m ++ [58, 10] else []
theorem printTo_succ (c : List Ins) (m : Nat) : printTo c (m + 1) = printTo c m ++ (labP c m ++ insP c[m]?) := by
  rw [printTo, linesTo_succ, endAll_app]
  congr 1
  unfold lineOf
  rw [endAll_app]
  congr 1
  · unfold labP; split <;> simp [endAll]
  · cases c[m]? <;> simp [endAll, insP]
theorem labP_len (c : List Ins) (m : Nat) (hm : m ≤ 100000) : (labP c m).length ≤ 13 := by
  have hl := (itoa_lenN m (by omega)).2
  unfold labP
  split
  · simp [labL]; omega
  · simp
theorem insP_len {c : List Ins} (h : rightC c = true) (m : Nat) : (insP c[m]?).length ≤ 45 := by
  obtain ⟨hc, hall⟩ := rightC_at' h
  cases hi : c[m]? with
  | none => simp [insP]
  | some i =>
    have := toldL_len hc (hall i (List.mem_of_getElem? hi))
    simp [insP]; omega
theorem printTo_len {c : List Ins} (h : rightC c = true) : ∀ m, m ≤ 100000 → (printTo c m).length ≤ 58 * m
  | 0, _ => by simp [printTo, linesTo, endAll]
  | m + 1, hm => by
    have ih := printTo_len h m (by omega)
    have a1 := labP_len c m (by omega)
    have a2 := insP_len h m
    rw [printTo_succ, List.length_append, List.length_append]
    omega
theorem print_back {c : List Ins} (h : rightC c = true) (h2 : c.length ≤ 200) : parseL (printL c) = (c, 0, 0) := by
  have hl := printTo_len h (c.length + 1) (by omega)
  have e : linesL (printL c) = endT (linesTo c (c.length + 1)) := lines_all (linesTo_not h _)
  obtain ⟨h3, h4⟩ := lines_back h _ rfl (c.length + 1) (Nat.le_refl _)
  unfold parseL
  rw [if_neg (by unfold printL; omega), e, parseOf_ok h3, h4, List.take_of_length_le (by omega)]
end Go.Proofs.YthcogkcjmhjjmaaDoor
