/- Plain mathematics: two texts one behind the other. -/
import Derived.Test.YthcogkcjmhjjmaaDoorMathN
namespace Go.Proofs.YthcogkcjmhjjmaaDoor

theorem parseOf_cases (ls : List (Bs × Bool)) (f : Bs → Option (Int × Int)) : (AllOk f ls ∧ parseOf ls f = (codeOf f ls, 0, 0)) ∨ ∃ i x, ls[i]? = some x ∧ errL f (ls.take i) x ≠ 0 ∧ parseOf ls f = ([], (i : Int) + 1, errL f (ls.take i) x) := by
  cases h : (List.range ls.length).find? (fun i => decide (errL f (ls.take i) (ls.getD i ([], true)) ≠ 0)) with
  | none =>
    left
    refine ⟨fun i x hi => ?_, by rw [parseOf, h]⟩
    simp only [List.find?_eq_none, List.mem_range, decide_eq_true_eq] at h
    have hl := (List.getElem?_eq_some_iff.1 hi).1
    have := h i hl
    rw [show ls.getD i ([], true) = x by simp [hi]] at this
    exact Classical.not_not.1 this
  | some i =>
    right
    have h1 := List.mem_of_find?_eq_some h
    have h2 := List.find?_some h
    rw [decide_eq_true_eq] at h2
    have hl : i < ls.length := by simpa using h1
    refine ⟨i, ls.getD i ([], true), by simp [hl], h2, by rw [parseOf, h]⟩
theorem index_app (c : UInt8) : ∀ (l m : Bs) (i : Nat), Lib.index l [c] = i → Lib.index (l ++ m) [c] = i
  | [], m, i, h => by simp [Lib.index] at h
  | b :: l, m, i, h => by
    rw [Lib.index] at h
    rw [List.cons_append, Lib.index]
    have e : List.isPrefixOf [c] (b :: (l ++ m)) = List.isPrefixOf [c] (b :: l) := by simp [List.isPrefixOf]
    rw [e]
    by_cases hp : List.isPrefixOf [c] (b :: l) = true
    · rw [if_pos hp] at h ⊢; exact h
    · rw [if_neg hp] at h ⊢
      by_cases hq : (Lib.index l [c] == -1) = true
      · rw [if_pos hq] at h; omega
      · rw [if_neg hq] at h
        obtain ⟨j, hj⟩ : ∃ j : Nat, Lib.index l [c] = j := ⟨(Lib.index l [c]).toNat, by have := Lib.index_ge l [c]; simp at hq; omega⟩
        rw [index_app c l m j hj]
        rw [hj] at h
        have e2 : ((j : Int) == -1) = false := by simp
        rw [e2]
        exact h
theorem lines_join (t : Bs) : ∀ (n : Nat) (s : Bs), s.length ≤ n → (∀ x ∈ linesL s, x.2 = true) → linesL (s ++ t) = linesL s ++ linesL t
  | _, [], _, _ => by rw [linesL_nil]; rfl
  | 0, _ :: _, h, _ => by simp at h
  | n + 1, b :: r, h, he => by
    have hne : b :: r ≠ [] := by simp
    have hst := linesL_step hne
    have hlen := (cut_short (b :: r)).2 hne
    rcases parts_split 10 (b :: r) with ⟨h1, _, _⟩ | ⟨i, h1, h2, _, _⟩
    · have e : Lib.cut (b :: r) [10] = (b :: r, [], false) := by rw [Lib.cut, h1, if_neg (by omega)]
      rw [e] at hst
      have := he _ (by rw [hst]; exact List.mem_cons_self)
      cases this
    · have e : Lib.cut (b :: r) [10] = ((b :: r).take i, (b :: r).drop (i + 1), true) := by
        rw [Lib.cut, h1, if_pos (by omega)]; simp
      have e2 : Lib.cut ((b :: r) ++ t) [10] = ((b :: r).take i, (b :: r).drop (i + 1) ++ t, true) := by
        have h3 := index_app 10 (b :: r) t i h1
        rw [Lib.cut, h3, if_pos (by omega)]
        simp only [Int.toNat_natCast, List.length_cons, List.length_nil, Nat.zero_add]
        rw [List.take_append_of_le_length (by omega), List.drop_append_of_le_length (by omega)]
      rw [e] at hst hlen
      rw [linesL_step (by simp), e2, hst]
      dsimp only at hst hlen ⊢
      rw [lines_join t n ((b :: r).drop (i + 1)) (by omega) (fun x hx => he x (by rw [hst]; exact List.mem_cons_of_mem _ hx))]
      rfl

theorem aheadL_app (l m : List (Bs × Bool)) : aheadL (l ++ m) = aheadL l + aheadL m := by simp [aheadL]
theorem codeOf_app (f : Bs → Option (Int × Int)) (l m : List (Bs × Bool)) : codeOf f (l ++ m) = codeOf f l ++ codeOf f m := by simp [codeOf]
def shP (d k : Nat) (p : Int × Int) : Int × Int := (p.1 + d, p.2 + k)
theorem go_shift (nm : Bs) (d e : Nat) : ∀ (m : List (Bs × Bool)) (n k : Nat), labAt.go m (n + d) (k + e) nm = (labAt.go m n k nm).map (shP d e)
  | [], _, _ => rfl
  | x :: r, n, k => by
    simp only [labAt.go]
    by_cases h : labB x.1 = true
    · rw [if_pos h, if_pos h]
      by_cases h2 : nmL x.1 = nm ∧ x.2 = true ∧ nameB nm = true
      · rw [if_pos h2, if_pos h2]
        simp only [Option.map_some, shP, Option.some.injEq, Prod.mk.injEq]
        omega
      · rw [if_neg h2, if_neg h2, show n + d + 1 = n + 1 + d by omega]
        exact go_shift nm d e r (n + 1) k
    · rw [if_neg h, if_neg h, show n + d + 1 = n + 1 + d by omega, show k + e + 1 = k + 1 + e by omega]
      exact go_shift nm d e r (n + 1) (k + 1)
theorem go_app (nm : Bs) : ∀ (l m : List (Bs × Bool)) (n k : Nat), labAt.go (l ++ m) n k nm = (labAt.go l n k nm).or (labAt.go m (n + l.length) (k + aheadL l) nm)
  | [], m, n, k => by simp [labAt.go, aheadL]
  | x :: r, m, n, k => by
    rw [List.cons_append]
    simp only [labAt.go]
    by_cases h : labB x.1 = true
    · rw [if_pos h, if_pos h]
      have e : aheadL (x :: r) = aheadL r := by simp [aheadL, h]
      by_cases h2 : nmL x.1 = nm ∧ x.2 = true ∧ nameB nm = true
      · rw [if_pos h2, if_pos h2]; rfl
      · rw [if_neg h2, if_neg h2, go_app nm r m (n + 1) k, e, List.length_cons, show n + 1 + r.length = n + (r.length + 1) by omega]
    · rw [if_neg h, if_neg h]
      have e : aheadL (x :: r) = aheadL r + 1 := by simp [aheadL, h]
      rw [go_app nm r m (n + 1) (k + 1), e, List.length_cons, show n + 1 + r.length = n + (r.length + 1) by omega, show k + 1 + aheadL r = k + (aheadL r + 1) by omega]
theorem labAt_app (l m : List (Bs × Bool)) (nm : Bs) : labAt (l ++ m) nm = (labAt l nm).or ((labAt m nm).map (shP l.length (aheadL l))) := by
  rw [labAt, go_app, show labAt.go m (0 + l.length) (0 + aheadL l) nm = (labAt.go m 0 0 nm).map (shP l.length (aheadL l)) from go_shift nm l.length (aheadL l) m 0 0]
  rfl
/-- what is told of a label is one of its lines -/
theorem go_mem (nm : Bs) : ∀ (l : List (Bs × Bool)) (n k : Nat) (p : Int × Int), labAt.go l n k nm = some p → ∃ (j : Nat) (x : Bs × Bool), l[j]? = some x ∧ labB x.1 = true ∧ nmL x.1 = nm ∧ p.1 = (n : Int) + j + 1
  | [], _, _, _, h => by cases h
  | x :: r, n, k, p, h => by
    simp only [labAt.go] at h
    by_cases hl : labB x.1 = true
    · rw [if_pos hl] at h
      by_cases h2 : nmL x.1 = nm ∧ x.2 = true ∧ nameB nm = true
      · rw [if_pos h2] at h
        injection h with h
        subst h
        exact ⟨0, x, rfl, hl, h2.1, by simp⟩
      · rw [if_neg h2] at h
        obtain ⟨j, y, h3, h4, h5, h6⟩ := go_mem nm r (n + 1) k p h
        exact ⟨j + 1, y, h3, h4, h5, by omega⟩
    · rw [if_neg hl] at h
      obtain ⟨j, y, h3, h4, h5, h6⟩ := go_mem nm r (n + 1) (k + 1) p h
      exact ⟨j + 1, y, h3, h4, h5, by omega⟩
theorem labAt_mem {l : List (Bs × Bool)} {nm : Bs} {p : Int × Int} (h : labAt l nm = some p) : ∃ (j : Nat) (x : Bs × Bool), l[j]? = some x ∧ labB x.1 = true ∧ nmL x.1 = nm ∧ p.1 = (j : Int) + 1 := by
  obtain ⟨j, x, h1, h2, h3, h4⟩ := go_mem nm l 0 0 p h
  exact ⟨j, x, h1, h2, h3, by simpa using h4⟩

/-- what an instruction that is read says of its line -/
structure Read (f : Bs → Option (Int × Int)) (l : Bs) (k : Nat) : Prop where
  op : opOf ((parts 32 l).getD 0 []) = some k
  len : (parts 32 l).length - 1 = (opSign.getD k []).length
  ok : ∀ i, i < (opSign.getD k []).length → errAt f (opSign.getD k []) ((parts 32 l).drop 1) i = 0
theorem read_of {f : Bs → Option (Int × Int)} {l : Bs} (h : (instrE f l).2 = 0) : ∃ k, Read f l k := by
  unfold instrE at h
  split at h
  · cases h
  · rename_i k hk
    split at h
    · cases h
    · rename_i hl
      refine ⟨k, hk, Classical.not_not.1 hl, fun i hi => ?_⟩
      split at h
      · rename_i j hj
        exfalso
        have := List.find?_some hj
        rw [decide_eq_true_eq] at this
        exact this h
      · rename_i hn
        simp only [firstErr, List.find?_eq_none, List.mem_range, decide_eq_true_eq] at hn
        exact Classical.not_not.1 (hn i hi)
theorem instr_read {f : Bs → Option (Int × Int)} {l : Bs} {k : Nat} (h : Read f l k) :
    instrE f l = (((k : Int), valAt f (opSign.getD k []) ((parts 32 l).drop 1) 0, valAt f (opSign.getD k []) ((parts 32 l).drop 1) 1, valAt f (opSign.getD k []) ((parts 32 l).drop 1) 2), 0) := by
  simp only [instrE, h.op]
  rw [if_neg (fun q => q h.len), firstErr_none h.ok]
theorem opnd_more {f f' : Bs → Option (Int × Int)} (hf : ∀ nm p, f nm = some p → ∃ p', f' nm = some p') {c : Nat} {p : Bs} (h : (opndE f c p).2 = 0) : (opndE f' c p).2 = 0 := by
  unfold opndE at h ⊢
  split
  · rename_i q; rw [if_pos q] at h; exact h
  · rename_i q
    rw [if_neg q] at h
    split
    · rename_i q2; rw [if_pos q2] at h; exact h
    · rename_i q2
      rw [if_neg q2] at h
      unfold targE at h ⊢
      split
      · rename_i q3; rw [if_pos q3] at h; exact h
      · rename_i q3
        rw [if_neg q3] at h
        cases hp : f p with
        | none => rw [hp] at h; cases h
        | some r =>
          obtain ⟨r', hr'⟩ := hf p r hp
          rw [hr']
theorem read_more {f f' : Bs → Option (Int × Int)} (hf : ∀ nm p, f nm = some p → ∃ p', f' nm = some p') {l : Bs} {k : Nat} (h : Read f l k) : Read f' l k :=
  ⟨h.op, h.len, fun i hi => opnd_more hf (h.ok i hi)⟩
theorem opnd_same {f f' : Bs → Option (Int × Int)} (d : Int) (hf : ∀ nm p, f nm = some p → ∃ q, f' nm = some (q, p.2 + d)) {c : Nat} {p : Bs} (h : (opndE f c p).2 = 0) (hc : c = 114 ∨ c = 110 ∨ c = 116) :
    (opndE f' c p).1 = (opndE f c p).1 + (if c = 116 then d else 0) := by
  rcases hc with rfl | rfl | rfl
  · simp [opndE]
  · simp [opndE]
  · simp only [opndE] at h ⊢
    simp only [show ¬ ((116 : Nat) = 114) by decide, show ¬ ((116 : Nat) = 110) by decide, if_false, if_true] at h ⊢
    unfold targE at h ⊢
    by_cases q3 : nameB p = false
    · rw [if_pos q3] at h; cases h
    · rw [if_neg q3] at h ⊢
      rw [if_neg q3]
      cases hp : f p with
      | none => rw [hp] at h; cases h
      | some r =>
        obtain ⟨r', hr'⟩ := hf p r hp
        rw [hr']
/-- an instruction with its target moved -/
def shI (d : Int) (i : Ins) : Ins := (i.1, if i.1 = 10 ∨ i.1 = 13 then i.2.1 + d else i.2.1, if i.1 = 11 ∨ i.1 = 12 then i.2.2.1 + d else i.2.2.1, i.2.2.2)
theorem signs_at : ∀ k, k < 27 → ((0 < (opSign.getD k []).length ∧ ((opSign.getD k []).getD 0 0).toNat = 116) ↔ (k = 10 ∨ k = 13)) ∧ ((1 < (opSign.getD k []).length ∧ ((opSign.getD k []).getD 1 0).toNat = 116) ↔ (k = 11 ∨ k = 12)) ∧ ¬ (2 < (opSign.getD k []).length ∧ ((opSign.getD k []).getD 2 0).toNat = 116) := by
  have h : (List.range 27).all (fun k => decide ((((0 < (opSign.getD k []).length ∧ ((opSign.getD k []).getD 0 0).toNat = 116) ↔ (k = 10 ∨ k = 13)) ∧ ((1 < (opSign.getD k []).length ∧ ((opSign.getD k []).getD 1 0).toNat = 116) ↔ (k = 11 ∨ k = 12)) ∧ ¬ (2 < (opSign.getD k []).length ∧ ((opSign.getD k []).getD 2 0).toNat = 116)))) = true := by decide
  intro k hk
  rw [List.all_eq_true] at h
  have := h k (List.mem_range.2 hk)
  rwa [decide_eq_true_eq] at this
theorem val_sh {f f' : Bs → Option (Int × Int)} (d : Int) (hf : ∀ nm p, f nm = some p → ∃ q, f' nm = some (q, p.2 + d)) {l : Bs} {k : Nat} (h : Read f l k) (i : Nat) :
    valAt f' (opSign.getD k []) ((parts 32 l).drop 1) i = valAt f (opSign.getD k []) ((parts 32 l).drop 1) i + (if i < (opSign.getD k []).length ∧ ((opSign.getD k []).getD i 0).toNat = 116 then d else 0) := by
  unfold valAt
  by_cases hi : i < (opSign.getD k []).length
  · rw [if_pos hi, if_pos hi]
    have := opnd_same d hf (h.ok i hi) ((signs_ok k (opOf_lt h.op).1).2 i hi)
    rw [this]
    by_cases hc : ((opSign.getD k []).getD i 0).toNat = 116
    · rw [if_pos hc, if_pos ⟨hi, hc⟩]
    · rw [if_neg hc, if_neg (fun q => hc q.2)]
  · rw [if_neg hi, if_neg hi, if_neg (fun q => hi q.1)]
    omega
theorem instr_sh {f f' : Bs → Option (Int × Int)} (d : Int) (hf : ∀ nm p, f nm = some p → ∃ q, f' nm = some (q, p.2 + d)) {l : Bs} (h : (instrE f l).2 = 0) : instrE f' l = (shI d (instrE f l).1, 0) := by
  obtain ⟨k, hk⟩ := read_of h
  have hk' : Read f' l k := read_more (fun nm p q => by obtain ⟨r, e⟩ := hf nm p q; exact ⟨_, e⟩) hk
  obtain ⟨s1, s2, s3⟩ := signs_at k (opOf_lt hk.op).1
  rw [instr_read hk', instr_read hk, val_sh d hf hk, val_sh d hf hk, val_sh d hf hk, if_neg s3]
  have e1 : (if 0 < (opSign.getD k []).length ∧ ((opSign.getD k []).getD 0 0).toNat = 116 then d else 0) = if (k : Int) = 10 ∨ (k : Int) = 13 then d else 0 := by
    by_cases q : k = 10 ∨ k = 13
    · rw [if_pos (s1.2 q), if_pos (by omega)]
    · rw [if_neg (fun z => q (s1.1 z)), if_neg (by omega)]
  have e2 : (if 1 < (opSign.getD k []).length ∧ ((opSign.getD k []).getD 1 0).toNat = 116 then d else 0) = if (k : Int) = 11 ∨ (k : Int) = 12 then d else 0 := by
    by_cases q : k = 11 ∨ k = 12
    · rw [if_pos (s2.2 q), if_pos (by omega)]
    · rw [if_neg (fun z => q (s2.1 z)), if_neg (by omega)]
  rw [e1, e2]
  generalize valAt f (opSign.getD k []) (List.drop 1 (parts 32 l)) 0 = x
  generalize valAt f (opSign.getD k []) (List.drop 1 (parts 32 l)) 1 = y
  generalize valAt f (opSign.getD k []) (List.drop 1 (parts 32 l)) 2 = z
  simp only [shI, Int.add_zero]
  by_cases q1 : (k : Int) = 10 ∨ (k : Int) = 13
  · by_cases q2 : (k : Int) = 11 ∨ (k : Int) = 12
    · simp only [if_pos q1, if_pos q2]
    · simp only [if_pos q1, if_neg q2, Int.add_zero]
  · by_cases q2 : (k : Int) = 11 ∨ (k : Int) = 12
    · simp only [if_neg q1, if_pos q2, Int.add_zero]
    · simp only [if_neg q1, if_neg q2, Int.add_zero]
theorem instr_same {f f' : Bs → Option (Int × Int)} (hf : ∀ nm p, f nm = some p → f' nm = some p) {l : Bs} (h : (instrE f l).2 = 0) : instrE f' l = instrE f l := by
  have := instr_sh (f := f) (f' := f') 0 (fun nm p q => ⟨p.1, by rw [hf nm p q, Int.add_zero]⟩) h
  rw [this]
  refine Prod.ext ?_ h.symm
  simp only [shI, Int.add_zero, ite_self]
theorem errL_ended {f : Bs → Option (Int × Int)} {pre : List (Bs × Bool)} {x : Bs × Bool} (h : errL f pre x = 0) : x.2 = true := by
  cases hx : x.2 with
  | true => rfl
  | false => rw [errL, if_pos hx] at h; cases h
theorem errL_label {f : Bs → Option (Int × Int)} {pre : List (Bs × Bool)} {x : Bs × Bool} (h : errL f pre x = 0) (hl : labB x.1 = true) : nameB (nmL x.1) = true ∧ ∃ q, f (nmL x.1) = some ((pre.length : Int) + 1, q) := by
  rw [errL, if_neg (by rw [errL_ended h]; decide), if_pos hl, faultE] at h
  split at h
  · cases h
  · rename_i hn
    split at h
    · rename_i he
      refine ⟨by simpa using hn, ?_⟩
      cases hf : f (nmL x.1) with
      | none => rw [hf] at he; simp at he; omega
      | some p => rw [hf] at he; exact ⟨p.2, by rw [show p = (p.1, p.2) from rfl]; simp only [Option.getD_some] at he; rw [he]⟩
    · cases h
theorem errL_instr {f : Bs → Option (Int × Int)} {pre : List (Bs × Bool)} {x : Bs × Bool} (h : errL f pre x = 0) (hl : labB x.1 = false) : (instrE f x.1).2 = 0 ∧ aheadL pre ≠ 1000 := by
  rw [errL, if_neg (by rw [errL_ended h]; decide), hl, if_neg (by decide)] at h
  split at h
  · cases h
  · rename_i hn
    exact ⟨h, fun q => hn ⟨h, q⟩⟩
theorem aheadL_mid {l : List (Bs × Bool)} {j : Nat} {x : Bs × Bool} (h : l[j]? = some x) (hl : labB x.1 = false) : aheadL (l.take j) + 1 ≤ aheadL l := by
  obtain ⟨hj, rfl⟩ := List.getElem?_eq_some_iff.1 h
  have e : l = l.take j ++ [l[j]] ++ l.drop (j + 1) := by simp
  have := congrArg aheadL e
  rw [aheadL_app, aheadL_snoc, hl] at this
  simp at this
  omega
/-- two texts that are read, one behind the other -/
theorem join_parse {s t : Bs} {a b : List Ins} (hs : s.length ≤ 3000) (ht : t.length ≤ 3000) (h1 : parseL s = (a, 0, 0)) (h2 : parseL t = (b, 0, 0)) :
    parseL (s ++ t) = (a ++ b.map (shI a.length), 0, 0) ∨ (∃ n, parseL (s ++ t) = ([], n, 11) ∧ 0 < n) ∨ ∃ n, parseL (s ++ t) = ([], n, 2) ∧ 1000 < a.length + b.length := by
  obtain ⟨l1, e1⟩ : ∃ l, linesL s = l := ⟨_, rfl⟩
  obtain ⟨l2, e2⟩ : ∃ l, linesL t = l := ⟨_, rfl⟩
  obtain ⟨f1, g1⟩ : ∃ f, labAt l1 = f := ⟨_, rfl⟩
  obtain ⟨f2, g2⟩ : ∃ f, labAt l2 = f := ⟨_, rfl⟩
  rw [parseL, if_neg (by omega), e1, g1] at h1
  rw [parseL, if_neg (by omega), e2, g2] at h2
  have ok1 : AllOk f1 l1 ∧ a = codeOf f1 l1 := by
    rcases parseOf_cases l1 f1 with ⟨k1, k2⟩ | ⟨i, x, k1, k2, k3⟩
    · rw [k2] at h1; injection h1 with h1; exact ⟨k1, h1.symm⟩
    · rw [k3] at h1; injection h1 with h1 h3; injection h3 with h3 h4; exact absurd h4 k2
  have ok2 : AllOk f2 l2 ∧ b = codeOf f2 l2 := by
    rcases parseOf_cases l2 f2 with ⟨k1, k2⟩ | ⟨i, x, k1, k2, k3⟩
    · rw [k2] at h2; injection h2 with h2; exact ⟨k1, h2.symm⟩
    · rw [k3] at h2; injection h2 with h2 h3; injection h3 with h3 h4; exact absurd h4 k2
  obtain ⟨ok1, rfl⟩ := ok1
  obtain ⟨ok2, rfl⟩ := ok2
  have hend : ∀ x ∈ linesL s, x.2 = true := by
    rw [e1]
    intro x hx
    obtain ⟨i, hi, rfl⟩ := List.mem_iff_getElem.1 hx
    exact errL_ended (ok1 i _ (by simp [hi]))
  have hls : linesL (s ++ t) = l1 ++ l2 := by rw [lines_join t _ s (Nat.le_refl _) hend, e1, e2]
  obtain ⟨f, hf⟩ : ∃ f, labAt (l1 ++ l2) = f := ⟨_, rfl⟩
  have hfa : ∀ nm, f nm = (f1 nm).or ((f2 nm).map (shP l1.length (aheadL l1))) := by
    intro nm; rw [← hf, labAt_app, g1, g2]
  have hf1 : ∀ nm p, f1 nm = some p → f nm = some p := fun nm p q => by rw [hfa, q]; rfl
  have hf2 : ∀ nm p, f2 nm = some p → ∃ p', f nm = some p' := fun nm p q => by
    rw [hfa, q]
    cases f1 nm with
    | none => exact ⟨_, rfl⟩
    | some r => exact ⟨_, rfl⟩
  rw [parseL, if_neg (by rw [List.length_append]; omega), hls, hf, codeOf_len, codeOf_len]
  rcases parseOf_cases (l1 ++ l2) f with ⟨k1, k2⟩ | ⟨i, x, k1, k2, k3⟩
  · left
    rw [k2, codeOf_app]
    have c1 : codeOf f l1 = codeOf f1 l1 := by
      refine List.map_congr_left fun x hx => ?_
      obtain ⟨hx1, hx2⟩ := List.mem_filter.1 hx
      obtain ⟨i, hi, rfl⟩ := List.mem_iff_getElem.1 hx1
      rw [instr_same hf1 (errL_instr (ok1 i _ (by simp [hi])) (by simpa using hx2)).1]
    have nocom : ∀ nm p, f2 nm = some p → f1 nm = none := by
      intro nm p hp
      rw [← g2] at hp
      obtain ⟨j, y, q1, q2, q3, q4⟩ := labAt_mem hp
      have hj := (List.getElem?_eq_some_iff.1 q1).1
      have q5 := k1 (l1.length + j) y (by rw [List.getElem?_append_right (by omega), show l1.length + j - l1.length = j by omega]; exact q1)
      obtain ⟨_, r, q6⟩ := errL_label q5 q2
      rw [q3, hfa] at q6
      cases hq : f1 nm with
      | none => rfl
      | some z =>
        exfalso
        rw [hq] at q6
        have q7 : z = (((List.take (l1.length + j) (l1 ++ l2)).length : Int) + 1, r) := by
          simp only [Option.some_or] at q6
          injection q6
        rw [← g1] at hq
        obtain ⟨i, y', w1, _, _, w4⟩ := labAt_mem hq
        have hi := (List.getElem?_eq_some_iff.1 w1).1
        rw [q7] at w4
        simp at w4
        omega
    have hsh : ∀ nm p, f2 nm = some p → ∃ q, f nm = some (q, p.2 + (aheadL l1 : Nat)) := fun nm p hp => by
      rw [hfa, nocom nm p hp, hp]
      exact ⟨_, rfl⟩
    have c2 : codeOf f l2 = (codeOf f2 l2).map (shI (aheadL l1 : Nat)) := by
      simp only [codeOf, List.map_map]
      refine List.map_congr_left fun x hx => ?_
      obtain ⟨hx1, hx2⟩ := List.mem_filter.1 hx
      obtain ⟨i, hi, rfl⟩ := List.mem_iff_getElem.1 hx1
      rw [instr_sh _ hsh (errL_instr (ok2 i _ (by simp [hi])) (by simpa using hx2)).1]
      rfl
    rw [c1, c2]
  · right
    rw [k3]
    by_cases hi : i < l1.length
    · exfalso
      rw [List.getElem?_append_left hi] at k1
      rw [List.take_append_of_le_length (by omega)] at k2
      have h0 := ok1 i x k1
      apply k2
      have hx := errL_ended h0
      cases hl : labB x.1 with
      | true =>
        obtain ⟨hn, q, hq⟩ := errL_label h0 hl
        rw [errL, if_neg (by rw [hx]; decide), if_pos hl, faultE, if_neg (by rw [hn]; decide), hf1 _ _ hq]
        simp
      | false =>
        obtain ⟨h3, h4⟩ := errL_instr h0 hl
        rw [errL, if_neg (by rw [hx]; decide), hl, if_neg (by decide), instr_same hf1 h3, if_neg (fun q => h4 q.2), h3]
    · obtain ⟨j, rfl⟩ : ∃ j, i = l1.length + j := ⟨i - l1.length, by omega⟩
      rw [List.getElem?_append_right (by omega), show l1.length + j - l1.length = j by omega] at k1
      have et : (l1 ++ l2).take (l1.length + j) = l1 ++ l2.take j := by rw [List.take_append, List.take_of_length_le (by omega), show l1.length + j - l1.length = j by omega]
      rw [et] at k2 ⊢
      have h0 := ok2 j x k1
      have hx := errL_ended h0
      cases hl : labB x.1 with
      | true =>
        left
        obtain ⟨hn, q, hq⟩ := errL_label h0 hl
        have e : errL f (l1 ++ l2.take j) x = 11 := by
          rw [errL, if_neg (by rw [hx]; decide), if_pos hl, faultE, if_neg (by rw [hn]; decide)] at k2 ⊢
          split
          · rename_i z; rw [if_pos z] at k2; exact absurd rfl k2
          · rfl
        exact ⟨_, by rw [e], by omega⟩
      | false =>
        right
        obtain ⟨h3, h4⟩ := errL_instr h0 hl
        obtain ⟨k, hk⟩ := read_of h3
        have hr := instr_read (read_more hf2 hk)
        have e : errL f (l1 ++ l2.take j) x = 2 ∧ aheadL (l1 ++ l2.take j) = 1000 := by
          rw [errL, if_neg (by rw [hx]; decide), hl, if_neg (by decide), hr] at k2 ⊢
          dsimp only at k2 ⊢
          by_cases z : aheadL (l1 ++ l2.take j) = 1000
          · rw [if_pos ⟨rfl, z⟩]; exact ⟨rfl, z⟩
          · rw [if_neg (fun q => z q.2)] at k2; exact absurd rfl k2
        refine ⟨_, by rw [e.1], ?_⟩
        have h5 := aheadL_mid k1 hl
        have h6 := e.2
        rw [aheadL_app] at h6
        omega
theorem parse_empty {t : Bs} {a : List Ins} {n e : Int} (h : parseL t = (a, n, e)) (he : e ≠ 0) : a = [] := by
  rw [parseL] at h
  split at h
  · injection h with h; exact h.symm
  · rcases parseOf_cases (linesL t) (labAt (linesL t)) with ⟨k1, k2⟩ | ⟨i, x, k1, k2, k3⟩
    · rw [k2] at h; injection h with h h3; injection h3 with h3 h4; exact absurd h4.symm he
    · rw [k3] at h; injection h with h; exact h.symm
theorem parse_zero {t : Bs} {a : List Ins} {n : Int} (h : parseL t = (a, n, 0)) : n = 0 := by
  rw [parseL] at h
  split at h
  · injection h with h h3; injection h3 with h3 h4; cases h4
  · rcases parseOf_cases (linesL t) (labAt (linesL t)) with ⟨k1, k2⟩ | ⟨i, x, k1, k2, k3⟩
    · rw [k2] at h; injection h with h h3; injection h3 with h3 h4; exact h3.symm
    · rw [k3] at h; injection h with h h3; injection h3 with h3 h4; exact absurd h4 k2
theorem codeOf_le {t : Bs} {a : List Ins} {n e : Int} (h : parseL t = (a, n, e)) : a.length ≤ t.length := by
  have hl := linesL_len _ t (Nat.le_refl _)
  rw [parseL] at h
  split at h
  · injection h with h; rw [← h]; simp
  · rcases parseOf_cases (linesL t) (labAt (linesL t)) with ⟨k1, k2⟩ | ⟨i, x, k1, k2, k3⟩
    · rw [k2] at h; injection h with h
      rw [← h, codeOf_len]
      exact Nat.le_trans (List.length_filter_le _ _) hl
    · rw [k3] at h; injection h with h; rw [← h]; simp
theorem go_le (nm : Bs) : ∀ (l : List (Bs × Bool)) (n k : Nat) (p : Int × Int), labAt.go l n k nm = some p → 0 ≤ p.2 ∧ p.2 ≤ (k : Int) + l.length
  | [], _, _, _, h => by cases h
  | x :: r, n, k, p, h => by
    simp only [labAt.go] at h
    rw [List.length_cons]
    by_cases hl : labB x.1 = true
    · rw [if_pos hl] at h
      by_cases h2 : nmL x.1 = nm ∧ x.2 = true ∧ nameB nm = true
      · rw [if_pos h2] at h
        injection h with h
        subst h
        dsimp only
        omega
      · rw [if_neg h2] at h
        have := go_le nm r (n + 1) k p h
        omega
    · rw [if_neg hl] at h
      have := go_le nm r (n + 1) (k + 1) p h
      omega
theorem targ_le {l : List (Bs × Bool)} (q : Bs) : 0 ≤ (targE (labAt l) q).1 ∧ (targE (labAt l) q).1 ≤ l.length := by
  unfold targE
  split
  · exact ⟨Int.le_refl _, by show (0 : Int) ≤ _; omega⟩
  · split
    · exact ⟨Int.le_refl _, by show (0 : Int) ≤ _; omega⟩
    · rename_i p hp
      have := go_le q l 0 0 p hp
      exact ⟨this.1, by have := this.2; dsimp only; omega⟩
/-- targets are within the text -/
theorem tgt_bound {t : Bs} {b : List Ins} (h : parseL t = (b, 0, 0)) : ∀ i ∈ b, ((i.1 = 10 ∨ i.1 = 13) → 0 ≤ i.2.1 ∧ i.2.1 ≤ t.length) ∧ ((i.1 = 11 ∨ i.1 = 12) → 0 ≤ i.2.2.1 ∧ i.2.2.1 ≤ t.length) := by
  have hl := linesL_len _ t (Nat.le_refl _)
  rw [parseL] at h
  split at h
  · injection h with h h3; injection h3 with h3 h4; cases h4
  · rcases parseOf_cases (linesL t) (labAt (linesL t)) with ⟨k1, k2⟩ | ⟨i, x, k1, k2, k3⟩
    · rw [k2] at h
      injection h with h
      subst h
      intro i hi
      obtain ⟨x, hx, rfl⟩ := List.mem_map.1 hi
      obtain ⟨hx1, hx2⟩ := List.mem_filter.1 hx
      obtain ⟨j, hj, rfl⟩ := List.mem_iff_getElem.1 hx1
      obtain ⟨k, hk⟩ := read_of (errL_instr (k1 j (linesL t)[j] (by simp [hj])) (by simpa using hx2)).1
      rw [instr_read hk]
      obtain ⟨s1, s2, -⟩ := signs_at k (opOf_lt hk.op).1
      refine ⟨fun q => ?_, fun q => ?_⟩
      · obtain ⟨q1, q2⟩ := s1.2 (by dsimp only at q; omega)
        dsimp only
        rw [valAt, if_pos q1, q2]
        have := targ_le (l := linesL t) (((parts 32 (linesL t)[j].1).drop 1).getD 0 [])
        simp only [opndE, show ¬ ((116 : Nat) = 114) by decide, show ¬ ((116 : Nat) = 110) by decide, if_false]
        exact ⟨this.1, by have := this.2; omega⟩
      · obtain ⟨q1, q2⟩ := s2.2 (by dsimp only at q; omega)
        dsimp only
        rw [valAt, if_pos q1, q2]
        have := targ_le (l := linesL t) (((parts 32 (linesL t)[j].1).drop 1).getD 1 [])
        simp only [opndE, show ¬ ((116 : Nat) = 114) by decide, show ¬ ((116 : Nat) = 110) by decide, if_false]
        exact ⟨this.1, by have := this.2; omega⟩
    · rw [k3] at h; injection h with h h3; injection h3 with h3 h4; exact absurd h4 k2
end Go.Proofs.YthcogkcjmhjjmaaDoor
