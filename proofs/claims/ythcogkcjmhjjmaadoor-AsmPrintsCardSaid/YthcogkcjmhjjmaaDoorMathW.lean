/- Plain functions: code in a text, and that it is read back. -/
import Derived.Test.YthcogkcjmhjjmaaDoorBpB
import Derived.Test.YthcogkcjmhjjmaaDoorMathJ
import Derived.Lib.ItoaMem
namespace Go.Proofs.YthcogkcjmhjjmaaDoor

def tellP (ch : Nat) (v : Int) : Bs := if ch = 114 then 114 :: Lib.itoa v else if ch = 110 then Lib.itoa v else 108 :: Lib.itoa v
def tells (i : Ins) (sg : Bs) (k : Nat) : List Bs := (List.range k).map fun j => tellP (sg.getD j 0).toNat (opnd i j)
def tellTo (i : Ins) (sg : Bs) (k : Nat) : Bs := (tells i sg k).flatMap fun p => 32 :: p
theorem tellTo_zero (i : Ins) (sg : Bs) : tellTo i sg 0 = [] := rfl
theorem tellTo_succ (i : Ins) (sg : Bs) (k : Nat) : tellTo i sg (k + 1) = tellTo i sg k ++ (32 :: tellP (sg.getD k 0).toNat (opnd i k)) := by
  simp [tellTo, tells, List.range_succ]
def sgOf (i : Ins) : Bs := opSign.getD i.1.toNat []
def toldL (i : Ins) : Bs := opName.getD i.1.toNat [] ++ tellTo i (sgOf i) (sgOf i).length
def aimI (i : Ins) (n : Int) : Bool := (List.range (sgOf i).length).any fun j => decide (((sgOf i).getD j 0).toNat = 116 ∧ opnd i j = n)
def aimB (c : List Ins) (n : Int) : Bool := c.any fun i => aimI i n
def labL (k : Int) : Bs := 108 :: Lib.itoa k
def lineOf (c : List Ins) (k : Nat) : List Bs := (if aimB c k then [labL k ++ [58]] else []) ++ (match c[k]? with | some i => [toldL i] | none => [])
def linesTo (c : List Ins) (m : Nat) : List Bs := (List.range m).flatMap (lineOf c)
theorem linesTo_succ (c : List Ins) (m : Nat) : linesTo c (m + 1) = linesTo c m ++ lineOf c m := by simp [linesTo, List.range_succ]
def endAll (ls : List Bs) : Bs := ls.flatMap fun l => l ++ [10]
def printTo (c : List Ins) (m : Nat) : Bs := endAll (linesTo c m)
def printL (c : List Ins) : Bs := printTo c (c.length + 1)

theorem itoa_dig (v : Int) : ∀ b ∈ Lib.itoa v, digB b = true ∨ b = 45 := by
  intro b hb
  unfold Lib.itoa at hb
  split at hb
  · rcases List.mem_cons.1 hb with rfl | hb
    · exact .inr rfl
    · exact .inl ((dec_canon _).1.2.1 b hb)
  · exact .inl ((dec_canon _).1.2.1 b hb)
theorem itoa_digN (k : Nat) : ∀ b ∈ Lib.itoa (k : Int), digB b = true := by
  intro b hb
  rw [Lib.itoa_nonneg] at hb
  exact (dec_canon _).1.2.1 b hb
theorem itoa_lenN (k : Nat) (h : k ≤ 1000000000) : 1 ≤ (Lib.itoa (k : Int)).length ∧ (Lib.itoa (k : Int)).length ≤ 10 := by
  rw [Lib.itoa_nonneg, Lib.decDigits_length]
  have h1 := nd10 k h
  have h2 : (Lib.decDigits k).length ≠ 0 := fun q => (dec_canon k).1.1 (List.length_eq_zero_iff.1 q)
  rw [Lib.decDigits_length] at h2
  omega
theorem itoa_len (v : Int) (h1 : -1000000000 ≤ v) (h2 : v ≤ 1000000000) : (Lib.itoa v).length ≤ 11 := by
  unfold Lib.itoa
  split
  · rw [List.length_cons, Lib.decDigits_length]; have := nd10 v.natAbs (by omega); omega
  · rw [Lib.decDigits_length]; have := nd10 v.toNat (by omega); omega
theorem itoa_inj {j k : Nat} (h : Lib.itoa (j : Int) = Lib.itoa (k : Int)) : j = k := by
  rw [Lib.itoa_nonneg, Lib.itoa_nonneg] at h
  have := congrArg (valF 0) h
  rwa [(dec_canon j).2.1, (dec_canon k).2.1] at this
theorem numR_itoa (v : Int) (h1 : -1000000000 ≤ v) (h2 : v ≤ 1000000000) : numR (Lib.itoa v) = some v := by
  unfold Lib.itoa
  split
  · rename_i hneg
    obtain ⟨⟨c1, c2, c3⟩, c4, c5⟩ := dec_canon v.natAbs
    have e : bodyN (45 :: Lib.decDigits v.natAbs) = Lib.decDigits v.natAbs := rfl
    have hln : (Lib.decDigits v.natAbs).length ≤ 10 := by
      rw [Lib.decDigits_length]
      have := nd10 v.natAbs (by omega)
      omega
    have hpos : 1 ≤ (Lib.decDigits v.natAbs).length := by
      have : (Lib.decDigits v.natAbs).length ≠ 0 := fun q => c1 (List.length_eq_zero_iff.1 q)
      omega
    unfold numR
    rw [e, if_neg, if_neg, if_neg, if_pos (show ((45 :: Lib.decDigits v.natAbs).getD 0 0).toNat = 45 from rfl), c4]
    · congr 1; omega
    · rw [c4]; omega
    · rw [Bool.not_eq_false, List.all_eq_true]; exact c2
    · rintro (q | q | ⟨q, _⟩)
      · omega
      · omega
      · exact c5 (by omega) q
  · rename_i hneg
    obtain ⟨⟨c1, c2, c3⟩, c4, c5⟩ := dec_canon v.toNat
    have hh : ((Lib.decDigits v.toNat).getD 0 0).toNat ≠ 45 := by
      cases hd : Lib.decDigits v.toNat with
      | nil => exact absurd hd c1
      | cons c r =>
        rw [hd] at c2
        have := digB_le (c2 c (by simp))
        simp only [List.getD_cons_zero]; omega
    have e : bodyN (Lib.decDigits v.toNat) = Lib.decDigits v.toNat := by rw [bodyN, if_neg hh]
    have hln : (Lib.decDigits v.toNat).length ≤ 10 := by
      rw [Lib.decDigits_length]
      have := nd10 v.toNat (by omega)
      omega
    have hpos : 1 ≤ (Lib.decDigits v.toNat).length := by
      have : (Lib.decDigits v.toNat).length ≠ 0 := fun q => c1 (List.length_eq_zero_iff.1 q)
      omega
    unfold numR
    rw [e, if_neg, if_neg, if_neg, if_neg hh, c4]
    · congr 1; omega
    · rw [c4]; omega
    · rw [Bool.not_eq_false, List.all_eq_true]; exact c2
    · rintro (q | q | ⟨q, q2⟩)
      · omega
      · omega
      · rcases q2 with q2 | q2
        · rcases c3 with c3 | c3
          · omega
          · exact c3 q
        · exact hh q2

theorem pw_none {c : UInt8} : ∀ {w : Bs}, c ∉ w → parts c w = [w]
  | [], _ => rfl
  | b :: t, h => by
    have hb : ¬ b = c := fun e => h (by simp [e])
    simp [parts, hb, pw_none (c := c) (w := t) (fun q => h (List.mem_cons_of_mem _ q))]
theorem pw_cut {c : UInt8} (r : Bs) : ∀ {w : Bs}, c ∉ w → parts c (w ++ c :: r) = w :: parts c r
  | [], _ => by simp [parts]
  | b :: t, h => by
    have hb : ¬ b = c := fun e => h (by simp [e])
    simp [parts, hb, pw_cut (c := c) r (w := t) (fun q => h (List.mem_cons_of_mem _ q))]
theorem parts_words {c : UInt8} : ∀ {ws : List Bs} {w : Bs}, c ∉ w → (∀ p ∈ ws, c ∉ p) → parts c (w ++ ws.flatMap fun p => c :: p) = w :: ws
  | [], w, h, _ => by simpa using pw_none h
  | p :: ps, w, h, hp => by
    rw [List.flatMap_cons, List.cons_append, pw_cut _ h, parts_words (hp p (by simp)) (fun q hq => hp q (by simp [hq]))]
theorem parts_lines : ∀ {ls : List Bs}, (∀ p ∈ ls, (10 : UInt8) ∉ p) → parts 10 (endAll ls) = ls ++ [[]]
  | [], _ => rfl
  | l :: r, h => by
    have e : endAll (l :: r) = l ++ 10 :: endAll r := by simp [endAll]
    rw [e, pw_cut _ (h l (by simp)), parts_lines (fun p hp => h p (by simp [hp]))]
    rfl
theorem lines_all {ls : List Bs} (h : ∀ p ∈ ls, (10 : UInt8) ∉ p) : linesL (endAll ls) = ls.map fun l => (l, true) := by
  rw [linesL, parts_lines h]
  simp

theorem names_ok : ∀ k, k < 27 → opOf (opName.getD k []) = some k ∧ (10 : UInt8) ∉ opName.getD k [] ∧ (32 : UInt8) ∉ opName.getD k [] ∧ (58 : UInt8) ∉ opName.getD k [] ∧ (opName.getD k []).length ≤ 5 := by decide
theorem tellP_dig {ch : Nat} {v : Int} : ∀ b ∈ tellP ch v, digB b = true ∨ b = 45 ∨ b = 114 ∨ b = 108 := by
  intro b hb
  unfold tellP at hb
  split at hb
  · rcases List.mem_cons.1 hb with rfl | hb
    · exact .inr (.inr (.inl rfl))
    · rcases itoa_dig v b hb with h | h
      · exact .inl h
      · exact .inr (.inl h)
  · split at hb
    · rcases itoa_dig v b hb with h | h
      · exact .inl h
      · exact .inr (.inl h)
    · rcases List.mem_cons.1 hb with rfl | hb
      · exact .inr (.inr (.inr rfl))
      · rcases itoa_dig v b hb with h | h
        · exact .inl h
        · exact .inr (.inl h)
theorem tellP_not {ch : Nat} {v : Int} : (10 : UInt8) ∉ tellP ch v ∧ (32 : UInt8) ∉ tellP ch v ∧ (58 : UInt8) ∉ tellP ch v := by
  refine ⟨fun h => ?_, fun h => ?_, fun h => ?_⟩ <;> exact absurd (tellP_dig _ h) (by decide)
theorem tells_mem {i : Ins} {sg : Bs} {k : Nat} {p : Bs} (h : p ∈ tells i sg k) : ∃ ch v, p = tellP ch v := by
  simp only [tells, List.mem_map] at h
  obtain ⟨j, _, rfl⟩ := h
  exact ⟨_, _, rfl⟩
theorem toldL_not {i : Ins} (h : 0 ≤ i.1 ∧ i.1 < 27) : (10 : UInt8) ∉ toldL i ∧ (58 : UInt8) ∉ toldL i := by
  obtain ⟨_, n1, _, n3, _⟩ := names_ok i.1.toNat (by omega)
  constructor
  all_goals
    simp only [toldL, tellTo, List.mem_append, List.mem_flatMap, not_or, not_exists, not_and]
    refine ⟨by assumption, fun p hp => ?_⟩
    obtain ⟨ch, v, rfl⟩ := tells_mem hp
    simp only [List.mem_cons, not_or]
  · exact ⟨by decide, tellP_not.1⟩
  · exact ⟨by decide, tellP_not.2.2⟩
theorem lab_no {l : Bs} (h : (58 : UInt8) ∉ l) : labB l = false := by
  cases hl : labB l with
  | false => rfl
  | true =>
    exfalso
    unfold labB Lib.hasSuffix at hl
    have := (List.isSuffixOf_iff_suffix.1 hl).subset
    exact h (this (by simp))
theorem lab_yes (l : Bs) : labB (l ++ [58]) = true ∧ nmL (l ++ [58]) = l := by
  have h : labB (l ++ [58]) = true := by
    unfold labB Lib.hasSuffix
    exact List.isSuffixOf_iff_suffix.2 (List.suffix_append l [58])
  refine ⟨h, ?_⟩
  unfold nmL Lib.trimSuffix
  unfold labB at h
  rw [if_pos h]
  simp
theorem labL_name (k : Nat) (h : k ≤ 1000000000) : nameB (labL k) = true := by
  obtain ⟨h1, h2⟩ := itoa_lenN k h
  refine nameB_yes (by simp [labL]) (by simp [labL]; omega) (show digB 108 = false by decide) ?_
  rw [okTo_all, List.all_eq_true]
  intro b hb
  rcases List.mem_cons.1 hb with rfl | hb
  · decide
  · simp [itoa_digN k b hb]
theorem labL_not (k : Int) : (10 : UInt8) ∉ labL k ++ [58] := by
  intro h
  rcases List.mem_append.1 h with h | h
  · rcases List.mem_cons.1 h with h | h
    · exact absurd h (by decide)
    · exact absurd (itoa_dig k _ h) (by decide)
  · exact absurd h (by decide)
theorem labL_inj {j k : Nat} (h : labL j = labL k) : j = k := by
  unfold labL at h
  injection h with _ h
  exact itoa_inj h

/-- an operand that is told is read -/
theorem opnd_back {f : Bs → Option (Int × Int)} {ch : Nat} {v : Int} {n : Nat} (hn : n ≤ 1000) (hch : ch = 114 ∨ ch = 110 ∨ ch = 116) (hf : fitsK ch v n = true) (ht : ch = 116 → ∃ q, f (labL v) = some (q, v)) : opndE f ch (tellP ch v) = (v, 0) := by
  rcases hch with rfl | rfl | rfl
  · have h1 : 0 ≤ v ∧ v ≤ 7 := by simpa [fitsK] using hf
    have : v = 0 ∨ v = 1 ∨ v = 2 ∨ v = 3 ∨ v = 4 ∨ v = 5 ∨ v = 6 ∨ v = 7 := by omega
    have hk : ∃ k : Nat, v = k ∧ k < 8 := ⟨v.toNat, by omega, by omega⟩
    obtain ⟨k, rfl, hk⟩ := hk
    have e : tellP 114 (k : Int) = [114, UInt8.ofNat (48 + k)] := by
      rw [tellP, if_pos rfl, Lib.itoa_nonneg, Lib.decDigits_one (by omega)]
    rw [e]
    have hall : ∀ k, k < 8 → opndE f 114 [114, UInt8.ofNat (48 + k)] = ((k : Int), 0) := by
      intro k hk
      unfold opndE
      rw [if_pos rfl]
      revert k
      decide
    exact hall k hk
  · have h1 : -1000000000 ≤ v ∧ v ≤ 1000000000 := by simpa [fitsK] using hf
    exact numR_some (numR_itoa v h1.1 h1.2)
  · have h1 : 0 ≤ v ∧ v ≤ n := by simpa [fitsK] using hf
    obtain ⟨k, rfl⟩ : ∃ k : Nat, v = k := ⟨v.toNat, by omega⟩
    obtain ⟨q, hq⟩ := ht rfl
    show targE f (labL (k : Int)) = _
    rw [targE, labL_name k (by omega), hq]
    rfl
theorem mayB_opnd {i : Ins} {n : Nat} (h : mayB i n = true) : (0 ≤ i.1 ∧ i.1 < 27) ∧ ∀ k, k < 3 → kOk i n (sgOf i) k = true := by
  simp only [mayB, Bool.and_eq_true, decide_eq_true_eq, List.all_eq_true] at h
  exact ⟨h.1, fun k hk => h.2 k (List.mem_range.2 hk)⟩
theorem parts_told {i : Ins} (h : 0 ≤ i.1 ∧ i.1 < 27) : parts 32 (toldL i) = opName.getD i.1.toNat [] :: tells i (sgOf i) (sgOf i).length := by
  obtain ⟨_, _, n2, _, _⟩ := names_ok i.1.toNat (by omega)
  refine parts_words n2 fun p hp => ?_
  obtain ⟨ch, v, rfl⟩ := tells_mem hp
  exact tellP_not.2.1
theorem tells_at {i : Ins} {sg : Bs} {k j : Nat} (h : j < k) : (tells i sg k).getD j [] = tellP (sg.getD j 0).toNat (opnd i j) := by
  simp [tells, h]
theorem aimI_yes {i : Ins} {j : Nat} (hj : j < (sgOf i).length) (h : ((sgOf i).getD j 0).toNat = 116) : aimI i (opnd i j) = true := by
  simp only [aimI, List.any_eq_true, List.mem_range, decide_eq_true_eq]
  exact ⟨j, hj, h, rfl⟩
theorem instr_back {f : Bs → Option (Int × Int)} {i : Ins} {n : Nat} (hn : n ≤ 1000) (h : mayB i n = true) (hf : ∀ v : Int, 0 ≤ v → v ≤ n → aimI i v = true → ∃ q, f (labL v) = some (q, v)) : instrE f (toldL i) = (i, 0) := by
  obtain ⟨h0, hk⟩ := mayB_opnd h
  obtain ⟨s1, s2⟩ := signs_ok i.1.toNat (by omega)
  have hp := parts_told h0
  have hd : (parts 32 (toldL i)).drop 1 = tells i (sgOf i) (sgOf i).length := by rw [hp]; rfl
  have ho : ∀ j, j < (sgOf i).length → opndE f ((sgOf i).getD j 0).toNat ((tells i (sgOf i) (sgOf i).length).getD j []) = (opnd i j, 0) := by
    intro j hj
    rw [tells_at hj]
    have hj3 : j < 3 := Nat.lt_of_lt_of_le hj s1
    have hok := hk j hj3
    rw [kOk, if_pos hj] at hok
    refine opnd_back hn (s2 j hj) hok fun e => ?_
    rw [e] at hok
    have h1 : 0 ≤ opnd i j ∧ opnd i j ≤ n := by simpa [fitsK] using hok
    exact hf _ h1.1 h1.2 (aimI_yes hj e)
  have hr : Read f (toldL i) i.1.toNat := by
    refine ⟨?_, ?_, fun j hj => ?_⟩
    · rw [hp]; exact (names_ok i.1.toNat (by omega)).1
    · rw [hp]; simp [tells, sgOf]
    · rw [hd]
      show (opndE f ((sgOf i).getD j 0).toNat _).2 = 0
      rw [ho j hj]
  rw [instr_read hr, hd]
  have hv : ∀ j, j < 3 → valAt f (opSign.getD i.1.toNat []) (tells i (sgOf i) (sgOf i).length) j = opnd i j := by
    intro j hj
    unfold valAt
    split
    · rename_i hl
      have := ho j hl
      unfold sgOf at this ⊢
      rw [this]
    · rename_i hl
      have hok := hk j hj
      rw [kOk, if_neg (by unfold sgOf; exact hl), decide_eq_true_eq] at hok
      exact hok.symm
  rw [hv 0 (by omega), hv 1 (by omega), hv 2 (by omega)]
  obtain ⟨op, a, b, c⟩ := i
  show ((((op.toNat : Nat) : Int), a, b, c), (0 : Int)) = ((op, a, b, c), 0)
  rw [show ((op.toNat : Nat) : Int) = op from Int.toNat_of_nonneg h0.1]
end Go.Proofs.YthcogkcjmhjjmaaDoor
