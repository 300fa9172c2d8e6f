/- Plain mathematics of numbers told by digits: the document's own reading of a number is that of package asm. -/
import Derived.Test.YthcogkcjmhjjmaaDoorMathN
import Derived.Lib.AtoiAllCases
namespace Go.Proofs.YthcogkcjmhjjmaaDoor

/-- what digits tell -/
def valF (acc : Nat) (l : Bs) : Nat := l.foldl (fun a b => 10 * a + (b.toNat - 48)) acc
theorem valF_cons (acc : Nat) (b : UInt8) (l : Bs) : valF acc (b :: l) = valF (10 * acc + (b.toNat - 48)) l := by simp only [valF, List.foldl_cons]
theorem valF_snoc (acc : Nat) (l : Bs) (b : UInt8) : valF acc (l ++ [b]) = 10 * valF acc l + (b.toNat - 48) := by simp [valF]
theorem valF_pos : ∀ (l : Bs) (acc : Nat), 1 ≤ acc → 1 ≤ valF acc l
  | [], _, h => h
  | b :: l, acc, h => by rw [valF_cons]; exact valF_pos l _ (by omega)
theorem digB_le {b : UInt8} (h : digB b = true) : 48 ≤ b.toNat ∧ b.toNat ≤ 57 := by simpa [digB] using h
/-- digits without a 0 ahead, but in 0 itself -/
def Canon (l : Bs) : Prop := l ≠ [] ∧ (∀ b ∈ l, digB b = true) ∧ (l.length = 1 ∨ (l.getD 0 0).toNat ≠ 48)
theorem byte_of (b : UInt8) (h : digB b = true) : UInt8.ofNat (48 + (b.toNat - 48)) = b := by
  have := digB_le h
  rw [show 48 + (b.toNat - 48) = b.toNat by omega]
  simp
theorem canon_dec : ∀ (n : Nat) (l : Bs), l.length = n → Canon l → Lib.decDigits (valF 0 l) = l := by
  intro n
  induction n with
  | zero => intro l h hc; exact absurd (List.length_eq_zero_iff.1 h) hc.1
  | succ n ih =>
    intro l h ⟨h1, h2, h3⟩
    obtain ⟨m, b, rfl⟩ : ∃ m b, l = m ++ [b] := ⟨l.dropLast, l.getLast h1, (List.dropLast_concat_getLast h1).symm⟩
    have hb := h2 b (by simp)
    have hbl := digB_le hb
    rw [valF_snoc]
    by_cases hm : m = []
    · subst hm
      rw [show valF 0 [] = 0 from rfl, Lib.decDigits, dif_pos (by omega), show 48 + (10 * 0 + (b.toNat - 48)) = 48 + (b.toNat - 48) by omega, byte_of b hb]
      rfl
    · have hml : m.length = n := by simpa using h
      have hh : (m.getD 0 0).toNat ≠ 48 := by
        have hlen : (m ++ [b]).length ≠ 1 := by
          have : m.length ≠ 0 := fun e => hm (List.length_eq_zero_iff.1 e)
          simp; omega
        have := h3.resolve_left hlen
        cases m with
        | nil => exact absurd rfl hm
        | cons c r => simpa using this
      have hc : Canon m := ⟨hm, fun x hx => h2 x (by simp [hx]), .inr hh⟩
      have hv : 1 ≤ valF 0 m := by
        cases m with
        | nil => exact absurd rfl hm
        | cons c r =>
          have hcl := digB_le (hc.2.1 c (by simp))
          rw [valF_cons]
          refine valF_pos r _ ?_
          have : c.toNat ≠ 48 := by simpa using hh
          omega
      rw [Lib.decDigits, dif_neg (by omega), show (10 * valF 0 m + (b.toNat - 48)) / 10 = valF 0 m by omega, show (10 * valF 0 m + (b.toNat - 48)) % 10 = b.toNat - 48 by omega, ih m hml hc, byte_of b hb]
theorem dec_canon (u : Nat) : Canon (Lib.decDigits u) ∧ valF 0 (Lib.decDigits u) = u ∧ (1 ≤ u → ((Lib.decDigits u).getD 0 0).toNat ≠ 48) := by
  induction u using Nat.strongRecOn with
  | _ u ih =>
    by_cases h : u < 10
    · rw [Lib.decDigits, dif_pos h]
      have e : (UInt8.ofNat (48 + u)).toNat = 48 + u := by simp; omega
      refine ⟨⟨by simp, fun b hb => ?_, .inl rfl⟩, ?_, fun h1 => ?_⟩
      · obtain rfl : b = UInt8.ofNat (48 + u) := by simpa using hb
        simp only [digB, e, decide_eq_true_eq]; omega
      · simp only [valF, List.foldl_cons, List.foldl_nil, e]; omega
      · simp only [List.getD_cons_zero, e]; omega
    · obtain ⟨⟨h1, h2, h3⟩, h4, h5⟩ := ih (u / 10) (by omega)
      rw [Lib.decDigits, dif_neg h]
      have e : (UInt8.ofNat (48 + u % 10)).toNat = 48 + u % 10 := by simp; omega
      have h6 := h5 (by omega)
      have h7 : ((Lib.decDigits (u / 10) ++ [UInt8.ofNat (48 + u % 10)]).getD 0 0).toNat ≠ 48 := by
        cases hd : Lib.decDigits (u / 10) with
        | nil => exact absurd hd h1
        | cons c r => rw [hd] at h6; simpa using h6
      refine ⟨⟨by simp, fun b hb => ?_, .inr h7⟩, ?_, fun _ => h7⟩
      · rcases List.mem_append.1 hb with hb | hb
        · exact h2 b hb
        · obtain rfl : b = UInt8.ofNat (48 + u % 10) := by simpa using hb
          simp only [digB, e, decide_eq_true_eq]; omega
      · rw [valF_snoc, h4, e]; omega
theorem pu_ok : ∀ (l : Bs) (acc : Nat), (∀ b ∈ l, digB b = true) → (acc + 1) * 10 ^ l.length ≤ 1000000000000000000 → Lib.parseUint10 acc l = .ok (valF acc l)
  | [], _, _, _ => rfl
  | b :: l, acc, h, hb => by
    have hd := digB_le (h b (by simp))
    rw [List.length_cons, Nat.pow_succ] at hb
    have hp : 1 ≤ 10 ^ l.length := Nat.one_le_pow _ _ (by decide)
    have h10 : (acc + 1) * 10 ≤ 1000000000000000000 := by
      have := Nat.mul_le_mul_left ((acc + 1) * 10) hp
      rw [Nat.mul_one] at this
      refine Nat.le_trans this ?_
      rw [Nat.mul_assoc, Nat.mul_comm 10]; exact hb
    simp only [Lib.parseUint10]
    rw [if_pos hd, if_neg (by omega), if_neg (by omega), valF_cons, show 10 * acc + (b.toNat - 48) = acc * 10 + (b.toNat - 48) by omega]
    refine pu_ok l _ (fun x hx => h x (by simp [hx])) ?_
    refine Nat.le_trans (Nat.mul_le_mul_right _ (show acc * 10 + (b.toNat - 48) + 1 ≤ (acc + 1) * 10 by omega)) ?_
    rw [Nat.mul_assoc, Nat.mul_comm 10]; exact hb

/-- the document's own reading of a number -/
def bodyN (l : Bs) : Bs := if (l.getD 0 0).toNat = 45 then l.drop 1 else l
def numR (l : Bs) : Option Int :=
  if (bodyN l).length < 1 ∨ 10 < (bodyN l).length ∨ (((bodyN l).getD 0 0).toNat = 48 ∧ (1 < (bodyN l).length ∨ (l.getD 0 0).toNat = 45)) then none
  else if (bodyN l).all digB = false then none
  else if 1000000000 < valF 0 (bodyN l) then none
  else some (if (l.getD 0 0).toNat = 45 then -(valF 0 (bodyN l) : Int) else (valF 0 (bodyN l) : Int))
theorem numR_some {l : Bs} {v : Int} (h : numR l = some v) : numE l = (v, 0) := by
  obtain ⟨d, hd⟩ : ∃ d, bodyN l = d := ⟨_, rfl⟩
  unfold numR at h
  simp only [hd] at h
  split at h
  · cases h
  · split at h
    · cases h
    · split at h
      · cases h
      · rename_i h1 h2 h3
        injection h with h
        subst h
        have hall : ∀ b ∈ d, digB b = true := by
          rw [Bool.not_eq_false] at h2
          rwa [List.all_eq_true] at h2
        obtain ⟨a1, a2⟩ := not_or.1 h1
        obtain ⟨a2, a3⟩ := not_or.1 a2
        have hne : d ≠ [] := fun e => by rw [e] at a1; simp at a1
        have hcan : Canon d := by
          refine ⟨hne, hall, ?_⟩
          by_cases e : (d.getD 0 0).toNat = 48
          · left
            have := fun q => a3 ⟨e, .inl q⟩
            omega
          · exact .inr e
        have hdec := canon_dec _ _ rfl hcan
        have hpu := pu_ok d 0 hall (by
          have : 10 ^ d.length ≤ 10 ^ 10 := Nat.pow_le_pow_right (by decide) (by omega)
          omega)
        have hpm : Lib.parseMag d = .ok (valF 0 d) := by rw [Lib.parseMag, if_neg hne, hpu]
        by_cases hb : (l.getD 0 0).toNat = 45
        · rw [if_pos hb]
          obtain rfl : l = 45 :: d := by
            cases l with
            | nil => simp at hb
            | cons c r =>
              have : c.toNat = 45 := by simpa using hb
              rw [bodyN, if_pos hb, List.drop_succ_cons, List.drop_zero] at hd
              rw [hd, show c = 45 from UInt8.toNat_inj.1 this]
          have hv : 1 ≤ valF 0 d := by
            cases d with
            | nil => exact absurd rfl hne
            | cons c s =>
              have hc := digB_le (hall c (by simp))
              have : c.toNat ≠ 48 := fun q => a3 ⟨by simpa using q, .inr rfl⟩
              rw [valF_cons]
              exact valF_pos s _ (by omega)
          have hat : Lib.atoiAll (45 :: d) = .ok (-(valF 0 d : Int)) := by
            rw [Lib.atoiAll_minus, hpm]
            simp only [Lib.signed]
            rw [if_neg (by omega)]
          have hit : Lib.itoa (-(valF 0 d : Int)) = 45 :: d := by
            unfold Lib.itoa
            rw [if_pos (by omega)]
            simp [hdec]
          simp only [numE, hat]
          rw [if_pos ⟨hit, by omega, by omega⟩]
        · rw [if_neg hb]
          obtain rfl : l = d := by rw [← hd, bodyN, if_neg hb]
          have hat : Lib.atoiAll l = .ok (valF 0 l : Int) := by
            cases l with
            | nil => exact absurd rfl hne
            | cons c r =>
              have hc := digB_le (hall c (by simp))
              rw [Lib.atoiAll_plain c r (by omega) (by omega), hpm]
              simp only [Lib.signless]
              rw [if_neg (by omega)]
          have hit : Lib.itoa (valF 0 l : Int) = l := by
            unfold Lib.itoa
            rw [if_neg (by omega)]
            simp [hdec]
          simp only [numE, hat]
          rw [if_pos ⟨hit, by omega, by omega⟩]
theorem nd10 (u : Nat) (h : u ≤ 1000000000) : Lib.nDigits u ≤ 10 := by
  rw [Lib.nDigits]; split
  · omega
  · rw [Lib.nDigits]; split
    · omega
    · rw [Lib.nDigits]; split
      · omega
      · rw [Lib.nDigits]; split
        · omega
        · rw [Lib.nDigits]; split
          · omega
          · rw [Lib.nDigits]; split
            · omega
            · rw [Lib.nDigits]; split
              · omega
              · rw [Lib.nDigits]; split
                · omega
                · rw [Lib.nDigits]; split
                  · omega
                  · rw [Lib.nDigits]; split
                    · omega
                    · omega
theorem numR_none {l : Bs} (h : numR l = none) : numE l = (0, 3) := by
  unfold numE
  split
  · rename_i v hv
    rw [if_neg]
    rintro ⟨h1, h2, h3⟩
    have : numR l = some v := by
      unfold Lib.itoa at h1
      split at h1
      · rename_i hneg
        subst h1
        obtain ⟨⟨c1, c2, c3⟩, c4, c5⟩ := dec_canon v.natAbs
        have e : bodyN (45 :: Lib.decDigits v.natAbs) = Lib.decDigits v.natAbs := rfl
        have hln : (Lib.decDigits v.natAbs).length ≤ 10 := by
          rw [Lib.decDigits_length]
          have := nd10 v.natAbs (by omega)
          omega
        have hpos : 1 ≤ (Lib.decDigits v.natAbs).length := by
          have : (Lib.decDigits v.natAbs).length ≠ 0 := fun q => c1 (List.length_eq_zero_iff.1 q)
          omega
        unfold numR
        rw [e, if_neg, if_neg, if_neg, if_pos (show ((45 :: Lib.decDigits v.natAbs).getD 0 0).toNat = 45 from rfl), c4]
        · congr 1; omega
        · rw [c4]; omega
        · rw [Bool.not_eq_false, List.all_eq_true]; exact c2
        · rintro (q | q | ⟨q, _⟩)
          · omega
          · omega
          · exact c5 (by omega) q
      · rename_i hneg
        subst h1
        obtain ⟨⟨c1, c2, c3⟩, c4, c5⟩ := dec_canon v.toNat
        have hh : ((Lib.decDigits v.toNat).getD 0 0).toNat ≠ 45 := by
          cases hd : Lib.decDigits v.toNat with
          | nil => exact absurd hd c1
          | cons c r =>
            rw [hd] at c2
            have := digB_le (c2 c (by simp))
            simp only [List.getD_cons_zero]; omega
        have e : bodyN (Lib.decDigits v.toNat) = Lib.decDigits v.toNat := by rw [bodyN, if_neg hh]
        have hln : (Lib.decDigits v.toNat).length ≤ 10 := by
          rw [Lib.decDigits_length]
          have := nd10 v.toNat (by omega)
          omega
        have hpos : 1 ≤ (Lib.decDigits v.toNat).length := by
          have : (Lib.decDigits v.toNat).length ≠ 0 := fun q => c1 (List.length_eq_zero_iff.1 q)
          omega
        unfold numR
        rw [e, if_neg, if_neg, if_neg, if_neg hh, c4]
        · congr 1; omega
        · rw [c4]; omega
        · rw [Bool.not_eq_false, List.all_eq_true]; exact c2
        · rintro (q | q | ⟨q, q2⟩)
          · omega
          · omega
          · rcases q2 with q2 | q2
            · rcases c3 with c3 | c3
              · omega
              · exact c3 q
            · exact hh q2
    rw [this] at h
    cases h
  · rfl
end Go.Proofs.YthcogkcjmhjjmaaDoor
