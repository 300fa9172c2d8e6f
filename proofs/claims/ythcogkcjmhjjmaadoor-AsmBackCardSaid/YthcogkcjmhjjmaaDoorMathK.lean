/- Plain functions on lists of bytes that say what package asm answers; nothing of the program is imported. -/
import Derived.Lib.ItoaNum
import Derived.Lib.AtoiAll
namespace Go.Proofs.YthcogkcjmhjjmaaDoor

abbrev Bs := List UInt8
def digB (b : UInt8) : Bool := decide (48 ≤ b.toNat ∧ b.toNat ≤ 57)
def lowB (b : UInt8) : Bool := decide (97 ≤ b.toNat ∧ b.toNat ≤ 122)
/-- is it a name? -/
def nameB (l : Bs) : Bool := decide (1 ≤ l.length ∧ l.length ≤ 12) && !digB (l.getD 0 0) && l.all (fun b => digB b || lowB b)
def okTo (l : Bs) (k : Nat) : Prop := ∀ i, i < k → (digB (l.getD i 0) || lowB (l.getD i 0)) = true
theorem okTo_succ {l : Bs} {k : Nat} (h : okTo l k) (h1 : (digB (l.getD k 0) || lowB (l.getD k 0)) = true) : okTo l (k + 1) := fun i hi => by
  by_cases e : i = k
  · subst e; exact h1
  · exact h i (by omega)
theorem okTo_all {l : Bs} : okTo l l.length ↔ l.all (fun b => digB b || lowB b) = true := by
  rw [List.all_eq_true]
  constructor
  · intro h b hb
    obtain ⟨i, hi, rfl⟩ := List.mem_iff_getElem.1 hb
    simpa [hi] using h i hi
  · intro h i hi
    simpa [hi] using h l[i] (List.getElem_mem hi)
theorem nameB_yes {l : Bs} (h1 : 1 ≤ l.length) (h2 : l.length ≤ 12) (h3 : digB (l.getD 0 0) = false) (h4 : okTo l l.length) : nameB l = true := by
  simp only [nameB, h3, okTo_all.1 h4, Bool.not_false, Bool.and_true, decide_eq_true_eq]
  exact ⟨h1, h2⟩
theorem nameB_no {l : Bs} (h : l.length < 1 ∨ 12 < l.length ∨ digB (l.getD 0 0) = true ∨ ∃ i, i < l.length ∧ (digB (l.getD i 0) || lowB (l.getD i 0)) = false) : nameB l = false := by
  cases hn : nameB l with
  | false => rfl
  | true =>
    simp only [nameB, Bool.and_eq_true, decide_eq_true_eq, Bool.not_eq_true'] at hn
    obtain ⟨⟨⟨a, b⟩, c⟩, d⟩ := hn
    rcases h with h | h | h | ⟨i, hi, h⟩
    · omega
    · omega
    · rw [c] at h; cases h
    · have := okTo_all.2 d i hi
      rw [h] at this; cases this
/-- the register that a part tells, or why not -/
def regE (l : Bs) : Int × Int := if l.length = 2 ∧ (l.getD 0 0).toNat = 114 ∧ 48 ≤ (l.getD 1 0).toNat ∧ (l.getD 1 0).toNat ≤ 55 then ((l.getD 1 0).toNat - 48, 0) else (0, 3)
def fitsK (sign v many : Int) : Bool := if sign = 114 then decide (0 ≤ v ∧ v ≤ 7) else if sign = 110 then decide (-1000000000 ≤ v ∧ v ≤ 1000000000) else decide (0 ≤ v ∧ v ≤ many)
end Go.Proofs.YthcogkcjmhjjmaaDoor
