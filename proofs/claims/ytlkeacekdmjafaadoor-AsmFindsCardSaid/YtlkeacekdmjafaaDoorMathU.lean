/- Plain mathematics: the document's own reading of a text is that of package asm. -/
import Derived.Test.YtlkeacekdmjafaaDoorAsR
import Derived.Test.YtlkeacekdmjafaaDoorMathJ
namespace Go.Proofs.YtlkeacekdmjafaaDoor

/-- a line that is a label is its name and a colon -/
theorem label_form {l : Bs} (h : labB l = true) : l = nmL l ++ [58] := by
  have h2 : Lib.hasSuffix l [58] = true := h
  obtain ⟨p, rfl⟩ := List.isSuffixOf_iff_suffix.1 h2
  have e : nmL (p ++ [58]) = p := by
    show Lib.trimSuffix (p ++ [58]) [58] = p
    rw [Lib.trimSuffix, if_pos h2]
    simp
  rw [e]
theorem nm_of (q : Bs) : labB (q ++ [58]) = true ∧ nmL (q ++ [58]) = q := by
  have h : Lib.hasSuffix (q ++ [58]) [58] = true := List.isSuffixOf_iff_suffix.2 ⟨q, rfl⟩
  refine ⟨h, ?_⟩
  show Lib.trimSuffix (q ++ [58]) [58] = q
  rw [Lib.trimSuffix, if_pos h]
  simp
theorem label_iff (l q : Bs) : (labB l = true ∧ nmL l = q) ↔ l = q ++ [58] := by
  constructor
  · rintro ⟨h1, h2⟩
    rw [← h2]
    exact label_form h1
  · rintro rfl
    exact nm_of q
def ends (ls : List Bs) : List (Bs × Bool) := ls.map (fun x => (x, true))
theorem targ_go {q : Bs} (hq : nameB q = true) : ∀ (ls : List Bs) (n k : Nat), (labAt.go (ends ls) n k q).map (·.2) = (targR ls k q).map (fun (m : Nat) => (m : Int))
  | [], _, _ => rfl
  | x :: r, n, k => by
    simp only [ends, List.map_cons, labAt.go, targR]
    by_cases h : labB x = true
    · rw [if_pos h]
      by_cases h2 : x = q ++ [58]
      · rw [if_pos h2, if_pos ⟨((label_iff x q).2 h2).2, trivial, hq⟩]
        rfl
      · rw [if_neg h2, if_neg (fun h3 => h2 ((label_iff x q).1 ⟨h, h3.1⟩)), if_pos h]
        exact targ_go hq r (n + 1) k
    · rw [if_neg h, if_neg (fun h2 => h ((label_iff x q).2 h2).1), if_neg h]
      exact targ_go hq r (n + 1) (k + 1)
theorem opR_E (ls : List Bs) (c : Nat) (p : Bs) : opR ls c p = opndE (labAt (ends ls)) c p := by
  unfold opR opndE
  by_cases h1 : c = 114
  · rw [if_pos (by omega), if_pos h1]
  · rw [if_neg (by omega), if_neg h1]
    by_cases h2 : c = 110
    · rw [if_pos (by omega), if_pos h2]
      cases h : numR p with
      | none => exact (numR_none h).symm
      | some v => exact (numR_some h).symm
    · rw [if_neg (by omega), if_neg h2]
      unfold targE
      by_cases h3 : nameB p = false
      · rw [if_pos h3, if_pos h3]
      · rw [if_neg h3, if_neg h3]
        have h4 := targ_go (by simpa using h3) ls 0 0
        have h5 : labAt (ends ls) p = labAt.go (ends ls) 0 0 p := rfl
        rw [h5]
        cases ha : labAt.go (ends ls) 0 0 p with
        | none =>
          rw [ha] at h4
          cases hb : targR ls 0 p with
          | none => rfl
          | some m => rw [hb] at h4; cases h4
        | some z =>
          rw [ha] at h4
          cases hb : targR ls 0 p with
          | none => rw [hb] at h4; cases h4
          | some m =>
            rw [hb] at h4
            injection h4 with h4
            dsimp only at h4 ⊢
            rw [h4]

/-- the first line of a label is the one that is told -/
theorem go_first {q : Bs} (hq : nameB q = true) : ∀ (ls : List Bs) (n k j : Nat), ls[j]? = some (q ++ [58]) → ∃ (i : Nat) (z : Int), i ≤ j ∧ ls[i]? = some (q ++ [58]) ∧ (∀ i', i' < i → ls[i']? ≠ some (q ++ [58])) ∧ labAt.go (ends ls) n k q = some (((n + i + 1 : Nat) : Int), z)
  | [], _, _, _, h => by simp at h
  | x :: r, n, k, j, h => by
    simp only [ends, List.map_cons, labAt.go]
    by_cases h2 : x = q ++ [58]
    · have h3 := (label_iff x q).2 h2
      rw [if_pos h3.1, if_pos ⟨h3.2, trivial, hq⟩]
      exact ⟨0, _, Nat.zero_le _, by simp [h2], fun i' hi => by omega, rfl⟩
    · obtain ⟨j', rfl⟩ : ∃ j', j = j' + 1 := by
        cases j with
        | zero => simp at h; exact absurd h h2
        | succ j' => exact ⟨j', rfl⟩
      rw [List.getElem?_cons_succ] at h
      have key : ∀ n' k', ∃ (i : Nat) (z : Int), i ≤ j' + 1 ∧ (x :: r)[i]? = some (q ++ [58]) ∧ (∀ i', i' < i → (x :: r)[i']? ≠ some (q ++ [58])) ∧ labAt.go (ends r) n' k' q = some (((n' + i : Nat) : Int), z) := fun n' k' => by
        obtain ⟨i, z, h4, h5, h6, h7⟩ := go_first hq r n' k' j' h
        refine ⟨i + 1, z, by omega, by rw [List.getElem?_cons_succ]; exact h5, fun i' hi' => ?_, h7⟩
        cases i' with
        | zero => simpa using h2
        | succ i' => rw [List.getElem?_cons_succ]; exact h6 i' (by omega)
      by_cases hl : labB x = true
      · rw [if_pos hl, if_neg (fun h3 => h2 ((label_iff x q).1 ⟨hl, h3.1⟩))]
        obtain ⟨i, z, h4, h5, h6, h7⟩ := key (n + 1) k
        exact ⟨i, z, h4, h5, h6, by rw [show n + i + 1 = n + 1 + i by omega]; exact h7⟩
      · rw [if_neg hl]
        obtain ⟨i, z, h4, h5, h6, h7⟩ := key (n + 1) (k + 1)
        exact ⟨i, z, h4, h5, h6, by rw [show n + i + 1 = n + 1 + i by omega]; exact h7⟩
theorem first_new {ls : List Bs} {k : Nat} {s : Bs} (hk : ls[k]? = some s) (hl : labB s = true) (hn : nameB (nmL s) = true) (h : ∀ j, j < k → ls[j]? ≠ some s) : ((labAt (ends ls) (nmL s)).getD (0, 0)).1 = (k : Int) + 1 := by
  have hf := label_form hl
  obtain ⟨i, z, h1, h2, h3, h4⟩ := go_first hn ls 0 0 k (by rw [← hf]; exact hk)
  rw [← hf] at h2 h3
  have hi : i = k := by
    rcases Nat.lt_or_ge i k with q | q
    · exact absurd h2 (h i q)
    · omega
  subst hi
  rw [show labAt (ends ls) (nmL s) = labAt.go (ends ls) 0 0 (nmL s) from rfl, h4]
  show ((0 + i + 1 : Nat) : Int) = _
  omega
theorem first_old {ls : List Bs} {j k : Nat} {s : Bs} (hj : ls[j]? = some s) (hjk : j < k) (hl : labB s = true) (hn : nameB (nmL s) = true) : ((labAt (ends ls) (nmL s)).getD (0, 0)).1 ≠ (k : Int) + 1 := by
  have hf := label_form hl
  obtain ⟨i, z, h1, h2, h3, h4⟩ := go_first hn ls 0 0 j (by rw [← hf]; exact hj)
  rw [show labAt (ends ls) (nmL s) = labAt.go (ends ls) 0 0 (nmL s) from rfl, h4]
  show ((0 + i + 1 : Nat) : Int) ≠ _
  omega
/-- the lines, and what stands behind the last one -/
theorem lines_parts {t : Bs} {ls : List Bs} {z : Bs} (h : parts 10 t = ls ++ [z]) : linesL t = ends ls ++ (if z = [] then [] else [(z, false)]) := by
  rw [linesL, h, List.dropLast_concat, List.getLast?_concat]
  cases z with
  | nil => rfl
  | cons b r => simp [ends]
theorem lab_parts {ls : List Bs} {z nm : Bs} : labAt (ends ls ++ (if z = [] then [] else [(z, false)])) nm = labAt (ends ls) nm := by
  by_cases h : z = []
  · rw [if_pos h, List.append_nil]
  · rw [if_neg h, labAt_snoc, if_neg (fun q => by simpa using q.2.2.1)]
    cases labAt (ends ls) nm <;> rfl
end Go.Proofs.YtlkeacekdmjafaaDoor
