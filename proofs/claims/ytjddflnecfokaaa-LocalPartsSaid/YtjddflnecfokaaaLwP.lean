/- Running in parts, in plain mathematics. -/
import Derived.Test.YtjddflnecfokaaaLwC
namespace Go.Proofs.Ytjddflnecfokaaa
open Go.ChangeShapes Go.WideShapes Go.ChangeAt Go.RowKit
open Gen

theorem run_add (self : Int) (c : List In4) : ∀ (a b : Nat) (t : Thr), runN7 self c (a + b) t = if (runN7 self c a t).2 = a then ((runN7 self c b (runN7 self c a t).1).1, a + (runN7 self c b (runN7 self c a t).1).2) else runN7 self c a t := by
  intro a
  induction a with
  | zero => intro b t; simp [runN7]
  | succ a ih =>
    intro b t
    rw [show a + 1 + b = (a + b) + 1 by omega]
    by_cases h1 : t.pc < c.length
    · by_cases h2 : apE t self (c.getD t.pc.toNat (0, 0, 0, 0)) = 0
      · rw [run_go rfl h1 h2, run_go rfl h1 h2, ih]
        by_cases h3 : (runN7 self c a (apT t self (c.getD t.pc.toNat (0, 0, 0, 0)))).2 = a
        · rw [if_pos h3, if_pos (by simp only; omega)]; simp only [Prod.mk.injEq, true_and]; omega
        · rw [if_neg h3, if_neg (by simp only; omega)]
      · rw [run_err rfl h2, run_err rfl h2, if_neg (by simp)]
    · rw [run_out h1, run_out h1, if_neg (by simp)]
theorem run_le (self : Int) (c : List In4) : ∀ (a : Nat) (t : Thr), (runN7 self c a t).2 ≤ a := by
  intro a
  induction a with
  | zero => intro t; exact Nat.le_refl _
  | succ a ih =>
    intro t
    unfold runN7
    split
    · split
      · have := ih (apT t self (c.getD t.pc.toNat (0, 0, 0, 0))); simp only; omega
      · exact Nat.zero_le _
    · exact Nat.zero_le _
theorem run_stop (self : Int) (c : List In4) : ∀ (a : Nat) (t : Thr), (runN7 self c a t).2 ≠ a → ∀ b, runN7 self c b (runN7 self c a t).1 = ((runN7 self c a t).1, 0) := by
  intro a
  induction a with
  | zero => intro t h; exact absurd rfl h
  | succ a ih =>
    intro t h b
    by_cases h1 : t.pc < c.length
    · by_cases h2 : apE t self (c.getD t.pc.toNat (0, 0, 0, 0)) = 0
      · rw [run_go rfl h1 h2] at h ⊢
        exact ih _ (by simp only at h; omega) b
      · rw [run_err (m := a + 1) rfl h2]; exact run_err rfl h2
    · rw [run_out (m := a + 1) h1]; exact run_out h1
theorem run_may (self : Int) (c : List In4) : ∀ (a : Nat) (t : Thr), mayT7 t self = true → readyT t = true → mayT7 (runN7 self c a t).1 self = true ∧ readyT (runN7 self c a t).1 = true := by
  intro a
  induction a with
  | zero => intro t h h1; exact ⟨h, h1⟩
  | succ a ih =>
    intro t h h1
    unfold runN7
    split
    · split
      · rename_i h0
        obtain ⟨r1, r2, r3⟩ := right_do h0
        have e : mayT7 (apT t self (c.getD t.pc.toNat (0, 0, 0, 0))) self = true := by
          simp only [mayT7, Bool.and_eq_true, decide_eq_true_eq] at h ⊢
          exact ⟨r1, h.2⟩
        exact ih _ e (by rw [readyT, r2, r3]; rfl)
      · exact ⟨h, h1⟩
    · exact ⟨h, h1⟩
theorem rnE_ok {t : Thr} {self m : Int} (h : rnE t self m = 0) : mayT7 t self = true ∧ readyT t = true ∧ 0 ≤ m ∧ m ≤ 1000 := by
  unfold rnE at h
  split at h
  · omega
  · rename_i h1
    split at h
    · omega
    · rename_i h2
      have e : mayT7 t self = true := by cases hm : mayT7 t self with | true => rfl | false => exact absurd (Or.inl hm) h1
      have e3 : 0 ≤ m ∧ m ≤ 1000 := Classical.not_not.1 fun q => h1 (.inr q)
      exact ⟨e, by simpa using h2, e3.1, e3.2⟩
theorem rnE_mk {t : Thr} {self m : Int} (h : mayT7 t self = true) (h1 : readyT t = true) (h2 : 0 ≤ m ∧ m ≤ 1000) : rnE t self m = 0 := by
  rw [rnE, if_neg (fun q => q.elim (fun q => by rw [h] at q; cases q) (fun q => q h2)), if_neg (by rw [h1]; decide)]
theorem rnN_le (t : Thr) (self : Int) (c : List In4) (m : Nat) (_ : m ≤ 1000) : rnN t self c m ≤ m := by
  unfold rnN
  split
  · exact run_le self c _ t
  · exact Nat.zero_le _
theorem parts_math {u : Thr} {self : Int} {c : List In4} {one two : Nat} (h1 : one ≤ 199) (h2 : two ≤ 199) (h : rnE u self one = 0) :
    rnE (rnT u self c one) self two = 0 ∧ rnT u self c ((one : Int) + two) = rnT (rnT u self c one) self c two ∧ (rnN u self c ((one : Int) + two) : Int) = ((rnN u self c one : Int) + (rnN (rnT u self c one) self c two : Int)) ∧ rnE u self ((one : Int) + two) = 0 ∧ rnN u self c one ≤ one ∧ (rnN u self c one = one ∨ rnN (rnT u self c one) self c two = 0) := by
  obtain ⟨m1, m2, -, -⟩ := rnE_ok h
  have hT : rnT u self c one = (runN7 self c one u).1 := by rw [rnT, if_pos h]; rfl
  have hN : rnN u self c one = (runN7 self c one u).2 := by rw [rnN, if_pos h]; rfl
  obtain ⟨m3, m4⟩ := run_may self c one u m1 m2
  have e2 : rnE (runN7 self c one u).1 self two = 0 := rnE_mk m3 m4 (by omega)
  have e3 : rnE u self ((one : Int) + two) = 0 := rnE_mk m1 m2 (by omega)
  have hT2 : rnT (runN7 self c one u).1 self c two = (runN7 self c two (runN7 self c one u).1).1 := by rw [rnT, if_pos e2]; rfl
  have hN2 : rnN (runN7 self c one u).1 self c two = (runN7 self c two (runN7 self c one u).1).2 := by rw [rnN, if_pos e2]; rfl
  have hs : ((one : Int) + two).toNat = one + two := by omega
  have hT3 : rnT u self c ((one : Int) + two) = (runN7 self c (one + two) u).1 := by rw [rnT, if_pos e3, hs]
  have hN3 : rnN u self c ((one : Int) + two) = (runN7 self c (one + two) u).2 := by rw [rnN, if_pos e3, hs]
  rw [hT, hN, hT2, hN2, hT3, hN3, run_add]
  have hle := run_le self c one u
  by_cases hf : (runN7 self c one u).2 = one
  · rw [if_pos hf]
    exact ⟨e2, rfl, by simp only; rw [hf]; omega, e3, hle, .inl hf⟩
  · rw [if_neg hf]
    have hs := run_stop self c one u hf two
    exact ⟨e2, by rw [hs], by rw [hs]; simp, e3, hle, .inr (by rw [hs])⟩
end Go.Proofs.Ytjddflnecfokaaa
