/- Package phase: the deeds in plain words; the table of deeds, and each of them. -/
import Derived.Test.YtkhifcnjilbmlaaPhC
import Derived.Laws.EntriesVeiled
namespace Go.Proofs.Ytkhifcnjilbmlaa
open Go.ChangeShapes Go.WideShapes Go.ChangeAt Go.RowKit
open Gen

def phTab (d x g : Int) : Int × Int × Int := if d = 0 then ((phEnter x g).1, g, (phEnter x g).2) else if d = 1 then ((phLeave x).1, g, (phLeave x).2) else (x, (phFlip g).1, (phFlip g).2)
def phDo (d : Int) (s : Int × Int × Nat) : Int × Int × Nat := if (phTab d s.1 s.2.1).2.2 = 0 then ((phTab d s.1 s.2.1).1, (phTab d s.1 s.2.1).2.1, s.2.2) else (s.1, s.2.1, s.2.2 + 1)
def phGo (l : List Int) (s : Int × Int × Nat) : Int × Int × Nat := l.foldl (fun s d => phDo d s) s
def phD (d : Int) : Bool := decide (0 ≤ d ∧ d ≤ 2)
def phDs (l : List Int) : Bool := l.all phD

theorem phTab_right {d x g : Int} (h : phR x g = true) (e : (phTab d x g).2.2 = 0) : phR (phTab d x g).1 (phTab d x g).2.1 = true := by
  obtain ⟨hx, hg⟩ := phR_t h
  have hW := phW_t (x := x)
  simp only [phR, Bool.and_eq_true] at h
  have hR : phR x g = true := by simp only [phR, Bool.and_eq_true]; exact h
  have mk : ∀ a b : Int, 0 ≤ a ∧ a ≤ 127 → (b = 1 ∨ b = 65) → phR a b = true := by
    intro a b ha hb
    simp only [phR, phW, phG, Bool.and_eq_true, decide_eq_true_eq]; exact ⟨ha, hb⟩
  by_cases d0 : d = 0
  · subst d0
    simp only [phTab, if_true] at e ⊢
    refine mk _ _ ?_ hg
    simp only [phEnter, hR] at e ⊢
    split <;> rename_i q1
    · simp at q1
    · split <;> rename_i q2
      · exact phGW hg
      · split <;> rename_i q3
        · simp
        · simp only; omega
  · by_cases d1 : d = 1
    · subst d1
      simp only [phTab, show ¬ (1 : Int) = 0 by decide, if_false, if_true] at e ⊢
      refine mk _ _ ?_ hg
      simp only [phLeave, h.1] at e ⊢
      split <;> rename_i q1
      · simp at q1
      · split <;> rename_i q2
        · simp
        · simp only; omega
    · simp only [phTab, if_neg d0, if_neg d1] at e ⊢
      refine mk _ _ hx ?_
      simp only [phFlip, h.2] at e ⊢
      split
      · rename_i q; simp at q
      · simp only; omega
theorem phDo_right {d : Int} {s : Int × Int × Nat} (h : phR s.1 s.2.1 = true) : phR (phDo d s).1 (phDo d s).2.1 = true := by
  unfold phDo
  split
  · rename_i e; exact phTab_right h e
  · exact h
theorem phDo_le (d : Int) (s : Int × Int × Nat) : (phDo d s).2.2 ≤ s.2.2 + 1 := by
  unfold phDo
  split
  · exact Nat.le_succ _
  · exact Nat.le_refl _
theorem phGo_snoc (l : List Int) (d : Int) (s : Int × Int × Nat) : phGo (l ++ [d]) s = phDo d (phGo l s) := by simp [phGo]
theorem phGo_right (l : List Int) {s : Int × Int × Nat} (h : phR s.1 s.2.1 = true) : phR (phGo l s).1 (phGo l s).2.1 = true := by
  induction l generalizing s with
  | nil => exact h
  | cons d l ih => exact ih (s := phDo d s) (phDo_right h)
theorem phGo_le (l : List Int) (s : Int × Int × Nat) : (phGo l s).2.2 ≤ s.2.2 + l.length := by
  induction l generalizing s with
  | nil => exact Nat.le_refl _
  | cons d l ih =>
    have := ih (phDo d s)
    have h2 := phDo_le d s
    simp only [phGo, List.foldl_cons, List.length_cons] at this ⊢
    omega
theorem phTake {l : List Int} {k : Nat} (h : k < l.length) : l.take (k + 1) = l.take k ++ [l.getD k 0] := by
  rw [List.take_add_one]
  simp [List.getD, h]

def PhTr (p : Int × Int × Int) (w : World) (e : Ending) (w' : World) : Prop := e = .returned (.tuple #[.int .i64 p.1, .int .i64 p.2.1, .int .i64 p.2.2]) ∧ Below w.heap.size w w'
theorem deed0_any (x g : Int) (w : World) : Calls Try.prog 27 #[.int .i64 x, .int .i64 g] w (PhTr ((phEnter x g).1, g, (phEnter x g).2) w) := by
  go_enter Try.func27, Try.ntmps27
  go_wp2_with fail
  refine (enter14_any x g _).mono ?_
  rintro e w1 ⟨rfl, hb1⟩
  go_wp2
  go_returns
  exact ⟨rfl, hb1⟩
theorem deed1_any (x g : Int) (w : World) : Calls Try.prog 28 #[.int .i64 x, .int .i64 g] w (PhTr ((phLeave x).1, g, (phLeave x).2) w) := by
  go_enter Try.func28, Try.ntmps28
  go_wp2_with fail
  refine (leave14_any x _).mono ?_
  rintro e w1 ⟨rfl, hb1⟩
  go_wp2
  go_returns
  exact ⟨rfl, hb1⟩
theorem deed2_any (x g : Int) (w : World) : Calls Try.prog 29 #[.int .i64 x, .int .i64 g] w (PhTr (x, (phFlip g).1, (phFlip g).2) w) := by
  go_enter Try.func29, Try.ntmps29
  go_wp2_with fail
  refine (flip14_any g _).mono ?_
  rintro e w1 ⟨rfl, hb1⟩
  go_wp2
  go_returns
  exact ⟨rfl, hb1⟩
theorem table14_any (w : World) : Calls Try.prog 26 #[] w fun e w' => e = .returned (.agg #[.func (.func 27) #[] #[], .func (.func 28) #[] #[], .func (.func 29) #[] #[]]) ∧ Below w.heap.size w w' := by
  go_enter Try.func26, Try.ntmps26
  go_wp2
  go_returns
  exact ⟨rfl, by go_grown⟩
end Go.Proofs.Ytkhifcnjilbmlaa
