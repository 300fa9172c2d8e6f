/- Calls in one another, in plain mathematics. -/
import Derived.Test.YtpdghgpmjadnnaaFrN
namespace Go.Proofs.Ytpdghgpmjadnnaa
open Go.ChangeShapes Go.WideShapes Go.ChangeAt Go.RowKit
open Gen

/-- the frames of calls from such places -/
def frs (r : Nat → Int) (l : List Int) : List Fr := l.map (fun p => (p + 1, r 4, r 5, r 6, r 7))
/-- who is in calls from such places -/
def nestT (u : Thr) (pc : Int) (l : List Int) : Thr := ⟨pc, u.r, frs u.r l, u.st, u.ft, u.lf⟩
def Places (l : List Int) : Prop := l.length ≤ 6 ∧ ∀ p ∈ l, 0 ≤ p ∧ p ≤ 999
theorem places_nil : Places [] := ⟨by decide, by simp⟩
theorem places_app {l : List Int} {p : Int} (h : Places l) (hl : l.length ≠ 6) (hp : 0 ≤ p ∧ p ≤ 999) : Places (l ++ [p]) := by
  refine ⟨by have := h.1; simp only [List.length_append, List.length_cons, List.length_nil]; omega, fun q hq => ?_⟩
  rcases List.mem_append.1 hq with hq | hq
  · exact h.2 q hq
  · simp at hq; subst hq; exact hp
theorem places_take {l : List Int} (h : Places l) (k : Nat) : Places (l.take k) := ⟨by have := h.1; simp only [List.length_take]; omega, fun q hq => h.2 q (List.mem_of_mem_take hq)⟩
theorem nest_len (u : Thr) (pc : Int) (l : List Int) : (nestT u pc l).fs.length = l.length := by simp [nestT, frs]
theorem nest_right {u : Thr} {pc : Int} {l : List Int} (h : rightT u = true) (hp : 0 ≤ pc ∧ pc ≤ 1000) (hl : Places l) : rightT (nestT u pc l) = true := by
  simp only [rightT, Bool.and_eq_true, decide_eq_true_eq] at h ⊢
  refine ⟨⟨⟨hp, ?_⟩, h.1.2⟩, h.2⟩
  simp only [rightFs, Bool.and_eq_true, decide_eq_true_eq, List.all_eq_true]
  refine ⟨by have := hl.1; have := nest_len u pc l; omega, fun f hf => ?_⟩
  simp only [nestT, frs, List.mem_map] at hf
  obtain ⟨p, hp, rfl⟩ := hf
  have := hl.2 p hp
  show 0 ≤ p + 1 ∧ p + 1 ≤ 1000
  omega
theorem nest_callE {u : Thr} {pc tg : Int} {l : List Int} (h : rightT u = true) (hp : 0 ≤ pc ∧ pc ≤ 999) (hl : Places l) (ht : 0 ≤ tg ∧ tg ≤ 999) : callE (nestT u pc l) tg = if l.length = 6 then 13 else 0 := by
  have h1 : rightT (nestT u pc l) = true ∧ (nestT u pc l).pc ≠ 1000 ∧ 0 ≤ tg ∧ tg ≤ 1000 := ⟨nest_right h (by omega) hl, by show pc ≠ 1000; omega, by omega, by omega⟩
  rw [callE, if_pos h1, nest_len]
theorem nest_callT {u : Thr} {pc tg : Int} {l : List Int} (h : rightT u = true) (hp : 0 ≤ pc ∧ pc ≤ 999) (hl : Places l) (ht : 0 ≤ tg ∧ tg ≤ 999) (h6 : l.length ≠ 6) : callT (nestT u pc l) tg = nestT u tg (l ++ [pc]) := by
  have h1 : callE (nestT u pc l) tg = 0 := by rw [nest_callE h hp hl ht, if_neg h6]
  rw [callT, if_pos h1]
  simp [nestT, frs]
theorem resR_self (r : Nat → Int) : resR r (r 4) (r 5) (r 6) (r 7) = r := by
  funext i
  simp only [resR]
  split
  · subst_vars; rfl
  · split
    · subst_vars; rfl
    · split
      · subst_vars; rfl
      · split
        · subst_vars; rfl
        · rfl
theorem nest_back {u : Thr} {pc p : Int} {l : List Int} (h : rightT u = true) (hp : 0 ≤ pc ∧ pc ≤ 1000) (hl : Places (l ++ [p])) : backE (nestT u pc (l ++ [p])) = 0 ∧ backT (nestT u pc (l ++ [p])) = nestT u (p + 1) l := by
  have h1 : backE (nestT u pc (l ++ [p])) = 0 := by rw [backE, if_pos (nest_right h hp hl), if_neg (by rw [nest_len]; simp)]
  refine ⟨h1, ?_⟩
  have h2 : lastF (nestT u pc (l ++ [p])) = (p + 1, u.r 4, u.r 5, u.r 6, u.r 7) := by simp [lastF, nestT, frs, List.getD_eq_getElem?_getD]
  rw [backT, if_pos h1, h2]
  simp [nestT, frs, resR_self]
theorem nest_back_none {u : Thr} {pc : Int} (h : rightT u = true) (hp : 0 ≤ pc ∧ pc ≤ 1000) : backE (nestT u pc []) = 8 ∧ backT (nestT u pc []) = zThr := by
  have h1 : backE (nestT u pc []) = 8 := by rw [backE, if_pos (nest_right h hp places_nil), if_pos (by rw [nest_len]; rfl)]
  exact ⟨h1, backT_no (by rw [h1]; decide)⟩
theorem nest_self {u : Thr} (h : u.fs.length = 0) : u = nestT u u.pc [] := by
  have h1 := List.eq_nil_of_length_eq_zero h
  obtain ⟨pc, r, fs, st, ft, lf⟩ := u
  simp at h1
  subst h1
  rfl
theorem rem_1000 (z : Int) : 0 ≤ (z.tmod 1000 + 1000).tmod 1000 ∧ (z.tmod 1000 + 1000).tmod 1000 ≤ 999 := by
  have h1 : -1000 < z.tmod 1000 := Int.lt_tmod_of_pos z (by decide)
  have h2 : 0 ≤ z.tmod 1000 + 1000 := by omega
  have h3 := Int.tmod_nonneg 1000 h2
  have h4 := Int.tmod_lt_of_pos (z.tmod 1000 + 1000) (show (0 : Int) < 1000 by decide)
  omega
theorem wrap_1000 (z : Int) : wrap64 (z.tmod 1000 + 1000) = z.tmod 1000 + 1000 := by
  have h1 := Int.lt_tmod_of_pos z (show (0 : Int) < 1000 by decide)
  have h2 := Int.tmod_lt_of_pos z (show (0 : Int) < 1000 by decide)
  exact IntWalk.wrap64_in _ (by omega)
end Go.Proofs.Ytpdghgpmjadnnaa
