/- Package local: what one round of Run does, as its order may be. -/
import Derived.Test.YtjddflnecfokaaaLoM
namespace Go.Proofs.Ytjddflnecfokaaa
open Go.ChangeShapes Go.WideShapes Go.ChangeAt Go.RowKit
open Gen

theorem thQ_und {Q : Nat → Prop} {w : World} {fa la : Option Addr} {fn fc ln lc : Nat} {t : Thr} (h : ThQ Q w fa fn fc la ln lc t) : ThQ (fun b => Q b ∧ b < w.heap.size) w fa fn fc la ln lc t := ⟨h.fcap, vs_und h.fs, h.lcap, vs_und h.lf⟩
inductive InvR (T : Thr) (self : Int) (i : In4) (j v : Nat) (fa la : Option Addr) (fn fc ln lc : Nat) (cb co cn cc : Nat) (z : Thr) (x : Int) (a0 : Act) (w0 : World) (listed : Array Bool) (act' : Act) (w' : World) : Prop
  | mk (p42 p43 p44 p45 p46 p47 p48 p49 p41 p50 p51 p13 p14 : Value) (fa3 : Option Addr) (fn3 : Nat) (fc3 : Nat) (la3 : Option Addr) (ln3 : Nat) (lc3 : Nat) (u : Nat) (xs : List Value) (ea : act' = (((((((((((((a0.put (some 42) p42).put (some 43) p43).put (some 44) p44).put (some 45) p45).put (some 46) p46).put (some 47) p47).put (some 48) p48).put (some 49) p49).put (some 41) p41).put (some 50) p50).put (some 51) p51).put (some 13) p13).put (some 14) p14)) (hb : Below w0.heap.size w0 w' ∧ VarN w' v [.int .i64 T.pc, .int .i64 (T.r 0), .int .i64 (T.r 1), .int .i64 (T.r 2), .int .i64 (T.r 3), .int .i64 (T.r 4), .int .i64 (T.r 5), .int .i64 (T.r 6), .int .i64 (T.r 7), .slice fa fn fc, .int .i64 T.st, .int .i64 T.ft, .slice la ln lc]) (hf0 : Up listed 0 → p42 = .agg #[.int .i64 T.pc, .int .i64 (T.r 0), .int .i64 (T.r 1), .int .i64 (T.r 2), .int .i64 (T.r 3), .int .i64 (T.r 4), .int .i64 (T.r 5), .int .i64 (T.r 6), .int .i64 (T.r 7), .slice fa fn fc, .int .i64 T.st, .int .i64 T.ft, .slice la ln lc]) (hf1 : Up listed 1 → p43 = .int .i64 self) (hf2 : Up listed 2 → p44 = .slice (some ⟨cb, co, none⟩) cn cc) (hf3 : Up listed 3 → p45 = .pointer (some ⟨v, 0, none⟩)) (hf4 : Up listed 4 → p46 = .int .i64 (j : Nat)) (hf5 : Up listed 5 → p47 = .pointer (some ⟨cb, co + j * 4, none⟩)) (hf6 : Up listed 6 → p48 = .agg #[.int .i64 i.1, .int .i64 i.2.1, .int .i64 i.2.2.1, .int .i64 i.2.2.2]) (hD : Up listed 7 → p49 = .tuple #[.agg #[.int .i64 z.pc, .int .i64 (z.r 0), .int .i64 (z.r 1), .int .i64 (z.r 2), .int .i64 (z.r 3), .int .i64 (z.r 4), .int .i64 (z.r 5), .int .i64 (z.r 6), .int .i64 (z.r 7), .slice fa3 fn3 fc3, .int .i64 z.st, .int .i64 z.ft, .slice la3 ln3 lc3], .int .i64 x] ∧ ThQ (fun b => w0.heap.size ≤ b ∧ (Up listed 11 → b ≠ u)) w' fa3 fn3 fc3 la3 ln3 lc3 z) (hf8 : Up listed 8 → p41 = .tuple #[.agg #[.int .i64 z.pc, .int .i64 (z.r 0), .int .i64 (z.r 1), .int .i64 (z.r 2), .int .i64 (z.r 3), .int .i64 (z.r 4), .int .i64 (z.r 5), .int .i64 (z.r 6), .int .i64 (z.r 7), .slice fa3 fn3 fc3, .int .i64 z.st, .int .i64 z.ft, .slice la3 ln3 lc3], .int .i64 x]) (hW8 : Up listed 8 → Up listed 7) (hf9 : Up listed 9 → p50 = .agg #[.int .i64 z.pc, .int .i64 (z.r 0), .int .i64 (z.r 1), .int .i64 (z.r 2), .int .i64 (z.r 3), .int .i64 (z.r 4), .int .i64 (z.r 5), .int .i64 (z.r 6), .int .i64 (z.r 7), .slice fa3 fn3 fc3, .int .i64 z.st, .int .i64 z.ft, .slice la3 ln3 lc3]) (hW9 : Up listed 9 → Up listed 7) (hf10 : Up listed 10 → p51 = .int .i64 x) (hA : Up listed 11 → p13 = .pointer (some ⟨u, 0, none⟩) ∧ w0.heap.size ≤ u ∧ VarN w' u xs ∧ xs.length = 13) (hS : Up listed 12 → Up listed 11 ∧ Up listed 7 ∧ xs = [.int .i64 z.pc, .int .i64 (z.r 0), .int .i64 (z.r 1), .int .i64 (z.r 2), .int .i64 (z.r 3), .int .i64 (z.r 4), .int .i64 (z.r 5), .int .i64 (z.r 6), .int .i64 (z.r 7), .slice fa3 fn3 fc3, .int .i64 z.st, .int .i64 z.ft, .slice la3 ln3 lc3]) (hf13 : Up listed 13 → p14 = .int .i64 x) : InvR T self i j v fa la fn fc ln lc cb co cn cc z x a0 w0 listed act' w'
/-! ### running, in plain mathematics -/
theorem run_zero (self : Int) (c : List In4) (t : Thr) : runN7 self c 0 t = (t, 0) := rfl
theorem run_out {self : Int} {c : List In4} {m : Nat} {t : Thr} (h : ¬ t.pc < c.length) : runN7 self c m t = (t, 0) := by
  cases m with
  | zero => rfl
  | succ m => rw [runN7, if_neg h]
theorem run_err {self : Int} {c : List In4} {m : Nat} {t : Thr} {i : In4} (hi : c.getD t.pc.toNat (0, 0, 0, 0) = i) (h : apE t self i ≠ 0) : runN7 self c m t = (t, 0) := by
  cases m with
  | zero => rfl
  | succ m =>
    by_cases h1 : t.pc < c.length
    · rw [runN7, if_pos h1, hi, if_neg h]
    · rw [runN7, if_neg h1]
theorem run_go {self : Int} {c : List In4} {m : Nat} {t : Thr} {i : In4} (hi : c.getD t.pc.toNat (0, 0, 0, 0) = i) (h1 : t.pc < c.length) (h : apE t self i = 0) : runN7 self c (m + 1) t = ((runN7 self c m (apT t self i)).1, (runN7 self c m (apT t self i)).2 + 1) := by
  rw [runN7, if_pos h1, hi, if_pos h]
/-- where so many of m instructions have been done -/
def Ran (self : Int) (c : List In4) (m : Nat) (t : Thr) (k : Nat) (T : Thr) : Prop := k ≤ m ∧ mayT7 T self = true ∧ readyT T = true ∧ (runN7 self c m t).1 = (runN7 self c (m - k) T).1 ∧ (runN7 self c m t).2 = k + (runN7 self c (m - k) T).2
theorem ran_start {self : Int} {c : List In4} {m : Nat} {t : Thr} (h : mayT7 t self = true) (h1 : readyT t = true) : Ran self c m t 0 t := ⟨by omega, h, h1, rfl, by simp⟩
theorem ran_end {self : Int} {c : List In4} {m : Nat} {t : Thr} {k : Nat} {T : Thr} (h : Ran self c m t k T) (h1 : runN7 self c (m - k) T = (T, 0)) : (runN7 self c m t).1 = T ∧ (runN7 self c m t).2 = k := by
  obtain ⟨-, -, -, h4, h5⟩ := h
  rw [h1] at h4 h5
  exact ⟨h4, h5⟩
theorem ran_go {self : Int} {c : List In4} {m : Nat} {t : Thr} {k : Nat} {T : Thr} {i : In4} (h : Ran self c m t k T) (hk : k < m) (hi : c.getD T.pc.toNat (0, 0, 0, 0) = i) (h1 : T.pc < c.length) (h0 : apE T self i = 0) : Ran self c m t (k + 1) (apT T self i) := by
  obtain ⟨_, h2, h3, h4, h5⟩ := h
  obtain ⟨r1, r2, r3⟩ := right_do h0
  rw [show m - k = m - (k + 1) + 1 by omega, run_go hi h1 h0] at h4 h5
  have e : mayT7 (apT T self i) self = true := by simp only [mayT7, Bool.and_eq_true, decide_eq_true_eq] at h2 ⊢; exact ⟨r1, h2.2⟩
  exact ⟨by omega, e, by simp [readyT, r2, r3], h4, by rw [h5]; simp only; omega⟩
end Go.Proofs.Ytjddflnecfokaaa
