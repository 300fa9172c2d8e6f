/- Package local, in plain mathematics: what an instruction does, whether it may be done. -/
import Derived.Test.YtjddflnecfokaaaFrN
import Derived.Lib.Zigzag
namespace Go.Proofs.Ytjddflnecfokaaa
open Go.ChangeShapes Go.WideShapes Go.ChangeAt Go.RowKit
open Gen

abbrev In4 := Int × Int × Int × Int
def in4 (i : In4) : List Value := [.int .i64 i.1, .int .i64 i.2.1, .int .i64 i.2.2.1, .int .i64 i.2.2.2]
def repIn : Rep In4 := repF 4 (by decide) in4 (fun _ => rfl)
def opd (i : In4) (k : Nat) : Int := if k = 0 then i.2.1 else if k = 1 then i.2.2.1 else i.2.2.2
/-- the signs of an operation's operands -/
def loSg (k : Nat) : List UInt8 := [[], [114, 110], [114, 114], [114, 114, 110], [114, 114, 110], [114, 114, 114], [114, 114, 114], [114, 114, 114], [114, 114, 114], [114, 114, 114], [116], [114, 116], [114, 116], [116], [], [114]].getD k []
def oprB (s : UInt8) (v : Int) : Bool := if s = 114 then decide (0 ≤ v ∧ v ≤ 7) else if s = 110 then true else decide (0 ≤ v ∧ v ≤ 1000)
def fitsS (i : In4) (s : List UInt8) : Bool := (List.range s.length).all fun k => oprB (s.getD k 0) (opd i k)
def fitsI (i : In4) : Bool := fitsS i (loSg i.1.toNat)

/-- registers with one of them another -/
def setR (r : Nat → Int) (a v : Int) : Nat → Int := fun k => if (k : Int) = a then v else r k
def rgt (t : Thr) (a : Int) : Int := t.r a.toNat
def goT (t : Thr) (pc : Int) : Thr := ⟨pc, t.r, t.fs, t.st, t.ft, t.lf⟩
def putT (t : Thr) (a v : Int) : Thr := ⟨t.pc + 1, setR t.r a v, t.fs, t.st, t.ft, t.lf⟩
def brT (t : Thr) (b : Bool) (pc : Int) : Thr := if b = true then goT t pc else goT t (t.pc + 1)
/-- what comes into the first operand's register -/
def opV (t : Thr) (self : Int) (i : In4) : Int :=
  if i.1 = 1 then i.2.2.1 else if i.1 = 2 then rgt t i.2.2.1 else if i.1 = 3 then wrap64 (rgt t i.2.2.1 + i.2.2.2) else if i.1 = 4 then bits .and .i64 (rgt t i.2.2.1) i.2.2.2 else
  if i.1 = 5 then wrap64 (rgt t i.2.2.1 + rgt t i.2.2.2) else if i.1 = 6 then wrap64 (rgt t i.2.2.1 - rgt t i.2.2.2) else if i.1 = 7 then bits .and .i64 (rgt t i.2.2.1) (rgt t i.2.2.2) else
  if i.1 = 8 then bits .xor .i64 (rgt t i.2.2.1) (rgt t i.2.2.2) else if i.1 = 9 then (if rgt t i.2.2.1 < rgt t i.2.2.2 then 1 else 0) else self
def doT (t : Thr) (self : Int) (i : In4) : Thr :=
  if i.1 = 10 then goT t i.2.1 else if i.1 = 11 then brT t (rgt t i.2.1 == 0) i.2.2.1 else if i.1 = 12 then brT t (rgt t i.2.1 != 0) i.2.2.1 else
  if i.1 = 13 then callT t i.2.1 else if i.1 = 14 then backT t else putT t i.2.1 (opV t self i)
def doE (t : Thr) (i : In4) : Int := if i.1 = 13 then callE t i.2.1 else if i.1 = 14 then backE t else 0
def readyT (t : Thr) : Bool := decide (t.st = 0) && decide (t.lf.length = 0)
def mayT7 (t : Thr) (self : Int) : Bool := rightT t && decide (0 ≤ self ∧ self ≤ 7)
def apE (t : Thr) (self : Int) (i : In4) : Int :=
  if mayT7 t self = false ∨ t.pc = 1000 then 1 else if readyT t = false then 9 else if i.1 < 1 ∨ 15 < i.1 then 10 else if fitsI i = false then 3 else doE t i
def apT (t : Thr) (self : Int) (i : In4) : Thr := if apE t self i = 0 then doT t self i else zThr
theorem apT_no {t : Thr} {self : Int} {i : In4} (h : apE t self i ≠ 0) : apT t self i = zThr := by rw [apT, if_neg h]
/-- so many instructions, and how many were done -/
def runN7 (self : Int) (c : List In4) : Nat → Thr → Thr × Nat
  | 0, t => (t, 0)
  | m + 1, t => if t.pc < c.length then (if apE t self (c.getD t.pc.toNat (0, 0, 0, 0)) = 0 then ((runN7 self c m (apT t self (c.getD t.pc.toNat (0, 0, 0, 0)))).1, (runN7 self c m (apT t self (c.getD t.pc.toNat (0, 0, 0, 0)))).2 + 1) else (t, 0)) else (t, 0)
def rnE (t : Thr) (self most : Int) : Int := if mayT7 t self = false ∨ ¬ (0 ≤ most ∧ most ≤ 1000) then 1 else if readyT t = false then 9 else 0
def rnT (t : Thr) (self : Int) (c : List In4) (most : Int) : Thr := if rnE t self most = 0 then (runN7 self c most.toNat t).1 else zThr
def rnN (t : Thr) (self : Int) (c : List In4) (most : Int) : Nat := if rnE t self most = 0 then (runN7 self c most.toNat t).2 else 0

theorem reg_cases {a : Int} (h : 0 ≤ a ∧ a ≤ 7) : ∃ j : Nat, a = j ∧ j < 8 := ⟨a.toNat, by omega, by omega⟩
theorem setR_nat (r : Nat → Int) (j : Nat) (v : Int) (k : Nat) : setR r (j : Int) v k = if k = j then v else r k := by
  unfold setR
  by_cases h : k = j
  · subst h; simp
  · rw [if_neg h, if_neg (by omega)]
theorem get_reg (r : Nat → Int) (j : Nat) (hj : j < 8) (p : Value) (x : List Value) : (p :: (.int .i64 (r 0)) :: (.int .i64 (r 1)) :: (.int .i64 (r 2)) :: (.int .i64 (r 3)) :: (.int .i64 (r 4)) :: (.int .i64 (r 5)) :: (.int .i64 (r 6)) :: (.int .i64 (r 7)) :: x)[1 + j]? = some (.int .i64 (r j)) := by
  rcases (show j = 0 ∨ j = 1 ∨ j = 2 ∨ j = 3 ∨ j = 4 ∨ j = 5 ∨ j = 6 ∨ j = 7 by omega) with rfl | rfl | rfl | rfl | rfl | rfl | rfl | rfl <;> rfl
theorem set_reg (r : Nat → Int) (j : Nat) (hj : j < 8) (v : Int) (p : Value) (x : List Value) : (p :: (.int .i64 (r 0)) :: (.int .i64 (r 1)) :: (.int .i64 (r 2)) :: (.int .i64 (r 3)) :: (.int .i64 (r 4)) :: (.int .i64 (r 5)) :: (.int .i64 (r 6)) :: (.int .i64 (r 7)) :: x).set (1 + j) (.int .i64 v) =
    (p :: (.int .i64 (setR r j v 0)) :: (.int .i64 (setR r j v 1)) :: (.int .i64 (setR r j v 2)) :: (.int .i64 (setR r j v 3)) :: (.int .i64 (setR r j v 4)) :: (.int .i64 (setR r j v 5)) :: (.int .i64 (setR r j v 6)) :: (.int .i64 (setR r j v 7)) :: x) := by
  simp only [setR_nat]
  rcases (show j = 0 ∨ j = 1 ∨ j = 2 ∨ j = 3 ∨ j = 4 ∨ j = 5 ∨ j = 6 ∨ j = 7 by omega) with rfl | rfl | rfl | rfl | rfl | rfl | rfl | rfl <;> rfl
theorem set_reg0 (r : Nat → Int) (j : Nat) (hj : j < 8) (v : Int) (x : List Value) : ((.int .i64 (r 0)) :: (.int .i64 (r 1)) :: (.int .i64 (r 2)) :: (.int .i64 (r 3)) :: (.int .i64 (r 4)) :: (.int .i64 (r 5)) :: (.int .i64 (r 6)) :: (.int .i64 (r 7)) :: x).set j (.int .i64 v) =
    ((.int .i64 (setR r j v 0)) :: (.int .i64 (setR r j v 1)) :: (.int .i64 (setR r j v 2)) :: (.int .i64 (setR r j v 3)) :: (.int .i64 (setR r j v 4)) :: (.int .i64 (setR r j v 5)) :: (.int .i64 (setR r j v 6)) :: (.int .i64 (setR r j v 7)) :: x) := by
  simp only [setR_nat]
  rcases (show j = 0 ∨ j = 1 ∨ j = 2 ∨ j = 3 ∨ j = 4 ∨ j = 5 ∨ j = 6 ∨ j = 7 by omega) with rfl | rfl | rfl | rfl | rfl | rfl | rfl | rfl <;> rfl

/-! ### a thread that goes on is one that may be -/
theorem right_go {t : Thr} {pc : Int} {r : Nat → Int} (h : rightT t = true) (hp : 0 ≤ pc ∧ pc ≤ 1000) : rightT ⟨pc, r, t.fs, t.st, t.ft, t.lf⟩ = true := by
  simp only [rightT, Bool.and_eq_true, decide_eq_true_eq] at h ⊢
  exact ⟨⟨⟨hp, h.1.1.2⟩, h.1.2⟩, h.2⟩
theorem fits_at {i : In4} {s : List UInt8} (h : fitsS i s = true) {k : Nat} (hk : k < s.length) : oprB (s.getD k 0) (opd i k) = true := by
  simp only [fitsS, List.all_eq_true, List.mem_range] at h
  exact h k hk
theorem opr_r {v : Int} (h : oprB 114 v = true) : 0 ≤ v ∧ v ≤ 7 := by simpa [oprB] using h
theorem opr_t {v : Int} (h : oprB 116 v = true) : 0 ≤ v ∧ v ≤ 1000 := by simpa [oprB] using h
/-- what has been asked of an instruction that may be done -/
theorem fits_reg {i : In4} (h : fitsI i = true) (h1 : 1 ≤ i.1) (h2 : i.1 ≤ 15) : (i.1 ≠ 10 ∧ i.1 ≠ 13 ∧ i.1 ≠ 14 → 0 ≤ i.2.1 ∧ i.2.1 ≤ 7) ∧ ((i.1 = 10 ∨ i.1 = 13) → 0 ≤ i.2.1 ∧ i.2.1 ≤ 1000) ∧
    ((2 ≤ i.1 ∧ i.1 ≤ 9) → 0 ≤ i.2.2.1 ∧ i.2.2.1 ≤ 7) ∧ ((i.1 = 11 ∨ i.1 = 12) → 0 ≤ i.2.2.1 ∧ i.2.2.1 ≤ 1000) ∧ ((5 ≤ i.1 ∧ i.1 ≤ 9) → 0 ≤ i.2.2.2 ∧ i.2.2.2 ≤ 7) := by
  obtain ⟨o, A, B, C⟩ := i
  simp only at h1 h2 ⊢
  have hc : o = 1 ∨ o = 2 ∨ o = 3 ∨ o = 4 ∨ o = 5 ∨ o = 6 ∨ o = 7 ∨ o = 8 ∨ o = 9 ∨ o = 10 ∨ o = 11 ∨ o = 12 ∨ o = 13 ∨ o = 14 ∨ o = 15 := by omega
  rcases hc with rfl | rfl | rfl | rfl | rfl | rfl | rfl | rfl | rfl | rfl | rfl | rfl | rfl | rfl | rfl <;>
    simp [fitsI, fitsS, loSg, oprB, opd, List.range_succ] at h ⊢ <;> omega
theorem apE_ok {t : Thr} {self : Int} {i : In4} (h : apE t self i = 0) : rightT t = true ∧ (0 ≤ self ∧ self ≤ 7) ∧ t.pc ≠ 1000 ∧ t.st = 0 ∧ t.lf = [] ∧ 1 ≤ i.1 ∧ i.1 ≤ 15 ∧ fitsI i = true ∧ doE t i = 0 ∧ apT t self i = doT t self i := by
  have h' := h
  unfold apE at h
  split at h
  · omega
  · rename_i h1
    split at h
    · omega
    · rename_i h2
      split at h
      · omega
      · rename_i h3
        split at h
        · omega
        · rename_i h4
          have e : mayT7 t self = true := by cases hm : mayT7 t self with | true => rfl | false => exact absurd (Or.inl hm) h1
          have e2 : readyT t = true := by simpa using h2
          simp only [mayT7, readyT, Bool.and_eq_true, decide_eq_true_eq] at e e2
          exact ⟨e.1, e.2, fun hp => h1 (.inr hp), e2.1, List.eq_nil_of_length_eq_zero e2.2, by omega, by omega, by simpa using h4, h, by rw [apT, if_pos h']⟩
theorem right_do {t : Thr} {self : Int} {i : In4} (h : apE t self i = 0) : rightT (apT t self i) = true ∧ (apT t self i).st = 0 ∧ (apT t self i).lf = [] := by
  obtain ⟨h1, h2, h3, h4, h5, h6, h7, h8, h9, h10⟩ := apE_ok h
  obtain ⟨f1, f2, f3, f4, f5⟩ := fits_reg h8 h6 h7
  have hp := rightT_pc h1
  rw [h10]
  unfold doT
  split
  · exact ⟨right_go h1 (f2 (.inl (by assumption))), h4, h5⟩
  · split
    · unfold brT; split
      · exact ⟨right_go h1 (f4 (.inl (by assumption))), h4, h5⟩
      · exact ⟨right_go h1 (by omega), h4, h5⟩
    · split
      · unfold brT; split
        · exact ⟨right_go h1 (f4 (.inr (by assumption))), h4, h5⟩
        · exact ⟨right_go h1 (by omega), h4, h5⟩
      · split
        · rename_i hq
          have hc : callE t i.2.1 = 0 := by rw [doE, if_pos hq] at h9; exact h9
          obtain ⟨c1, c2, c3, c4, c5, c6⟩ := callE_ok hc
          rw [c6]
          exact ⟨rightT_app h1 c5 ⟨c3, c4⟩ (by show 0 ≤ t.pc + 1 ∧ t.pc + 1 ≤ 1000; omega), h4, h5⟩
        · split
          · rename_i hn hq
            have hc : backE t = 0 := by rw [doE, if_neg hn, if_pos hq] at h9; exact h9
            have hl : t.fs.length ≠ 0 := fun e => by rw [backE, if_pos h1, if_pos e] at hc; omega
            have hm : lastF t ∈ t.fs := by
              rw [lastF, List.getD_eq_getElem?_getD, List.getElem?_eq_getElem (by omega)]
              exact List.getElem_mem _
            rw [backT, if_pos hc]
            refine ⟨?_, h4, h5⟩
            simp only [rightT, rightFs, Bool.and_eq_true, decide_eq_true_eq, List.all_eq_true] at h1 ⊢
            refine ⟨⟨⟨h1.1.1.2.2 _ hm, by rw [List.length_take]; have := h1.1.1.2.1; omega, fun f hf => h1.1.1.2.2 f (List.mem_of_mem_take hf)⟩, h1.1.2⟩, h1.2⟩
          · exact ⟨right_go h1 (by omega), h4, h5⟩
end Go.Proofs.Ytjddflnecfokaaa
