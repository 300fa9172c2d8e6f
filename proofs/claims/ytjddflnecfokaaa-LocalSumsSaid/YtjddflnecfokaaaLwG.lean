/- LocalSums, in plain mathematics; its drawn assignment. -/
import Derived.Test.YtjddflnecfokaaaLoAl
import Derived.Test.YtjddflnecfokaaaLoR
namespace Go.Proofs.Ytjddflnecfokaaa
open Go.ChangeShapes Go.WideShapes Go.ChangeAt Go.RowKit
open Gen

theorem add_sub64 (a b : Int) (h1 : -9223372036854775808 ≤ a) (h2 : a ≤ 9223372036854775807) : wrap64 (wrap64 (a + b) - b) = a := by
  unfold wrap64; omega
theorem xor_int (a b : Int) : bits .xor .i64 a b = (BitVec.ofInt 64 a ^^^ BitVec.ofInt 64 b).toInt := by
  show IntKind.i64.wrap ((BitVec.ofInt 64 a ^^^ BitVec.ofInt 64 b).toNat : Int) = _
  generalize BitVec.ofInt 64 a ^^^ BitVec.ofInt 64 b = x
  have hx := x.isLt
  rw [IntKind.wrap_i64, BitVec.toInt_eq_toNat_cond]
  split <;> omega
theorem of_int64 (a : Int) (h1 : -9223372036854775808 ≤ a) (h2 : a ≤ 9223372036854775807) : (BitVec.ofInt 64 a).toInt = a := by
  rw [BitVec.toInt_ofInt, Int.bmod_def]
  split <;> omega
theorem xor_three (a b : Int) (ha : -9223372036854775808 ≤ a ∧ a ≤ 9223372036854775807) (hb : -9223372036854775808 ≤ b ∧ b ≤ 9223372036854775807) :
    bits .xor .i64 (bits .xor .i64 a b) b = a ∧ bits .xor .i64 (bits .xor .i64 a b) a = b := by
  have e : BitVec.ofInt 64 (bits .xor .i64 a b) = BitVec.ofInt 64 a ^^^ BitVec.ofInt 64 b := by rw [xor_int, BitVec.ofInt_toInt]
  constructor
  · rw [xor_int, e, BitVec.xor_assoc, BitVec.xor_self, BitVec.xor_zero, of_int64 a ha.1 ha.2]
  · rw [xor_int, e, BitVec.xor_comm (BitVec.ofInt 64 a), BitVec.xor_assoc, BitVec.xor_self, BitVec.xor_zero, of_int64 b hb.1 hb.2]
/-- a thread at a place, with registers, and nothing else -/
def reT (pc : Int) (r : Nat → Int) : Thr := ⟨pc, r, [], 0, 0, []⟩
theorem re_ap {pc : Int} {r : Nat → Int} {i : In4} (hp : 0 ≤ pc ∧ pc ≤ 999) (h1 : 1 ≤ i.1 ∧ i.1 ≤ 12) (hf : fitsI i = true) : apE (reT pc r) 0 i = 0 ∧ apT (reT pc r) 0 i = doT (reT pc r) 0 i := by
  have hr : rightT (reT pc r) = true := by
    simp only [rightT, Bool.and_eq_true, decide_eq_true_eq]
    exact ⟨⟨⟨by show 0 ≤ pc ∧ pc ≤ 1000; omega, rfl⟩, rfl⟩, rfl⟩
  have e : apE (reT pc r) 0 i = 0 := by
    rw [apE, if_neg (fun h => h.elim (fun h => by rw [mayT7, hr] at h; cases h) (fun h => by have h : pc = 1000 := h; omega)), if_neg (show ¬ readyT (reT pc r) = false by rw [show readyT (reT pc r) = true from rfl]; decide), if_neg (by omega), if_neg (by rw [hf]; decide), doE, if_neg (by omega), if_neg (by omega)]
  exact ⟨e, by rw [apT, if_pos e]⟩
theorem fits_abc {o : Int} {a b c : Nat} (h : o = 5 ∨ o = 6 ∨ o = 8 ∨ o = 9) (ha : a < 8) (hb : b < 8) (hc : c < 8) : fitsI (o, (a : Int), (b : Int), (c : Int)) = true := by
  rcases h with rfl | rfl | rfl | rfl <;> simp [fitsI, fitsS, loSg, oprB, opd, List.range_succ] <;> omega
theorem fits_br {o : Int} {a : Nat} (h : o = 11 ∨ o = 12) (ha : a < 8) : fitsI (o, (a : Int), 9, 0) = true := by
  rcases h with rfl | rfl <;> simp [fitsI, fitsS, loSg, oprB, opd, List.range_succ] <;> omega
def valR (o : Int) (r : Nat → Int) (b c : Nat) : Int := if o = 5 then wrap64 (r b + r c) else if o = 6 then wrap64 (r b - r c) else if o = 8 then bits .xor .i64 (r b) (r c) else if r b < r c then 1 else 0
theorem re_val {pc o : Int} {r : Nat → Int} {a b c : Nat} (hp : 0 ≤ pc ∧ pc ≤ 999) (h : o = 5 ∨ o = 6 ∨ o = 8 ∨ o = 9) (ha : a < 8) (hb : b < 8) (hc : c < 8) :
    apE (reT pc r) 0 (o, (a : Int), (b : Int), (c : Int)) = 0 ∧ apT (reT pc r) 0 (o, (a : Int), (b : Int), (c : Int)) = reT (pc + 1) (setR r a (valR o r b c)) := by
  obtain ⟨e1, e2⟩ := re_ap (pc := pc) (r := r) (i := (o, (a : Int), (b : Int), (c : Int))) hp (by show 1 ≤ o ∧ o ≤ 12; omega) (fits_abc h ha hb hc)
  refine ⟨e1, ?_⟩
  rw [e2]
  rcases h with rfl | rfl | rfl | rfl <;> rfl
def brP (o z : Int) : Int := if o = 11 then (if z = 0 then 9 else 1) else (if z = 0 then 1 else 9)
theorem re_br {o : Int} {r : Nat → Int} {a : Nat} (h : o = 11 ∨ o = 12) (ha : a < 8) :
    apE (reT 0 r) 0 (o, (a : Int), 9, 0) = 0 ∧ apT (reT 0 r) 0 (o, (a : Int), 9, 0) = reT (brP o (r a)) r := by
  obtain ⟨e1, e2⟩ := re_ap (pc := 0) (r := r) (i := (o, (a : Int), 9, 0)) (by decide) (by show 1 ≤ o ∧ o ≤ 12; omega) (fits_br h ha)
  refine ⟨e1, ?_⟩
  rw [e2]
  rcases h with rfl | rfl
  · show brT (reT 0 r) (r a == 0) 9 = reT (brP 11 (r a)) r
    unfold brP
    rw [if_pos rfl]
    by_cases h0 : r a = 0
    · rw [show (r a == 0) = true by simpa using h0, if_pos h0]; rfl
    · rw [show (r a == 0) = false by simpa using h0, if_neg h0]; rfl
  · show brT (reT 0 r) (r a != 0) 9 = reT (brP 12 (r a)) r
    unfold brP
    rw [if_neg (by decide)]
    by_cases h0 : r a = 0
    · rw [show (r a != 0) = false by simpa using h0, if_pos h0]; rfl
    · rw [show (r a != 0) = true by simpa using h0, if_neg h0]; rfl
theorem wf_int {z : Int} (h : (Lit.int .i64 z).wf = true) : -9223372036854775808 ≤ z ∧ z ≤ 9223372036854775807 := by
  simp only [Lit.wf, Bool.and_eq_true, decide_eq_true_eq] at h
  exact h
theorem eqR_of {r s : Nat → Int} (h : ∀ k, k < 8 → r k = s k) : eqR r s = true := by
  simp only [eqR, List.all_eq_true, List.mem_range, beq_iff_eq]; exact h
theorem wrap_8 (z : Int) : wrap64 (z.tmod 8 + 8) = z.tmod 8 + 8 := by
  have h1 := Int.lt_tmod_of_pos z (show (0 : Int) < 8 by decide)
  have h2 := Int.tmod_lt_of_pos z (show (0 : Int) < 8 by decide)
  exact IntWalk.wrap64_in _ (by omega)
theorem rem_8 (z : Int) : ∃ j : Nat, (z.tmod 8 + 8).tmod 8 = j ∧ j < 8 := by
  have h1 : -8 < z.tmod 8 := Int.lt_tmod_of_pos z (by decide)
  have h2 : 0 ≤ z.tmod 8 + 8 := by omega
  have h3 := Int.tmod_nonneg 8 h2
  have h4 := Int.tmod_lt_of_pos (z.tmod 8 + 8) (show (0 : Int) < 8 by decide)
  exact ⟨((z.tmod 8 + 8).tmod 8).toNat, by omega, by omega⟩
/-- what adding and taking away leaves; what three exclusive ors leave -/
theorem sums_math {r : Nat → Int} {x y : Nat} (hx : x < 8) (hne : x ≠ y) (hw : ∀ j, j < 8 → (Lit.int .i64 (r j)).wf = true) :
    eqR (setR (setR r x (valR 5 r x y)) x (valR 6 (setR r x (valR 5 r x y)) x y)) r = true := by
  refine eqR_of fun k hk => ?_
  rw [setR_nat]
  by_cases h : k = x
  · subst h
    rw [if_pos rfl]
    show wrap64 (setR r k (wrap64 (r k + r y)) k - setR r k (wrap64 (r k + r y)) y) = r k
    rw [setR_nat, if_pos rfl, setR_nat, if_neg (by omega)]
    exact add_sub64 _ _ (wf_int (hw k hx)).1 (wf_int (hw k hx)).2
  · rw [if_neg h, setR_nat, if_neg h]
theorem xors_math {r s : Nat → Int} {x y : Nat} (hx : x < 8) (hy : y < 8) (hne : x ≠ y) (hw : ∀ j, j < 8 → (Lit.int .i64 (r j)).wf = true) (hs : ∀ k, k ≠ x → k ≠ y → s k = r k) (h1 : s x = r y) (h2 : s y = r x) :
    let r1 := setR r x (valR 8 r x y)
    let r2 := setR r1 y (valR 8 r1 x y)
    eqR (setR r2 x (valR 8 r2 x y)) s = true := by
  intro r1 r2
  have e := xor_three (r x) (r y) (wf_int (hw x hx)) (wf_int (hw y hy))
  have a1 : r1 x = bits .xor .i64 (r x) (r y) := by show setR r x _ x = _; rw [setR_nat, if_pos rfl]; rfl
  have a2 : r1 y = r y := by show setR r x _ y = _; rw [setR_nat, if_neg (by omega)]
  have b1 : r2 x = bits .xor .i64 (r x) (r y) := by show setR r1 y _ x = _; rw [setR_nat, if_neg hne, a1]
  have b2 : r2 y = r x := by
    show setR r1 y (bits .xor .i64 (r1 x) (r1 y)) y = _
    rw [setR_nat, if_pos rfl, a1, a2]; exact e.1
  refine eqR_of fun k hk => ?_
  rw [setR_nat]
  by_cases h : k = x
  · subst h
    rw [if_pos rfl, h1]
    show bits .xor .i64 (r2 k) (r2 y) = r y
    rw [b1, b2]; exact e.2
  · rw [if_neg h]
    by_cases h' : k = y
    · subst h'; rw [b2, h2]
    · show setR r1 y _ k = _
      rw [setR_nat, if_neg h']
      show setR r x _ k = _
      rw [setR_nat, if_neg h, hs k h h']
theorem thF_nil {w : World} {pc : Int} {r : Nat → Int} {fa la : Option Addr} {fc lc : Nat} (h1 : Cap fa 0 fc) (h2 : Cap la 0 lc) : ThF w fa 0 fc la 0 lc (reT pc r) := ⟨h1, ⟨rfl, .inl rfl⟩, h2, ⟨rfl, .inl rfl⟩⟩
inductive WantR (r : Nat → Int) (g v jx jy : Nat) (a0 : Act) (w0 : World) (listed : Array Bool) (act' : Act) (w' : World) : Prop
  | mk (p99 p100 p101 p102 p103 p104 p105 p106 p107 p108 : Value) (rr : Nat → Int) (ea : act' = ((((((((((a0.put (some 99) p99).put (some 100) p100).put (some 101) p101).put (some 102) p102).put (some 103) p103).put (some 104) p104).put (some 105) p105).put (some 106) p106).put (some 107) p107).put (some 108) p108)) (hb : Below v w0 w' ∧ VarN w' g [.int .i64 (r 0), .int .i64 (r 1), .int .i64 (r 2), .int .i64 (r 3), .int .i64 (r 4), .int .i64 (r 5), .int .i64 (r 6), .int .i64 (r 7)] ∧ VarN w' v [.int .i64 (rr 0), .int .i64 (rr 1), .int .i64 (rr 2), .int .i64 (rr 3), .int .i64 (rr 4), .int .i64 (rr 5), .int .i64 (rr 6), .int .i64 (rr 7)] ∧ (∀ k, k ≠ jx → k ≠ jy → rr k = r k)) (hf0 : Up listed 0 → p99 = .int .i64 (jx : Nat)) (hf1 : Up listed 1 → p100 = .int .i64 (jy : Nat)) (hf2 : Up listed 2 → p101 = .int .i64 (jy : Nat)) (hf3 : Up listed 3 → p102 = .pointer (some ⟨g, jy, none⟩)) (hf4 : Up listed 4 → p103 = .int .i64 (r jy)) (hf5 : Up listed 5 → p104 = .int .i64 (jx : Nat)) (hf6 : Up listed 6 → p105 = .pointer (some ⟨g, jx, none⟩)) (hf7 : Up listed 7 → p106 = .int .i64 (r jx)) (hf8 : Up listed 8 → p107 = .pointer (some ⟨v, jx, none⟩)) (hS : Up listed 9 → rr jx = r jy) (hf10 : Up listed 10 → p108 = .pointer (some ⟨v, jy, none⟩)) (hU : Up listed 11 → rr jy = r jx) : WantR r g v jx jy a0 w0 listed act' w'
end Go.Proofs.Ytjddflnecfokaaa
