/- Floats of 64 bits, in plain numbers: how words stand to each other; that a sum of what is not below 0 is not less than its parts. Nothing of the program is named. -/
import Derived.Laws.FloatArith
namespace Go.Proofs.Ytmdkokhlfflokaa.Fl
open Ieee
/-- how great the magnitude of a rung is, in units of the least place -/
def val (r : Nat) : Nat := if r < 4503599627370496 then r else (4503599627370496 + r % 4503599627370496) * 2 ^ (r / 4503599627370496 - 1)
theorem val_step (r : Nat) : val r < val (r + 1) := by
  unfold val
  by_cases h1 : r + 1 < 4503599627370496
  · rw [if_pos (by omega), if_pos h1]; omega
  · by_cases h2 : r < 4503599627370496
    · obtain rfl : r = 4503599627370495 := by omega
      decide
    · rw [if_neg h2, if_neg h1]
      by_cases h3 : r % 4503599627370496 + 1 < 4503599627370496
      · have e1 : (r + 1) / 4503599627370496 = r / 4503599627370496 := by omega
        have e2 : (r + 1) % 4503599627370496 = r % 4503599627370496 + 1 := by omega
        rw [e1, e2]
        exact Nat.mul_lt_mul_of_pos_right (by omega) (Nat.two_pow_pos _)
      · have e1 : (r + 1) / 4503599627370496 = r / 4503599627370496 + 1 := by omega
        have e2 : (r + 1) % 4503599627370496 = 0 := by omega
        obtain ⟨k, hk⟩ : ∃ k, r / 4503599627370496 = k + 1 := ⟨r / 4503599627370496 - 1, by omega⟩
        rw [e1, e2, hk, show k + 1 - 1 = k from rfl, show k + 1 + 1 - 1 = k + 1 from rfl, Nat.pow_succ, ← Nat.mul_assoc, Nat.mul_right_comm]
        exact Nat.mul_lt_mul_of_pos_right (by omega) (Nat.two_pow_pos _)
theorem val_mono {r s : Nat} (h : r < s) : val r < val s := by
  induction s with
  | zero => omega
  | succ s ih =>
    by_cases e : r = s
    · subst e; exact val_step _
    · exact Nat.lt_trans (ih (by omega)) (val_step _)
theorem val_lt {r s : Nat} : val r < val s ↔ r < s := by
  refine ⟨fun h => ?_, val_mono⟩
  apply Classical.byContradiction
  intro hn
  rcases Nat.lt_or_ge s r with h2 | h2
  · have := val_mono h2; omega
  · obtain rfl : r = s := by omega
    omega
theorem val_zero : val 0 = 0 := rfl
/-- the rung of a word, and its sign -/
def rung (x : Nat) : Nat := x % 9223372036854775808
def sgn (x : Nat) : Bool := x / 9223372036854775808 % 2 == 1
theorem c1 : double.binade = 4503599627370496 := by decide
theorem c2 : double.infRung = 9218868437227405312 := by decide
theorem c3 : double.signWeight = 9223372036854775808 := by decide
theorem c4 : double.leastPlace = -1074 := by decide
theorem c5 : double.fractionBits = 52 := rfl
/-- what a word stands for: a magnitude at a place -/
theorem read_num {x : Nat} (h : rung x < 9218868437227405312) : ∃ (m a : Nat), double.read x = .number (sgn x) m (-1074 + a) ∧ m * 2 ^ a = val (rung x) := by
  unfold Format.read
  simp only [c1, c2, c3, c4]
  unfold rung at h ⊢
  by_cases h1 : x % 9223372036854775808 < 4503599627370496
  · rw [if_pos h1]
    refine ⟨_, 0, rfl, ?_⟩
    rw [val, if_pos h1]; simp
  · rw [if_neg h1, if_pos h]
    refine ⟨_, _, rfl, ?_⟩
    rw [val, if_neg h1]
theorem read_inf {x : Nat} (h : rung x = 9218868437227405312) : double.read x = .infinity (sgn x) := by
  unfold Format.read
  simp only [c1, c2, c3, c4]
  unfold rung at h
  rw [if_neg (by omega), if_neg (by omega), if_pos h]; rfl
theorem read_nan {x : Nat} (h : 9218868437227405312 < rung x) : ∃ t, double.read x = .nan (sgn x) t := by
  unfold Format.read
  simp only [c1, c2, c3, c4]
  unfold rung at h
  rw [if_neg (by omega), if_neg (by omega), if_neg (by omega)]
  exact ⟨_, rfl⟩
/-- a signed magnitude -/
def sv (s : Bool) (v : Nat) : Int := if s then -(v : Int) else v
theorem signed_sv (s : Bool) (m k : Nat) : signed s m k = sv s (m * 2 ^ k) := by
  unfold signed sv
  rw [Nat.shiftLeft_eq]
theorem sv_scale (s : Bool) (v k : Nat) : sv s (v * 2 ^ k) = sv s v * 2 ^ k := by
  unfold sv
  cases s
  · simp
  · simp [Int.neg_mul]
theorem compare_scale (a b : Int) (k : Nat) : compare (a * 2 ^ k) (b * 2 ^ k) = compare a b := by
  have hp : (0 : Int) < 2 ^ k := Int.pow_pos (by decide)
  rcases Int.lt_trichotomy a b with h | h | h
  · have h2 := Int.mul_lt_mul_of_pos_right h hp
    rw [Int.compare_eq_lt.2 h, Int.compare_eq_lt.2 h2]
  · subst h; simp
  · have h2 := Int.mul_lt_mul_of_pos_right h hp
    rw [Int.compare_eq_gt.2 h, Int.compare_eq_gt.2 h2]
def isn (x : Nat) : Bool := decide (9218868437227405312 < rung x)
def S (x : Nat) : Int := sv (sgn x) (rung x)
theorem compare_of {a b c d : Int} (h1 : a < b ↔ c < d) (h2 : b < a ↔ d < c) : compare a b = compare c d := by
  rcases Int.lt_trichotomy a b with h | h | h
  · rw [Int.compare_eq_lt.2 h, Int.compare_eq_lt.2 (h1.1 h)]
  · have : c = d := by
      rcases Int.lt_trichotomy c d with k | k | k
      · have := h1.2 k; omega
      · exact k
      · have := h2.2 k; omega
    subst h this; simp
  · rw [Int.compare_eq_gt.2 h, Int.compare_eq_gt.2 (h2.1 h)]
theorem compare_val (s t : Bool) (r q : Nat) : compare (sv s (val r)) (sv t (val q)) = compare (sv s r) (sv t q) := by
  have h1 := @val_lt r q
  have h2 := @val_lt q r
  have h3 := @val_lt 0 r
  have h4 := @val_lt 0 q
  rw [val_zero] at h3 h4
  unfold sv
  cases s <;> cases t <;> simp only [Bool.false_eq_true, if_true, if_false] <;> apply compare_of <;> omega
theorem order_some {x y : Nat} (hx : isn x = false) (hy : isn y = false) : double.order x y = some (compare (S x) (S y)) := by
  simp only [isn, decide_eq_false_iff_not, Nat.not_lt] at hx hy
  unfold Format.order S
  by_cases h1 : rung x = 9218868437227405312
  · rw [read_inf h1]
    by_cases h2 : rung y = 9218868437227405312
    · rw [read_inf h2, h1, h2]
      cases sgn x <;> cases sgn y <;> rfl
    · obtain ⟨m, a, e, -⟩ := read_num (x := y) (by omega)
      rw [e, h1]
      have : rung y < 9218868437227405312 := by omega
      simp only [Datum.order]
      cases sgn x
      · simp only [Bool.false_eq_true, if_false]
        rw [Int.compare_eq_gt.2]
        unfold sv; cases sgn y <;> simp <;> omega
      · simp only [if_true]
        rw [Int.compare_eq_lt.2]
        unfold sv; cases sgn y <;> simp <;> omega
  · obtain ⟨m, a, e, hv⟩ := read_num (x := x) (by omega)
    rw [e]
    by_cases h2 : rung y = 9218868437227405312
    · rw [read_inf h2, h2]
      have : rung x < 9218868437227405312 := by omega
      simp only [Datum.order]
      cases sgn y
      · simp only [Bool.false_eq_true, if_false]
        rw [Int.compare_eq_lt.2]
        unfold sv; cases sgn x <;> simp <;> omega
      · simp only [if_true]
        rw [Int.compare_eq_gt.2]
        unfold sv; cases sgn x <;> simp <;> omega
    · obtain ⟨n, b, e2, hw⟩ := read_num (x := y) (by omega)
      rw [e2]
      simp only [Datum.order]
      congr 1
      rw [signed_sv, signed_sv]
      obtain ⟨c, hc⟩ : ∃ c, c = min a b := ⟨_, rfl⟩
      have ea : ((-1074 : Int) + (a : Int) - min (-1074 + (a : Int)) (-1074 + (b : Int))).toNat = a - c := by omega
      have eb : ((-1074 : Int) + (b : Int) - min (-1074 + (a : Int)) (-1074 + (b : Int))).toNat = b - c := by omega
      rw [ea, eb, ← compare_scale _ _ c, ← sv_scale, ← sv_scale, Nat.mul_assoc, ← Nat.pow_add, Nat.mul_assoc, ← Nat.pow_add, show a - c + c = a by omega, show b - c + c = b by omega, hv, hw]
      exact compare_val _ _ _ _
theorem order_none {x y : Nat} (h : isn x = true ∨ isn y = true) : double.order x y = none := by
  simp only [isn, decide_eq_true_eq] at h
  unfold Format.order
  rcases h with h | h
  · obtain ⟨t, e⟩ := read_nan h
    rw [e]; rfl
  · obtain ⟨t, e⟩ := read_nan h
    rw [e]; cases double.read x <;> rfl
/-- the numbers in order: -0 ahead of 0, all NaN behind all others, alike -/
def K (x : Nat) : Int := if isn x then 9218868437227405313 else if sgn x then -(rung x : Int) - 1 else rung x
def lessF (x y : Nat) : Bool := decide (K x < K y)
theorem lt_of {x y : Nat} : (double.order x y == some .lt) = (!isn x && !isn y && decide (S x < S y)) := by
  cases hx : isn x with
  | true => rw [order_none (.inl hx)]; rfl
  | false => cases hy : isn y with
    | true => rw [order_none (.inr hy)]; rfl
    | false =>
      rw [order_some hx hy]
      rcases Int.lt_trichotomy (S x) (S y) with h | h | h
      · rw [Int.compare_eq_lt.2 h]; simp [h]
      · rw [h]; simp
      · rw [Int.compare_eq_gt.2 h]; simp; omega
theorem gt_of {x y : Nat} : (double.order x y == some .gt) = (!isn x && !isn y && decide (S y < S x)) := by
  cases hx : isn x with
  | true => rw [order_none (.inl hx)]; rfl
  | false => cases hy : isn y with
    | true => rw [order_none (.inr hy)]; rfl
    | false =>
      rw [order_some hx hy]
      rcases Int.lt_trichotomy (S x) (S y) with h | h | h
      · rw [Int.compare_eq_lt.2 h]; simp; omega
      · rw [h]; simp
      · rw [Int.compare_eq_gt.2 h]; simp [h]
theorem eq_of {x y : Nat} : (double.order x y == some .eq) = (!isn x && !isn y && decide (S x = S y)) := by
  cases hx : isn x with
  | true => rw [order_none (.inl hx)]; rfl
  | false => cases hy : isn y with
    | true => rw [order_none (.inr hy)]; rfl
    | false =>
      rw [order_some hx hy]
      rcases Int.lt_trichotomy (S x) (S y) with h | h | h
      · rw [Int.compare_eq_lt.2 h]; simp; omega
      · rw [h]; simp
      · rw [Int.compare_eq_gt.2 h]; simp; omega
/-- x != x: just the NaN -/
theorem neq_self (x : Nat) : (double.order x x != some .eq) = isn x := by
  rw [bne, eq_of]; cases isn x <;> simp
/-- the order that the document asks for, as a rule would ask it: by NaN, by zeros, by less -/
theorem less_rule (x y : Nat) : lessF x y = (if isn x then false else if isn y then true else if S x = 0 ∧ S y = 0 then sgn x && !sgn y else decide (S x < S y)) := by
  unfold lessF K S
  cases hx : isn x with
  | true =>
    simp only [if_true]
    cases hy : isn y with
    | true => simp
    | false =>
      simp only [isn, decide_eq_true_eq, decide_eq_false_iff_not] at hx hy
      simp only [Bool.false_eq_true, if_false, decide_eq_false_iff_not]
      cases sgn y <;> simp <;> omega
  | false =>
    simp only [Bool.false_eq_true, if_false]
    cases hy : isn y with
    | true =>
      simp only [isn, decide_eq_true_eq, decide_eq_false_iff_not] at hx hy
      simp only [if_true, decide_eq_true_eq]
      cases sgn x <;> simp <;> omega
    | false =>
      simp only [Bool.false_eq_true, if_false]
      unfold sv
      cases sgn x <;> cases sgn y <;> simp only [Bool.false_eq_true, if_true, if_false, Bool.and_true, Bool.and_false, Bool.not_true, Bool.not_false]
      all_goals
        split
        · rename_i h
          first
            | (rw [decide_eq_false_iff_not]; omega)
            | (rw [decide_eq_true_eq]; omega)
        · rename_i h
          first
            | (rw [decide_eq_decide]; done)
            | (rw [decide_eq_decide]; omega)
theorem near_le (mag : Nat) (place : Int) : double.nearest false mag place ≤ 9218868437227405312 := by
  unfold Format.nearest
  dsimp only
  split
  · simp [Format.word]
  · simp only [Format.word, Bool.false_eq_true, if_false, c2]
    exact Nat.min_le_right _ _
theorem cut_ge (n drop : Nat) : n / 2 ^ drop ≤ Toward.even.cut false n drop := by
  unfold Toward.cut
  dsimp only
  refine Nat.le_trans ?_ (Nat.le_add_right _ _)
  rw [Nat.shiftLeft_eq, Nat.one_mul]
  exact Nat.div_le_div_left (Nat.pow_le_pow_right (by decide) (Nat.min_le_left _ _)) (Nat.two_pow_pos _)
theorem val_next (d q : Nat) (h : (d = 0 ∧ q < 9007199254740992) ∨ (4503599627370496 ≤ q ∧ q < 9007199254740992)) : val (d * 4503599627370496 + q + 1) = (q + 1) * 2 ^ d := by
  unfold val
  by_cases h1 : d * 4503599627370496 + q + 1 < 4503599627370496
  · have hd : d = 0 := by omega
    rw [if_pos h1, hd, Nat.zero_mul, Nat.zero_add, Nat.pow_zero, Nat.mul_one]
  · rw [if_neg h1]
    by_cases h2 : q + 1 < 4503599627370496
    · omega
    · by_cases h3 : q + 1 < 9007199254740992
      · have e1 : (d * 4503599627370496 + q + 1) / 4503599627370496 = d + 1 := by omega
        have e2 : (d * 4503599627370496 + q + 1) % 4503599627370496 = q + 1 - 4503599627370496 := by omega
        rw [e1, e2, Nat.add_sub_cancel, show 4503599627370496 + (q + 1 - 4503599627370496) = q + 1 by omega]
      · have e1 : (d * 4503599627370496 + q + 1) / 4503599627370496 = d + 2 := by omega
        have e2 : (d * 4503599627370496 + q + 1) % 4503599627370496 = 0 := by omega
        rw [e1, e2, show d + 2 - 1 = d + 1 from rfl, Nat.pow_succ, ← Nat.mul_assoc, Nat.mul_right_comm, show (4503599627370496 + 0) * 2 = q + 1 by omega]
/-- rounding goes below no rung that the exact number is not below -/
theorem near_ge (P mag a : Nat) (hP : P ≤ 9218868437227405312) (h : val P ≤ mag * 2 ^ a) : P ≤ double.nearest false mag (-1074 + a) := by
  unfold Format.nearest
  dsimp only
  by_cases h0 : mag = 0
  · subst h0
    rw [Nat.zero_mul] at h
    have : ¬ 0 < P := fun hp => by have := val_mono hp; rw [val_zero] at this; omega
    omega
  · rw [if_neg h0]
    simp only [Format.word, Bool.false_eq_true, if_false, c1, c2, c4, c5]
    obtain ⟨l, hl⟩ : ∃ l, mag.log2 = l := ⟨_, rfl⟩
    rw [hl]
    have hl1 : 2 ^ l ≤ mag := by rw [← hl]; exact Nat.log2_self_le h0
    have hl2 : mag < 2 ^ (l + 1) := by rw [← hl]; exact Nat.lt_log2_self
    obtain ⟨d, hd⟩ : ∃ d, a + l - 52 = d := ⟨_, rfl⟩
    have e1 : max ((-1074 : Int) + (a : Int) + (l : Int) - ((52 : Nat) : Int)) (-1074) = -1074 + (d : Int) := by omega
    rw [e1]
    have e2 : ((-1074 : Int) + (d : Int) - -1074).toNat = d := by omega
    have e3 : ((-1074 : Int) + (a : Int) - (-1074 + (d : Int))).toNat = a - d := by omega
    have e4 : ((-1074 : Int) + (d : Int) - (-1074 + (a : Int))).toNat = d - a := by omega
    rw [e2, e3, e4, Nat.shiftLeft_eq]
    obtain ⟨q, hq⟩ : ∃ q, mag * 2 ^ (a - d) / 2 ^ (d - a) = q := ⟨_, rfl⟩
    have hk := cut_ge (mag * 2 ^ (a - d)) (d - a)
    rw [hq] at hk
    -- the exact number is less than the next rung
    have hN : mag * 2 ^ a < (q + 1) * 2 ^ d := by
      have hlt : mag * 2 ^ (a - d) < (q + 1) * 2 ^ (d - a) := by
        have := Nat.lt_div_mul_add (a := mag * 2 ^ (a - d)) (b := 2 ^ (d - a)) (Nat.two_pow_pos _)
        rw [hq] at this
        rw [Nat.add_mul, Nat.one_mul]; exact this
      have hp := Nat.mul_lt_mul_of_pos_right hlt (Nat.two_pow_pos (min a d))
      rw [Nat.mul_assoc, ← Nat.pow_add, Nat.mul_assoc, ← Nat.pow_add, show a - d + min a d = a by omega, show d - a + min a d = d by omega] at hp
      exact hp
    have hq2 : q < 9007199254740992 := by
      have h5 : mag * 2 ^ (a - d) < 9007199254740992 * 2 ^ (d - a) := by
        have h6 := Nat.mul_lt_mul_of_pos_right hl2 (Nat.two_pow_pos (a - d))
        rw [← Nat.pow_add] at h6
        refine Nat.lt_of_lt_of_le h6 ?_
        rw [show (9007199254740992 : Nat) = 2 ^ 53 by decide, ← Nat.pow_add]
        exact Nat.pow_le_pow_right (by decide) (by omega)
      rw [← hq]
      exact Nat.div_lt_of_lt_mul (by rw [Nat.mul_comm (2 ^ (d - a))]; exact h5)
    have hq1 : 0 < d → 4503599627370496 ≤ q := by
      intro hd0
      rw [← hq, Nat.le_div_iff_mul_le (Nat.two_pow_pos _)]
      have h6 := Nat.mul_le_mul_right (2 ^ (a - d)) hl1
      rw [← Nat.pow_add] at h6
      refine Nat.le_trans ?_ h6
      rw [show (4503599627370496 : Nat) = 2 ^ 52 by decide, ← Nat.pow_add]
      exact Nat.pow_le_pow_right (by decide) (by omega)
    have hv := val_next d q (by
      by_cases hd0 : d = 0
      · exact .inl ⟨hd0, hq2⟩
      · exact .inr ⟨hq1 (by omega), hq2⟩)
    have hlt : P < d * 4503599627370496 + q + 1 := by
      rw [← val_lt, hv]; omega
    rw [Nat.le_min]
    exact ⟨by omega, hP⟩
/-- what counts: no NaN, and not below 0 -/
def ge0 (x : Nat) : Prop := x ≤ 9218868437227405312
theorem ge0_rung {x : Nat} (h : ge0 x) : rung x = x ∧ sgn x = false ∧ isn x = false := by
  unfold ge0 at h
  have h1 : rung x = x := Nat.mod_eq_of_lt (by omega)
  refine ⟨h1, ?_, ?_⟩
  · unfold sgn
    rw [Nat.div_eq_of_lt (by omega)]; rfl
  · rw [isn, h1, decide_eq_false_iff_not]; omega
/-- a sum of two such: valid, such a number, and none of the two is greater -/
theorem add_ge {p r : Nat} (hp : ge0 p) (hr : ge0 r) : ∃ s, double.add p r = some s ∧ ge0 s ∧ p ≤ s ∧ r ≤ s := by
  obtain ⟨p1, p2, p3⟩ := ge0_rung hp
  obtain ⟨r1, r2, r3⟩ := ge0_rung hr
  unfold ge0 at hp hr
  unfold Format.add
  have hinf : double.write (.infinity false) = 9218868437227405312 := by decide
  by_cases h1 : p = 9218868437227405312
  · have e1 := read_inf (x := p) (by rw [p1, h1])
    rw [e1, p2]
    by_cases h2 : r = 9218868437227405312
    · have e2 := read_inf (x := r) (by rw [r1, h2])
      rw [e2, r2]
      exact ⟨_, rfl, by rw [hinf]; exact Nat.le_refl _, by rw [hinf]; omega, by rw [hinf]; omega⟩
    · obtain ⟨m, a, e, -⟩ := read_num (x := r) (by rw [r1]; omega)
      rw [e]
      exact ⟨_, rfl, by rw [hinf]; exact Nat.le_refl _, by rw [hinf]; omega, by rw [hinf]; omega⟩
  · obtain ⟨m, a, e, hv⟩ := read_num (x := p) (by rw [p1]; omega)
    rw [e, p2]
    by_cases h2 : r = 9218868437227405312
    · have e2 := read_inf (x := r) (by rw [r1, h2])
      rw [e2, r2]
      exact ⟨_, rfl, by rw [hinf]; exact Nat.le_refl _, by rw [hinf]; omega, by rw [hinf]; omega⟩
    · obtain ⟨n, b, e2, hw⟩ := read_num (x := r) (by rw [r1]; omega)
      rw [e2, r2]
      simp only [Datum.sum, Option.map_some]
      rw [p1] at hv
      rw [r1] at hw
      obtain ⟨c, hc⟩ : ∃ c, c = min a b := ⟨_, rfl⟩
      have em : min ((-1074 : Int) + (a : Int)) (-1074 + (b : Int)) = -1074 + (c : Int) := by omega
      rw [em]
      have ea : ((-1074 : Int) + (a : Int) - (-1074 + (c : Int))).toNat = a - c := by omega
      have eb : ((-1074 : Int) + (b : Int) - (-1074 + (c : Int))).toNat = b - c := by omega
      rw [ea, eb, signed_sv, signed_sv]
      simp only [sv, Bool.false_eq_true, if_false]
      obtain ⟨T, hT⟩ : ∃ T, T = m * 2 ^ (a - c) + n * 2 ^ (b - c) := ⟨_, rfl⟩
      have hT2 : ((m * 2 ^ (a - c) : Nat) : Int) + ((n * 2 ^ (b - c) : Nat) : Int) = (T : Int) := by rw [hT]; exact (Int.natCast_add _ _).symm
      rw [hT2]
      have hs : (if (T : Int) = 0 then false && false else decide ((T : Int) < 0)) = false := by
        split
        · rfl
        · rw [decide_eq_false_iff_not]; omega
      rw [hs, Int.natAbs_natCast]
      have hval : T * 2 ^ c = val p + val r := by
        rw [hT, Nat.add_mul, Nat.mul_assoc, ← Nat.pow_add, Nat.mul_assoc, ← Nat.pow_add, show a - c + c = a by omega, show b - c + c = b by omega, hv, hw]
      refine ⟨_, rfl, near_le _ _, near_ge p T c hp ?_, near_ge r T c hr ?_⟩
      · omega
      · omega
/-- 1 divided by what counts: valid, not below 0 -/
theorem div_ge {x : Nat} (hx : ge0 x) (h0 : 0 < x) : ∃ r, double.div 4607182418800017408 x = some r ∧ ge0 r := by
  obtain ⟨x1, x2, x3⟩ := ge0_rung hx
  unfold ge0 at hx
  unfold Format.div
  have e1 : double.read 4607182418800017408 = .number false 4503599627370496 (-52) := by decide
  rw [e1]
  by_cases h1 : x = 9218868437227405312
  · have e2 := read_inf (x := x) (by rw [x1, h1])
    rw [e2, x2]
    exact ⟨_, rfl, near_le _ _⟩
  · obtain ⟨n, b, e2, hw⟩ := read_num (x := x) (by rw [x1]; omega)
    rw [e2, x2]
    have hn : n ≠ 0 := by
      rintro rfl
      have := val_mono h0
      rw [val_zero, ← x1, ← hw, Nat.zero_mul] at this
      omega
    simp only [Datum.quotient, if_neg hn, Option.map_some]
    exact ⟨_, rfl, near_le _ _⟩
/-- which weights count -/
theorem counts_of {x : Nat} (hx : x < 18446744073709551616) : (double.order x 0 == some .gt) = decide (0 < x ∧ x ≤ 9218868437227405312) := by
  rw [gt_of]
  have h0 : isn 0 = false := by decide
  have hS : S 0 = 0 := by decide
  rw [h0, hS]
  unfold isn S sv
  have hr : rung x = x % 9223372036854775808 := rfl
  have hs : sgn x = decide (9223372036854775808 ≤ x) := by
    unfold sgn
    rw [Bool.eq_iff_iff, beq_iff_eq, decide_eq_true_eq]; omega
  rw [hs]
  by_cases h : 9223372036854775808 ≤ x
  · simp only [decide_eq_true h, if_true]
    rw [Bool.eq_iff_iff]; simp; omega
  · simp only [decide_eq_false h, Bool.false_eq_true, if_false]
    rw [Bool.eq_iff_iff]; simp; omega
/-- 1 divided by a zero is below 0 just if that is -0 -/
theorem zero_below {x : Nat} (hx : x < 18446744073709551616) (h : S x = 0) (hn : isn x = false) : ∃ r, double.div 4607182418800017408 x = some r ∧ (double.order r 0 == some .lt) = sgn x := by
  have hr : rung x = 0 := by
    unfold S sv at h
    split at h <;> omega
  have : x = 0 ∨ x = 9223372036854775808 := by unfold rung at hr; omega
  rcases this with rfl | rfl
  · exact ⟨_, rfl, by decide⟩
  · exact ⟨_, rfl, by decide⟩
end Go.Proofs.Ytmdkokhlfflokaa.Fl
