/- Comparing arrays of integers, and frames; respiteref01.Ints and respiteref06.Same. -/
import Derived.Test.YtjddflnecfokaaaFrG
import Derived.ChangeKeysEq
import Derived.Deep.QuietTactic
namespace Go.Proofs.Ytjddflnecfokaaa
open Go.ChangeShapes Go.WideShapes Go.ChangeAt Go.RowKit
open Gen

theorem Try.plainI3 : Try.prog.plainKey 3 = true := by kernel_rfl
theorem Try.cellsI3 : Try.prog.cellsOf 3 = 1 := by kernel_rfl
theorem eqItems_ints (d : Nat) (xs ys : Array Value) (f g : Nat → Int) (w : World) : ∀ (is : List Nat), (∀ i, i ∈ is → xs[i]? = some (.int .i64 (f i)) ∧ ys[i]? = some (.int .i64 (g i))) → (Op.eqItems (d + 1) 3 (Try.prog.cellsOf 3) xs ys is).run Try.prog w = .ok (is.all (fun i => f i == g i)) w
  | [], _ => by simp [Op.eqItems]
  | i :: is, h => by
    have hi := h i (by simp)
    have ih := eqItems_ints d xs ys f g w is (fun j hj => h j (by simp [hj]))
    rw [Try.cellsI3] at ih ⊢
    have p1 := run_part_plain (P := Try.prog) w Try.plainI3 (show xs[i * 1]? = some (.int .i64 (f i)) by rw [Nat.mul_one]; exact hi.1)
    have p2 := run_part_plain (P := Try.prog) w Try.plainI3 (show ys[i * 1]? = some (.int .i64 (g i)) by rw [Nat.mul_one]; exact hi.2)
    have p3 : (Op.equalIn (d + 1) 3 (.int .i64 (f i)) (.int .i64 (g i))).run Try.prog w = .ok (f i == g i) w := by
      simp [Op.equalIn, run_underlying Try.underlying3]
    simp only [Op.eqItems, Sem.run_bind, p1, p2, p3, Result.andThen_ok, List.all_cons]
    cases f i == g i
    · simp
    · simpa using ih
theorem eq_arr (d n : Nat) {t : TypeId} (xs ys : Array Value) (f g : Nat → Int) (w : World) (ht : Try.prog.underlying t = some (.array n 3)) (h : ∀ i, i < n → xs[i]? = some (.int .i64 (f i)) ∧ ys[i]? = some (.int .i64 (g i))) :
    (Op.equalIn (d + 2) t (.agg xs) (.agg ys)).run Try.prog w = .ok ((List.range n).all (fun i => f i == g i)) w := by
  obtain ⟨i0, hi, -⟩ := info_parts Try.infoI3
  rw [run_equalIn_array w (d + 1) xs ys ht hi]
  exact eqItems_ints d xs ys f g w _ (fun i hi => h i (by simpa using hi))
def eqR (r r' : Nat → Int) : Bool := (List.range 8).all (fun i => r i == r' i)
theorem eq_regs (r r' : Nat → Int) (w : World) : (Op.equalIn 10000 22 (.agg #[.int .i64 (r 0), .int .i64 (r 1), .int .i64 (r 2), .int .i64 (r 3), .int .i64 (r 4), .int .i64 (r 5), .int .i64 (r 6), .int .i64 (r 7)]) (.agg #[.int .i64 (r' 0), .int .i64 (r' 1), .int .i64 (r' 2), .int .i64 (r' 3), .int .i64 (r' 4), .int .i64 (r' 5), .int .i64 (r' 6), .int .i64 (r' 7)])).run Try.prog w = .ok (eqR r r') w := by
  exact eq_arr 9998 8 (t := 22) #[.int .i64 (r 0), .int .i64 (r 1), .int .i64 (r 2), .int .i64 (r 3), .int .i64 (r 4), .int .i64 (r 5), .int .i64 (r 6), .int .i64 (r 7)] #[.int .i64 (r' 0), .int .i64 (r' 1), .int .i64 (r' 2), .int .i64 (r' 3), .int .i64 (r' 4), .int .i64 (r' 5), .int .i64 (r' 6), .int .i64 (r' 7)] r r' w Try.underlying22 (by
    intro i hi
    match i, hi with
    | 0, _ => exact ⟨rfl, rfl⟩
    | 1, _ => exact ⟨rfl, rfl⟩
    | 2, _ => exact ⟨rfl, rfl⟩
    | 3, _ => exact ⟨rfl, rfl⟩
    | 4, _ => exact ⟨rfl, rfl⟩
    | 5, _ => exact ⟨rfl, rfl⟩
    | 6, _ => exact ⟨rfl, rfl⟩
    | 7, _ => exact ⟨rfl, rfl⟩)
theorem eq_kept (x1 x2 x3 x4 y1 y2 y3 y4 : Int) (w : World) : (Op.equalIn 9999 56 (.agg #[.int .i64 x1, .int .i64 x2, .int .i64 x3, .int .i64 x4]) (.agg #[.int .i64 y1, .int .i64 y2, .int .i64 y3, .int .i64 y4])).run Try.prog w = .ok (decide ((x1, x2, x3, x4) = (y1, y2, y3, y4))) w := by
  have e1 := eq_arr 9997 4 (t := 56) #[.int .i64 x1, .int .i64 x2, .int .i64 x3, .int .i64 x4] #[.int .i64 y1, .int .i64 y2, .int .i64 y3, .int .i64 y4] (fun i => if i = 0 then x1 else if i = 1 then x2 else if i = 2 then x3 else x4) (fun i => if i = 0 then y1 else if i = 1 then y2 else if i = 2 then y3 else y4) w Try.underlying56 (by
    intro i hi
    match i, hi with
    | 0, _ => exact ⟨rfl, rfl⟩
    | 1, _ => exact ⟨rfl, rfl⟩
    | 2, _ => exact ⟨rfl, rfl⟩
    | 3, _ => exact ⟨rfl, rfl⟩)
  refine e1.trans ?_
  congr 1
  rw [Bool.eq_iff_iff]
  simp [List.range, List.range.loop]
theorem eq_frame (x0 x1 x2 x3 x4 y0 y1 y2 y3 y4 : Int) (w : World) : (Op.equalIn 10000 58 (.agg #[.int .i64 x0, .int .i64 x1, .int .i64 x2, .int .i64 x3, .int .i64 x4]) (.agg #[.int .i64 y0, .int .i64 y1, .int .i64 y2, .int .i64 y3, .int .i64 y4])).run Try.prog w = .ok (decide ((x0, x1, x2, x3, x4) = (y0, y1, y2, y3, y4))) w := by
  have e1 := eq_kept x1 x2 x3 x4 y1 y2 y3 y4 w
  by_cases h0 : x0 = y0
  · subst h0
    obtain ⟨b, hb⟩ : ∃ b, decide ((x1, x2, x3, x4) = (y1, y2, y3, y4)) = b := ⟨_, rfl⟩
    rw [hb] at e1
    have h2 : decide ((x0, x1, x2, x3, x4) = (x0, y1, y2, y3, y4)) = b := by rw [← hb, Bool.eq_iff_iff]; simp
    rw [h2]
    cases b <;> simp [go_sem, e1]
  · have hb : (x0 == y0) = false := by simpa using h0
    simp [go_sem, hb, h0]

theorem below_drews {B : Nat} {a w : World} (h : Below B a w) (q : Nat) : Below B a (w.drewN q) := ⟨h.os, h.tape, h.output, h.size, h.block⟩
def Agree {α : Type} (xs ys : List α) (k : Nat) : Prop := ∀ i, i < k → xs[i]? = ys[i]?
theorem agree_zero {α : Type} (xs ys : List α) : Agree xs ys 0 := fun i hi => by omega
theorem agree_succ {α : Type} {xs ys : List α} {k : Nat} {x : α} (h : Agree xs ys k) (hx : xs[k]? = some x) (hy : ys[k]? = some x) : Agree xs ys (k + 1) := by
  intro i hi
  by_cases e : i = k
  · subst e; rw [hx, hy]
  · exact h i (by omega)
theorem agree_eq {α : Type} {xs ys : List α} {n : Nat} (hx : xs.length = n) (hy : ys.length = n) (h : Agree xs ys n) : xs = ys := by
  apply List.ext_getElem?
  intro i
  by_cases hi : i < n
  · exact h i hi
  · rw [List.getElem?_eq_none (by omega), List.getElem?_eq_none (by omega)]
theorem agree_no {α : Type} {xs ys : List α} {k : Nat} {x y : α} (hx : xs[k]? = some x) (hy : ys[k]? = some y) (h : x ≠ y) : xs ≠ ys := by
  intro e; subst e; rw [hx] at hy; exact h (by injection hy)
theorem agree_len {α : Type} {xs ys : List α} {n m : Nat} (hx : xs.length = n) (hy : ys.length = m) (h : m ≠ n) : xs ≠ ys := by
  intro e; subst e; omega

set_option maxHeartbeats 2000000 in
theorem Ints6_any (a b : Option Addr) (n c m d : Nat) (xs ys : List Int) (w : World) (S1 : Vs repInt Any w a n xs) (S2 : Vs repInt Any w b m ys) (hn : n ≤ 9223372036854775807) :
    Calls Try.prog 26 #[.slice a n c, .slice b m d] w (BoolPost (decide (xs = ys)) w) := by
  have Hx := Lib.hid S1.1
  have Hy := Lib.hid S2.1
  by_cases hl : m = n
  · subst hl
    have q : ((m : Int) != m) = false := by simp
    go_enter Try.func26, Try.ntmps26
    go_wp2
    go_loopw [13] (fun s wr => ∃ k : Nat, k ≤ m ∧ s = .int .i64 k ∧ Hid (Agree xs ys k) ∧ Below w.heap.size w wr) (fun s _ => m - (intOf s).toNat)
    case atStart => exact ⟨0, by omega, rfl, agree_zero _ _, Below.refl _ _⟩
    case round =>
      obtain ⟨k, hk, rfl, hs, hb⟩ := hrel
      by_cases hlt : k < m
      · obtain ⟨b1, o1, x, rfl, hx, g1⟩ := int_at (vs_B hb S1) hlt
        obtain ⟨b2, o2, y, rfl, hy, g2⟩ := int_at (vs_B hb S2) hlt
        have HX := Lib.hid hx
        have HY := Lib.hid hy
        have HB := Lib.hid hb
        have i1 : (0 : Int) ≤ k := by omega
        have i2 : (k : Int) < m := by omega
        clear hx hy hb
        by_cases e : x = y
        · subst e
          have HS := Lib.hid (agree_succ hs.out HX.out HY.out)
          have q2 : (x != x) = false := by simp
          go_wp2
          go_quiet (fail)
          go_wp2
          go_roundw
          case rel => exact ⟨k + 1, by omega, by go_num, HS.out, below_drews HB.out _⟩
          case measure => simp [intOf]; omega
        · have HF := Lib.hid (decide_eq_false (agree_no HX.out HY.out e))
          have q2 : (x != y) = true := by simpa using e
          clear e
          go_wp2
          go_quiet (fail)
          go_wp2
          go_ret
          exact boolPost_mk HF.out (below_drews HB.out _)
      · obtain rfl : k = m := by omega
        have HF := Lib.hid (decide_eq_true (agree_eq Hx.out Hy.out hs.out))
        have HB := Lib.hid hb
        clear hb
        go_wp2
        go_ret
        exact boolPost_mk HF.out HB.out
  · have HF := Lib.hid (decide_eq_false (agree_len Hx.out Hy.out hl))
    have q : ((n : Int) != m) = true := by simp; omega
    clear hl
    go_enter Try.func26, Try.ntmps26
    go_wp2
    go_ret
    exact boolPost_mk HF.out (Below.refl _ _)
end Go.Proofs.Ytjddflnecfokaaa
