/- The contract of buffer.Newest: a range over slices.Backward of puts. -/
import Derived.Test.YteojpdhmhjoeiaaBaseP
import Derived.RangeFuncNested
import Derived.RangeFuncBox
import Derived.RangeFuncBound
import Derived.RangeFuncCalls
import Derived.RangeFuncLeaves
import Derived.OwnWalkIn
import Derived.TacticsInMore
import Derived.LoopNIn
import Derived.LoopIn
namespace Go.Proofs.Yteojpdhmhjoeiaa
open Go.ChangeShapes Go.WideShapes Go.ChangeAt Go.RowKit

attribute [local go_sem] Oper.semAt_some

/-- what has come when k rounds are over -/
def upto {α : Type} (f : Nat → α) (k : Nat) : List α := (List.range k).map f
theorem upto_succ {α : Type} (f : Nat → α) (k : Nat) : upto f (k + 1) = upto f k ++ [f k] := by simp [upto, List.range_succ]
theorem upto_length {α : Type} (f : Nat → α) (k : Nat) : (upto f k).length = k := by simp [upto]
theorem upto_mem {α : Type} (f : Nat → α) (k j : Nat) (h : j < k) : f j ∈ upto f k := by
  simp only [upto, List.mem_map, List.mem_range]; exact ⟨j, h, rfl⟩
/-- the put of round j, from the end on -/
def backAt (ps : List (Int × Int)) (j : Nat) : Int × (Int × Int) := ((ps.length : Int) - 1 - j, ps.getD (ps.length - 1 - j) (0, 0))
/-- what a round keeps: what lay below n₀, and the iterator's own box -/
def KpB (n₀ Bs : Nat) (W W' : World) : Prop := Below n₀ W W' ∧ ∀ v, W.cell? ⟨Bs, 0, none⟩ = some v → W'.cell? ⟨Bs, 0, none⟩ = some v
theorem kpB_refl (n₀ Bs : Nat) (W : World) : KpB n₀ Bs W W := ⟨Below.refl _ _, fun _ h => h⟩
theorem kpB_t {n₀ Bs : Nat} {A B C : World} (h : KpB n₀ Bs A B) (k : KpB n₀ Bs B C) : KpB n₀ Bs A C := ⟨h.1.trans k.1, fun v e => k.2 v (h.2 v e)⟩
theorem kpB_b {n₀ Bs : Nat} {w : World} (hn : n₀ ≤ w.heap.size) : ∀ (W : World) (l : Nat) (o o' : Obj), w.heap.size ≤ l → W.heap[l]? = some o → o.isCells = false → o.isWalk = false → KpB n₀ Bs W (W.putObj l o') :=
  fun W l o o' hl ho hc hw => ⟨belowK_b hn W l o o' hl ho hc hw, fun v e => cell_kept e (grownBy_putObj' W l o') (fun r h => by cases h; exact ⟨o, ho, hc⟩)⟩
def encPut (x : Int × (Int × Int)) : Array Value := #[.int .i64 x.1, .agg #[.int .i64 x.2.1, .int .i64 x.2.2]]

set_option maxRecDepth 100000 in
set_option maxHeartbeats 2000000 in
theorem back1_in (F : Fence) (n : Nat) (h8 : F.fn 93) (hro : F.round = none) (hn : 1 ≤ n) (l Bs n₀ b off len cap : Nat) (ps : List (Int × Int)) (hreach : len ≤ 9223372036854775807) (hps : ps.length = len) (hb : b < n₀) (J Jx : List (Int × (Int × Int)) → World → Prop)
    (hY : ∀ pre x W, J pre W → pre.length < len → YieldAt F (n - 1) Try.prog l #[.int .i64 x.1, .agg #[.int .i64 x.2.1, .int .i64 x.2.2]] W fun e W' =>
      (e = .returned (.bool true) ∧ J (pre ++ [x]) W' ∧ KpB n₀ Bs W W') ∨ (e = .returned (.bool false) ∧ Jx (pre ++ [x]) W'))
    (W : World) (hBs : W.cell? ⟨Bs, 0, none⟩ = some (.slice (some ⟨b, off, none⟩) len cap)) (hc : PRow W b off ps) (h0 : J [] W) :
    CallsIn F n Try.prog 93 #[.func (.yield l) #[] #[], .pointer (some ⟨Bs, 0, none⟩)] W fun e W' => (∃ v, e = .returned v) ∧
      ((∃ ys, ys = upto (backAt ps) len ∧ J ys W') ∨ (∃ pre, (∃ k, k ≤ len ∧ pre = upto (backAt ps) k) ∧ Jx pre W')) := by
  have Hps := Lib.hid hps
  clear hps
  refine callsIn_of_wp Try.func93 rfl h8 ?_ hro
  simp only [Try.ntmps93, List.size_toArray, List.length_cons, List.length_nil, Nat.reduceAdd, Nat.reduceSub, Array.replicate_succ, Array.replicate_zero, List.push_toArray, List.append_toArray, List.nil_append, List.cons_append]
  gi_wp2
  gi_loopw [3] (fun i wr => ∃ (m : Nat) (z : Int), m ≤ len ∧ z = m - 1 ∧ i = .int .i64 z ∧ J (upto (backAt ps) (len - m)) wr ∧ Hid (KpB n₀ Bs W wr))
    (fun i _ => (intOf i + 1).toNat)
  case atStart => exact ⟨len, (len : Int) - 1, Nat.le_refl _, rfl, rfl, by rw [Nat.sub_self]; exact h0, kpB_refl _ _ _⟩
  case round =>
    obtain ⟨m, z, hm, hz, rfl, hJs, hnx⟩ := hrel
    have hBs' := hnx.out.2 _ hBs
    cases m with
    | succ k =>
      obtain rfl : z = (k : Int) := by omega
      have hx := hc k (by rw [Hps.out]; omega)
      have hx1 := (hnx.out.1.cell (p := ⟨b, off + k * 2, none⟩) hb).trans hx.1
      have hx2 := (hnx.out.1.cell (p := ⟨b, off + k * 2 + 1, none⟩) hb).trans hx.2
      have HF := Lib.hid (show backAt ps (len - (k + 1)) = ((k : Int), ps.getD k (0, 0)) by
        simp only [backAt, Hps.out]
        rw [show len - 1 - (len - (k + 1)) = k by omega, show (len : Int) - 1 - ((len - (k + 1) : Nat) : Int) = k by omega])
      have HS := Lib.hid (upto_succ (backAt ps) (len - (k + 1)))
      have HK := Lib.hid (show len - (k + 1) + 1 = len - k by omega)
      obtain ⟨fn, tmps, assign, body, hy, hR⟩ := hY _ ((k : Int), ps.getD k (0, 0)) wr hJs (by rw [upto_length]; omega)
      dsimp only at hy hR
      generalize ps.getD k (0, 0) = q at *
      obtain ⟨q1, q2⟩ := q
      dsimp only at hy hR hx1 hx2
      have hk0 : (0 : Int) ≤ (k : Int) := by omega
      have hkl : (k : Int) < len := by omega
      clear hx hz
      gi_wp2
      refine hR.mono ?_
      rintro e W3 (⟨rfl, hJ3, hk3⟩ | ⟨rfl, hJx3⟩)
      · gi_wp2
        go_roundw
        case rel => exact ⟨k, (k : Int) - 1, by omega, rfl, rfl, by rw [← HK.out, HS.out, HF.out]; exact hJ3, kpB_t hnx.out hk3⟩
        case measure => simp [intOf]
      · gi_wp2
        refine bodyPost_ret (results_none rfl _ _ _) rfl ?_
        exact ⟨⟨_, rfl⟩, .inr ⟨_, ⟨len - k, by omega, by rw [← HK.out, HS.out, HF.out]⟩, hJx3⟩⟩
    | zero =>
      obtain rfl : z = -1 := by omega
      clear hz
      gi_wp2
      go_end0
      exact ⟨⟨_, rfl⟩, .inl ⟨_, rfl, hJs⟩⟩

set_option maxRecDepth 100000 in
set_option maxHeartbeats 1000000 in
theorem back1_nil_in (F : Fence) (n : Nat) (h8 : F.fn 93) (hro : F.round = none) (l Bs : Nat) (a : Option Addr) (cap : Nat) (J : List (Int × (Int × Int)) → World → Prop) (W : World) (hBs : W.cell? ⟨Bs, 0, none⟩ = some (.slice a 0 cap)) (h0 : J [] W) :
    CallsIn F n Try.prog 93 #[.func (.yield l) #[] #[], .pointer (some ⟨Bs, 0, none⟩)] W fun e W' => (∃ v, e = .returned v) ∧ J [] W' := by
  refine callsIn_of_wp Try.func93 rfl h8 ?_ hro
  simp only [Try.ntmps93, List.size_toArray, List.length_cons, List.length_nil, Nat.reduceAdd, Nat.reduceSub, Array.replicate_succ, Array.replicate_zero, List.push_toArray, List.append_toArray, List.nil_append, List.cons_append]
  gi_wp2
  gi_loopw [3] (fun i wr => i = .int .i64 (-1) ∧ J [] wr) (fun _ _ => 0)
  case atStart => exact ⟨rfl, h0⟩
  case round =>
    obtain ⟨rfl, hJs⟩ := hrel
    gi_wp2
    go_end0
    exact ⟨⟨_, rfl⟩, hJs⟩

set_option maxHeartbeats 1000000 in
theorem back_in (F : Fence) (n : Nat) (h6 : F.fn 76) (hro : F.round = none) (a : Option Addr) (len cap : Nat) (w : World) :
    CallsIn F n Try.prog 76 #[.slice a len cap] w fun e w' => e = .returned (.func (.func 93) #[] #[.pointer (some ⟨w.heap.size, 0, none⟩)]) ∧ w' = w.alloc (.cells #[.slice a len cap] 54) := by
  refine callsIn_of_wp Try.func76 rfl h6 ?_ hro
  simp only [Try.ntmps76, List.size_toArray, List.length_cons, List.length_nil, Nat.reduceAdd, Nat.reduceSub, Array.replicate_succ, Array.replicate_zero, List.push_toArray, List.append_toArray, List.nil_append, List.cons_append]
  gi_wp2
  go_ret
  exact ⟨rfl, rfl⟩

theorem back_stops (F : Fence) (n : Nat) (h8 : F.fn 93) (hro : F.round = none) (hn : 1 ≤ n) (Bs n₀ len cap : Nat) (a : Option Addr) (ps : List (Int × Int)) (hreach : len ≤ 9223372036854775807) (w : World)
    (hc : w.cell? ⟨Bs, 0, none⟩ = some (.slice a len cap)) (hI : Pl w a len ps) (hbl : ∀ p, a = some p → 0 < len → p.block < n₀) :
    SeqStopsK F n Try.prog 93 #[.pointer (some ⟨Bs, 0, none⟩)] encPut (KpB n₀ Bs) (fun ys => ys = upto (backAt ps) len)
      (fun pre => ∃ k, k ≤ len ∧ pre = upto (backAt ps) k) len w := fun l J Jx W hW _ _ hY h0 => by
  have hc' := (hW.cell (p := ⟨Bs, 0, none⟩) (cell_lt hc)).trans hc
  by_cases hz : len = 0
  · subst hz
    exact (back1_nil_in F n h8 hro l Bs a cap J W hc' h0).mono fun e W' ⟨he, hj⟩ => ⟨he, .inl ⟨_, rfl, hj⟩⟩
  · obtain ⟨b, o, rfl, R⟩ := hI.2.resolve_left hz
    exact back1_in F n h8 hro hn l Bs n₀ b o len cap ps hreach hI.1 (hbl _ rfl (by omega)) J Jx hY W hc' (fun i hi => ⟨(hW.cell (p := ⟨b, _, none⟩) (cell_lt (R i hi).1)).trans (R i hi).1, (hW.cell (p := ⟨b, _, none⟩) (cell_lt (R i hi).2)).trans (R i hi).2⟩) h0
end Go.Proofs.Yteojpdhmhjoeiaa
