/- Newest, NewB, put together. -/
import Derived.Test.YtiebaeaomgpicaaGreatM3
import Derived.RangeFuncNested
import Derived.RangeFuncBox
import Derived.RangeFuncBound
import Derived.RangeFuncCalls
import Derived.RangeFuncLeaves
import Derived.OwnWalkIn
import Derived.TacticsInMore
import Derived.LoopNIn
import Derived.LoopIn
import Derived.Shelf.Abstract
/- The contract of buffer.Newest: a range over slices.Backward of puts. -/
namespace Go.Proofs.YtiebaeaomgpicaaGreat
open Go.ChangeShapes Go.WideShapes Go.ChangeAt Go.RowKit

attribute [local go_sem] Oper.semAt_some

/-- what has come when k rounds are over -/
def upto {α : Type} (f : Nat → α) (k : Nat) : List α := (List.range k).map f
theorem upto_succ {α : Type} (f : Nat → α) (k : Nat) : upto f (k + 1) = upto f k ++ [f k] := by simp [upto, List.range_succ]
theorem upto_length {α : Type} (f : Nat → α) (k : Nat) : (upto f k).length = k := by simp [upto]
theorem upto_mem {α : Type} (f : Nat → α) (k j : Nat) (h : j < k) : f j ∈ upto f k := by
  simp only [upto, List.mem_map, List.mem_range]; exact ⟨j, h, rfl⟩
/-- the put of round j, from the end on -/
def backAt (ps : List (Int × Int)) (j : Nat) : Int × (Int × Int) := ((ps.length : Int) - 1 - j, ps.getD (ps.length - 1 - j) (0, 0))
/-- what a round keeps: what lay below n₀, and the iterator's own box -/
def KpB (n₀ Bs : Nat) (W W' : World) : Prop := Below n₀ W W' ∧ ∀ v, W.cell? ⟨Bs, 0, none⟩ = some v → W'.cell? ⟨Bs, 0, none⟩ = some v
theorem kpB_refl (n₀ Bs : Nat) (W : World) : KpB n₀ Bs W W := ⟨Below.refl _ _, fun _ h => h⟩
theorem kpB_t {n₀ Bs : Nat} {A B C : World} (h : KpB n₀ Bs A B) (k : KpB n₀ Bs B C) : KpB n₀ Bs A C := ⟨h.1.trans k.1, fun v e => k.2 v (h.2 v e)⟩
theorem kpB_b {n₀ Bs : Nat} {w : World} (hn : n₀ ≤ w.heap.size) : ∀ (W : World) (l : Nat) (o o' : Obj), w.heap.size ≤ l → W.heap[l]? = some o → o.isCells = false → o.isWalk = false → KpB n₀ Bs W (W.putObj l o') :=
  fun W l o o' hl ho hc hw => ⟨belowK_b hn W l o o' hl ho hc hw, fun v e => cell_kept e (grownBy_putObj' W l o') (fun r h => by cases h; exact ⟨o, ho, hc⟩)⟩
def encPut (x : Int × (Int × Int)) : Array Value := #[.int .i64 x.1, .agg #[.int .i64 x.2.1, .int .i64 x.2.2]]

set_option maxRecDepth 100000 in
set_option maxHeartbeats 2000000 in
theorem back1_in (F : Fence) (n : Nat) (h8 : F.fn 107) (hro : F.round = none) (hn : 1 ≤ n) (l Bs n₀ b off len cap : Nat) (ps : List (Int × Int)) (hreach : len ≤ 9223372036854775807) (hps : ps.length = len) (hb : b < n₀) (J Jx : List (Int × (Int × Int)) → World → Prop)
    (hY : ∀ pre x W, J pre W → pre.length < len → YieldAt F (n - 1) Tryz.prog l #[.int .i64 x.1, .agg #[.int .i64 x.2.1, .int .i64 x.2.2]] W fun e W' =>
      (e = .returned (.bool true) ∧ J (pre ++ [x]) W' ∧ KpB n₀ Bs W W') ∨ (e = .returned (.bool false) ∧ Jx (pre ++ [x]) W'))
    (W : World) (hBs : W.cell? ⟨Bs, 0, none⟩ = some (.slice (some ⟨b, off, none⟩) len cap)) (hc : PRow W b off ps) (h0 : J [] W) :
    CallsIn F n Tryz.prog 107 #[.func (.yield l) #[] #[], .pointer (some ⟨Bs, 0, none⟩)] W fun e W' => (∃ v, e = .returned v) ∧
      ((∃ ys, ys = upto (backAt ps) len ∧ J ys W') ∨ (∃ pre, (∃ k, k ≤ len ∧ pre = upto (backAt ps) k) ∧ Jx pre W')) := by
  have Hps := Lib.hid hps
  clear hps
  refine callsIn_of_wp Tryz.func107 rfl h8 ?_ hro
  simp only [Tryz.ntmps107, List.size_toArray, List.length_cons, List.length_nil, Nat.reduceAdd, Nat.reduceSub, Array.replicate_succ, Array.replicate_zero, List.push_toArray, List.append_toArray, List.nil_append, List.cons_append]
  gi_wp2
  gi_loopw [3] (fun i wr => ∃ (m : Nat) (z : Int), m ≤ len ∧ z = m - 1 ∧ i = .int .i64 z ∧ J (upto (backAt ps) (len - m)) wr ∧ Hid (KpB n₀ Bs W wr))
    (fun i _ => (intOf i + 1).toNat)
  case atStart => exact ⟨len, (len : Int) - 1, Nat.le_refl _, rfl, rfl, by rw [Nat.sub_self]; exact h0, kpB_refl _ _ _⟩
  case round =>
    obtain ⟨m, z, hm, hz, rfl, hJs, hnx⟩ := hrel
    have hBs' := hnx.out.2 _ hBs
    cases m with
    | succ k =>
      obtain rfl : z = (k : Int) := by omega
      have hx := hc k (by rw [Hps.out]; omega)
      have hx1 := (hnx.out.1.cell (p := ⟨b, off + k * 2, none⟩) hb).trans hx.1
      have hx2 := (hnx.out.1.cell (p := ⟨b, off + k * 2 + 1, none⟩) hb).trans hx.2
      have HF := Lib.hid (show backAt ps (len - (k + 1)) = ((k : Int), ps.getD k (0, 0)) by
        simp only [backAt, Hps.out]
        rw [show len - 1 - (len - (k + 1)) = k by omega, show (len : Int) - 1 - ((len - (k + 1) : Nat) : Int) = k by omega])
      have HS := Lib.hid (upto_succ (backAt ps) (len - (k + 1)))
      have HK := Lib.hid (show len - (k + 1) + 1 = len - k by omega)
      obtain ⟨fn, tmps, assign, body, hy, hR⟩ := hY _ ((k : Int), ps.getD k (0, 0)) wr hJs (by rw [upto_length]; omega)
      dsimp only at hy hR
      generalize ps.getD k (0, 0) = q at *
      obtain ⟨q1, q2⟩ := q
      dsimp only at hy hR hx1 hx2
      have hk0 : (0 : Int) ≤ (k : Int) := by omega
      have hkl : (k : Int) < len := by omega
      clear hx hz
      gi_wp2
      refine hR.mono ?_
      rintro e W3 (⟨rfl, hJ3, hk3⟩ | ⟨rfl, hJx3⟩)
      · gi_wp2
        go_roundw
        case rel => exact ⟨k, (k : Int) - 1, by omega, rfl, rfl, by rw [← HK.out, HS.out, HF.out]; exact hJ3, kpB_t hnx.out hk3⟩
        case measure => simp [intOf]
      · gi_wp2
        refine bodyPost_ret (results_none rfl _ _ _) rfl ?_
        exact ⟨⟨_, rfl⟩, .inr ⟨_, ⟨len - k, by omega, by rw [← HK.out, HS.out, HF.out]⟩, hJx3⟩⟩
    | zero =>
      obtain rfl : z = -1 := by omega
      clear hz
      gi_wp2
      go_end0
      exact ⟨⟨_, rfl⟩, .inl ⟨_, rfl, hJs⟩⟩

set_option maxRecDepth 100000 in
set_option maxHeartbeats 1000000 in
theorem back1_nil_in (F : Fence) (n : Nat) (h8 : F.fn 107) (hro : F.round = none) (l Bs : Nat) (a : Option Addr) (cap : Nat) (J : List (Int × (Int × Int)) → World → Prop) (W : World) (hBs : W.cell? ⟨Bs, 0, none⟩ = some (.slice a 0 cap)) (h0 : J [] W) :
    CallsIn F n Tryz.prog 107 #[.func (.yield l) #[] #[], .pointer (some ⟨Bs, 0, none⟩)] W fun e W' => (∃ v, e = .returned v) ∧ J [] W' := by
  refine callsIn_of_wp Tryz.func107 rfl h8 ?_ hro
  simp only [Tryz.ntmps107, List.size_toArray, List.length_cons, List.length_nil, Nat.reduceAdd, Nat.reduceSub, Array.replicate_succ, Array.replicate_zero, List.push_toArray, List.append_toArray, List.nil_append, List.cons_append]
  gi_wp2
  gi_loopw [3] (fun i wr => i = .int .i64 (-1) ∧ J [] wr) (fun _ _ => 0)
  case atStart => exact ⟨rfl, h0⟩
  case round =>
    obtain ⟨rfl, hJs⟩ := hrel
    gi_wp2
    go_end0
    exact ⟨⟨_, rfl⟩, hJs⟩

set_option maxHeartbeats 1000000 in
theorem back_in (F : Fence) (n : Nat) (h6 : F.fn 93) (hro : F.round = none) (a : Option Addr) (len cap : Nat) (w : World) :
    CallsIn F n Tryz.prog 93 #[.slice a len cap] w fun e w' => e = .returned (.func (.func 107) #[] #[.pointer (some ⟨w.heap.size, 0, none⟩)]) ∧ w' = w.alloc (.cells #[.slice a len cap] 67) := by
  refine callsIn_of_wp Tryz.func93 rfl h6 ?_ hro
  simp only [Tryz.ntmps93, List.size_toArray, List.length_cons, List.length_nil, Nat.reduceAdd, Nat.reduceSub, Array.replicate_succ, Array.replicate_zero, List.push_toArray, List.append_toArray, List.nil_append, List.cons_append]
  gi_wp2
  go_ret
  exact ⟨rfl, rfl⟩

theorem back_stops (F : Fence) (n : Nat) (h8 : F.fn 107) (hro : F.round = none) (hn : 1 ≤ n) (Bs n₀ len cap : Nat) (a : Option Addr) (ps : List (Int × Int)) (hreach : len ≤ 9223372036854775807) (w : World)
    (hc : w.cell? ⟨Bs, 0, none⟩ = some (.slice a len cap)) (hI : Pl w a len ps) (hbl : ∀ p, a = some p → 0 < len → p.block < n₀) :
    SeqStopsK F n Tryz.prog 107 #[.pointer (some ⟨Bs, 0, none⟩)] encPut (KpB n₀ Bs) (fun ys => ys = upto (backAt ps) len)
      (fun pre => ∃ k, k ≤ len ∧ pre = upto (backAt ps) k) len w := fun l J Jx W hW _ _ hY h0 => by
  have hc' := (hW.cell (p := ⟨Bs, 0, none⟩) (cell_lt hc)).trans hc
  by_cases hz : len = 0
  · subst hz
    exact (back1_nil_in F n h8 hro l Bs a cap J W hc' h0).mono fun e W' ⟨he, hj⟩ => ⟨he, .inl ⟨_, rfl, hj⟩⟩
  · obtain ⟨b, o, rfl, R⟩ := hI.2.resolve_left hz
    exact back1_in F n h8 hro hn l Bs n₀ b o len cap ps hreach hI.1 (hbl _ rfl (by omega)) J Jx hY W hc' (fun i hi => ⟨(hW.cell (p := ⟨b, _, none⟩) (cell_lt (R i hi).1)).trans (R i hi).1, (hW.cell (p := ⟨b, _, none⟩) (cell_lt (R i hi).2)).trans (R i hi).2⟩) h0
end Go.Proofs.YtiebaeaomgpicaaGreat
/- The contract of buffer.Newest. -/
namespace Go.Proofs.YtiebaeaomgpicaaGreat
open Go.ChangeShapes Go.WideShapes Go.ChangeAt Go.RowKit Go.Shelf

attribute [local go_sem] Oper.semAt_some

theorem newest_ran {ps : List (Int × Int)} {x : Int} {len : Nat} (hl : ps.length = len) (h : ∀ p ∈ upto (backAt ps) len, p.2.1 ≠ x) : newest ps x = none := by
  subst hl
  refine newest_none fun j hj => ?_
  have := h _ (upto_mem (backAt ps) ps.length (ps.length - 1 - j) (by omega))
  simpa only [backAt, show ps.length - 1 - (ps.length - 1 - j) = j by omega] using this
theorem newest_met {ps : List (Int × Int)} {x : Int} {len k : Nat} (hl : ps.length = len) (hk : k ≤ len) {ini : List (Int × (Int × Int))} {last : Int × (Int × Int)} (e : upto (backAt ps) k = ini ++ [last])
    (h : ∀ p ∈ ini, p.2.1 ≠ x) (hx : last.2.1 = x) : newest ps x = some last.2.2 := by
  subst hl
  cases k with
  | zero => simp [upto] at e
  | succ j =>
    rw [upto_succ] at e
    obtain ⟨rfl, e5⟩ := List.append_inj' e rfl
    obtain rfl : backAt ps j = last := by simpa using e5
    refine newest_at (k := ps.length - 1 - j) (by omega) hx fun i h1 h2 => ?_
    have := h _ (upto_mem (backAt ps) j (ps.length - 1 - i) (by omega))
    simpa only [backAt, show ps.length - 1 - (ps.length - 1 - i) = i by omega] using this

def NewestPost (ps : List (Int × Int)) (x : Int) (w : World) (e : Ending) (w' : World) : Prop := e = .returned (.tuple #[.int .i64 (newestV ps x), .bool (newestB ps x)]) ∧ Below w.heap.size w w'

/-- between two rounds -/
def NwI (x : Int) (h : Nat) (w : World) (pre : List (Int × (Int × Int))) (W : World) : Prop :=
  ((∀ p ∈ pre, p.2.1 ≠ x) ∧ W.cell? ⟨h, 0, none⟩ = some (.int .i64 x) ∧ W.cell? ⟨h + 1, 0, none⟩ = some (.int .i64 0) ∧ W.frozen? ⟨h + 1, 0, none⟩ = false ∧ W.cell? ⟨h + 1 + 1, 0, none⟩ = some (.bool false) ∧ W.frozen? ⟨h + 1 + 1, 0, none⟩ = false) ∧ Below w.heap.size w W
/-- a round has left -/
def NwX (x : Int) (h : Nat) (w : World) (c : Code) (pre : List (Int × (Int × Int))) (W : World) : Prop :=
  (c = .ret ∧ ∃ ini last, pre = ini ++ [last] ∧ (∀ p ∈ ini, p.2.1 ≠ x) ∧ last.2.1 = x ∧ W.cell? ⟨h + 1, 0, none⟩ = some (.int .i64 last.2.2) ∧ W.cell? ⟨h + 1 + 1, 0, none⟩ = some (.bool true)) ∧ Below w.heap.size w W
theorem nwI_own {x : Int} {h B : Nat} {w : World} (hB : w.heap.size ≤ B) : OwnFrom B (NwI x h w) :=
  OwnFrom.and (Own.from (fun _ _ _ _ hs hg hr => ⟨hs.1, cell_kept hs.2.1 hg hr, cell_kept hs.2.2.1 hg hr, (frozen_kept hs.2.2.1 hg hr).trans hs.2.2.2.1, cell_kept hs.2.2.2.2.1 hg hr, (frozen_kept hs.2.2.2.2.1 hg hr).trans hs.2.2.2.2.2⟩) _) (ownFrom_below (Nat.le_refl _) hB)
theorem nwX_own {x : Int} {h B : Nat} {w : World} (hB : w.heap.size ≤ B) (c : Code) : OwnFrom B (NwX x h w c) :=
  OwnFrom.and (Own.from (fun _ _ _ _ hs hg hr => by obtain ⟨hc, ini, last, e1, e2, e3, e4, e5⟩ := hs; exact ⟨hc, ini, last, e1, e2, e3, cell_kept e4 hg hr, cell_kept e5 hg hr⟩) _) (ownFrom_below (Nat.le_refl _) hB)
theorem nwI_alloc {x : Int} {h : Nat} {w W : World} {pre : List (Int × (Int × Int))} (o : Obj) (i : NwI x h w pre W) : NwI x h w pre (W.alloc o) :=
  (nwI_own (Nat.le_refl _)).alloc o i

set_option maxRecDepth 100000 in
set_option maxHeartbeats 4000000 in
theorem Newest_in (F : Fence) (n : Nat) (h4 : F.fn 63) (h6 : F.fn 93) (h8 : F.fn 107) (hro : F.round = none) (hn : 3 ≤ n) (a : Option Addr) (len cap : Nat) (ps : List (Int × Int)) (x : Int) (hreach : len ≤ 9223372036854775807) (w : World) (hI : Pl w a len ps) :
    CallsIn F n Tryz.prog 63 #[.slice a len cap, .int .i64 x] w (NewestPost ps x w) := by
  have h1 : 1 ≤ n := by omega
  refine callsIn_of_wp_marks Tryz.func63 rfl h4 ?_ hro
  simp only [Tryz.ntmps63, List.size_toArray, List.length_cons, List.length_nil, Nat.reduceAdd, Nat.reduceSub, Array.replicate_succ, Array.replicate_zero, List.push_toArray, List.append_toArray, List.nil_append, List.cons_append]
  gi_wp2_with (gi_at_call 93; refine (back_in F (n - 1) h6 hro _ _ _ _).mono ?_; rintro e w' ⟨rfl, rfl⟩)
  obtain ⟨W0, hW0⟩ : ∃ W0, (((w.alloc (Obj.cells #[.int .i64 x] 3)).alloc (Obj.cells #[.int .i64 0] 3)).alloc (Obj.cells #[.bool false] 4)).alloc (Obj.cells #[.slice a len cap] 67) = W0 := ⟨_, rfl⟩
  have hs0 : W0.heap.size = w.heap.size + 4 := by rw [← hW0]; simp
  have hB0 : Below w.heap.size w W0 := by rw [← hW0]; go_grown
  have cx : W0.cell? ⟨w.heap.size, 0, none⟩ = some (.int .i64 x) := by rw [← hW0]; exact cellA _ (cellA _ (cellA _ (cell_new _ _ _ rfl rfl)))
  have c1 : W0.cell? ⟨w.heap.size + 1, 0, none⟩ = some (.int .i64 0) := by rw [← hW0]; exact cellA _ (cellA _ (cell_new _ _ _ (by simp) rfl))
  have c2 : W0.cell? ⟨w.heap.size + 1 + 1, 0, none⟩ = some (.bool false) := by rw [← hW0]; exact cellA _ (cell_new _ _ _ (by simp) rfl)
  have c3 : W0.cell? ⟨w.heap.size + 1 + 1 + 1, 0, none⟩ = some (.slice a len cap) := by rw [← hW0]; exact cell_new _ _ _ (by simp) rfl
  have f1 : W0.frozen? ⟨w.heap.size + 1, 0, none⟩ = false := by rw [← hW0, frozen_old _ (by simp), frozen_old _ (by simp)]; exact frozen_new _ _ (by simp)
  have f2 : W0.frozen? ⟨w.heap.size + 1 + 1, 0, none⟩ = false := by rw [← hW0, frozen_old _ (by simp)]; exact frozen_new _ _ (by simp)
  rw [hW0]
  have hI0 : Pl W0 a len ps := plB hB0 hI
  have hbl : ∀ p, a = some p → 0 < len → p.block < w.heap.size := by
    intro p hp hl
    obtain ⟨b, o, e, R⟩ := hI.2.resolve_left (by omega)
    rw [hp] at e; cases e
    exact cell_lt (R 0 (by rw [hI.1]; exact hl)).1
  refine wpIn_rangeFunc_ownH hro h1 (gf := 107) (lb := #[.pointer (some ⟨w.heap.size + 1 + 1 + 1, 0, none⟩)]) rfl h8 (enters_of Tryz.func107 (by kernel_rfl) rfl)
    (back_stops F (n - 1) h8 hro (by omega) (w.heap.size + 1 + 1 + 1) w.heap.size len cap a ps hreach W0 c3 hI0 hbl) kpB_t (kpB_b (by omega)) (Below.refl _ _) (fun _ => rfl)
    (NwI x w.heap.size w) (NwX x w.heap.size w) (nwI_own (by omega)) (nwX_own (by omega))
    ⟨⟨by simp, cx, c1, f1, c2, f2⟩, hB0⟩
    (fun y a' W => ∃ Bx, W.cell? ⟨Bx, 0, none⟩ = some (.int .i64 y.2.1) ∧ W.cell? ⟨Bx, 1, none⟩ = some (.int .i64 y.2.2) ∧ a' = { tmps := #[.slice a len cap, .int .i64 x, undef, .pointer (some ⟨w.heap.size, 0, none⟩), .pointer (some ⟨w.heap.size + 1, 0, none⟩), .pointer (some ⟨w.heap.size + 1 + 1, 0, none⟩), undef, .pointer (some ⟨Bx, 0, none⟩), .slice a len cap, .func (.func 107) #[] #[.pointer (some ⟨w.heap.size + 1 + 1 + 1, 0, none⟩)], .int .i64 y.1, .agg #[.int .i64 y.2.1, .int .i64 y.2.2], undef, undef, undef, undef, undef, undef], defers := [] })
    (fun y a' => Own.from (fun _ A B row hs hg hr => by obtain ⟨Bx, e1, e2, e3⟩ := hs; exact ⟨Bx, cell_kept e1 hg hr, cell_kept e2 hg hr, e3⟩) _) ?assign ?body ?done ?stop
  case assign =>
    rintro l pre ⟨y0, y1, y2⟩ W K hi hK
    have hsz := hi.2.size
    have hl3 := cell_lt hi.1.2.2.2.2.1
    simp only [encPut]
    gi_wp2
    refine hK _ _ ((KeepsOthers.alloc _ _).from _) ⟨(Below.refl _ W).alloc hsz _, fun v hv => cellA _ hv⟩ (nwI_alloc _ hi) ⟨W.heap.size, by simp, by simp, rfl⟩
  case body =>
    rintro l pre ⟨y0, y1, y2⟩ a' W hl - hi ⟨Bx, e1, e2, rfl⟩ hlt
    obtain ⟨⟨i1, i2, i3, i4, i5, i6⟩, i7⟩ := id hi
    have Hi := Lib.hid hi
    have H1 := Lib.hid i1
    dsimp only at e1 e2
    clear hi i1
    by_cases hx : y1 = x
    · subst hx
      gi_wp2
      refine ⟨((KeepsOthers.setCell _ _ _).trans (KeepsOthers.setCell _ _ _)).from _, ⟨rfl, pre, _, rfl, H1.out, rfl, ?_, ?_⟩, (i7.setCell (p := ⟨w.heap.size + 1, 0, none⟩) (by simp) _).setCell (p := ⟨w.heap.size + 1 + 1, 0, none⟩) (by simp; omega) _⟩
      · rw [World.cell?_setCell_other]
        · exact World.cell?_setCell_same' _ _ _ (by rw [i3]; rfl)
        · intro e; simp at e
      · refine World.cell?_setCell_same' _ _ _ ?_
        rw [World.cell?_setCell_other]
        · rw [i5]; rfl
        · intro e; simp at e
    · have q : (y1 == x) = false := by simpa using hx
      have HX := Lib.hid hx
      clear hx
      gi_wp2
      refine ⟨KeepsFrom.refl _ _, kpB_refl _ _ _, ⟨fun p hp => (List.mem_append.1 hp).elim (H1.out p) (fun e => by simp at e; subst e; exact HX.out), Hi.out.1.2⟩, Hi.out.2⟩
  case done =>
    rintro D ys W hD rfl ⟨⟨i1, i2, i3, i4, i5, i6⟩, i7⟩ hK
    have HN := Lib.hid (newest_ran (len := len) hI.1 i1)
    have hl3 := cell_lt i5
    clear i1
    gi_wp2
    have hK1 := (KeepsOthers.setCell W ⟨w.heap.size + 1, 0, none⟩ (.int .i64 0)).same D _ hK rfl
    have hK' := (KeepsOthers.setCell _ ⟨w.heap.size + 1 + 1, 0, none⟩ (.bool false)).same D _ hK1 rfl
    refine ⟨by simp, .inl ⟨_, _, rfl, run_takeDeferred hK', ?_⟩⟩
    have g5 : ((W.setCell ⟨w.heap.size + 1, 0, none⟩ (.int .i64 0)).setCell ⟨w.heap.size + 1 + 1, 0, none⟩ (.bool false)).cell? ⟨w.heap.size + 1 + 1, 0, none⟩ = some (.bool false) := by
      refine World.cell?_setCell_same' _ _ _ ?_
      rw [World.cell?_setCell_other]
      · rw [i5]; rfl
      · intro e; simp at e
    have g3 : ((W.setCell ⟨w.heap.size + 1, 0, none⟩ (.int .i64 0)).setCell ⟨w.heap.size + 1 + 1, 0, none⟩ (.bool false)).cell? ⟨w.heap.size + 1, 0, none⟩ = some (.int .i64 0) := by
      rw [World.cell?_setCell_other]
      · exact World.cell?_setCell_same' _ _ _ (by rw [i3]; rfl)
      · intro e; simp at e
    have j5 := cell_kept g5 (grownBy_putObj' _ D (.deferred none)) (fun r e => by cases e; exact ⟨_, hK', rfl⟩)
    have j3 := cell_kept g3 (grownBy_putObj' _ D (.deferred none)) (fun r e => by cases e; exact ⟨_, hK', rfl⟩)
    have hB1 : Below w.heap.size w ((W.setCell ⟨w.heap.size + 1, 0, none⟩ (.int .i64 0)).setCell ⟨w.heap.size + 1 + 1, 0, none⟩ (.bool false)) := (i7.setCell (p := ⟨w.heap.size + 1, 0, none⟩) (by simp) _).setCell (p := ⟨w.heap.size + 1 + 1, 0, none⟩) (by simp; omega) _
    refine ⟨.tuple #[.int .i64 0, .bool false], ?_, ⟨by rw [newestV, newestB, HN.out]; rfl, hB1.trans (belowK_b (w := w) (Nat.le_refl _) _ D _ _ (by omega) hK' rfl rfl)⟩⟩
    simp [results, Tryz.f63, go_sem, j3, j5]
  case stop =>
    rintro D c pre W hD ⟨k, hk, rfl⟩ ⟨⟨rfl, ini, last, e1, e2, e3, j3, j5⟩, i7⟩ hK
    have HN := Lib.hid (newest_met hI.1 hk e1 e2 e3)
    clear e1 e2 e3
    gi_wp2
    refine ⟨by simp, .inl ⟨_, _, rfl, run_takeDeferred hK, ?_⟩⟩
    have k5 := cell_kept j5 (grownBy_putObj' _ D (.deferred none)) (fun r e => by cases e; exact ⟨_, hK, rfl⟩)
    have k3 := cell_kept j3 (grownBy_putObj' _ D (.deferred none)) (fun r e => by cases e; exact ⟨_, hK, rfl⟩)
    refine ⟨.tuple #[.int .i64 last.2.2, .bool true], ?_, ⟨by rw [newestV, newestB, HN.out]; rfl, i7.trans (belowK_b (w := w) (Nat.le_refl _) W D _ _ (by omega) hK rfl rfl)⟩⟩
    simp [results, Tryz.f63, go_sem, k3, k5]

theorem Newest_any (a : Option Addr) (len cap : Nat) (ps : List (Int × Int)) (x : Int) (w : World) (hI : Pl w a len ps) (hreach : len ≤ 9223372036854775807) :
    Calls Tryz.prog 63 #[.slice a len cap, .int .i64 x] w (NewestPost ps x w) :=
  callsIn_wide.1 (Newest_in Fence.wide 3 trivial trivial trivial rfl (Nat.le_refl _) a len cap ps x hreach w hI)
end Go.Proofs.YtiebaeaomgpicaaGreat
