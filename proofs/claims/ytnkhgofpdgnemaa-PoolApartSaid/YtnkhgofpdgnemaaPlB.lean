/- Package pool's iterator over blocks, and a place sought by it. -/
import Derived.Test.YtnkhgofpdgnemaaPlA
import Derived.RangeFuncNested
import Derived.RangeFuncBox
import Derived.RangeFuncBound
import Derived.RangeFuncCalls
import Derived.RangeFuncLeaves
import Derived.OwnWalkIn
import Derived.TacticsInMore
import Derived.LoopNIn
import Derived.LoopIn
import Derived.Shelf.Abstract
namespace Go.Proofs.Ytnkhgofpdgnemaa
open Go.ChangeShapes Go.WideShapes Go.ChangeAt Go.RowKit Go.Shelf

attribute [local go_sem] Oper.semAt_some

/-- what a round keeps: what lay below n₀, and the iterator's own box -/
def KpP (n₀ Bs : Nat) (W W' : World) : Prop := Below n₀ W W' ∧ ∀ o v, W.cell? ⟨Bs, o, none⟩ = some v → W'.cell? ⟨Bs, o, none⟩ = some v
theorem kpP_refl (n₀ Bs : Nat) (W : World) : KpP n₀ Bs W W := ⟨Below.refl _ _, fun _ _ h => h⟩
theorem kpP_t {n₀ Bs : Nat} {A B C : World} (h : KpP n₀ Bs A B) (k : KpP n₀ Bs B C) : KpP n₀ Bs A C := ⟨h.1.trans k.1, fun o v e => k.2 o v (h.2 o v e)⟩
theorem kpP_b {n₀ Bs : Nat} {w : World} (hn : n₀ ≤ w.heap.size) : ∀ (W : World) (l : Nat) (o o' : Obj), w.heap.size ≤ l → W.heap[l]? = some o → o.isCells = false → o.isWalk = false → KpP n₀ Bs W (W.putObj l o') :=
  fun W l o o' hl ho hc hw => ⟨belowK_b hn W l o o' hl ho hc hw, fun _ _ e => cell_kept e (grownBy_putObj' W l o') (fun r h => by cases h; exact ⟨o, ho, hc⟩)⟩
def encPl (x : Int) : Array Value := #[.int .i64 x]

set_option maxRecDepth 100000 in
set_option maxHeartbeats 2000000 in
theorem plSeq1_in (F : Fence) (n : Nat) (h8 : F.fn 33) (hro : F.round = none) (hn : 1 ≤ n) (l Bs n₀ : Nat) (s b : Int) (N : Nat) (hf : plFit s b N = true) (J Jx : List Int → World → Prop)
    (hY : ∀ pre x W, J pre W → pre.length < N → YieldAt F (n - 1) Try.prog l #[.int .i64 x] W fun e W' =>
      (e = .returned (.bool true) ∧ J (pre ++ [x]) W' ∧ KpP n₀ Bs W W') ∨ (e = .returned (.bool false) ∧ Jx (pre ++ [x]) W'))
    (W : World) (c0 : W.cell? ⟨Bs, 0, none⟩ = some (.int .i64 s)) (c1 : W.cell? ⟨Bs, 1, none⟩ = some (.int .i64 b)) (c2 : W.cell? ⟨Bs, 2, none⟩ = some (.int .i64 N)) (h0 : J [] W) :
    CallsIn F n Try.prog 33 #[.func (.yield l) #[] #[], .pointer (some ⟨Bs, 0, none⟩)] W fun e W' => (∃ v, e = .returned v) ∧
      ((∃ ys, ys = plBl s b N ∧ J ys W') ∨ (∃ pre, (∃ k, k ≤ N ∧ pre = plBl s b k) ∧ Jx pre W')) := by
  have Hf := Lib.hid hf
  obtain ⟨g1, -, -, g4, -, -, -⟩ := plFit_iff.1 hf
  have hN16 : N ≤ 16 := by omega
  clear hf g4
  refine callsIn_of_wp Try.func33 rfl h8 ?_ hro
  simp only [Try.ntmps33, List.size_toArray, List.length_cons, List.length_nil, Nat.reduceAdd, Nat.reduceSub, Array.replicate_succ, Array.replicate_zero, List.push_toArray, List.append_toArray, List.nil_append, List.cons_append]
  gi_wp2
  gi_loopw [6] (fun i wr => ∃ k : Nat, k ≤ N ∧ i = .int .i64 k ∧ J (plBl s b k) wr ∧ Hid (KpP n₀ Bs W wr)) (fun i _ => N - (intOf i).toNat)
  case atStart => exact ⟨0, by omega, rfl, h0, kpP_refl _ _ _⟩
  case round =>
    obtain ⟨k, hk, rfl, hJs, hnx⟩ := hrel
    by_cases hlt : k < N
    · have d0 := hnx.out.2 _ _ c0
      have d1 := hnx.out.2 _ _ c1
      have hp := pl_place Hf.out (show (k : Int) < N by omega)
      have HS := Lib.hid (plBl_succ s b k)
      obtain ⟨fn, tmps, assign, body, hy, hR⟩ := hY _ (b + (k : Int) * s) wr hJs (by rw [plBl_length]; exact hlt)
      obtain ⟨y, hyy⟩ : ∃ y, (k : Int) * s = y := ⟨_, rfl⟩
      rw [hyy] at hp HS hy hR
      obtain ⟨p1, p2, p3, p4, -⟩ := hp
      have hw : wrap64 ((k : Int) * s) = y := by rw [hyy]; exact IntWalk.wrap64_in _ (by omega)
      have hw2 : wrap64 (b + y) = b + y := IntWalk.wrap64_in _ (by omega)
      have i2 : (k : Int) < N := by omega
      clear hyy
      gi_wp2
      refine hR.mono ?_
      rintro e W3 (⟨rfl, hJ3, hk3⟩ | ⟨rfl, hJx3⟩)
      · gi_wp2
        go_roundw
        case rel => exact ⟨k + 1, by omega, by go_num, by rw [HS.out]; exact hJ3, kpP_t hnx.out hk3⟩
        case measure => simp [intOf]; omega
      · gi_wp2
        refine bodyPost_ret (results_none rfl _ _ _) rfl ?_
        exact ⟨⟨_, rfl⟩, .inr ⟨_, ⟨k + 1, by omega, by rw [HS.out]⟩, hJx3⟩⟩
    · obtain rfl : k = N := by omega
      gi_wp2
      go_end0
      exact ⟨⟨_, rfl⟩, .inl ⟨_, rfl, hJs⟩⟩

set_option maxHeartbeats 1000000 in
theorem plBlocks_in (F : Fence) (n : Nat) (h6 : F.fn 24) (hro : F.round = none) (s b m : Int) (a : Option Addr) (len cap : Nat) (w : World) :
    CallsIn F n Try.prog 24 #[.agg #[.int .i64 s, .int .i64 b, .int .i64 m, .slice a len cap]] w fun e w' => e = .returned (.func (.func 33) #[] #[.pointer (some ⟨w.heap.size, 0, none⟩)]) ∧ w' = w.alloc (.cells #[.int .i64 s, .int .i64 b, .int .i64 m, .slice a len cap] 24) := by
  refine callsIn_of_wp Try.func24 rfl h6 ?_ hro
  simp only [Try.ntmps24, List.size_toArray, List.length_cons, List.length_nil, Nat.reduceAdd, Nat.reduceSub, Array.replicate_succ, Array.replicate_zero, List.push_toArray, List.append_toArray, List.nil_append, List.cons_append]
  gi_wp2
  go_ret
  exact ⟨rfl, rfl⟩
theorem plBlocks_any (s b m : Int) (a : Option Addr) (len cap : Nat) (w : World) :
    Calls Try.prog 24 #[.agg #[.int .i64 s, .int .i64 b, .int .i64 m, .slice a len cap]] w fun e w' => e = .returned (.func (.func 33) #[] #[.pointer (some ⟨w.heap.size, 0, none⟩)]) ∧ w' = w.alloc (.cells #[.int .i64 s, .int .i64 b, .int .i64 m, .slice a len cap] 24) :=
  callsIn_wide.1 (plBlocks_in Fence.wide 3 trivial rfl s b m a len cap w)

/-- a pool's sizes lie in a box -/
structure PlBox (s b : Int) (N : Nat) (Bs : Nat) (W : World) : Prop where
  z : W.cell? ⟨Bs, 0, none⟩ = some (.int .i64 s)
  b : W.cell? ⟨Bs, 1, none⟩ = some (.int .i64 b)
  m : W.cell? ⟨Bs, 2, none⟩ = some (.int .i64 N)
theorem plBox_B {s b : Int} {N Bs : Nat} {W W' : World} (hb : Below W.heap.size W W') (h : PlBox s b N Bs W) : PlBox s b N Bs W' := ⟨cellB hb h.z, cellB hb h.b, cellB hb h.m⟩
theorem plBox_A {s b : Int} {N Bs : Nat} {W : World} (o : Obj) (h : PlBox s b N Bs W) : PlBox s b N Bs (W.alloc o) := ⟨cellA o h.z, cellA o h.b, cellA o h.m⟩
theorem plBox_lt {s b : Int} {N Bs : Nat} {W : World} (h : PlBox s b N Bs W) : Bs < W.heap.size := cell_lt h.z
theorem plBox_new {s b m : Int} (hm : 0 ≤ m) {v : Value} {t : TypeId} (W : World) (g : Nat) (hg : g = W.heap.size) : PlBox s b m.toNat g (W.alloc (.cells #[.int .i64 s, .int .i64 b, .int .i64 m, v] t)) :=
  ⟨cell_new _ _ _ hg rfl, cell_new _ _ _ hg rfl, cell_new _ _ _ hg (by rw [Int.toNat_of_nonneg hm]; rfl)⟩

theorem plSeq_stops (F : Fence) (n : Nat) (h8 : F.fn 33) (hro : F.round = none) (hn : 1 ≤ n) (Bs n₀ : Nat) (s b : Int) (N : Nat) (hf : plFit s b N = true) (w : World) (hB : PlBox s b N Bs w) :
    SeqStopsK F n Try.prog 33 #[.pointer (some ⟨Bs, 0, none⟩)] encPl (KpP n₀ Bs) (fun ys => ys = plBl s b N)
      (fun pre => ∃ k, k ≤ N ∧ pre = plBl s b k) N w := fun l J Jx W hW _ _ hY h0 =>
  have hB' := plBox_B hW hB
  plSeq1_in F n h8 hro hn l Bs n₀ s b N hf J Jx hY W hB'.z hB'.b hB'.m h0

/-! ### first -/
/-- between two rounds -/
def PlI (x : Int) (h : Nat) (w : World) (pre : List Int) (W : World) : Prop :=
  (x ∉ pre ∧ W.cell? ⟨h + 1, 0, none⟩ = some (.int .i64 x) ∧ W.cell? ⟨h + 1 + 1, 0, none⟩ = some (.bool false) ∧ W.frozen? ⟨h + 1 + 1, 0, none⟩ = false) ∧ Below w.heap.size w W
/-- a round has left -/
def PlX (x : Int) (h : Nat) (w : World) (c : Code) (pre : List Int) (W : World) : Prop :=
  (c = .ret ∧ x ∈ pre ∧ W.cell? ⟨h + 1 + 1, 0, none⟩ = some (.bool true)) ∧ Below w.heap.size w W
theorem plI_own {x : Int} {h B : Nat} {w : World} (hB : w.heap.size ≤ B) : OwnFrom B (PlI x h w) :=
  OwnFrom.and (Own.from (fun _ _ _ _ hs hg hr => ⟨hs.1, cell_kept hs.2.1 hg hr, cell_kept hs.2.2.1 hg hr, (frozen_kept hs.2.2.1 hg hr).trans hs.2.2.2⟩) _) (ownFrom_below (Nat.le_refl _) hB)
theorem plX_own {x : Int} {h B : Nat} {w : World} (hB : w.heap.size ≤ B) (c : Code) : OwnFrom B (PlX x h w c) :=
  OwnFrom.and (Own.from (fun _ _ _ _ hs hg hr => ⟨hs.1, hs.2.1, cell_kept hs.2.2 hg hr⟩) _) (ownFrom_below (Nat.le_refl _) hB)

set_option maxRecDepth 100000 in
set_option maxHeartbeats 4000000 in
theorem plFirstP_in (F : Fence) (n : Nat) (h4 : F.fn 30) (h6 : F.fn 24) (h8 : F.fn 33) (hro : F.round = none) (hn : 3 ≤ n) (s b m : Int) (a : Option Addr) (len cap : Nat) (x : Int) (w : World) (hf : plFit s b m = true) :
    CallsIn F n Try.prog 30 #[.agg #[.int .i64 s, .int .i64 b, .int .i64 m, .slice a len cap], .int .i64 x] w (BoolPost (plHas (plBl s b m.toNat) x) w) := by
  have h1 : 1 ≤ n := by omega
  have hm0 : 0 ≤ m := (plFit_iff.1 hf).2.2.1
  have Hf := Lib.hid (show plFit s b (m.toNat : Int) = true by rw [Int.toNat_of_nonneg hm0]; exact hf)
  clear hf
  refine callsIn_of_wp_marks Try.func30 rfl h4 ?_ hro
  simp only [Try.ntmps30, List.size_toArray, List.length_cons, List.length_nil, Nat.reduceAdd, Nat.reduceSub, Array.replicate_succ, Array.replicate_zero, List.push_toArray, List.append_toArray, List.nil_append, List.cons_append]
  gi_wp2_with (gi_at_call 24; refine (plBlocks_in F (n - 1) h6 hro _ _ _ _ _ _ _).mono ?_; rintro e w' ⟨rfl, rfl⟩)
  obtain ⟨W0, hW0⟩ : ∃ W0, (((w.alloc (Obj.cells #[.int .i64 s, .int .i64 b, .int .i64 m, .slice a len cap] 24)).alloc (Obj.cells #[.int .i64 x] 3)).alloc (Obj.cells #[.bool false] 4)).alloc (Obj.cells #[.int .i64 s, .int .i64 b, .int .i64 m, .slice a len cap] 24) = W0 := ⟨_, rfl⟩
  have hs0 : W0.heap.size = w.heap.size + 4 := by rw [← hW0]; simp
  have hB0 : Below w.heap.size w W0 := by rw [← hW0]; go_grown
  have c1 : W0.cell? ⟨w.heap.size + 1, 0, none⟩ = some (.int .i64 x) := by rw [← hW0]; exact cellA _ (cellA _ (cell_new _ _ _ (by simp) rfl))
  have c2 : W0.cell? ⟨w.heap.size + 1 + 1, 0, none⟩ = some (.bool false) := by rw [← hW0]; exact cellA _ (cell_new _ _ _ (by simp) rfl)
  have f2 : W0.frozen? ⟨w.heap.size + 1 + 1, 0, none⟩ = false := by rw [← hW0, frozen_old _ (by simp)]; exact frozen_new _ _ (by simp)
  have hX0 : PlBox s b m.toNat (w.heap.size + 1 + 1 + 1) W0 := by rw [← hW0]; exact plBox_new hm0 _ _ (by simp)
  rw [hW0]
  clear hW0
  refine wpIn_rangeFunc_ownH hro h1 (gf := 33) (lb := #[.pointer (some ⟨w.heap.size + 1 + 1 + 1, 0, none⟩)]) rfl h8 (enters_of Try.func33 (by kernel_rfl) rfl)
    (plSeq_stops F (n - 1) h8 hro (by omega) (w.heap.size + 1 + 1 + 1) w.heap.size s b m.toNat Hf.out W0 hX0) kpP_t (kpP_b (by omega)) (Below.refl _ _) (fun _ => rfl)
    (PlI x w.heap.size w) (PlX x w.heap.size w) (plI_own (by omega)) (plX_own (by omega))
    ⟨⟨by simp, c1, c2, f2⟩, hB0⟩
    (fun y a' _ => a' = { tmps := #[.agg #[.int .i64 s, .int .i64 b, .int .i64 m, .slice a len cap], .int .i64 x, .pointer (some ⟨w.heap.size, 0, none⟩), .pointer (some ⟨w.heap.size + 1, 0, none⟩), .pointer (some ⟨w.heap.size + 1 + 1, 0, none⟩), .int .i64 y, .agg #[.int .i64 s, .int .i64 b, .int .i64 m, .slice a len cap], .func (.func 33) #[] #[.pointer (some ⟨w.heap.size + 1 + 1 + 1, 0, none⟩)], .int .i64 y, undef, undef, undef], defers := [] })
    (fun _ _ => fun _ _ _ _ h _ _ => h) ?assign ?body ?done ?stop
  case assign =>
    rintro l pre y W K hi hK
    simp only [encPl]
    gi_wp2
    exact hK _ _ (KeepsFrom.refl _ _) (kpP_refl _ _ _) hi rfl
  case body =>
    rintro l pre y a' W hl - hi rfl hlt
    obtain ⟨⟨i1, i2, i3, i4⟩, i7⟩ := id hi
    have Hi := Lib.hid hi
    have H1 := Lib.hid i1
    clear hi i1
    by_cases hx : y = x
    · have q : (y == x) = true := by simpa using hx
      have HX := Lib.hid hx
      clear hx
      gi_wp2
      refine ⟨(KeepsOthers.setCell _ _ _).from _, ⟨rfl, by rw [HX.out]; simp, ?_⟩, i7.setCell (p := ⟨w.heap.size + 1 + 1, 0, none⟩) (by simp; omega) _⟩
      exact World.cell?_setCell_same' _ _ _ (by rw [i3]; rfl)
    · have q : (y == x) = false := by simpa using hx
      have HX := Lib.hid hx
      clear hx
      gi_wp2
      exact ⟨KeepsFrom.refl _ _, kpP_refl _ _ _, ⟨by simp [H1.out]; exact fun e => HX.out e.symm, Hi.out.1.2⟩, Hi.out.2⟩
  case done =>
    rintro D ys W hD rfl ⟨⟨i1, i2, i3, i4⟩, i7⟩ hK
    have HN := Lib.hid (plHas_not.2 i1)
    have hl3 := cell_lt i3
    clear i1
    gi_wp2
    have hK' := (KeepsOthers.setCell _ ⟨w.heap.size + 1 + 1, 0, none⟩ (.bool false)).same D _ hK rfl
    refine ⟨by simp, .inl ⟨_, _, rfl, run_takeDeferred hK', ?_⟩⟩
    have g5 : (W.setCell ⟨w.heap.size + 1 + 1, 0, none⟩ (.bool false)).cell? ⟨w.heap.size + 1 + 1, 0, none⟩ = some (.bool false) := World.cell?_setCell_same' _ _ _ (by rw [i3]; rfl)
    have j5 := cell_kept g5 (grownBy_putObj' _ D (.deferred none)) (fun r e => by cases e; exact ⟨_, hK', rfl⟩)
    have hB1 : Below w.heap.size w (W.setCell ⟨w.heap.size + 1 + 1, 0, none⟩ (.bool false)) := i7.setCell (p := ⟨w.heap.size + 1 + 1, 0, none⟩) (by simp; omega) _
    refine ⟨.bool false, ?_, ⟨by rw [HN.out], hB1.trans (belowK_b (w := w) (Nat.le_refl _) _ D _ _ (by omega) hK' rfl rfl)⟩⟩
    simp [results, Try.f30, go_sem, j5]
  case stop =>
    rintro D c pre W hD ⟨k, hk, rfl⟩ ⟨⟨rfl, e1, j5⟩, i7⟩ hK
    have HN := Lib.hid (show plHas (plBl s b m.toNat) x = true by
      rw [← plBl_take hk] at e1
      exact plHas_iff.2 (List.mem_of_mem_take e1))
    clear e1
    gi_wp2
    refine ⟨by simp, .inl ⟨_, _, rfl, run_takeDeferred hK, ?_⟩⟩
    have k5 := cell_kept j5 (grownBy_putObj' _ D (.deferred none)) (fun r e => by cases e; exact ⟨_, hK, rfl⟩)
    refine ⟨.bool true, ?_, ⟨by rw [HN.out], i7.trans (belowK_b (w := w) (Nat.le_refl _) W D _ _ (by omega) hK rfl rfl)⟩⟩
    simp [results, Try.f30, go_sem, k5]

theorem plFirstP_any (s b m : Int) (a : Option Addr) (len cap : Nat) (x : Int) (w : World) (hf : plFit s b m = true) :
    Calls Try.prog 30 #[.agg #[.int .i64 s, .int .i64 b, .int .i64 m, .slice a len cap], .int .i64 x] w (BoolPost (plHas (plBl s b m.toNat) x) w) :=
  callsIn_wide.1 (plFirstP_in Fence.wide 3 trivial trivial trivial rfl (Nat.le_refl _) s b m a len cap x w hf)
end Go.Proofs.Ytnkhgofpdgnemaa
