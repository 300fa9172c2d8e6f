/- Package pool: what an iterator's blocks are collected to: slices.AppendSeq, Collect, Reverse; those that are not in Free. -/
import Derived.Test.YtnkhgofpdgnemaaPlS
namespace Go.Proofs.Ytnkhgofpdgnemaa
open Go.ChangeShapes Go.WideShapes Go.ChangeAt Go.RowKit Go.Shelf

attribute [local go_sem] Oper.semAt_some

theorem kpP_below {n₀ Bs : Nat} {W W' : World} (hB : Bs < n₀) (h : Below n₀ W W') : KpP n₀ Bs W W' := ⟨h, fun o _ e => (h.cell (p := ⟨Bs, o, none⟩) hB).trans e⟩
theorem plBl_len_le (s b : Int) {N : Nat} (h : N ≤ 16) : (plBl s b N).length ≤ 16 := by rw [plBl_length]; exact h
theorem list_take_len {k N : Nat} (h : k < N) (hN : N ≤ 16) : k ≤ 15 := by omega

/-- a row of the call's own lies in a box -/
def PlRow (f : List Int → List Int) (h n0 : Nat) (pre : List Int) (W : World) : Prop := ∃ v, Boxed W h 22 v ∧ W.ownsRow n0 3 1 v (f pre).length ((f pre).map (Value.int .i64)) ∧ (v = .slice none 0 0 ↔ f pre = [])

set_option maxRecDepth 100000 in
set_option maxHeartbeats 4000000 in
theorem plAppendSeq_in (F : Fence) (n : Nat) (h3 : F.fn 32) (h8 : F.fn 33) (hro : F.round = none) (hn : 3 ≤ n) (s b : Int) (N Bs : Nat) (w : World) (hf : plFit s b N = true) (hX : PlBox s b N Bs w) :
    CallsIn F n Try.prog 32 #[.slice none 0 0, .func (.func 33) #[] #[.pointer (some ⟨Bs, 0, none⟩)]] w fun e W' => ∃ v, e = .returned v ∧ W'.ownsRow w.heap.size 3 1 v (plBl s b N).length ((plBl s b N).map (Value.int .i64)) ∧ Below w.heap.size w W' := by
  have h1 : 1 ≤ n := by omega
  have hN16 : N ≤ 16 := by have := (plFit_iff.1 hf).2.2.2.1; omega
  have hBs := plBox_lt hX
  obtain ⟨i0, hi, hz0, hz1, hz2⟩ := info_parts Try.info3
  refine callsIn_of_wp_marks Try.func32 rfl h3 ?_ hro
  simp only [Try.ntmps32, List.size_toArray, List.length_cons, List.length_nil, Nat.reduceAdd, Nat.reduceSub, Array.replicate_succ, Array.replicate_zero, List.push_toArray, List.append_toArray, List.nil_append, List.cons_append]
  gi_wp2
  have bO := Boxed.new w 22 (.slice none 0 0)
  have hB0 : Below w.heap.size w (w.alloc (.cells #[.slice none 0 0] 22)) := (Below.refl _ w).alloc (Nat.le_refl _) _
  refine wpIn_rangeFunc_ownH hro h1 (gf := 33) (lb := #[.pointer (some ⟨Bs, 0, none⟩)]) rfl h8 (enters_of Try.func33 (by kernel_rfl) rfl)
    (plSeq_stops F (n - 1) h8 hro (by omega) Bs w.heap.size s b N hf _ (plBox_A _ hX)) kpP_t (kpP_b (by simp)) (Below.refl _ _) (fun _ => rfl)
    (fun pre W => PlRow id w.heap.size w.heap.size pre W ∧ Below w.heap.size w W)
    (fun _ _ _ => False)
    (OwnFrom.and (Own.from (holdsRow_own w.heap.size w.heap.size 22 3 1 (fun pre => pre.length) (fun pre => pre.map (Value.int .i64)) (fun pre v => v = .slice none 0 0 ↔ pre = [])) _) (ownFrom_below (Nat.le_refl _) (by simp)))
    (fun _ _ _ _ _ hs _ _ => hs)
    ⟨⟨_, bO, World.ownsRow_nil _ _ _ _, by simp⟩, hB0⟩
    (fun x a' _ => a' = { tmps := #[.slice none 0 0, .func (.func 33) #[] #[.pointer (some ⟨Bs, 0, none⟩)], .pointer (some ⟨w.heap.size, 0, none⟩), undef, .slice none 0 0, .int .i64 x, .func (.func 33) #[] #[.pointer (some ⟨Bs, 0, none⟩)], .int .i64 x, undef, undef, undef, undef, undef], defers := [] })
    (fun _ _ => fun _ _ _ _ h _ _ => h) ?assign ?body ?done ?stop
  case assign =>
    rintro l pre x W K hi hK
    simp only [encPl]
    gi_wp2
    exact hK _ _ (KeepsFrom.refl _ _) (kpP_refl _ _ _) hi rfl
  case body =>
    rintro l pre x a' W hl - ⟨⟨v, hv, hrow, hnil⟩, hB⟩ rfl hlt
    have hc := hv.cell
    simp only [id] at hrow hnil
    have hl15 := list_take_len hlt hN16
    gi_wp2_with (gi_at_builtin; refine wpListIn_append_own _ rfl _ _ 22 rfl w.heap.size 3 i0 (.int .i64 0) 1 8 Try.underlying22 hi hz0 hz1 hz2 rfl (by decide) _ _ _ rfl (hrow.alloc _) ⟨W.heap.size, 0, none⟩ 1 1 [.int .i64 x] rfl rfl (cell_one_new _ _ _) (by simp [Value.oneCell']) (by unfold maxLen; omega) (by omega) (by have := hB.size; simp; omega) ?_; intro v' w1 hown' hgrow _; obtain ⟨g', cap', rfl⟩ := ownsRow_succ hown'; obtain ⟨hv1, hv2, hr2, hk2, hb2⟩ := hv.appended (by decide) hrow hB.size (Nat.le_refl _) hown' hgrow; have hc1 := hv1.cell; have hf1 := hv1.frozen)
    exact ⟨hk2.from _, kpP_below hBs hb2, ⟨_, hv2, by simpa using hr2, by simp⟩, hB.trans hb2⟩
  case done =>
    rintro D ys W hD rfl ⟨⟨v, hv, hrow, hnil⟩, hB⟩ hK
    have hc := hv.cell
    gi_wp2
    refine ⟨by simp, .inl ⟨_, _, rfl, run_takeDeferred hK, ?_⟩⟩
    exact ⟨_, results_tmp rfl _ _ _, v, rfl, ownsRow_putObj hrow _ hK rfl, hB.trans (belowK_b (w := w) (Nat.le_refl _) W D _ _ (by simp at hD; omega) hK rfl rfl)⟩
  case stop =>
    rintro D c pre W _ _ h _
    exact h.elim
theorem plAppendSeq_any (s b : Int) (N Bs : Nat) (w : World) (hf : plFit s b N = true) (hX : PlBox s b N Bs w) :
    Calls Try.prog 32 #[.slice none 0 0, .func (.func 33) #[] #[.pointer (some ⟨Bs, 0, none⟩)]] w fun e W' => ∃ v, e = .returned v ∧ W'.ownsRow w.heap.size 3 1 v (plBl s b N).length ((plBl s b N).map (Value.int .i64)) ∧ Below w.heap.size w W' :=
  callsIn_wide.1 (plAppendSeq_in Fence.wide 9 trivial trivial rfl (by omega) s b N Bs w hf hX)

set_option maxHeartbeats 2000000 in
theorem plCollect_any (s b : Int) (N Bs : Nat) (w : World) (hf : plFit s b N = true) (hX : PlBox s b N Bs w) :
    Calls Try.prog 23 #[.func (.func 33) #[] #[.pointer (some ⟨Bs, 0, none⟩)]] w fun e W' => ∃ v, e = .returned v ∧ W'.ownsRow w.heap.size 3 1 v (plBl s b N).length ((plBl s b N).map (Value.int .i64)) ∧ Below w.heap.size w W' := by
  go_enter Try.func23, Try.ntmps23
  go_wp2_with fail
  refine (plAppendSeq_any s b N Bs _ hf hX).mono ?_
  rintro e W' ⟨v, rfl, hrow, hb⟩
  have HR := Lib.hid hrow
  have HB := Lib.hid hb
  clear hrow hb
  go_wp2
  go_ret
  exact ⟨v, rfl, HR.out, HB.out⟩

/-! ### without, held -/
def plWo (fs : List Int) (pre : List Int) : List Int := pre.filter fun x => !plHas fs x
theorem plWo_hit {fs : List Int} (pre : List Int) {x : Int} (h : plHas fs x = true) : plWo fs (pre ++ [x]) = plWo fs pre := by simp [plWo, h]
theorem plWo_miss {fs : List Int} (pre : List Int) {x : Int} (h : plHas fs x = false) : plWo fs (pre ++ [x]) = plWo fs pre ++ [x] := by simp [plWo, h]
theorem plWo_len (fs pre : List Int) : (plWo fs pre).length ≤ pre.length := List.length_filter_le _ _

set_option maxRecDepth 100000 in
set_option maxHeartbeats 4000000 in
theorem plWithout_in (F : Fence) (n : Nat) (h4 : F.fn 34) (h5 : F.fn 31) (h8 : F.fn 33) (hro : F.round = none) (hn : 4 ≤ n) (s b : Int) (N Bs : Nat) (a : Option Addr) (len cap : Nat) (fs : List Int) (w : World) (hf : plFit s b N = true) (hX : PlBox s b N Bs w) (S : Sl w a len fs)
    (hC : ∀ m x w', Sl w' a len fs → CallsIn F m Try.prog 31 #[.slice a len cap, .int .i64 x] w' (PureB (plHas fs x) w')) :
    CallsIn F n Try.prog 34 #[.func (.func 33) #[] #[.pointer (some ⟨Bs, 0, none⟩)], .slice a len cap] w fun e W' => ∃ v, e = .returned v ∧ W'.ownsRow w.heap.size 3 1 v (plHeld s b N fs).length ((plHeld s b N fs).map (Value.int .i64)) ∧ Below w.heap.size w W' := by
  have h1 : 1 ≤ n := by omega
  have h11 : 1 ≤ n - 1 - 1 := by omega
  have hN16 : N ≤ 16 := by have := (plFit_iff.1 hf).2.2.2.1; omega
  have hBs := plBox_lt hX
  obtain ⟨i0, hi, hz0, hz1, hz2⟩ := info_parts Try.info3
  refine callsIn_of_wp_marks Try.func34 rfl h4 ?_ hro
  simp only [Try.ntmps34, List.size_toArray, List.length_cons, List.length_nil, Nat.reduceAdd, Nat.reduceSub, Array.replicate_succ, Array.replicate_zero, List.push_toArray, List.append_toArray, List.nil_append, List.cons_append]
  gi_wp2
  obtain ⟨W0, hW0⟩ : ∃ W0, (w.alloc (.cells #[.slice a len cap] 22)).alloc (.cells #[.slice none 0 0] 22) = W0 := ⟨_, rfl⟩
  have hs0 : W0.heap.size = w.heap.size + 2 := by rw [← hW0]; simp
  have bO : Boxed W0 (w.heap.size + 1) 22 (.slice none 0 0) := by rw [← hW0]; have := Boxed.new (w.alloc (.cells #[.slice a len cap] 22)) 22 (.slice none 0 0); rwa [World.size_alloc] at this
  have bA : Boxed W0 w.heap.size 22 (.slice a len cap) := by rw [← hW0]; exact (Boxed.new w 22 (.slice a len cap)).alloc _
  have hB0 : Below w.heap.size w W0 := by rw [← hW0]; exact ((Below.refl _ w).alloc (Nat.le_refl _) _).alloc (by simp) _
  rw [hW0]
  clear hW0
  refine wpIn_rangeFunc_ownH hro h1 (gf := 33) (lb := #[.pointer (some ⟨Bs, 0, none⟩)]) rfl h8 (enters_of Try.func33 (by kernel_rfl) rfl)
    (plSeq_stops F (n - 1) h8 hro (by omega) Bs w.heap.size s b N hf W0 (plBox_B hB0 hX)) kpP_t (kpP_b (by omega)) (Below.refl _ _) (fun _ => rfl)
    (fun pre W => (PlRow (plWo fs) (w.heap.size + 1) w.heap.size pre W ∧ Boxed W w.heap.size 22 (.slice a len cap)) ∧ Below w.heap.size w W)
    (fun _ _ _ => False)
    (OwnFrom.and (OwnFrom.and (Own.from (holdsRow_own w.heap.size (w.heap.size + 1) 22 3 1 (fun pre => (plWo fs pre).length) (fun pre => (plWo fs pre).map (Value.int .i64)) (fun pre v => v = .slice none 0 0 ↔ plWo fs pre = [])) _) (Own.from (boxed_own w.heap.size 22 (fun _ => .slice a len cap)) _)) (ownFrom_below (Nat.le_refl _) (by omega)))
    (fun _ _ _ _ _ hs _ _ => hs)
    ⟨⟨⟨_, bO, World.ownsRow_nil _ _ _ _, by simp [plWo]⟩, bA⟩, hB0⟩
    (fun x a' _ => a' = { tmps := #[.func (.func 33) #[] #[.pointer (some ⟨Bs, 0, none⟩)], .slice a len cap, undef, .pointer (some ⟨w.heap.size, 0, none⟩), .slice none 0 0, .pointer (some ⟨w.heap.size + 1, 0, none⟩), .int .i64 x, .func (.func 33) #[] #[.pointer (some ⟨Bs, 0, none⟩)], .int .i64 x, undef, undef, undef, undef, undef, undef, undef, undef, undef], defers := [] })
    (fun _ _ => fun _ _ _ _ h _ _ => h) ?assign ?body ?done ?stop
  case assign =>
    rintro l pre x W K hi hK
    simp only [encPl]
    gi_wp2
    exact hK _ _ (KeepsFrom.refl _ _) (kpP_refl _ _ _) hi rfl
  case body =>
    rintro l pre x a' W hl - ⟨⟨⟨v, hv, hrow, hnil⟩, bA'⟩, hB⟩ rfl hlt
    have hc := hv.cell
    have hca := bA'.cell
    have hpl := plWo_len fs pre
    have hl15 := list_take_len hlt hN16
    have SW := slB hB S
    cases hh : plHas fs x with
    | true =>
      gi_wp2_with (gi_at_call 31; refine (CallsIn.inRound l (hC _ x _ SW)).mono ?_; rw [hh]; rintro e w' ⟨rfl, hw'⟩; have hw2 := hw'.symm; clear hw'; subst hw2)
      exact ⟨KeepsFrom.refl _ _, kpP_refl _ _ _, ⟨⟨v, hv, by rw [plWo_hit pre hh]; exact hrow, by rw [plWo_hit pre hh]; exact hnil⟩, bA'⟩, hB⟩
    | false =>
      gi_wp2_with (first | (gi_at_call 31; refine (CallsIn.inRound l (hC _ x _ SW)).mono ?_; rw [hh]; rintro e w' ⟨rfl, hw'⟩; have hw2 := hw'.symm; clear hw'; subst hw2) | (gi_at_builtin; refine wpListIn_append_own _ rfl _ _ 22 rfl w.heap.size 3 i0 (.int .i64 0) 1 8 Try.underlying22 hi hz0 hz1 hz2 rfl (by decide) _ _ _ rfl (hrow.alloc _) ⟨W.heap.size, 0, none⟩ 1 1 [.int .i64 x] rfl rfl (cell_one_new _ _ _) (by simp [Value.oneCell']) (by unfold maxLen; omega) (by omega) (by have := hB.size; simp; omega) ?_; intro v' w1 hown' hgrow _; obtain ⟨g', cap', rfl⟩ := ownsRow_succ hown'; obtain ⟨hv1, hv2, hr2, hk2, hb2⟩ := hv.appended (by decide) hrow hB.size (by omega) hown' hgrow; have hc1 := hv1.cell; have hf1 := hv1.frozen; have bA2 := ((bA'.alloc (.cells #[.int .i64 x] 3)).kept hgrow (bA'.not_row (by decide) hrow)).other (B' := w.heap.size + 1) (by omega) (.slice (some ⟨g', 0, none⟩) ((plWo fs pre).length + 1) cap')))
      exact ⟨hk2.from _, kpP_below hBs hb2, ⟨⟨_, hv2, by rw [plWo_miss pre hh]; simpa using hr2, by rw [plWo_miss pre hh]; simp⟩, bA2⟩, hB.trans hb2⟩
  case done =>
    rintro D ys W hD rfl ⟨⟨⟨v, hv, hrow, hnil⟩, bA'⟩, hB⟩ hK
    have hc := hv.cell
    gi_wp2
    refine ⟨by simp, .inl ⟨_, _, rfl, run_takeDeferred hK, ?_⟩⟩
    exact ⟨_, results_tmp rfl _ _ _, v, rfl, ownsRow_putObj hrow _ hK rfl, hB.trans (belowK_b (w := w) (Nat.le_refl _) W D _ _ (by omega) hK rfl rfl)⟩
  case stop =>
    rintro D c pre W _ _ h _
    exact h.elim
theorem plWithout_any (s b : Int) (N Bs : Nat) (a : Option Addr) (len cap : Nat) (fs : List Int) (w : World) (hf : plFit s b N = true) (hX : PlBox s b N Bs w) (S : Sl w a len fs) (hlen : len ≤ 9223372036854775807) :
    Calls Try.prog 34 #[.func (.func 33) #[] #[.pointer (some ⟨Bs, 0, none⟩)], .slice a len cap] w fun e W' => ∃ v, e = .returned v ∧ W'.ownsRow w.heap.size 3 1 v (plHeld s b N fs).length ((plHeld s b N fs).map (Value.int .i64)) ∧ Below w.heap.size w W' :=
  callsIn_wide.1 (plWithout_in Fence.wide 9 trivial trivial trivial rfl (by omega) s b N Bs a len cap fs w hf hX S (fun _ x w' hS => callsIn_wide.2 (plContains_any a len cap fs x w' hS hlen)))
end Go.Proofs.Ytnkhgofpdgnemaa
