/- LitF, LitG, LitH, LitI, put together. -/
import Derived.Test.YtiebaeaomgpicaaGreatLitE
import Derived.Test.YtiebaeaomgpicaaGreatN1
import Derived.Test.YtiebaeaomgpicaaGreatM7
import Derived.Lib.AppendZeros
import Derived.Laws.AppendOwnNone
import Derived.Laws.BytesArg
import Derived.Maps.AppendAt
import Derived.Deep.AppendLies
/- Package litmus: ended. -/
namespace Go.Proofs.YtiebaeaomgpicaaGreat
open Go.ChangeShapes Go.WideShapes Go.ChangeAt Go.RowKit
open Gen

set_option maxRecDepth 100000 in
set_option maxHeartbeats 4000000 in
theorem ended_any (a a' q : Option Addr) (n c n' c' l d : Nat) (p : Nat → Option Addr) (pl pc : Nat → Nat) (r : Nat → Option Addr) (rl rc : Nat → Nat) (s : St) (w : World) (F : StF w a a' q n n' l p pl pc r rl rc s) (hl : l ≤ 3) :
    Calls Tryz.prog 15 #[.agg #[.slice a n c, .slice a' n' c', .int .i64 s.D, .slice q l d, .slice (p 0) (pl 0) (pc 0), .slice (p 1) (pl 1) (pc 1), .slice (p 2) (pl 2) (pc 2), .slice (r 0) (rl 0) (rc 0), .slice (r 1) (rl 1) (rc 1), .slice (r 2) (rl 2) (rc 2)]] w (BoolPost (endedB s l) w) := by
  obtain ⟨ws, ts, D, bs, f, h⟩ := s
  dsimp only
  obtain ⟨W, hW⟩ : ∃ W, W = w.alloc (Obj.cells #[.slice a n c, .slice a' n' c', .int .i64 D, .slice q l d, .slice (p 0) (pl 0) (pc 0), .slice (p 1) (pl 1) (pc 1), .slice (p 2) (pl 2) (pc 2), .slice (r 0) (rl 0) (rc 0), .slice (r 1) (rl 1) (rc 1), .slice (r 2) (rl 2) (rc 2)] 50) := ⟨_, rfl⟩
  have hbW : Below w.heap.size w W := by rw [hW]; go_grown
  have X : VarN W w.heap.size [.slice a n c, .slice a' n' c', .int .i64 D, .slice q l d, .slice (p 0) (pl 0) (pc 0), .slice (p 1) (pl 1) (pc 1), .slice (p 2) (pl 2) (pc 2), .slice (r 0) (rl 0) (rc 0), .slice (r 1) (rl 1) (rc 1), .slice (r 2) (rl 2) (rc 2)] := by rw [hW]; exact varN_new [.slice a n c, .slice a' n' c', .int .i64 D, .slice q l d, .slice (p 0) (pl 0) (pc 0), .slice (p 1) (pl 1) (pc 1), .slice (p 2) (pl 2) (pc 2), .slice (r 0) (rl 0) (rc 0), .slice (r 1) (rl 1) (rc 1), .slice (r 2) (rl 2) (rc 2)] _ rfl
  have HF := Lib.hid (stF_B hbW F)
  have HB := Lib.hid hbW
  have HX := Lib.hid X
  have HW := Lib.hid hW
  have y3 := (X 3 _ rfl).1
  clear hW hbW X F
  go_enter Tryz.func15, Tryz.ntmps15
  go_upto_region 1 with fail
  rw [← HW.out]
  go_wp2_with fail
  go_loopw [8] (fun i wr => ∃ k : Nat, k ≤ l ∧ i = .int .i64 k ∧ Hid (∀ i, i < k → doneB ⟨ws, ts, D, bs, f, h⟩ i = true) ∧ Below W.heap.size W wr) (fun i _ => l - (intOf i).toNat)
  case atStart => exact ⟨0, Nat.zero_le _, rfl, (show ∀ i, i < 0 → doneB ⟨ws, ts, D, bs, f, h⟩ i = true from fun i hi => by omega), Below.refl _ _⟩
  case round =>
    obtain ⟨k, hk, rfl, hd, hb⟩ := hrel
    by_cases hlt : k < l
    · have i1 : (0 : Int) ≤ k := by omega
      have i2 : (k : Int) < l := by omega
      have i3 : (k : Int) < 3 := by omega
      have X := varN_B hb HX.out
      have hF := stF_B hb HF.out
      obtain ⟨y, _⟩ := X (4 + k) _ (get_left _ _ _ _ p pl pc _ _ _ k (by omega))
      obtain ⟨m, hm⟩ : ∃ m, pl k = m := ⟨_, rfl⟩
      rw [hm] at y
      have HM := Lib.hid (show (f k).length = m from (hF.2.2.2.1 k (by omega)).2.1.trans hm)
      have HFB := Lib.hid hF
      have HBB := Lib.hid hb
      clear hm hF hb y3
      have y0 := (X 0 _ rfl).1
      have y1 := (X 1 _ rfl).1
      have y2 := (X 2 _ rfl).1
      have y3 := (X 3 _ rfl).1
      have y4 := (X 4 _ rfl).1
      have y5 := (X 5 _ rfl).1
      have y6 := (X 6 _ rfl).1
      have y7 := (X 7 _ rfl).1
      have y8 := (X 8 _ rfl).1
      have y9 := (X 9 _ rfl).1
      clear X
      by_cases h0 : 0 < m
      · have h0' : (0 : Int) < m := by omega
        go_wp2_with fail
        go_ret
        exact boolPost_mk (endedB_no hlt (by rw [doneB]; simp; intro h1; have := HM.out; simp [h1] at this; omega)) (below_from HB.out HBB.out)
      · obtain rfl : m = 0 := by omega
        go_wp2_with fail
        have h0 := waits_any a a' q n c n' c' l d p pl pc r rl rc ⟨ws, ts, D, bs, f, h⟩ k wr HFB.out hlt
        dsimp only at h0
        with_reducible refine h0.mono ?_
        clear h0
        rintro e w2 ⟨rfl, hb2⟩
        obtain ⟨wb, hwb⟩ : ∃ wb, decide (0 < (bs.getD k []).length) = wb := ⟨_, rfl⟩
        rw [hwb]
        have HWB := Lib.hid hwb
        have HB2 := Lib.hid (below_from HBB.out hb2)
        clear hwb hb2
        cases wb with
        | true =>
          go_wp2_with fail
          go_ret
          exact boolPost_mk (endedB_no hlt (by have h1 := HWB.out; rw [decide_eq_true_eq] at h1; rw [doneB]; simp; intro _ h2; simp [h2] at h1)) (below_from HB.out HB2.out)
        | false =>
          go_wp2_with fail
          go_roundw
          case rel =>
            refine ⟨k + 1, by omega, by go_num, ?_, HB2.out⟩
            show ∀ i, i < k + 1 → doneB ⟨ws, ts, D, bs, f, h⟩ i = true
            intro i hi
            by_cases e : i = k
            · subst e
              have h1 := HWB.out
              rw [decide_eq_false_iff_not] at h1
              rw [doneB, decide_eq_true HM.out, decide_eq_true (show (bs.getD i []).length = 0 by omega)]; rfl
            · exact hd.out i (by omega)
          case measure => simp [intOf]; omega
    · obtain rfl : k = l := by omega
      have HBB := Lib.hid hb
      clear hb
      go_wp2
      go_ret
      exact boolPost_mk (endedB_yes hd.out) (below_from HB.out HBB.out)
end Go.Proofs.YtiebaeaomgpicaaGreat
/- Package slices at []int: Grow of nil, Concat. -/
namespace Go.Proofs.YtiebaeaomgpicaaGreat
open Go.ChangeShapes Go.WideShapes Go.ChangeAt Go.RowKit
open Gen

def OwnPost (zs : List Int) (w : World) (e : Ending) (w' : World) : Prop := ∃ v, e = .returned v ∧ w'.ownsRow w.heap.size 3 1 v zs.length (zs.map (.int .i64)) ∧ Below w.heap.size w w'
theorem grow_owns (w : World) (N : Nat) (h : N ≤ 1000) : (w.drew.alloc (.cells (Builtin.zeroCells (Value.int .i64 0).cells N ++ Builtin.zeroCells (Value.int .i64 0).cells (grownCap w N 0 3 - N)) 3)).ownsRow w.heap.size 3 1 (.slice (some ⟨w.heap.size, 0, none⟩) 0 (grownCap w N 0 3)) 0 [] := by
  have hge := grownCap_ge w N 0 3
  refine ⟨rfl, .inr ⟨w.heap.size, _, _, rfl, Nat.le_refl _, heap_new w.drew _ _ rfl, Nat.zero_le _, grownCap_le_maxLen w N 0 _ (by unfold maxLen; omega), ?_, by simp⟩⟩
  rw [Array.size_append, size_zeroCells, size_zeroCells]
  show N * 1 + (grownCap w N 0 3 - N) * 1 = grownCap w N 0 3 * 1
  omega
set_option maxRecDepth 100000 in
set_option maxHeartbeats 2000000 in
theorem growNil_any (N : Nat) (w : World) (h : N ≤ 1000) :
    Calls Tryz.prog 55 #[.slice none 0 0, .int .i64 N] w (OwnPost [] w) := by
  obtain ⟨i0, hi, hz0, hz1, hz2⟩ := info_parts Tryz.info3
  by_cases h0 : N = 0
  · subst h0
    clear hi hz0 hz1 hz2
    go_enter Tryz.func55, Tryz.ntmps55
    go_wp2
    go_ret
    exact ⟨_, rfl, World.ownsRow_nil _ _ _ _, by go_grown⟩
  · have i1 : (0 : Int) < N := by omega
    have i2 : ¬ (N : Int) < 0 := by omega
    have hrun := Lib.run_append_nil_zeros (P := Tryz.prog) w 23 3 23 3 i0 (.int .i64 0) .i64 .i64 Tryz.underlying23 Tryz.underlying3 hi hz0 N (by omega) (by omega) (by omega) (by rw [hz2]; omega)
    have hge := grownCap_ge w N 0 3
    have ho := grow_owns w N h
    obtain ⟨C, hC⟩ : ∃ C, grownCap w N 0 3 = C := ⟨_, rfl⟩
    obtain ⟨W, hW⟩ : ∃ W, W = w.drew.alloc (.cells (Builtin.zeroCells (Value.int .i64 0).cells N ++ Builtin.zeroCells (Value.int .i64 0).cells (grownCap w N 0 3 - N)) 3) := ⟨_, rfl⟩
    have hb : Below w.heap.size w W := by rw [hW]; exact ((Below.refl _ _).drew).alloc (Nat.le_refl _) _
    rw [← hW] at hrun ho
    rw [hC] at hrun hge ho
    have HRUN := Lib.hid hrun
    have HO := Lib.hid ho
    have HB := Lib.hid hb
    have i3 : (0 : Int) ≤ C := by omega
    clear hrun ho hb hW hC hi hz0 hz1 hz2 h0
    go_enter Tryz.func55, Tryz.ntmps55
    go_wp2_with (at_builtin; refine Lib.wpList_append_run _ rfl _ _ _ _ rfl _ _ rfl rfl _ _ HRUN.out ?_)
    go_ret
    exact ⟨_, rfl, HO.out, HB.out⟩

def sumL (zs : List (List Int)) : Nat := (zs.map List.length).sum
theorem sumL_succ {zs : List (List Int)} {k : Nat} {z : List Int} (h : zs[k]? = some z) : sumL (zs.take (k + 1)) = sumL (zs.take k) + z.length := by
  obtain ⟨hk, rfl⟩ := List.getElem?_eq_some_iff.1 h
  rw [List.take_succ_eq_append_getElem hk, sumL, sumL, List.map_append, List.sum_append]
  simp
theorem sumL_le (zs : List (List Int)) (k : Nat) : sumL (zs.take k) ≤ sumL zs := by
  conv => rhs; rw [← List.take_append_drop k zs, sumL, List.map_append, List.sum_append]
  exact Nat.le_add_right _ _
theorem flat_succ {zs : List (List Int)} {k : Nat} {z : List Int} (h : zs[k]? = some z) : (zs.take (k + 1)).flatten = (zs.take k).flatten ++ z := by
  obtain ⟨hk, rfl⟩ := List.getElem?_eq_some_iff.1 h
  rw [List.take_succ_eq_append_getElem hk, List.flatten_append]
  simp
theorem flat_len2 (zs : List (List Int)) : zs.flatten.length = sumL zs := by rw [List.length_flatten]; rfl
theorem ints_at {w : World} {q : Option Addr} {l : Nat} {zs : List (List Int)} (S : Vs (repSlice repInt) Any w q l zs) {k : Nat} (hk : k < l) :
    ∃ b o z p c, q = some ⟨b, o, none⟩ ∧ zs[k]? = some z ∧ w.cell? ⟨b, o + k, none⟩ = some (.slice p z.length c) ∧ z.length ≤ c ∧ c ≤ 9223372036854775807 ∧ (p = none → c = 0) ∧ Vs repInt Any w p z.length z := by
  obtain ⟨b, o, t, e, ht, _, h⟩ := vs_at S hk
  obtain ⟨p, c, h1, h2, h3, h4, h5⟩ := at_slice h
  rw [show (repSlice repInt).k = 1 from rfl, Nat.mul_one] at h1
  exact ⟨b, o, t, p, c, e, ht, h1, h2, h3, h4, h5⟩
theorem own_append {w wr w1 : World} {v : Value} {n : Nat} {xs : List Value} (hb : Below w.heap.size w wr) (ho : wr.ownsRow w.heap.size 3 1 v n xs) (hg : wr.grownBy w1 v.ownBlock) : Below w.heap.size w w1 :=
  hb.grown hg hb.size (fun _ hr => own_ge ho hr)

set_option maxRecDepth 100000 in
set_option maxHeartbeats 4000000 in
theorem concat_any (q : Option Addr) (l d : Nat) (zs : List (List Int)) (w : World) (S : Vs (repSlice repInt) Any w q l zs) (hl : l ≤ 1000) (ht : sumL zs ≤ 1000) :
    Calls Tryz.prog 31 #[.slice q l d] w (OwnPost zs.flatten w) := by
  obtain ⟨i0, hi, hz0, hz1, hz2⟩ := info_parts Tryz.info3
  have HI := Lib.hid (And.intro hi (And.intro hz0 (And.intro hz1 hz2)))
  have Hl := Lib.hid S.1
  clear hi hz0 hz1 hz2
  go_enter Tryz.func31, Tryz.ntmps31
  go_wp2
  go_loop [3, 11] (fun m i => ∃ k : Nat, k ≤ l ∧ i = .int .i64 k ∧ m = .int .i64 ((sumL (zs.take k) : Nat) : Int)) (fun _ i => l - (intOf i).toNat)
  case atStart => exact ⟨0, by omega, rfl, rfl⟩
  case round =>
    obtain ⟨k, hk, rfl, rfl⟩ := hrel
    have hbd := sumL_le zs k
    by_cases hlt : k < l
    · obtain ⟨b, o, z, p, c, rfl, hz, g0, -, -, -, -⟩ := ints_at S hlt
      have HT := Lib.hid (sumL_succ hz)
      have hbd2 := sumL_le zs (k + 1)
      rw [HT.out] at hbd2
      have i1 : (0 : Int) ≤ k := by omega
      have i2 : (k : Int) < l := by omega
      have i3 : ¬ ((sumL (zs.take k) : Nat) : Int) + ((z.length : Nat) : Int) < 0 := by omega
      clear hz
      go_wp2
      go_round
      case rel => exact ⟨k + 1, by omega, by go_num, by rw [HT.out]; go_num⟩
      case measure => simp [intOf]; omega
    · obtain rfl : k = l := by omega
      rw [List.take_of_length_le (by rw [Hl.out]; exact Nat.le_refl _)]
      clear hbd
      go_wp2_with fail
      have h0 := growNil_any (sumL zs) w ht
      with_reducible refine h0.mono ?_
      clear h0
      rintro e w1 ⟨v, rfl, ho, hb⟩
      have HO := Lib.hid ho
      have HB := Lib.hid hb
      obtain ⟨v0, hv0⟩ : ∃ v0, v0 = v := ⟨_, rfl⟩
      subst hv0
      clear ho hb
      go_wp2_with fail
      go_loopw [6, 27] (fun v i wr => ∃ j : Nat, j ≤ k ∧ i = .int .i64 j ∧ Hid (wr.ownsRow w.heap.size 3 1 v (sumL (zs.take j)) ((zs.take j).flatten.map (.int .i64))) ∧ Below w.heap.size w wr) (fun _ i _ => k - (intOf i).toNat)
      case atStart => exact ⟨0, by omega, rfl, HO.out, HB.out⟩
      case round =>
        obtain ⟨j, hj, rfl, ho, hb⟩ := hrel
        obtain ⟨wo, hwo⟩ : ∃ wo : World, wo = wr := ⟨_, rfl⟩
        subst hwo
        by_cases hlt2 : j < k
        · obtain ⟨b, o, z, p, c, rfl, hz, g0, c1, c2, c3, V⟩ := ints_at (vs_B hb S) hlt2
          have HF := Lib.hid (flat_succ hz)
          have HT := Lib.hid (sumL_succ hz)
          have hbd2 := sumL_le zs (j + 1)
          rw [HT.out] at hbd2
          have i1 : (0 : Int) ≤ j := by omega
          have i2 : (j : Int) < k := by omega
          have HB2 := Lib.hid hb
          have HV := Lib.hid V
          have hsz := hb.size
          obtain ⟨m, hm⟩ : ∃ m, z.length = m := ⟨_, rfl⟩
          rw [hm] at g0 c1 hbd2
          have HM := Lib.hid hm
          have HTJ := Lib.hid (show sumL (zs.take (j + 1)) = sumL (zs.take j) + m by rw [HT.out, hm])
          obtain ⟨va, vc, rfl⟩ := own_shapeT ho.out
          clear hz hb V hm HT
          cases p with
          | none =>
            obtain rfl : c = 0 := c3 rfl
            obtain rfl : m = 0 := by omega
            have hz0 : z = [] := List.eq_nil_of_length_eq_zero HM.out
            clear c3
            go_wp2_with (at_builtin; refine wpList_append_own_none rfl _ _ 23 rfl w.heap.size 3 i0 1 Tryz.underlying23 HI.out.1 _ _ _ rfl ho.out rfl ?_)
            go_roundw
            case rel => exact ⟨j + 1, by omega, by go_num, (by show World.ownsRow _ _ _ _ _ _ _; rw [HTJ.out, HF.out, hz0, List.append_nil]; exact ho.out), HB2.out⟩
            case measure => simp [intOf]; omega
          | some ad =>
            clear c3
            go_wp2_with (at_builtin; refine wpList_append_own _ rfl _ _ 23 rfl w.heap.size 3 i0 (.int .i64 0) 1 8 Tryz.underlying23 HI.out.1 HI.out.2.1 HI.out.2.2.1 HI.out.2.2.2 rfl (by decide) _ _ _ rfl ho.out ad m c (z.map (.int .i64)) rfl ?c1 ?c2 ?c3 ?c4 ?c5 ?c6 ?_)
            case c1 => rw [List.length_map, HM.out, Nat.mul_one]
            case c2 => exact vs_cells1 HV.out ad rfl
            case c3 => intro u hu; obtain ⟨x, _, rfl⟩ := List.mem_map.1 hu; rfl
            case c4 => unfold maxLen; omega
            case c5 => omega
            case c6 => omega
            intro v' w2 hown hgrow _
            have HO2 := Lib.hid hown
            have HB3 := Lib.hid (own_append HB2.out ho.out hgrow)
            clear hown hgrow
            go_wp2_with fail
            go_roundw
            case rel => exact ⟨j + 1, by omega, by go_num, (by show World.ownsRow _ _ _ _ _ _ _; rw [HTJ.out, HF.out, List.map_append, List.map_flatten, List.map_take]; exact HO2.out), HB3.out⟩
            case measure => simp [intOf]; omega
        · obtain rfl : j = k := by omega
          have HB2 := Lib.hid hb
          have HO2 := Lib.hid (show wo.ownsRow w.heap.size 3 1 _ zs.flatten.length (zs.flatten.map (.int .i64)) by
            have := ho.out
            rw [List.take_of_length_le (by rw [Hl.out]; exact Nat.le_refl _)] at this
            rw [flat_len2]; exact this)
          clear hb ho
          go_wp2
          go_ret
          exact ⟨_, rfl, HO2.out, HB2.out⟩
end Go.Proofs.YtiebaeaomgpicaaGreat
/- Package litmus: outcome. -/
namespace Go.Proofs.YtiebaeaomgpicaaGreat
open Go.ChangeShapes Go.WideShapes Go.ChangeAt Go.RowKit
open Gen

theorem own_mono {B B' : Nat} {w : World} {e : TypeId} {k : Nat} {v : Value} {n : Nat} {xs : List Value} (hB : B' ≤ B) (h : w.ownsRow B e k v n xs) : w.ownsRow B' e k v n xs := by
  obtain ⟨h1, h2⟩ := h
  refine ⟨h1, h2.imp id ?_⟩
  rintro ⟨g, cap, cur, e1, e2, e3⟩
  exact ⟨g, cap, cur, e1, by omega, e3⟩
theorem vs_noted {w : World} {g : Nat} {x0 x1 x2 x3 x4 x5 x6 : Value} {r : Nat → Option Addr} {rl rc : Nat → Nat} {f : Nat → List Int} (X : VarN w g [x0, x1, x2, x3, x4, x5, x6, .slice (r 0) (rl 0) (rc 0), .slice (r 1) (rl 1) (rc 1), .slice (r 2) (rl 2) (rc 2)]) (T : Three repInt Any w r rl rc f) :
    Vs (repSlice repInt) Any w (some ⟨g, 7, none⟩) 3 [f 0, f 1, f 2] := by
  refine ⟨rfl, .inr ⟨g, 7, rfl, trivial, ?_⟩⟩
  have key : ∀ i, i < 3 → ∀ hx : w.cell? ⟨g, 7 + i, none⟩ = some (.slice (r i) (rl i) (rc i)), At (repSlice repInt) Any w g (7 + i) (f i) := by
    intro i hi hx
    obtain ⟨h1, V⟩ := T i hi
    refine ⟨[.slice (r i) (rl i) (rc i)], ⟨r i, rc i, by rw [V.1], by rw [V.1]; exact h1.1, h1.2.1, h1.2.2, by rw [V.1]; exact V⟩, fun j v hj => ?_⟩
    have hj0 : j = 0 := by
      have := (List.getElem?_eq_some_iff.1 hj).1
      simpa using this
    subst hj0
    obtain rfl : Value.slice (r i) (rl i) (rc i) = v := by simpa using hj
    exact hx
  intro i y hi
  rw [show (repSlice repInt).k = 1 from rfl, Nat.mul_one]
  have hi3 : i < 3 := by have := (List.getElem?_eq_some_iff.1 hi).1; simpa using this
  rcases (show i = 0 ∨ i = 1 ∨ i = 2 by omega) with rfl | rfl | rfl
  · obtain rfl : f 0 = y := by simpa using hi
    exact key 0 (by decide) (X 7 _ rfl).1
  · obtain rfl : f 1 = y := by simpa using hi
    exact key 1 (by decide) (X 8 _ rfl).1
  · obtain rfl : f 2 = y := by simpa using hi
    exact key 2 (by decide) (X 9 _ rfl).1
theorem sl_cells {w : World} {a : Option Addr} {n : Nat} {zs : List Int} (h : Sl w a n zs) : ∀ b, a = some b → ∀ j u, (zs.map (Value.int .i64))[j]? = some u → w.cell? (b.add j) = some u := by
  intro b hb j u hu
  have hj : j < zs.length := by simpa using (List.getElem?_eq_some_iff.1 hu).1
  obtain ⟨b', o, e, r⟩ := h.2.resolve_left (by rw [← h.1]; omega)
  rw [hb] at e
  injection e with e
  subst e
  have h3 := r j hj
  have hu' : Value.int .i64 (zs.getD j 0) = u := by simpa [hj] using hu
  rw [← hu', Gen.add_plain]
  exact h3

set_option maxRecDepth 100000 in
set_option maxHeartbeats 4000000 in
theorem outcome_any (a a' q : Option Addr) (n c n' c' l d : Nat) (p : Nat → Option Addr) (pl pc : Nat → Nat) (r : Nat → Option Addr) (rl rc : Nat → Nat) (s : St) (w : World) (F : StF w a a' q n n' l p pl pc r rl rc s) (h1 : 1 ≤ s.ws.length) (h2 : s.ws.length ≤ 100) (h3 : (s.n 0).length + (s.n 1).length + (s.n 2).length ≤ 900) :
    Calls Tryz.prog 16 #[.agg #[.slice a n c, .slice a' n' c', .int .i64 s.D, .slice q l d, .slice (p 0) (pl 0) (pc 0), .slice (p 1) (pl 1) (pc 1), .slice (p 2) (pl 2) (pc 2), .slice (r 0) (rl 0) (rc 0), .slice (r 1) (rl 1) (rc 1), .slice (r 2) (rl 2) (rc 2)]] w (OwnPost (outS s) w) := by
  obtain ⟨ws, ts, D, bs, f, h⟩ := s
  dsimp only at h1 h2 h3 ⊢
  obtain ⟨i0, hi, hz0, hz1, hz2⟩ := info_parts Tryz.info3
  have HI := Lib.hid (And.intro hi (And.intro hz0 (And.intro hz1 hz2)))
  obtain ⟨W, hW⟩ : ∃ W, W = w.alloc (Obj.cells #[.slice a n c, .slice a' n' c', .int .i64 D, .slice q l d, .slice (p 0) (pl 0) (pc 0), .slice (p 1) (pl 1) (pc 1), .slice (p 2) (pl 2) (pc 2), .slice (r 0) (rl 0) (rc 0), .slice (r 1) (rl 1) (rc 1), .slice (r 2) (rl 2) (rc 2)] 50) := ⟨_, rfl⟩
  have hbW : Below w.heap.size w W := by rw [hW]; go_grown
  have X : VarN W w.heap.size [.slice a n c, .slice a' n' c', .int .i64 D, .slice q l d, .slice (p 0) (pl 0) (pc 0), .slice (p 1) (pl 1) (pc 1), .slice (p 2) (pl 2) (pc 2), .slice (r 0) (rl 0) (rc 0), .slice (r 1) (rl 1) (rc 1), .slice (r 2) (rl 2) (rc 2)] := by rw [hW]; exact varN_new [.slice a n c, .slice a' n' c', .int .i64 D, .slice q l d, .slice (p 0) (pl 0) (pc 0), .slice (p 1) (pl 1) (pc 1), .slice (p 2) (pl 2) (pc 2), .slice (r 0) (rl 0) (rc 0), .slice (r 1) (rl 1) (rc 1), .slice (r 2) (rl 2) (rc 2)] _ rfl
  have hF := stF_B hbW F
  have HV := Lib.hid (vs_noted X hF.2.2.2.2)
  have hS := hF.1
  dsimp only at hS
  have HN := Lib.hid hS.1
  obtain ⟨b, o, ha, -⟩ := hS.2.resolve_left (by rw [← hS.1]; omega)
  subst ha
  have HS := Lib.hid hS
  have HB := Lib.hid hbW
  have HW := Lib.hid hW
  have hsum : sumL [h 0, h 1, h 2] ≤ 900 := by simp [sumL]; omega
  have y0 := (X 0 _ rfl).1
  have hn1 : 1 ≤ n := by rw [← hS.1]; exact h1
  have hn2 : n ≤ 100 := by rw [← hS.1]; exact h2
  have hfl : [h 0, h 1, h 2].flatten = h 0 ++ h 1 ++ h 2 := by simp
  have HFL := Lib.hid hfl
  have hl9 : [h 0, h 1, h 2].flatten.length ≤ 900 := by rw [flat_len2]; exact hsum
  clear hW hbW X F hF hS hi hz0 hz1 hz2 h3 hfl
  go_enter Tryz.func16, Tryz.ntmps16
  go_upto_region 1 with fail
  rw [← HW.out]
  have hB0 : Below W.heap.size W W.drew := (Below.refl _ _).drew
  go_region_held3 (fun w' => w'.cell? ⟨w.heap.size, 0, none⟩ = some (.slice (some ⟨b, o, none⟩) n c))
    (first | exact y0 | exact cellB (by assumption) y0)
    ((first | (go_at_call 31; refine (concat_any (some ⟨w.heap.size, 7, none⟩) 3 3 [h 0, h 1, h 2] _ (vs_D HV.out) (by decide) (by omega)).mono ?_; rintro e w2 ⟨v, rfl, ho, hb2⟩; obtain ⟨va, vc, rfl⟩ := own_shapeT ho; have hb2' := below_from hB0 hb2) | (refine step_append_mine rfl (.tmp 5) (.tmp 9) 23 rfl W.drew.heap.size 3 i0 (.int .i64 0) 1 8 Tryz.underlying23 HI.out.1 HI.out.2.1 HI.out.2.2.1 HI.out.2.2.2 rfl (by decide) _ _ _ (by simp [Act.eval]) ho ⟨b, o, none⟩ n c (ws.map (.int .i64)) (by simp [Act.eval]) (by rw [List.length_map, HN.out, Nat.mul_one]) (sl_cells (slB hb2' HS.out) _ rfl) (by intro u hu; obtain ⟨x, _, rfl⟩ := List.mem_map.1 hu; rfl) (by unfold maxLen; omega) (by omega) (Nat.le_trans (by simp) hb2.size) ?_; intro v' w3 hown hgrow; have hb3' : Below W.heap.size W w3 := mine_below hb2' hb2'.size hgrow ho)))
  have hO : w3.ownsRow w.heap.size 3 1 v' (outS ⟨ws, ts, D, bs, f, h⟩).length ((outS ⟨ws, ts, D, bs, f, h⟩).map (.int .i64)) := by
    have e1 : outS ⟨ws, ts, D, bs, f, h⟩ = [h 0, h 1, h 2].flatten ++ ws := by rw [HFL.out]; rfl
    rw [e1, List.length_append, HN.out, List.map_append]
    exact own_mono HB.out.size hown
  have HO := Lib.hid hO
  have HB3 := Lib.hid (below_from HB.out hb3')
  clear hO hown hgrow hb3' ho hb2 hb2' y0 hB0
  go_wp2
  go_ret
  exact ⟨_, rfl, HO.out, HB3.out⟩
end Go.Proofs.YtiebaeaomgpicaaGreat
/- Package litmus: name. -/
namespace Go.Proofs.YtiebaeaomgpicaaGreat
open Go.ChangeShapes Go.WideShapes Go.ChangeAt Go.RowKit
open Gen

theorem Tryz.info5 : (Tryz.prog.info? 5).map (fun i => (i.zero, i.size, i.bytes)) = some (some (.int .u8 0), 1, 1) := by kernel_rfl
theorem own_append8 {w wr w1 : World} {v : Value} {n : Nat} {xs : List Value} (hb : Below w.heap.size w wr) (ho : wr.ownsRow w.heap.size 5 1 v n xs) (hg : wr.grownBy w1 v.ownBlock) : Below w.heap.size w w1 :=
  hb.grown hg hb.size (fun _ hr => own_ge ho hr)

theorem ownB {B : Nat} {w w' : World} {e : TypeId} {k : Nat} {v : Value} {n : Nat} {xs : List Value} (hb : Below w.heap.size w w') (h : w.ownsRow B e k v n xs) : w'.ownsRow B e k v n xs := by
  obtain ⟨h1, h2⟩ := h
  refine ⟨h1, h2.imp id ?_⟩
  rintro ⟨g, cap, cur, e1, e2, e3, e4⟩
  have hg : g < w.heap.size := (Array.getElem?_eq_some_iff.1 e3).1
  exact ⟨g, cap, cur, e1, e2, (hb.block g hg).trans e3, e4⟩

set_option maxRecDepth 100000 in
set_option maxHeartbeats 4000000 in
theorem name_any (a a' q : Option Addr) (n c n' c' l d : Nat) (p : Nat → Option Addr) (pl pc : Nat → Nat) (r : Nat → Option Addr) (rl rc : Nat → Nat) (s : St) (w : World) (F : StF w a a' q n n' l p pl pc r rl rc s) (hl : l ≤ 3) (h1 : 1 ≤ s.ws.length) (h2 : s.ws.length ≤ 100) (h3 : (s.n 0).length + (s.n 1).length + (s.n 2).length ≤ 900) :
    Calls Tryz.prog 14 #[.agg #[.slice a n c, .slice a' n' c', .int .i64 s.D, .slice q l d, .slice (p 0) (pl 0) (pc 0), .slice (p 1) (pl 1) (pc 1), .slice (p 2) (pl 2) (pc 2), .slice (r 0) (rl 0) (rc 0), .slice (r 1) (rl 1) (rc 1), .slice (r 2) (rl 2) (rc 2)]] w fun e w' => e = .returned (.string (strOfNums (nameN s l))) ∧ Below w.heap.size w w' := by
  obtain ⟨ws, ts, D, bs, f, h⟩ := s
  dsimp only at h1 h2 h3 ⊢
  obtain ⟨i0, hi, hz0, hz1, hz2⟩ := info_parts Tryz.info5
  have HI := Lib.hid (And.intro hi (And.intro hz0 (And.intro hz1 hz2)))
  obtain ⟨W, hW⟩ : ∃ W, W = w.alloc (Obj.cells #[.slice a n c, .slice a' n' c', .int .i64 D, .slice q l d, .slice (p 0) (pl 0) (pc 0), .slice (p 1) (pl 1) (pc 1), .slice (p 2) (pl 2) (pc 2), .slice (r 0) (rl 0) (rc 0), .slice (r 1) (rl 1) (rc 1), .slice (r 2) (rl 2) (rc 2)] 50) := ⟨_, rfl⟩
  have hbW : Below w.heap.size w W := by rw [hW]; go_grown
  have X : VarN W w.heap.size [.slice a n c, .slice a' n' c', .int .i64 D, .slice q l d, .slice (p 0) (pl 0) (pc 0), .slice (p 1) (pl 1) (pc 1), .slice (p 2) (pl 2) (pc 2), .slice (r 0) (rl 0) (rc 0), .slice (r 1) (rl 1) (rc 1), .slice (r 2) (rl 2) (rc 2)] := by rw [hW]; exact varN_new [.slice a n c, .slice a' n' c', .int .i64 D, .slice q l d, .slice (p 0) (pl 0) (pc 0), .slice (p 1) (pl 1) (pc 1), .slice (p 2) (pl 2) (pc 2), .slice (r 0) (rl 0) (rc 0), .slice (r 1) (rl 1) (rc 1), .slice (r 2) (rl 2) (rc 2)] _ rfl
  have HF := Lib.hid (stF_B hbW F)
  have HB := Lib.hid hbW
  have HX := Lib.hid X
  have HW := Lib.hid hW
  have y3 := (X 3 _ rfl).1
  clear hW hbW X F hi hz0 hz1 hz2
  go_enter Tryz.func14, Tryz.ntmps14
  go_upto_region 2 with fail
  rw [← HW.out]
  go_wp2_with fail
  go_loopw [3, 12] (fun v i wr => ∃ k : Nat, k ≤ l ∧ i = .int .i64 k ∧ Hid (wr.ownsRow W.heap.size 5 1 v (2 * k) ((nameT ⟨ws, ts, D, bs, f, h⟩ k).map (.int .u8))) ∧ Below W.heap.size W wr) (fun _ i _ => l - (intOf i).toNat)
  case atStart => exact ⟨0, Nat.zero_le _, rfl, World.ownsRow_nil _ _ _ _, Below.refl _ _⟩
  case round =>
    obtain ⟨k, hk, rfl, ho, hb⟩ := hrel
    obtain ⟨va, vc, rfl⟩ := own_shapeT ho.out
    have hsz := hb.size
    by_cases hlt : k < l
    · have i1 : (0 : Int) ≤ k := by omega
      have i2 : (k : Int) < l := by omega
      have i3 : (k : Int) < 3 := by omega
      have X := varN_B hb HX.out
      have hF := stF_B hb HF.out
      obtain ⟨y, _⟩ := X (4 + k) _ (get_left _ _ _ _ p pl pc _ _ _ k (by omega))
      obtain ⟨b, o, x, xc, rfl, g0, -, -⟩ := bl_at hF.2.2.1 hlt
      dsimp only at g0
      obtain ⟨mm, hmm⟩ : ∃ mm, (bs.getD k []).length = mm := ⟨_, rfl⟩
      rw [hmm] at g0
      have HMM := Lib.hid hmm
      have HP := Lib.hid (show (f k).length = pl k from (hF.2.2.2.1 k (by omega)).2.1)
      have HFB := Lib.hid hF
      have HBB := Lib.hid hb
      clear hF hb X y3 hmm
      go_wp2_with (at_builtin; refine wpList_append_own _ rfl _ _ 75 rfl W.heap.size 5 i0 (.int .u8 0) 1 1 Tryz.underlying75 HI.out.1 HI.out.2.1 HI.out.2.2.1 HI.out.2.2.2 rfl (by decide) _ _ _ rfl (ho.out.alloc _) ⟨wr.heap.size, 0, none⟩ 2 2 [.int .u8 ((pl k : Int) % 256), .int .u8 ((mm : Int) % 256)] rfl rfl ?c1 ?c2 ?c3 ?c4 ?c5 ?_)
      case c1 =>
        intro j u hu
        have hj : j < 2 := (List.getElem?_eq_some_iff.1 hu).1
        rw [Gen.add_plain, Nat.zero_add]
        rcases (show j = 0 ∨ j = 1 by omega) with rfl | rfl
        · obtain rfl : _ = u := by simpa using hu
          exact cell_new _ _ _ rfl rfl
        · obtain rfl : _ = u := by simpa using hu
          exact cell_new _ _ _ rfl rfl
      case c2 => intro u hu; simp at hu; rcases hu with rfl | rfl <;> rfl
      case c3 => unfold maxLen; omega
      case c4 => omega
      case c5 => simp; omega
      intro v' w2 hown hgrow _
      have HO2 := Lib.hid (show w2.ownsRow W.heap.size 5 1 v' (2 * (k + 1)) ((nameT ⟨ws, ts, D, bs, f, h⟩ (k + 1)).map (.int .u8)) by
        rw [nameT, List.map_append, show 2 * (k + 1) = 2 * k + 2 by omega]
        dsimp only
        rw [HP.out, HMM.out]
        exact hown)
      have HB3 := Lib.hid (own_append8 (HBB.out.alloc HBB.out.size (Obj.cells #[.int .u8 ((pl k : Int) % 256), .int .u8 ((mm : Int) % 256)] 5)) (ho.out.alloc _) hgrow)
      clear hown hgrow
      go_wp2_with fail
      go_roundw
      case rel => exact ⟨k + 1, by omega, by go_num, HO2.out, HB3.out⟩
      case measure => simp [intOf]; omega
    · obtain rfl : k = l := by omega
      obtain ⟨wo, hwo⟩ : ∃ wo : World, wo = wr := ⟨_, rfl⟩
      subst hwo
      have X := varN_B hb HX.out
      have HFB := Lib.hid (stF_B hb HF.out)
      have HBB := Lib.hid hb
      clear y3
      have y0 := (X 0 _ rfl).1
      have y1 := (X 1 _ rfl).1
      have y2 := (X 2 _ rfl).1
      have y3 := (X 3 _ rfl).1
      have y4 := (X 4 _ rfl).1
      have y5 := (X 5 _ rfl).1
      have y6 := (X 6 _ rfl).1
      have y7 := (X 7 _ rfl).1
      have y8 := (X 8 _ rfl).1
      have y9 := (X 9 _ rfl).1
      clear X hb
      have hws := HFB.out.1.1
      go_wp2_with fail
      have h0 := outcome_any a a' q n c n' c' k d p pl pc r rl rc ⟨ws, ts, D, bs, f, h⟩ wo HFB.out h1 h2 h3
      dsimp only at h0
      with_reducible refine h0.mono ?_
      clear h0
      rintro e w2 ⟨v, rfl, ho2, hb2⟩
      obtain ⟨N, hN⟩ : ∃ N, (outS ⟨ws, ts, D, bs, f, h⟩).length = N := ⟨_, rfl⟩
      obtain ⟨zs, hzs⟩ : ∃ zs, outS ⟨ws, ts, D, bs, f, h⟩ = zs := ⟨_, rfl⟩
      have hN1 : 1 ≤ N := by rw [← hN, outS, List.length_append]; dsimp only; omega
      have hN2 : N ≤ 1000 := by rw [← hN, outS, List.length_append, List.length_append, List.length_append]; dsimp only; omega
      rw [hN, hzs] at ho2
      rw [hzs] at hN
      have HN := Lib.hid hN
      have HZS := Lib.hid hzs
      obtain ⟨oa, oc, rfl, -, -, -, VO⟩ := vs_own (r := repInt) (Q := fun b => wo.heap.size ≤ b) ho2 (flat_map1 _ _) (fun b h _ => h)
      obtain ⟨gO, oO, ha, hgO, fO⟩ := VO.2.resolve_left (by omega)
      subst ha
      have hrow : Row w2 gO oO zs := by
        intro i hi
        have h5 := fO i _ (List.getElem?_eq_getElem hi)
        rw [show repInt.k = 1 from rfl, Nat.mul_one] at h5
        rw [at_int h5]; simp [hi]
      have hne : (Value.slice va (2 * k) vc).ownBlock ≠ some gO := by
        rcases ho.out.2 with ⟨e, _⟩ | ⟨g, cap, cur, e, _, hg, _⟩
        · rw [e]; simp [Value.ownBlock]
        · rw [e]
          have h5 : g < wo.heap.size := (Array.getElem?_eq_some_iff.1 hg).1
          simp only [Value.ownBlock, ne_eq, Option.some.injEq]
          omega
      have ho4 : w2.ownsRow W.heap.size 5 1 (Value.slice va (2 * k) vc) (2 * k) ((nameT ⟨ws, ts, D, bs, f, h⟩ k).map (.int .u8)) := ownB hb2 ho.out
      have HO4 := Lib.hid ho4
      have HNE := Lib.hid hne
      have HROW := Lib.hid hrow
      have HB2 := Lib.hid (below_from HBB.out hb2)
      clear ho2 VO fO hrow hne ho4 hb2 hN hzs y0 y1 y2 y3 y4 y5 y6 y7 y8 y9 ho hsz hws
      go_wp2_with fail
      go_loopw [3, 33] (fun v i w3 => ∃ j : Nat, j ≤ N ∧ i = .int .i64 j ∧ Hid (w3.ownsRow W.heap.size 5 1 v (2 * k + j) ((nameT ⟨ws, ts, D, bs, f, h⟩ k ++ (zs.take j).map b8).map (.int .u8))) ∧ Hid (v.ownBlock ≠ some gO) ∧ Hid (Row w3 gO oO zs) ∧ Below W.heap.size W w3) (fun _ i _ => N - (intOf i).toNat)
      case atStart => exact ⟨0, Nat.zero_le _, rfl, (by show World.ownsRow _ _ _ _ _ _ _; rw [List.take_zero, List.map_nil, List.append_nil]; exact HO4.out), HNE.out, HROW.out, HB2.out⟩
      case round =>
        obtain ⟨j, hj, rfl, ho, hne, hrow, hb⟩ := hrel
        obtain ⟨va2, vc2, rfl⟩ := own_shapeT ho.out
        have hsz := hb.size
        by_cases hlj : j < N
        · have g0 := hrow.out j (by rw [HN.out]; exact hlj)
          have hgl := cell_lt g0
          obtain ⟨z, hz⟩ : ∃ z, zs.getD j 0 = z := ⟨_, rfl⟩
          rw [hz] at g0
          have HT := Lib.hid (show (zs.take (j + 1)).map b8 = (zs.take j).map b8 ++ [z % 256] by
            have hjl : j < zs.length := by rw [HN.out]; exact hlj
            rw [List.take_succ_eq_append_getElem hjl, List.map_append]
            have e : zs[j] = z := by rw [← hz]; simp [hjl]
            rw [e]; rfl)
          have HBB2 := Lib.hid hb
          have i1 : (0 : Int) ≤ j := by omega
          have i2 : (j : Int) < N := by omega
          clear hz hb
          go_wp2_with (at_builtin; refine wpList_append_own_at _ rfl _ _ 75 rfl W.heap.size 5 i0 (.int .u8 0) 1 1 Tryz.underlying75 HI.out.1 HI.out.2.1 HI.out.2.2.1 HI.out.2.2.2 rfl (by decide) _ _ _ rfl (ho.out.alloc _) ⟨wr.heap.size, 0, none⟩ 1 1 [.int .u8 (z % 256)] rfl rfl ?c1 ?c2 ?c3 ?c4 ?c5 ?_)
          case c2 => rfl
          case c3 => unfold maxLen; omega
          case c4 => omega
          case c5 => omega
          intro v' w4 hown hgrow _ hat
          have HO5 := Lib.hid (show w4.ownsRow W.heap.size 5 1 v' (2 * k + (j + 1)) ((nameT ⟨ws, ts, D, bs, f, h⟩ k ++ (zs.take (j + 1)).map b8).map (.int .u8)) by
            rw [HT.out, show 2 * k + (j + 1) = 2 * k + j + 1 by omega]
            simp only [List.map_append, List.map_take, List.map_map, List.map_cons, List.map_nil]
            exact hown)
          have HB5 := Lib.hid (own_append8 (HBB2.out.alloc HBB2.out.size (Obj.cells #[.int .u8 (z % 256)] 5)) (ho.out.alloc _) hgrow)
          have HR5 : Hid (Row w4 gO oO zs) := by
            intro i hi
            have h6 := cellA (Obj.cells #[.int .u8 (z % 256)] 5) (hrow.out i hi)
            rw [hgrow.cell_far ⟨gO, oO + i, none⟩ (cell_lt h6) (Ne.symm hne.out)]
            exact h6
          have HN5 : Hid (v'.ownBlock ≠ some gO) := by
            show v'.ownBlock ≠ some gO
            rcases hat with e | e
            · rw [e]; exact hne.out
            · rw [e]; simp; omega
          clear hown hgrow hat
          go_wp2_with fail
          go_roundw
          case rel => exact ⟨j + 1, by omega, by go_num, HO5.out, HN5.out, HR5.out, HB5.out⟩
          case measure => simp [intOf]; omega
        · obtain rfl : j = N := by omega
          have hname : nameT ⟨ws, ts, D, bs, f, h⟩ k ++ (zs.take j).map b8 = nameN ⟨ws, ts, D, bs, f, h⟩ k := by
            rw [List.take_of_length_le (by rw [HN.out]; exact Nat.le_refl _), nameN, HZS.out]
          have ho6 := ho.out
          rw [hname] at ho6
          have hlen : (nameN ⟨ws, ts, D, bs, f, h⟩ k).length = 2 * k + j := by have := ho6.1; simpa using this
          rcases ho6.2 with ⟨e, e0⟩ | ⟨g, cap, cur, e, _, hg, _⟩
          · exact absurd e0 (by omega)
          · obtain ⟨rfl, rfl⟩ : va2 = some ⟨g, 0, none⟩ ∧ vc2 = cap := by simpa using e
            have hcells := ho6.cells (g := g) rfl
            have hrun := run_convert_bytes_arg (P := Tryz.prog) wr 75 5 Tryz.underlying75 Tryz.underlying5 g 0 (2 * k + j) vc2 (nameN ⟨ws, ts, D, bs, f, h⟩ k) hlen (fun i hi => by
              have h6 := hcells i (.int .u8 ((nameN ⟨ws, ts, D, bs, f, h⟩ k).getD i 0)) (by
                have hil : i < (nameN ⟨ws, ts, D, bs, f, h⟩ k).length := by omega
                simp [hil])
              rw [Gen.add_plain] at h6
              exact h6) 9 Tryz.underlying9
            have HBF := Lib.hid (below_from HB.out hb)
            obtain ⟨str, hstr⟩ : ∃ str, strOfNums (nameN ⟨ws, ts, D, bs, f, h⟩ k) = str := ⟨_, rfl⟩
            rw [hstr] at hrun
            have HSTR := Lib.hid hstr
            clear ho6 hcells hg e hname hlen hstr ho hne hrow hb
            go_wp2
            go_ret
            exact ⟨by rw [HSTR.out]; rfl, HBF.out⟩
end Go.Proofs.YtiebaeaomgpicaaGreat
