/- Contracts of respiteref12: New, Held. -/
import Derived.Test.YtnkhgofpdgnemaaPlR
namespace Go.Proofs.Ytnkhgofpdgnemaa
open Go.ChangeShapes Go.WideShapes Go.ChangeAt Go.RowKit Gen

def PlPost1 (p : Pl4) (w : World) (e : Ending) (w' : World) : Prop := ∃ q c, e = .returned (.agg #[.int .i64 p.s, .int .i64 p.b, .int .i64 p.m, .slice q p.fs.length c]) ∧ SlF w.heap.size w' q p.fs.length p.fs ∧ Below w.heap.size w w'
theorem plPost1_mk {s b m : Int} {l : List Int} {k d F : Nat} {q : Option Addr} {w w' : World} (hl : l.length = k) (hF : w.heap.size ≤ F) (hs : SlF F w' q k l) (hb : Below w.heap.size w w') :
    PlPost1 ⟨s, b, m, l⟩ w (.returned (.agg #[.int .i64 s, .int .i64 b, .int .i64 m, .slice q k d])) w' := by
  subst hl
  exact ⟨q, d, rfl, slF_le hF hs, hb⟩
/-- the first j places, from the last block on -/
def plRv (s b : Int) (N j : Nat) : List Int := (plBl s b N).reverse.take j
theorem plRev_step {s b : Int} {N j : Nat} (h : j < N) : plRv s b N (j + 1) = plRv s b N j ++ [b + ((N - 1 - j : Nat) : Int) * s] := by
  have hl : j < (plBl s b N).reverse.length := by rw [List.length_reverse, plBl_length]; exact h
  rw [plRv, plRv, List.take_succ_eq_append_getElem hl, List.getElem_reverse]
  congr 2
  have e : (plBl s b N).length - 1 - j = N - 1 - j := by rw [plBl_length]
  have := plBl_get (s := s) (b := b) (m := N) (k := N - 1 - j) (by omega)
  rw [← this]
  simp [e, show N - 1 - j < (plBl s b N).length by rw [plBl_length]; omega]

set_option maxHeartbeats 4000000 in
theorem plRefNew_any (s b m : Int) (w : World) (hf : plFit s b m = true) : Calls Try.prog 14 #[.int .i64 s, .int .i64 b, .int .i64 m] w (PlPost1 ⟨s, b, m, (plBl s b m.toNat).reverse⟩ w) := by
  have Hf := Lib.hid hf
  obtain ⟨g1, -, h3, h4, -, -, -⟩ := plFit_iff.1 hf
  obtain ⟨N, hN⟩ : ∃ N : Nat, m = N := ⟨m.toNat, by omega⟩
  subst hN
  rw [show ((N : Int)).toNat = N by omega]
  have hN16 : N ≤ 16 := by omega
  obtain ⟨i0, hi, hz0, hz1, hz2⟩ := info_parts Try.info3
  have HI := Lib.hid (And.intro hi (And.intro hz0 (And.intro hz1 hz2)))
  have hZ := varN_new [.int .i64 0, .int .i64 0, .int .i64 0, .slice none 0 0] (t := 24) (w := w) w.heap.size rfl
  have hA := varN_new [.int .i64 s, .int .i64 b, .int .i64 N, .slice none 0 0] (t := 24) (w := w.alloc (.cells #[.int .i64 0, .int .i64 0, .int .i64 0, .slice none 0 0] 24)) (w.heap.size + 1) (by simp)
  obtain ⟨W, hW⟩ : ∃ W, (w.alloc (.cells #[.int .i64 0, .int .i64 0, .int .i64 0, .slice none 0 0] 24)).alloc (.cells #[.int .i64 s, .int .i64 b, .int .i64 N, .slice none 0 0] 24) = W := ⟨_, rfl⟩
  have HA := Lib.hid (show VarN W (w.heap.size + 1) [.int .i64 s, .int .i64 b, .int .i64 N, .slice none 0 0] by rw [← hW]; exact hA)
  have HZ := Lib.hid (show VarN W w.heap.size [.int .i64 0, .int .i64 0, .int .i64 0, .slice none 0 0] by rw [← hW]; exact varN_A _ hZ)
  have HB := Lib.hid (show Below w.heap.size w W by rw [← hW]; go_grown)
  have HS := Lib.hid (show W.heap.size = w.heap.size + 2 by rw [← hW]; simp)
  have HW := Lib.hid hW
  clear hf hA hZ hW hi hz0 hz1 hz2 h3 h4
  go_enter Try.func14, Try.ntmps14
  go_wp2
  rw [HW.out]
  go_loopw [8] (fun i wr => ∃ (j : Nat) (q : Option Addr) (c : Nat) (z : Int), j ≤ N ∧ z = (N : Int) - 1 - j ∧ i = .int .i64 z ∧ Hid (VarN wr (w.heap.size + 1) [.int .i64 s, .int .i64 b, .int .i64 N, .slice q j c]) ∧ Hid (VarN wr w.heap.size [.int .i64 0, .int .i64 0, .int .i64 0, .slice none 0 0]) ∧ Hid (wr.ownsRow (w.heap.size + 2) 3 1 (.slice q j c) j ((plRv s b N j).map (Value.int .i64))) ∧ Hid (Below w.heap.size w wr)) (fun i _ => (intOf i + 1).toNat)
  case atStart => exact ⟨0, none, 0, _, by omega, rfl, by simp, HA.out, HZ.out, World.ownsRow_nil _ _ _ _, HB.out⟩
  case round =>
    obtain ⟨j, q, c, z, hj, hz, rfl, hA, hZ, hO, hB⟩ := hrel
    by_cases hlt : j < N
    · obtain ⟨k, hk⟩ : ∃ k : Nat, k = N - 1 - j := ⟨_, rfl⟩
      obtain rfl : z = (k : Int) := by omega
      have HST := Lib.hid (plRev_step (s := s) (b := b) hlt)
      rw [← hk] at HST
      have hp := pl_place Hf.out (show (k : Int) < N by omega)
      obtain ⟨y, hy⟩ : ∃ y, (k : Int) * s = y := ⟨_, rfl⟩
      rw [hy] at hp HST
      obtain ⟨p1, p2, p3, p4, -⟩ := hp
      have hw : wrap64 ((k : Int) * s) = y := by rw [hy]; exact IntWalk.wrap64_in _ (by omega)
      have hw2 : wrap64 (b + y) = b + y := IntWalk.wrap64_in _ (by omega)
      have hk0 : (0 : Int) ≤ k := by omega
      have hw3 : wrap64 ((k : Int) - 1) = (k : Int) - 1 := IntWalk.wrap64_in _ (by omega)
      have HZ1 := Lib.hid hz
      have HK := Lib.hid hk
      obtain ⟨x3, f3⟩ := hA.out 3 _ rfl
      have hsz := varN_lt hA.out (by simp)
      clear hy hz hk
      go_wp2_with (at_builtin; refine wpList_append_own _ rfl _ _ 22 rfl (w.heap.size + 2) 3 i0 (.int .i64 0) 1 8 Try.underlying22 HI.out.1 HI.out.2.1 HI.out.2.2.1 HI.out.2.2.2 rfl (by decide) _ _ _ rfl (hO.out.alloc _) ⟨wr.heap.size, 0, none⟩ 1 1 [.int .i64 (b + y)] rfl rfl ?c1 ?c2 ?c3 ?c4 ?c5 ?_)
      case c1 => exact cell_one _ _ _
      case c2 => intro v hv; simp at hv; subst hv; rfl
      case c3 => unfold maxLen; omega
      case c4 => omega
      case c5 => simp; omega
      intro v' w5 hown' hgrow _
      have hown2 := hO.out
      have hne : ∀ g, g < w.heap.size + 2 → (Value.slice q j c).ownBlock ≠ some g := fun g hg e => by have := (hown2.lt g e).1; omega
      have HA5 := varN_grown hgrow (hne _ (by omega)) (varN_A (.cells #[.int .i64 (b + y)] 3) hA.out)
      have HZ5 := varN_grown hgrow (hne _ (by omega)) (varN_A (.cells #[.int .i64 (b + y)] 3) hZ.out)
      have hb5 : Below w.heap.size w w5 := (hB.out.alloc hB.out.size (.cells #[.int .i64 (b + y)] 3)).grown hgrow (by have := hB.out.size; simp; omega) (fun r hr => by have := (hown2.lt r hr).1; omega)
      rw [show (plRv s b N j).map (Value.int .i64) ++ [.int .i64 (b + y)] = (plRv s b N (j + 1)).map (Value.int .i64) by rw [HST.out]; simp] at hown'
      obtain ⟨q', d, rfl⟩ := pl_own_form hown'
      obtain ⟨y3, g3⟩ := HA5 3 _ rfl
      have HO6 := Lib.hid (Gen.own_set hown' ⟨w.heap.size + 1, 3, none⟩ (fun e => by have := (hown'.lt _ e).1; simp at this) (.slice q' (j + 1) d))
      have HA6 := Lib.hid (varN_set HA5 3 (by simp) (.slice q' (j + 1) d))
      have HZ6 := Lib.hid (varN_other HZ5 (g' := w.heap.size + 1) (by omega) (o := 3) (.slice q' (j + 1) d))
      have HB6 := Lib.hid (hb5.setCell (p := ⟨w.heap.size + 1, 3, none⟩) (by simp) (.slice q' (j + 1) d))
      clear hown' hown2 hne HA5 HZ5 hb5 hgrow x3 f3
      go_wp2
      go_roundw
      case rel => exact ⟨j + 1, q', d, (k : Int) - 1, by omega, by have := HK.out; omega, by rw [hw3], HA6.out, HZ6.out, HO6.out, HB6.out⟩
      case measure => simp [intOf, hw3]
    · obtain rfl : j = N := by omega
      obtain rfl : z = -1 := by omega
      obtain ⟨x0, -⟩ := hA.out 0 _ rfl
      obtain ⟨x1, -⟩ := hA.out 1 _ rfl
      obtain ⟨x2, -⟩ := hA.out 2 _ rfl
      obtain ⟨x3, -⟩ := hA.out 3 _ rfl
      obtain ⟨y0, f0⟩ := hZ.out 0 _ rfl
      obtain ⟨y1, f1⟩ := hZ.out 1 _ rfl
      obtain ⟨y2, f2⟩ := hZ.out 2 _ rfl
      obtain ⟨y3, f3⟩ := hZ.out 3 _ rfl
      clear hz
      go_wp2
      have HZ6 := varN_all (xs := [.int .i64 s, .int .i64 b, .int .i64 j, .slice q j c]) hZ.out rfl
      refine bp_cell ⟨w.heap.size, 0, none⟩ rfl rfl rfl (plLoad HZ6) ?_
      obtain ⟨q', d', e', hs⟩ := ownsRow_slF hO.out
      injection e' with e1 e2 e3
      subst e1 e3
      have hlen : (plBl s b j).reverse.length = j := by rw [List.length_reverse, plBl_length]
      rw [plRv, List.take_of_length_le (by omega)] at hs
      exact plPost1_mk hlen (show w.heap.size ≤ w.heap.size + 2 by omega) (pl_slF4 (show w.heap.size < w.heap.size + 2 by omega) hs) (pl_below4 (Nat.le_refl _) hB.out)

set_option maxHeartbeats 4000000 in
theorem plRefHeld_any (s b m : Int) (a : Option Addr) (n c : Nat) (fs : List Int) (w : World) (S : Sl w a n fs) (hn : n ≤ 1000) (hf : plFit s b m = true) :
    Calls Try.prog 21 #[.agg #[.int .i64 s, .int .i64 b, .int .i64 m, .slice a n c]] w fun e w' => ∃ q d, e = .returned (.slice q (plHeld s b m.toNat fs).length d) ∧ SlF w.heap.size w' q (plHeld s b m.toNat fs).length (plHeld s b m.toNat fs) ∧ Below w.heap.size w w' := by
  have Hf := Lib.hid hf
  obtain ⟨g1, -, h3, h4, -, -, -⟩ := plFit_iff.1 hf
  obtain ⟨N, hN⟩ : ∃ N : Nat, m = N := ⟨m.toNat, by omega⟩
  subst hN
  rw [show ((N : Int)).toNat = N by omega]
  have hN16 : N ≤ 16 := by omega
  obtain ⟨i0, hi, hz0, hz1, hz2⟩ := info_parts Try.info3
  have HI := Lib.hid (And.intro hi (And.intro hz0 (And.intro hz1 hz2)))
  have hA := varN_new [.int .i64 s, .int .i64 b, .int .i64 N, .slice a n c] (t := 24) (w := w) w.heap.size rfl
  obtain ⟨W0, hW0⟩ : ∃ W0, w.alloc (.cells #[.int .i64 s, .int .i64 b, .int .i64 N, .slice a n c] 24) = W0 := ⟨_, rfl⟩
  have HA0 := Lib.hid (show VarN W0 w.heap.size [.int .i64 s, .int .i64 b, .int .i64 N, .slice a n c] by rw [← hW0]; exact hA)
  have HB0 := Lib.hid (show Below w.heap.size w W0 by rw [← hW0]; go_grown)
  have HS0 := Lib.hid (slB HB0.out S)
  have HM := Lib.hid (show (W0.alloc (.cells #[] 3)).ownsRow W0.heap.size 3 1 (.slice (some ⟨w.heap.size + 1, 0, none⟩) (plWo fs (plBl s b 0)).length 0) (plWo fs (plBl s b 0)).length ((plWo fs (plBl s b 0)).map (Value.int .i64)) by
    have e : W0.heap.size = w.heap.size + 1 := by rw [← hW0]; simp
    have h := World.ownsRow_made W0 (e := 3) (size := 1) #[] 0 (Nat.le_refl _) (by decide) (by simp)
    rw [← e]; exact h)
  have HW0 := Lib.hid hW0
  clear hf hA hW0 hi hz0 hz1 hz2 h3 h4 S
  go_enter Try.func21, Try.ntmps21
  go_wp2
  rw [HW0.out]
  go_loopw [3, 4] (fun v i wr => ∃ (k : Nat) (q : Option Addr) (d : Nat), k ≤ N ∧ i = .int .i64 k ∧ v = .slice q (plWo fs (plBl s b k)).length d ∧ Hid (wr.ownsRow W0.heap.size 3 1 (.slice q (plWo fs (plBl s b k)).length d) (plWo fs (plBl s b k)).length ((plWo fs (plBl s b k)).map (Value.int .i64))) ∧ Hid (Below W0.heap.size W0 wr)) (fun _ i _ => N - (intOf i).toNat)
  case atStart => exact ⟨0, _, _, by omega, rfl, rfl, HM.out, (Below.refl _ _).alloc (Nat.le_refl _) _⟩
  case round =>
    obtain ⟨k, q, d, hk, rfl, rfl, hO, hB⟩ := hrel
    obtain ⟨L, hL⟩ : ∃ L, (plWo fs (plBl s b k)).length = L := ⟨_, rfl⟩
    have hL15 : L ≤ k := by have := plWo_len fs (plBl s b k); rw [plBl_length] at this; omega
    rw [hL] at hO ⊢
    have HL := Lib.hid hL
    obtain ⟨x0, -⟩ := varN_B hB.out HA0.out 0 _ rfl
    obtain ⟨x1, -⟩ := varN_B hB.out HA0.out 1 _ rfl
    obtain ⟨x2, -⟩ := varN_B hB.out HA0.out 2 _ rfl
    obtain ⟨x3, -⟩ := varN_B hB.out HA0.out 3 _ rfl
    clear hL
    by_cases hlt : k < N
    · have hp := pl_place Hf.out (show (k : Int) < N by omega)
      have HST := Lib.hid (plBl_succ s b k)
      obtain ⟨y, hy⟩ : ∃ y, (k : Int) * s = y := ⟨_, rfl⟩
      rw [hy] at hp HST
      obtain ⟨p1, p2, p3, p4, -⟩ := hp
      have hw : wrap64 ((k : Int) * s) = y := by rw [hy]; exact IntWalk.wrap64_in _ (by omega)
      have hw2 : wrap64 (b + y) = b + y := IntWalk.wrap64_in _ (by omega)
      have i2 : (k : Int) < N := by omega
      have HSr := Lib.hid (slB hB.out HS0.out)
      have hsz := hB.out.size
      clear hy
      cases hh : plHas fs (b + y) with
      | true =>
        have HH := Lib.hid hh
        have HST2 := Lib.hid (show plWo fs (plBl s b (k + 1)) = plWo fs (plBl s b k) by rw [HST.out]; exact plWo_hit _ hh)
        clear hh
        go_wp2_with (go_at_call 22; refine (plHas_any a n c fs (b + y) _ HSr.out (by omega)).mono ?_; rw [HH.out]; rintro e w4 ⟨rfl, hw4⟩; have hw5 := hw4.symm; clear hw4; subst hw5)
        go_roundw
        case rel => exact ⟨k + 1, q, d, by omega, by go_num, by rw [HST2.out, HL.out], by rw [HST2.out, HL.out]; exact hO.out, hB.out⟩
        case measure => simp [intOf]; omega
      | false =>
        have HH := Lib.hid hh
        have HST2 := Lib.hid (show plWo fs (plBl s b (k + 1)) = plWo fs (plBl s b k) ++ [b + y] by rw [HST.out]; exact plWo_miss _ hh)
        clear hh
        go_wp2_with (first | (go_at_call 22; refine (plHas_any a n c fs (b + y) _ HSr.out (by omega)).mono ?_; rw [HH.out]; rintro e w4 ⟨rfl, hw4⟩; have hw5 := hw4.symm; clear hw4; subst hw5) | (at_builtin; refine wpList_append_own _ rfl _ _ 22 rfl W0.heap.size 3 i0 (.int .i64 0) 1 8 Try.underlying22 HI.out.1 HI.out.2.1 HI.out.2.2.1 HI.out.2.2.2 rfl (by decide) _ _ _ rfl (hO.out.alloc _) ⟨wr.heap.size, 0, none⟩ 1 1 [.int .i64 (b + y)] rfl rfl ?c1 ?c2 ?c3 ?c4 ?c5 ?_))
        case c1 => exact cell_one _ _ _
        case c2 => intro v hv; simp at hv; subst hv; rfl
        case c3 => unfold maxLen; omega
        case c4 => omega
        case c5 => simp; omega
        intro v' w5 hown' hgrow _
        have hown2 := hO.out
        have hb5 : Below W0.heap.size W0 w5 := (hB.out.alloc hB.out.size (.cells #[.int .i64 (b + y)] 3)).grown hgrow (by simp; omega) (fun r hr => (hown2.lt r hr).1)
        rw [show (plWo fs (plBl s b k)).map (Value.int .i64) ++ [.int .i64 (b + y)] = (plWo fs (plBl s b (k + 1))).map (Value.int .i64) by rw [HST2.out]; simp] at hown'
        obtain ⟨q', d', rfl⟩ := pl_own_form hown'
        have HO6 := Lib.hid hown'
        have HB6 := Lib.hid hb5
        have HL2 := Lib.hid (show (plWo fs (plBl s b (k + 1))).length = L + 1 by rw [HST2.out, List.length_append, HL.out]; rfl)
        clear hown' hown2 hb5 hgrow x0 x1 x2 x3
        go_wp2
        go_roundw
        case rel => exact ⟨k + 1, q', d', by omega, by go_num, by rw [HL2.out], by rw [HL2.out]; exact HO6.out, HB6.out⟩
        case measure => simp [intOf]; omega
    · obtain rfl : k = N := by omega
      have HBW := Lib.hid (HB0.out.trans (hB.out.mono HB0.out.size))
      go_wp2
      go_ret
      obtain ⟨q', d', e', hs⟩ := ownsRow_slF hO.out
      injection e' with e1 e2 e3
      subst e1 e3
      refine ⟨q, d, ?_, ?_, HBW.out⟩
      · rw [show plHeld s b k fs = plWo fs (plBl s b k) from rfl, HL.out]; rfl
      · rw [show plHeld s b k fs = plWo fs (plBl s b k) from rfl, HL.out]; exact slF_le HB0.out.size hs
end Go.Proofs.Ytnkhgofpdgnemaa
