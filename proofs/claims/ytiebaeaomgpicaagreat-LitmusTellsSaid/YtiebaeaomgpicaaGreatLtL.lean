/- Contracts of layer 4's laws: test, with a word on the blocks in which the moves lie. -/
import Derived.Test.YtiebaeaomgpicaaGreatN3
namespace Go.Proofs.YtiebaeaomgpicaaGreat
open Go.ChangeShapes Go.WideShapes Go.ChangeAt Go.RowKit
open Gen
def TestPostQ (Q : Nat → Prop) (W D : Int) (l : Nat) (ts : List (List Mv)) (w : World) (e : Ending) (w' : World) : Prop :=
  ∃ q d, e = .returned (.agg #[.int .i64 W, .int .i64 D, .slice q l d]) ∧ l ≤ d ∧ d ≤ 9223372036854775807 ∧ (q = none → d = 0) ∧ Vs (repSlice repInt3) Q w' q l ts ∧ Below w.heap.size w w'
theorem movesQ_at {Q : Nat → Prop} {w : World} {q : Option Addr} {l : Nat} {ts : List (List Mv)} (S : Vs (repSlice repInt3) Q w q l ts) {k : Nat} (hk : k < l) :
    ∃ b o t p c, q = some ⟨b, o, none⟩ ∧ ts[k]? = some t ∧ w.cell? ⟨b, o + k, none⟩ = some (.slice p t.length c) ∧ t.length ≤ c ∧ c ≤ 9223372036854775807 ∧ (p = none → c = 0) ∧ Vs repInt3 Q w p t.length t := by
  obtain ⟨b, o, t, e, ht, _, h⟩ := vs_at S hk
  obtain ⟨p, c, h1, h2, h3, h4, h5⟩ := at_slice h
  rw [show (repSlice repInt3).k = 1 from rfl, Nat.mul_one] at h1
  exact ⟨b, o, t, p, c, e, ht, h1, h2, h3, h4, h5⟩

set_option maxRecDepth 100000 in
set_option maxHeartbeats 8000000 in
theorem testQ_any (Q : Nat → Prop) (W D : Int) (q : Option Addr) (l d : Nat) (ts : List (List Mv)) (w : World) (hld : l ≤ d) (hd : d ≤ 9223372036854775807) (V : Vs (repSlice repInt3) Q w q l ts) (hQQ : ∀ b, w.heap.size ≤ b → Q b) :
    Calls Tryz.prog 4 #[.int .i64 W, .int .i64 D, .slice q l d] w (TestPostQ Q W D (min l 4) (cutL ts) w) := by
  have Hl := Lib.hid V.1
  obtain ⟨i0, hi, hz0, hz1, hz2⟩ := info_parts Tryz.info39
  have HI := Lib.hid (And.intro hi (And.intro hz0 (And.intro hz1 hz2)))
  clear hi hz0 hz1 hz2
  obtain ⟨G, hG⟩ : ∃ G, G = (w.alloc (Obj.cells #[.int .i64 0, .int .i64 0, .slice none 0 0] 25)).alloc (Obj.cells #[.int .i64 W, .int .i64 D, .slice none 0 0] 25) := ⟨_, rfl⟩
  have hbG : Below w.heap.size w G := by rw [hG]; go_grown
  have R : VarN G w.heap.size [.int .i64 0, .int .i64 0, .slice none 0 0] := by rw [hG]; exact varN_A _ (varN_new [.int .i64 0, .int .i64 0, .slice none 0 0] _ rfl)
  have X : VarN G (w.heap.size + 1) [.int .i64 W, .int .i64 D, .slice none 0 0] := by rw [hG]; exact varN_new [.int .i64 W, .int .i64 D, .slice none 0 0] _ (by simp)
  have hz := varN_lt X (by simp)
  have HG := Lib.hid hG
  have HB := Lib.hid hbG
  have HX := Lib.hid X
  have HR := Lib.hid R
  clear hG hbG X R
  go_enter Tryz.func4, Tryz.ntmps4
  go_upto_region 2 with fail
  rw [← HG.out]
  go_cut [17, 18, 19] (fun s17 s18 s19 wx => s17 = .slice q (min l 4) d ∧ s18 = .int .i64 ((min l 4 : Nat) : Int) ∧ s19 = .int .i64 ((0 : Nat) : Int) ∧ wx = G)
  case first =>
    by_cases h10 : l ≤ 4
    · have h10' : ¬ ((4 : Int) < (l : Int)) := by omega
      have hl1 : (l : Int) ≤ d := by omega
      have em : Hid (min l 4 = l) := by show min l 4 = l; omega
      go_wp2_with fail
      go_meet
      exact ⟨by rw [em.out], (by rw [em.out]; try rfl), rfl, rfl⟩
    · have h10' : (4 : Int) < (l : Int) := by omega
      have hl1 : (4 : Int) ≤ d := by omega
      have hl2 : 4 ≤ d := by omega
      have em : Hid (min l 4 = 4) := by show min l 4 = 4; omega
      go_wp2_with fail
      go_meet
      exact ⟨by rw [em.out], (by rw [em.out]; try rfl), rfl, rfl⟩
  case rest =>
    obtain ⟨rfl, rfl, rfl, rfl⟩ := hcut
    obtain ⟨m, hm⟩ : ∃ m, min l 4 = m := ⟨_, rfl⟩
    have hml : m ≤ l := by omega
    have hm4 : m ≤ 4 := by omega
    rw [hm]
    have HM := Lib.hid hm
    clear hm hld
    go_wp2_with fail
    go_loopw [19] (fun i wr => ∃ (k : Nat) (v : Value) (vs : List Value), k ≤ m ∧ i = .int .i64 k ∧ Hid (wr.ownsRow (w.heap.size + 2) 39 1 v k vs) ∧ Hid (Flat (repSlice repInt3) (fun b => Q b ∧ b < w.heap.size) w vs ((cutL ts).take k)) ∧ Hid (VarN wr (w.heap.size + 1) [.int .i64 W, .int .i64 D, v]) ∧ Hid (VarN wr w.heap.size [.int .i64 0, .int .i64 0, .slice none 0 0]) ∧ Below w.heap.size w wr) (fun i _ => m - (intOf i).toNat)
    case atStart => exact ⟨0, _, [], by omega, rfl, World.ownsRow_nil _ _ _ _, (by show Flat _ _ _ _ _; rw [List.take_zero]; rfl), HX.out, HR.out, HB.out⟩
    case round =>
      obtain ⟨k, v, vs, hk, rfl, ho, hv, hx, hr, hb⟩ := hrel
      by_cases hlt : k < m
      · obtain ⟨b, o, t, p, c, rfl, ht, g0, c1, c2, c3, V2⟩ := movesQ_at (vs_und V) (show k < l by omega)
        replace g0 := kept_B (Q := Any) hb _ _ _ trivial g0
        have HCS := Lib.hid (cutL_succ (by omega) ht)
        obtain ⟨mm, hmm⟩ : ∃ mm, t.length = mm := ⟨_, rfl⟩
        have HPT := Lib.hid (vs_take V2 (min t.length 8) (by omega))
        have HTT : Hid (t.take (min t.length 8) = t.take 8) := by
          show t.take (min t.length 8) = t.take 8
          by_cases h : t.length ≤ 8
          · rw [List.take_of_length_le (by omega), List.take_of_length_le (by omega)]
          · rw [show min t.length 8 = 8 by omega]
        have HMM := Lib.hid hmm
        rw [hmm] at g0 c1 HPT HTT
        have HC3 := Lib.hid c3
        have i1 : (0 : Int) ≤ k := by omega
        have i2 : (k : Int) < m := by omega
        obtain ⟨va, vc, rfl⟩ := own_shapeT ho.out
        have HBB := Lib.hid hb
        have hsz := hb.size
        have hsx := varN_lt hx.out (by simp)
        clear ht hmm hb c3 V2
        by_cases h8 : mm ≤ 8
        · have h8' : ¬ ((8 : Int) < (mm : Int)) := by omega
          have hl1 : (mm : Int) ≤ c := by omega
          have em : Hid (min mm 8 = mm) := by show min mm 8 = mm; omega
          have hif : (if (8 : Int) < (mm : Int) then (8 : Int) else (mm : Int)) = mm := if_neg h8'
          have i3 : (0 : Int) ≤ mm := by omega
          rw [em.out] at HPT HTT
          have HEL := Lib.hid (show (repSlice repInt3).R (fun b => Q b ∧ b < w.heap.size) w [.slice p mm c] (t.take 8) from by
            rw [HTT.out] at HPT
            have hl8 : (t.take 8).length = mm := HPT.out.1
            exact ⟨p, c, by rw [hl8], by rw [hl8]; omega, c2, HC3.out, by rw [hl8]; exact HPT.out⟩)
          obtain ⟨x2, f2⟩ := hx.out 2 _ rfl
          have x2' := cellA (Obj.cells #[.slice p mm c] 39) x2
          go_wp2_with fail
          go_region_law (refine step_append_mine rfl (.tmp 24) (.tmp 30) 22 rfl (w.heap.size + 2) 39 i0 (.slice none 0 0) 1 24 Tryz.underlying22 HI.out.1 HI.out.2.1 HI.out.2.2.1 HI.out.2.2.2 rfl (by decide) (.slice va k vc) k vs (by simp [Act.eval]) (ho.out.alloc _) ⟨wr.heap.size, 0, none⟩ 1 1 [.slice p mm c] (by simp [Act.eval]) rfl (cell_one_new _ _ _) (by simp [Value.oneCell']) (by unfold maxLen; omega) (by omega) (by simp; omega) ?_; intro v' w1 hown hgrow; obtain ⟨v2, c4, rfl⟩ := own_shapeT hown; have hB : Below (w.heap.size + 2) wr w1 := mine_below (by go_grown) (by simp; omega) hgrow ho.out; have X1 := varN_low hB (Nat.lt_succ_self _) hx.out; obtain ⟨z2, fz⟩ := X1 2 _ rfl; have HX1 := Lib.hid X1; have HOW := Lib.hid hown; have HBB2 := Lib.hid hB; clear X1 hown hgrow hB)
          all_goals
            go_wp2_with fail
            go_roundw
            case rel =>
              refine ⟨k + 1, _, _, by omega, by go_num, ownsRow_setCell_below HOW.out (by simp) _, ?_, varN_set HX1.out 2 (by simp) _, varN_other (varN_low HBB2.out (by omega) hr.out) (by omega) _, ((HBB.out.trans (HBB2.out.mono (by omega))).setCell (by simp) _)⟩
              show Flat _ _ _ _ _
              rw [HCS.out]
              exact flat_snoc HEL.out hv.out
            case measure => simp [intOf]; omega
        · have h8' : (8 : Int) < (mm : Int) := by omega
          have hl1 : (8 : Int) ≤ c := by omega
          have hl2 : 8 ≤ c := by omega
          have em : Hid (min mm 8 = 8) := by show min mm 8 = 8; omega
          have hif : (if (8 : Int) < (mm : Int) then (8 : Int) else (mm : Int)) = 8 := if_pos h8'
          rw [em.out] at HPT HTT
          have HEL := Lib.hid (show (repSlice repInt3).R (fun b => Q b ∧ b < w.heap.size) w [.slice p 8 c] (t.take 8) from by
            rw [HTT.out] at HPT
            have hl8 : (t.take 8).length = 8 := HPT.out.1
            exact ⟨p, c, by rw [hl8], by rw [hl8]; omega, c2, HC3.out, by rw [hl8]; exact HPT.out⟩)
          obtain ⟨x2, f2⟩ := hx.out 2 _ rfl
          have x2' := cellA (Obj.cells #[.slice p 8 c] 39) x2
          go_wp2_with fail
          go_region_law (refine step_append_mine rfl (.tmp 24) (.tmp 30) 22 rfl (w.heap.size + 2) 39 i0 (.slice none 0 0) 1 24 Tryz.underlying22 HI.out.1 HI.out.2.1 HI.out.2.2.1 HI.out.2.2.2 rfl (by decide) (.slice va k vc) k vs (by simp [Act.eval]) (ho.out.alloc _) ⟨wr.heap.size, 0, none⟩ 1 1 [.slice p 8 c] (by simp [Act.eval]) rfl (cell_one_new _ _ _) (by simp [Value.oneCell']) (by unfold maxLen; omega) (by omega) (by simp; omega) ?_; intro v' w1 hown hgrow; obtain ⟨v2, c4, rfl⟩ := own_shapeT hown; have hB : Below (w.heap.size + 2) wr w1 := mine_below (by go_grown) (by simp; omega) hgrow ho.out; have X1 := varN_low hB (Nat.lt_succ_self _) hx.out; obtain ⟨z2, fz⟩ := X1 2 _ rfl; have HX1 := Lib.hid X1; have HOW := Lib.hid hown; have HBB2 := Lib.hid hB; clear X1 hown hgrow hB)
          all_goals
            go_wp2_with fail
            go_roundw
            case rel =>
              refine ⟨k + 1, _, _, by omega, by go_num, ownsRow_setCell_below HOW.out (by simp) _, ?_, varN_set HX1.out 2 (by simp) _, varN_other (varN_low HBB2.out (by omega) hr.out) (by omega) _, ((HBB.out.trans (HBB2.out.mono (by omega))).setCell (by simp) _)⟩
              show Flat _ _ _ _ _
              rw [HCS.out]
              exact flat_snoc HEL.out hv.out
            case measure => simp [intOf]; omega
      · obtain rfl : k = m := by omega
        obtain ⟨va, vc, rfl⟩ := own_shapeT ho.out
        have HBB := Lib.hid hb
        have hmk : (cutL ts).take k = cutL ts := List.take_of_length_le (by rw [cutL_length, Hl.out, HM.out]; exact Nat.le_refl _)
        have hv' := hv.out
        rw [hmk] at hv'
        have HV := Lib.hid hv'
        have HF := Lib.hid (varN_all (xs := [.int .i64 W, .int .i64 D, .slice va k vc]) hr.out rfl)
        have hbf := below_setN (g := w.heap.size) (xs := [.int .i64 W, .int .i64 D, .slice va k vc]) (k := 0) (Nat.le_refl _) hb
        have hown3 := ownsRow_setCell_below (ownsRow_setCell_below (ownsRow_setCell_below ho.out (a := ⟨w.heap.size, 0, none⟩) (by simp) (.int .i64 W)) (a := ⟨w.heap.size, 1, none⟩) (by simp) (.int .i64 D)) (a := ⟨w.heap.size, 2, none⟩) (by simp) (.slice va k vc)
        obtain ⟨z1, z2, e, u1, u2, u3, u4⟩ := vs_own (r := repSlice repInt3) (Q := Q) hown3 (flat_mono (fun _ h => h.1) (flat_keep (kept_B hbf) HV.out)) (fun b hb _ => hQQ b (by omega))
        cases e
        have HU := Lib.hid (And.intro u1 (And.intro u2 (And.intro u3 u4)))
        have HBF := Lib.hid hbf
        obtain ⟨x0, -⟩ := hx.out 0 _ rfl
        obtain ⟨x1, -⟩ := hx.out 1 _ rfl
        obtain ⟨x2, -⟩ := hx.out 2 _ rfl
        obtain ⟨r0, f0⟩ := hr.out 0 _ rfl
        obtain ⟨r1, f1⟩ := hr.out 1 _ rfl
        obtain ⟨r2, f2⟩ := hr.out 2 _ rfl
        clear hb hmk hv' hbf hown3 u1 u2 u3 u4
        go_wp2
        refine bp_cell ⟨w.heap.size, 0, none⟩ rfl rfl rfl (load_lit _ _ _ _ _ HF.out) ?_
        rw [HM.out]
        exact ⟨_, _, rfl, HU.out.1, HU.out.2.1, HU.out.2.2.1, HU.out.2.2.2, HBF.out⟩
end Go.Proofs.YtiebaeaomgpicaaGreat
