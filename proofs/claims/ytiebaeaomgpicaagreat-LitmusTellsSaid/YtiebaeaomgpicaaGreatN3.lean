/- LitK, LitL, LitM, put together. -/
import Derived.Test.YtiebaeaomgpicaaGreatN2
import Derived.Deep.RegionLaw
import Derived.Test.YtiebaeaomgpicaaGreatM4
import Derived.Deep.RegionHeld3
/- Package slices at []int: Compare (and package cmp's at int). -/
namespace Go.Proofs.YtiebaeaomgpicaaGreat
open Go.ChangeShapes Go.WideShapes Go.ChangeAt Go.RowKit
open Gen

theorem isNaN_any (x : Int) (w : World) : Calls Tryz.prog 81 #[.int .i64 x] w fun e w' => e = .returned (.bool false) ∧ w = w' := by
  have q : (x != x) = false := by simp
  go_enter Tryz.func81, Tryz.ntmps81
  go_wp2
  go_ret
  exact ⟨rfl, rfl⟩
def cmpZ (x y : Int) : Int := if x < y then -1 else if y < x then 1 else 0
theorem cmp_any (x y : Int) (w : World) : Calls Tryz.prog 42 #[.int .i64 x, .int .i64 y] w fun e w' => e = .returned (.int .i64 (cmpZ x y)) ∧ w = w' := by
  have HZ : Hid ((x < y ∧ cmpZ x y = -1) ∨ (¬ x < y ∧ y < x ∧ cmpZ x y = 1) ∨ (¬ x < y ∧ ¬ y < x ∧ cmpZ x y = 0)) := by
    show (x < y ∧ cmpZ x y = -1) ∨ (¬ x < y ∧ y < x ∧ cmpZ x y = 1) ∨ (¬ x < y ∧ ¬ y < x ∧ cmpZ x y = 0)
    unfold cmpZ
    by_cases h1 : x < y
    · simp [h1]
    · by_cases h2 : y < x <;> simp [h1, h2]
  rcases HZ.out with ⟨h1, h2⟩ | ⟨h1, h2, h3⟩ | ⟨h1, h2, h3⟩
  all_goals
    rw [‹cmpZ x y = _›]
    clear HZ
    first | clear h3 | clear h2
    go_enter Tryz.func42, Tryz.ntmps42
    go_wp2_with (go_at_call 81; refine (isNaN_any _ _).mono ?_; rintro e w' ⟨rfl, rfl⟩)
    go_ret
    exact ⟨rfl, rfl⟩
def cmpL : List Int → List Int → Int
  | [], [] => 0
  | [], _ :: _ => -1
  | _ :: _, [] => 1
  | x :: xs, y :: ys => if cmpZ x y = 0 then cmpL xs ys else cmpZ x y
theorem cmpL_step {xs ys : List Int} {k : Nat} {x y : Int} (hx : xs[k]? = some x) (hy : ys[k]? = some y) : cmpL (xs.drop k) (ys.drop k) = if cmpZ x y = 0 then cmpL (xs.drop (k + 1)) (ys.drop (k + 1)) else cmpZ x y := by
  obtain ⟨h1, rfl⟩ := List.getElem?_eq_some_iff.1 hx
  obtain ⟨h2, rfl⟩ := List.getElem?_eq_some_iff.1 hy
  rw [List.drop_eq_getElem_cons h1, List.drop_eq_getElem_cons h2]
  rfl
theorem cmpL_more {xs ys : List Int} {k : Nat} (h1 : k < xs.length) (h2 : ys.length ≤ k) : cmpL (xs.drop k) (ys.drop k) = 1 := by
  rw [List.drop_eq_getElem_cons h1, List.drop_eq_nil_of_le h2]; rfl
theorem cmpL_less {xs ys : List Int} {k : Nat} (h1 : xs.length ≤ k) (h2 : k < ys.length) : cmpL (xs.drop k) (ys.drop k) = -1 := by
  rw [List.drop_eq_nil_of_le h1, List.drop_eq_getElem_cons h2]; rfl
theorem cmpL_end {xs ys : List Int} {k : Nat} (h1 : xs.length ≤ k) (h2 : ys.length ≤ k) : cmpL (xs.drop k) (ys.drop k) = 0 := by
  rw [List.drop_eq_nil_of_le h1, List.drop_eq_nil_of_le h2]; rfl
theorem int_at {Q : Nat → Prop} {w : World} {p : Option Addr} {n : Nat} {zs : List Int} (S : Vs repInt Q w p n zs) {k : Nat} (hk : k < n) : ∃ b o z, p = some ⟨b, o, none⟩ ∧ zs[k]? = some z ∧ w.cell? ⟨b, o + k, none⟩ = some (.int .i64 z) := by
  obtain ⟨b, o, z, e, ht, _, h⟩ := vs_at S hk
  have h := at_int h
  rw [show repInt.k = 1 from rfl, Nat.mul_one] at h
  exact ⟨b, o, z, e, ht, h⟩
def IntIs (z : Int) (w : World) (e : Ending) (w' : World) : Prop := e = .returned (.int .i64 z) ∧ w = w'
theorem intIs_mk {z z' : Int} {w : World} (h : z = z') : IntIs z w (.returned (.int .i64 z')) w := by subst h; exact ⟨rfl, rfl⟩

set_option maxRecDepth 100000 in
set_option maxHeartbeats 4000000 in
theorem compare_any {Q Q' : Nat → Prop} (p q : Option Addr) (n c m d : Nat) (xs ys : List Int) (w : World) (S1 : Vs repInt Q w p n xs) (S2 : Vs repInt Q' w q m ys) (hn : n ≤ 1000000) (hm : m ≤ 1000000) :
    Calls Tryz.prog 21 #[.slice p n c, .slice q m d] w (IntIs (cmpL xs ys) w) := by
  have H1 := Lib.hid S1.1
  have H2 := Lib.hid S2.1
  have HC0 := Lib.hid (show cmpL (xs.drop 0) (ys.drop 0) = cmpL xs ys from rfl)
  obtain ⟨R, hR⟩ : ∃ R, cmpL xs ys = R := ⟨_, rfl⟩
  rw [hR] at HC0 ⊢
  clear hR
  go_enter Tryz.func21, Tryz.ntmps21
  go_wp2
  go_loop [11] (fun i => ∃ k : Nat, k ≤ n ∧ k ≤ m ∧ i = .int .i64 k ∧ Hid (cmpL (xs.drop k) (ys.drop k) = R)) (fun i => n - (intOf i).toNat)
  case atStart => exact ⟨0, by omega, by omega, rfl, HC0.out⟩
  case round =>
    obtain ⟨k, hk, hk2, rfl, hc⟩ := hrel
    by_cases hlt : k < n
    · obtain ⟨b, o, x, rfl, hx, g0⟩ := int_at S1 hlt
      have HX := Lib.hid hx
      have i1 : (0 : Int) ≤ k := by omega
      have i2 : (k : Int) < n := by omega
      clear hx
      by_cases hlt2 : k < m
      · obtain ⟨b2, o2, y, rfl, hy, g1⟩ := int_at S2 hlt2
        have HC := Lib.hid ((cmpL_step HX.out hy).symm.trans hc.out)
        have i3 : ¬ (m : Int) ≤ k := by omega
        have i4 : (k : Int) < m := by omega
        clear hy
        obtain ⟨z, hz⟩ : ∃ z, cmpZ x y = z := ⟨_, rfl⟩
        have HZ := Lib.hid hz
        rw [hz] at HC
        clear hz
        go_wp2_with fail
        refine (cmp_any x y w).mono ?_
        rintro e w2 ⟨rfl, rfl⟩
        rw [HZ.out]
        by_cases h0 : z = 0
        · subst h0
          go_wp2_with fail
          go_round
          case rel => exact ⟨k + 1, by omega, by omega, by go_num, (HC.out : (if (0 : Int) = 0 then _ else _) = R)⟩
          case measure => simp [intOf]; omega
        · have q0 : (z != 0) = true := by simpa using h0
          have HR := Lib.hid (show R = z from HC.out.symm.trans (if_neg h0))
          clear h0
          go_wp2_with fail
          go_ret
          exact intIs_mk HR.out
      · have i3 : (m : Int) ≤ k := by omega
        have HR := Lib.hid (show R = 1 from hc.out.symm.trans (cmpL_more (by rw [H1.out]; exact hlt) (by rw [H2.out]; omega)))
        go_wp2_with fail
        go_ret
        exact intIs_mk HR.out
    · obtain rfl : k = n := by omega
      by_cases hlt2 : k < m
      · have HR := Lib.hid (show R = -1 from hc.out.symm.trans (cmpL_less (by rw [H1.out]; exact Nat.le_refl _) (by rw [H2.out]; exact hlt2)))
        go_wp2_with fail
        go_ret
        exact intIs_mk HR.out
      · have HR := Lib.hid (show R = 0 from hc.out.symm.trans (cmpL_end (by rw [H1.out]; exact Nat.le_refl _) (by rw [H2.out]; omega)))
        go_wp2_with fail
        go_ret
        exact intIs_mk HR.out
end Go.Proofs.YtiebaeaomgpicaaGreat
/- Contracts of layer 4's own small functions: test. -/
namespace Go.Proofs.YtiebaeaomgpicaaGreat
open Go.ChangeShapes Go.WideShapes Go.ChangeAt Go.RowKit
open Gen

theorem Tryz.info39 : (Tryz.prog.info? 39).map (fun i => (i.zero, i.size, i.bytes)) = some (some (.slice none 0 0), 1, 24) := by kernel_rfl
def cutL (ts : List (List Mv)) : List (List Mv) := (ts.take 4).map (·.take 8)
theorem cutL_length (ts : List (List Mv)) : (cutL ts).length = min ts.length 4 := by simp [cutL]; omega
theorem cutL_succ {ts : List (List Mv)} {k : Nat} {t : List Mv} (hk : k < 4) (ht : ts[k]? = some t) : (cutL ts).take (k + 1) = (cutL ts).take k ++ [t.take 8] := by
  obtain ⟨hl, rfl⟩ := List.getElem?_eq_some_iff.1 ht
  have h : k < (cutL ts).length := by rw [cutL_length]; omega
  rw [List.take_succ_eq_append_getElem h]
  congr 1
  simp [cutL]
def TestPost (W D : Int) (l : Nat) (ts : List (List Mv)) (w : World) (e : Ending) (w' : World) : Prop :=
  ∃ q d, e = .returned (.agg #[.int .i64 W, .int .i64 D, .slice q l d]) ∧ l ≤ d ∧ d ≤ 9223372036854775807 ∧ (q = none → d = 0) ∧ Vs (repSlice repInt3) Any w' q l ts ∧ Below w.heap.size w w'
theorem load_lit (w : World) (g : Nat) (x y z : Value) (h : VarN w g [x, y, z]) : (loadVar 25 ⟨g, 0, none⟩).run Tryz.prog w = .ok (.agg #[x, y, z]) w := by
  have k0 := (h 0 _ rfl).1
  have k1 := (h 1 _ rfl).1
  have k2 := (h 2 _ rfl).1
  simp [go_sem, k0, k1, k2]

set_option maxRecDepth 100000 in
set_option maxHeartbeats 8000000 in
theorem test_any (W D : Int) (q : Option Addr) (l d : Nat) (ts : List (List Mv)) (w : World) (hld : l ≤ d) (hd : d ≤ 9223372036854775807) (V : Vs (repSlice repInt3) Any w q l ts) :
    Calls Tryz.prog 4 #[.int .i64 W, .int .i64 D, .slice q l d] w (TestPost W D (min l 4) (cutL ts) w) := by
  have Hl := Lib.hid V.1
  obtain ⟨i0, hi, hz0, hz1, hz2⟩ := info_parts Tryz.info39
  have HI := Lib.hid (And.intro hi (And.intro hz0 (And.intro hz1 hz2)))
  clear hi hz0 hz1 hz2
  obtain ⟨G, hG⟩ : ∃ G, G = (w.alloc (Obj.cells #[.int .i64 0, .int .i64 0, .slice none 0 0] 25)).alloc (Obj.cells #[.int .i64 W, .int .i64 D, .slice none 0 0] 25) := ⟨_, rfl⟩
  have hbG : Below w.heap.size w G := by rw [hG]; go_grown
  have R : VarN G w.heap.size [.int .i64 0, .int .i64 0, .slice none 0 0] := by rw [hG]; exact varN_A _ (varN_new [.int .i64 0, .int .i64 0, .slice none 0 0] _ rfl)
  have X : VarN G (w.heap.size + 1) [.int .i64 W, .int .i64 D, .slice none 0 0] := by rw [hG]; exact varN_new [.int .i64 W, .int .i64 D, .slice none 0 0] _ (by simp)
  have hz := varN_lt X (by simp)
  have HG := Lib.hid hG
  have HB := Lib.hid hbG
  have HX := Lib.hid X
  have HR := Lib.hid R
  clear hG hbG X R
  go_enter Tryz.func4, Tryz.ntmps4
  go_upto_region 2 with fail
  rw [← HG.out]
  go_cut [17, 18, 19] (fun s17 s18 s19 wx => s17 = .slice q (min l 4) d ∧ s18 = .int .i64 ((min l 4 : Nat) : Int) ∧ s19 = .int .i64 ((0 : Nat) : Int) ∧ wx = G)
  case first =>
    by_cases h10 : l ≤ 4
    · have h10' : ¬ ((4 : Int) < (l : Int)) := by omega
      have hl1 : (l : Int) ≤ d := by omega
      have em : Hid (min l 4 = l) := by show min l 4 = l; omega
      go_wp2_with fail
      go_meet
      exact ⟨by rw [em.out], (by rw [em.out]; try rfl), rfl, rfl⟩
    · have h10' : (4 : Int) < (l : Int) := by omega
      have hl1 : (4 : Int) ≤ d := by omega
      have hl2 : 4 ≤ d := by omega
      have em : Hid (min l 4 = 4) := by show min l 4 = 4; omega
      go_wp2_with fail
      go_meet
      exact ⟨by rw [em.out], (by rw [em.out]; try rfl), rfl, rfl⟩
  case rest =>
    obtain ⟨rfl, rfl, rfl, rfl⟩ := hcut
    obtain ⟨m, hm⟩ : ∃ m, min l 4 = m := ⟨_, rfl⟩
    have hml : m ≤ l := by omega
    have hm4 : m ≤ 4 := by omega
    rw [hm]
    have HM := Lib.hid hm
    clear hm hld
    go_wp2_with fail
    go_loopw [19] (fun i wr => ∃ (k : Nat) (v : Value) (vs : List Value), k ≤ m ∧ i = .int .i64 k ∧ Hid (wr.ownsRow (w.heap.size + 2) 39 1 v k vs) ∧ Hid (Flat (repSlice repInt3) Any w vs ((cutL ts).take k)) ∧ Hid (VarN wr (w.heap.size + 1) [.int .i64 W, .int .i64 D, v]) ∧ Hid (VarN wr w.heap.size [.int .i64 0, .int .i64 0, .slice none 0 0]) ∧ Below w.heap.size w wr) (fun i _ => m - (intOf i).toNat)
    case atStart => exact ⟨0, _, [], by omega, rfl, World.ownsRow_nil _ _ _ _, (by show Flat _ _ _ _ _; rw [List.take_zero]; rfl), HX.out, HR.out, HB.out⟩
    case round =>
      obtain ⟨k, v, vs, hk, rfl, ho, hv, hx, hr, hb⟩ := hrel
      by_cases hlt : k < m
      · obtain ⟨b, o, t, p, c, rfl, ht, g0, c1, c2, c3, V2⟩ := moves_at V (show k < l by omega)
        replace g0 := kept_B (Q := Any) hb _ _ _ trivial g0
        have HCS := Lib.hid (cutL_succ (by omega) ht)
        obtain ⟨mm, hmm⟩ : ∃ mm, t.length = mm := ⟨_, rfl⟩
        have HPT := Lib.hid (vs_take V2 (min t.length 8) (by omega))
        have HTT : Hid (t.take (min t.length 8) = t.take 8) := by
          show t.take (min t.length 8) = t.take 8
          by_cases h : t.length ≤ 8
          · rw [List.take_of_length_le (by omega), List.take_of_length_le (by omega)]
          · rw [show min t.length 8 = 8 by omega]
        have HMM := Lib.hid hmm
        rw [hmm] at g0 c1 HPT HTT
        have HC3 := Lib.hid c3
        have i1 : (0 : Int) ≤ k := by omega
        have i2 : (k : Int) < m := by omega
        obtain ⟨va, vc, rfl⟩ := own_shapeT ho.out
        have HBB := Lib.hid hb
        have hsz := hb.size
        have hsx := varN_lt hx.out (by simp)
        clear ht hmm hb c3 V2
        by_cases h8 : mm ≤ 8
        · have h8' : ¬ ((8 : Int) < (mm : Int)) := by omega
          have hl1 : (mm : Int) ≤ c := by omega
          have em : Hid (min mm 8 = mm) := by show min mm 8 = mm; omega
          have hif : (if (8 : Int) < (mm : Int) then (8 : Int) else (mm : Int)) = mm := if_neg h8'
          have i3 : (0 : Int) ≤ mm := by omega
          rw [em.out] at HPT HTT
          have HEL := Lib.hid (show (repSlice repInt3).R Any w [.slice p mm c] (t.take 8) from by
            rw [HTT.out] at HPT
            have hl8 : (t.take 8).length = mm := HPT.out.1
            exact ⟨p, c, by rw [hl8], by rw [hl8]; omega, c2, HC3.out, by rw [hl8]; exact HPT.out⟩)
          obtain ⟨x2, f2⟩ := hx.out 2 _ rfl
          have x2' := cellA (Obj.cells #[.slice p mm c] 39) x2
          go_wp2_with fail
          go_region_law (refine step_append_mine rfl (.tmp 24) (.tmp 30) 22 rfl (w.heap.size + 2) 39 i0 (.slice none 0 0) 1 24 Tryz.underlying22 HI.out.1 HI.out.2.1 HI.out.2.2.1 HI.out.2.2.2 rfl (by decide) (.slice va k vc) k vs (by simp [Act.eval]) (ho.out.alloc _) ⟨wr.heap.size, 0, none⟩ 1 1 [.slice p mm c] (by simp [Act.eval]) rfl (cell_one_new _ _ _) (by simp [Value.oneCell']) (by unfold maxLen; omega) (by omega) (by simp; omega) ?_; intro v' w1 hown hgrow; obtain ⟨v2, c4, rfl⟩ := own_shapeT hown; have hB : Below (w.heap.size + 2) wr w1 := mine_below (by go_grown) (by simp; omega) hgrow ho.out; have X1 := varN_low hB (Nat.lt_succ_self _) hx.out; obtain ⟨z2, fz⟩ := X1 2 _ rfl; have HX1 := Lib.hid X1; have HOW := Lib.hid hown; have HBB2 := Lib.hid hB; clear X1 hown hgrow hB)
          all_goals
            go_wp2_with fail
            go_roundw
            case rel =>
              refine ⟨k + 1, _, _, by omega, by go_num, ownsRow_setCell_below HOW.out (by simp) _, ?_, varN_set HX1.out 2 (by simp) _, varN_other (varN_low HBB2.out (by omega) hr.out) (by omega) _, ((HBB.out.trans (HBB2.out.mono (by omega))).setCell (by simp) _)⟩
              show Flat _ _ _ _ _
              rw [HCS.out]
              exact flat_snoc HEL.out hv.out
            case measure => simp [intOf]; omega
        · have h8' : (8 : Int) < (mm : Int) := by omega
          have hl1 : (8 : Int) ≤ c := by omega
          have hl2 : 8 ≤ c := by omega
          have em : Hid (min mm 8 = 8) := by show min mm 8 = 8; omega
          have hif : (if (8 : Int) < (mm : Int) then (8 : Int) else (mm : Int)) = 8 := if_pos h8'
          rw [em.out] at HPT HTT
          have HEL := Lib.hid (show (repSlice repInt3).R Any w [.slice p 8 c] (t.take 8) from by
            rw [HTT.out] at HPT
            have hl8 : (t.take 8).length = 8 := HPT.out.1
            exact ⟨p, c, by rw [hl8], by rw [hl8]; omega, c2, HC3.out, by rw [hl8]; exact HPT.out⟩)
          obtain ⟨x2, f2⟩ := hx.out 2 _ rfl
          have x2' := cellA (Obj.cells #[.slice p 8 c] 39) x2
          go_wp2_with fail
          go_region_law (refine step_append_mine rfl (.tmp 24) (.tmp 30) 22 rfl (w.heap.size + 2) 39 i0 (.slice none 0 0) 1 24 Tryz.underlying22 HI.out.1 HI.out.2.1 HI.out.2.2.1 HI.out.2.2.2 rfl (by decide) (.slice va k vc) k vs (by simp [Act.eval]) (ho.out.alloc _) ⟨wr.heap.size, 0, none⟩ 1 1 [.slice p 8 c] (by simp [Act.eval]) rfl (cell_one_new _ _ _) (by simp [Value.oneCell']) (by unfold maxLen; omega) (by omega) (by simp; omega) ?_; intro v' w1 hown hgrow; obtain ⟨v2, c4, rfl⟩ := own_shapeT hown; have hB : Below (w.heap.size + 2) wr w1 := mine_below (by go_grown) (by simp; omega) hgrow ho.out; have X1 := varN_low hB (Nat.lt_succ_self _) hx.out; obtain ⟨z2, fz⟩ := X1 2 _ rfl; have HX1 := Lib.hid X1; have HOW := Lib.hid hown; have HBB2 := Lib.hid hB; clear X1 hown hgrow hB)
          all_goals
            go_wp2_with fail
            go_roundw
            case rel =>
              refine ⟨k + 1, _, _, by omega, by go_num, ownsRow_setCell_below HOW.out (by simp) _, ?_, varN_set HX1.out 2 (by simp) _, varN_other (varN_low HBB2.out (by omega) hr.out) (by omega) _, ((HBB.out.trans (HBB2.out.mono (by omega))).setCell (by simp) _)⟩
              show Flat _ _ _ _ _
              rw [HCS.out]
              exact flat_snoc HEL.out hv.out
            case measure => simp [intOf]; omega
      · obtain rfl : k = m := by omega
        obtain ⟨va, vc, rfl⟩ := own_shapeT ho.out
        have HBB := Lib.hid hb
        have hmk : (cutL ts).take k = cutL ts := List.take_of_length_le (by rw [cutL_length, Hl.out, HM.out]; exact Nat.le_refl _)
        have hv' := hv.out
        rw [hmk] at hv'
        have HV := Lib.hid hv'
        have HF := Lib.hid (varN_all (xs := [.int .i64 W, .int .i64 D, .slice va k vc]) hr.out rfl)
        have hbf := below_setN (g := w.heap.size) (xs := [.int .i64 W, .int .i64 D, .slice va k vc]) (k := 0) (Nat.le_refl _) hb
        have hown3 := ownsRow_setCell_below (ownsRow_setCell_below (ownsRow_setCell_below ho.out (a := ⟨w.heap.size, 0, none⟩) (by simp) (.int .i64 W)) (a := ⟨w.heap.size, 1, none⟩) (by simp) (.int .i64 D)) (a := ⟨w.heap.size, 2, none⟩) (by simp) (.slice va k vc)
        obtain ⟨z1, z2, e, u1, u2, u3, u4⟩ := vs_own (r := repSlice repInt3) (Q := Any) hown3 (flat_keep (kept_B hbf) HV.out) (fun _ _ _ => trivial)
        cases e
        have HU := Lib.hid (And.intro u1 (And.intro u2 (And.intro u3 u4)))
        have HBF := Lib.hid hbf
        obtain ⟨x0, -⟩ := hx.out 0 _ rfl
        obtain ⟨x1, -⟩ := hx.out 1 _ rfl
        obtain ⟨x2, -⟩ := hx.out 2 _ rfl
        obtain ⟨r0, f0⟩ := hr.out 0 _ rfl
        obtain ⟨r1, f1⟩ := hr.out 1 _ rfl
        obtain ⟨r2, f2⟩ := hr.out 2 _ rfl
        clear hb hmk hv' hbf hown3 u1 u2 u3 u4
        go_wp2
        refine bp_cell ⟨w.heap.size, 0, none⟩ rfl rfl rfl (load_lit _ _ _ _ _ HF.out) ?_
        rw [HM.out]
        exact ⟨_, _, rfl, HU.out.1, HU.out.2.1, HU.out.2.2.1, HU.out.2.2.2, HBF.out⟩
end Go.Proofs.YtiebaeaomgpicaaGreat
/- Contracts of package respiteref04: Has, Rows. -/
namespace Go.Proofs.YtiebaeaomgpicaaGreat
open Go.ChangeShapes Go.WideShapes Go.ChangeAt Go.RowKit
open Gen

theorem vs_sl {Q : Nat → Prop} {w : World} {a : Option Addr} {n : Nat} {zs : List Int} (h : Vs repInt Q w a n zs) : Sl w a n zs := by
  obtain ⟨h1, h2⟩ := h
  refine ⟨h1, h2.imp id ?_⟩
  rintro ⟨b, o, e, _, f⟩
  refine ⟨b, o, e, fun i hi => ?_⟩
  have h5 := f i _ (List.getElem?_eq_getElem hi)
  rw [show repInt.k = 1 from rfl, Nat.mul_one] at h5
  rw [at_int h5]; simp [hi]
def hasL (l : List (List Int)) (o : List Int) : Bool := l.any fun x => sameB x o
def NotTo (l : List (List Int)) (o : List Int) (k : Nat) : Prop := ∀ i x, i < k → l[i]? = some x → sameB x o = false
theorem notTo_succ {l : List (List Int)} {o : List Int} {k : Nat} {x : List Int} (h : NotTo l o k) (hx : l[k]? = some x) (hs : sameB x o = false) : NotTo l o (k + 1) := by
  intro i y hi hy
  by_cases e : i = k
  · subst e; rw [hx] at hy; cases hy; exact hs
  · exact h i y (by omega) hy
theorem hasL_yes {l : List (List Int)} {o : List Int} {k : Nat} {x : List Int} (hx : l[k]? = some x) (hs : sameB x o = true) : hasL l o = true :=
  List.any_eq_true.2 ⟨x, List.mem_of_getElem? hx, hs⟩
theorem hasL_no {l : List (List Int)} {o : List Int} (h : NotTo l o l.length) : hasL l o = false := by
  apply List.any_eq_false.2
  intro x hx
  obtain ⟨i, hi, rfl⟩ := List.mem_iff_getElem.1 hx
  rw [h i _ hi (by simp [hi])]; decide

set_option maxRecDepth 100000 in
set_option maxHeartbeats 4000000 in
theorem refHas_any (q : Option Addr) (l d : Nat) (zs : List (List Int)) (a : Option Addr) (n c : Nat) (o : List Int) (w : World) (V : Vs (repSlice repInt) Any w q l zs) (S : Sl w a n o) (hl : l ≤ 10000000000) :
    Calls Tryz.prog 12 #[.slice q l d, .slice a n c] w (BoolPost (hasL zs o) w) := by
  have Hl := Lib.hid V.1
  go_enter Tryz.func12, Tryz.ntmps12
  go_wp2_with fail
  go_loopw [9] (fun i wr => ∃ k : Nat, k ≤ l ∧ i = .int .i64 k ∧ Hid (NotTo zs o k) ∧ Below w.heap.size w wr) (fun i _ => l - (intOf i).toNat)
  case atStart => exact ⟨0, Nat.zero_le _, rfl, (show NotTo zs o 0 from fun i x hi => by omega), Below.refl _ _⟩
  case round =>
    obtain ⟨k, hk, rfl, hnt, hb⟩ := hrel
    by_cases hlt : k < l
    · obtain ⟨b, ob, x, p, pc, rfl, hx, g0, c1, c2, -, V2⟩ := ints_at (vs_B hb V) hlt
      have i1 : (0 : Int) ≤ k := by omega
      have i2 : (k : Int) < l := by omega
      have HX := Lib.hid hx
      have HB := Lib.hid hb
      clear hx hb
      go_wp2_with fail
      have h0 := Ints_any p a x.length pc n c x o wr (vs_sl V2) (slB HB.out S) (by omega)
      with_reducible refine h0.mono ?_
      clear h0
      rintro e w2 ⟨rfl, hb2⟩
      obtain ⟨sb, hsb⟩ : ∃ sb, sameB x o = sb := ⟨_, rfl⟩
      rw [hsb]
      have HS := Lib.hid hsb
      have HB2 := Lib.hid (below_from HB.out hb2)
      clear hsb hb2
      cases sb with
      | true =>
        go_wp2_with fail
        go_ret
        exact boolPost_mk (hasL_yes HX.out HS.out) HB2.out
      | false =>
        go_wp2_with fail
        go_roundw
        case rel => exact ⟨k + 1, by omega, by go_num, notTo_succ hnt.out HX.out HS.out, HB2.out⟩
        case measure => simp [intOf]; omega
    · obtain rfl : k = l := by omega
      have HB := Lib.hid hb
      clear hb
      go_wp2
      go_ret
      exact boolPost_mk (hasL_no (by rw [Hl.out]; exact hnt.out)) HB.out

def AgreeTo (xs ys : List (List Int)) (k : Nat) : Prop := ∀ i, i < k → xs[i]? = ys[i]?
theorem agree_all {xs ys : List (List Int)} (hl : xs.length = ys.length) (h : AgreeTo xs ys xs.length) : xs = ys := by
  apply List.ext_getElem? 
  intro i
  by_cases hi : i < xs.length
  · exact h i hi
  · rw [List.getElem?_eq_none (by omega), List.getElem?_eq_none (by omega)]

set_option maxRecDepth 100000 in
set_option maxHeartbeats 4000000 in
theorem refRows_any (q : Option Addr) (l d : Nat) (xs : List (List Int)) (q' : Option Addr) (l' d' : Nat) (ys : List (List Int)) (w : World) (V : Vs (repSlice repInt) Any w q l xs) (V' : Vs (repSlice repInt) Any w q' l' ys) (hl : l ≤ 10000000000) :
    Calls Tryz.prog 11 #[.slice q l d, .slice q' l' d'] w (BoolPost (decide (xs = ys)) w) := by
  have H1 := Lib.hid V.1
  have H2 := Lib.hid V'.1
  by_cases hll : l = l'
  · subst hll
    have q0 : ((l : Int) != l) = false := by simp
    go_enter Tryz.func11, Tryz.ntmps11
    go_wp2_with fail
    go_loopw [13] (fun i wr => ∃ k : Nat, k ≤ l ∧ i = .int .i64 k ∧ Hid (AgreeTo xs ys k) ∧ Below w.heap.size w wr) (fun i _ => l - (intOf i).toNat)
    case atStart => exact ⟨0, Nat.zero_le _, rfl, (show AgreeTo xs ys 0 from fun i hi => by omega), Below.refl _ _⟩
    case round =>
      obtain ⟨k, hk, rfl, hag, hb⟩ := hrel
      by_cases hlt : k < l
      · obtain ⟨b, ob, x, p, pc, rfl, hx, g0, c1, c2, -, V2⟩ := ints_at (vs_B hb V) hlt
        obtain ⟨b', ob', y, p', pc', rfl, hy, g1, c1', c2', -, V3⟩ := ints_at (vs_B hb V') hlt
        have i1 : (0 : Int) ≤ k := by omega
        have i2 : (k : Int) < l := by omega
        have HX := Lib.hid hx
        have HY := Lib.hid hy
        have HB := Lib.hid hb
        have hB0 : Below wr.heap.size wr wr.drew := (Below.refl _ _).drew
        obtain ⟨sb, hsb⟩ : ∃ sb, sameB x y = sb := ⟨_, rfl⟩
        have HS := Lib.hid hsb
        clear hx hy hb hsb
        go_wp2_with fail
        go_region_held3 (fun w' => w'.cell? ⟨b, ob + k, none⟩ = some (.slice p x.length pc) ∧ w'.cell? ⟨b', ob' + k, none⟩ = some (.slice p' y.length pc'))
          (first | exact ⟨g0, g1⟩ | exact ⟨cellB (by assumption) g0, cellB (by assumption) g1⟩)
          ((go_at_call 29; refine (Ints_any p p' x.length pc y.length pc' x y _ (vs_sl (vs_D V2)) (vs_sl (vs_D V3)) (by omega)).mono ?_; rw [HS.out]; rintro e w2 ⟨rfl, hb2⟩; have hb2' := below_from hB0 hb2))
        have HB2 := Lib.hid (below_from HB.out hb2')
        clear hb2 hb2' hB0
        cases sb with
        | true =>
          go_wp2_with fail
          go_roundw
          case rel =>
            refine ⟨k + 1, by omega, by go_num, ?_, HB2.out⟩
            show AgreeTo xs ys (k + 1)
            intro i hi
            by_cases e : i = k
            · subst e
              rw [HX.out, HY.out]
              have h6 := HS.out
              simp only [sameB, decide_eq_true_eq] at h6
              rw [h6]
            · exact hag.out i (by omega)
          case measure => simp [intOf]; omega
        | false =>
          go_wp2_with fail
          go_ret
          refine boolPost_mk ?_ HB2.out
          apply decide_eq_false
          intro e
          subst e
          have h6 := HS.out
          rw [show x = y from by have := HX.out.symm.trans HY.out; injection this] at h6
          simp [sameB] at h6
      · obtain rfl : k = l := by omega
        have HB := Lib.hid hb
        clear hb
        go_wp2_with fail
        go_ret
        exact boolPost_mk (decide_eq_true (agree_all (by rw [H1.out, H2.out]) (by rw [H1.out]; exact hag.out))) HB.out
  · have q0 : ((l : Int) != l') = true := by simp; omega
    have HD := Lib.hid (show decide (xs = ys) = false from decide_eq_false (fun e => hll (by rw [← H1.out, ← H2.out, e])))
    clear hll
    go_enter Tryz.func11, Tryz.ntmps11
    go_wp2
    go_ret
    exact boolPost_mk HD.out (Below.refl _ _)
end Go.Proofs.YtiebaeaomgpicaaGreat
