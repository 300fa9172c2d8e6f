/- Contracts of package pool: Give, Held. -/
import Derived.Test.YtnkhgofpdgnemaaPlF
namespace Go.Proofs.Ytnkhgofpdgnemaa
open Go.ChangeShapes Go.WideShapes Go.ChangeAt Go.RowKit Gen

/-- a pool and a reason are handed back -/
def PlPost2 (r : Pl4 × Int) (w : World) (e : Ending) (w' : World) : Prop := ∃ q c, e = .returned (.tuple #[.agg #[.int .i64 r.1.s, .int .i64 r.1.b, .int .i64 r.1.m, .slice q r.1.fs.length c], .int .i64 r.2]) ∧ CapOk q r.1.fs.length c ∧ SlF w.heap.size w' q r.1.fs.length r.1.fs ∧ Below w.heap.size w w'
theorem plPost2_0 {x : Int} {w w' : World} {r : Pl4 × Int} (hr : r = (pl0, x)) (hb : Below w.heap.size w w') : PlPost2 r w (.returned (.tuple #[.agg #[.int .i64 0, .int .i64 0, .int .i64 0, .slice none 0 0], .int .i64 x])) w' := by
  subst hr
  exact ⟨none, 0, rfl, capOk_nil, slF_nil _ _, hb⟩
theorem plPost2_mk {r : Pl4 × Int} {s b m x : Int} {l : List Int} {k d F : Nat} {q : Option Addr} {w w' : World} (hr : r = (⟨s, b, m, l⟩, x)) (hl : l.length = k) (hc : CapOk q k d) (hF : w.heap.size ≤ F) (hs : SlF F w' q k l) (hb : Below w.heap.size w w') :
    PlPost2 r w (.returned (.tuple #[.agg #[.int .i64 s, .int .i64 b, .int .i64 m, .slice q k d], .int .i64 x])) w' := by
  subst hr hl
  exact ⟨q, d, rfl, hc, slF_le hF hs, hb⟩

set_option maxHeartbeats 8000000 in
theorem plGive_any (s b m : Int) (a : Option Addr) (n c : Nat) (fs : List Int) (x : Int) (w : World) (S : Sl w a n fs) (hn : n ≤ 500) (hcap : CapOk a n c) :
    Calls Try.prog 16 #[.agg #[.int .i64 s, .int .i64 b, .int .i64 m, .slice a n c], .int .i64 x] w (PlPost2 (plGive ⟨s, b, m, fs⟩ x) w) := by
  have Hn := Lib.hid S.1
  have hA := varN_new [.int .i64 s, .int .i64 b, .int .i64 m, .slice a n c] (t := 24) (w := w) w.heap.size rfl
  have hZ := varN_new [.int .i64 0, .int .i64 0, .int .i64 0, .slice none 0 0] (t := 24) (w := w.alloc (.cells #[.int .i64 s, .int .i64 b, .int .i64 m, .slice a n c] 24)) (w.heap.size + 1) (by simp)
  have HA0 := Lib.hid (varN_A (.cells #[.int .i64 0, .int .i64 0, .int .i64 0, .slice none 0 0] 24) hA)
  have HZ0 := Lib.hid hZ
  have HB0 := Lib.hid (show Below w.heap.size w ((w.alloc (.cells #[.int .i64 s, .int .i64 b, .int .i64 m, .slice a n c] 24)).alloc (.cells #[.int .i64 0, .int .i64 0, .int .i64 0, .slice none 0 0] 24)) by go_grown)
  clear hA hZ
  cases hr : plRight s b m fs with
  | false =>
    have HR := Lib.hid hr
    have HT := Lib.hid (show plGive ⟨s, b, m, fs⟩ x = (pl0, 1) by simp [plGive, plOkP, hr])
    clear hr hcap
    go_enter Try.func16, Try.ntmps16
    go_wp2_with fail
    refine (plRight_any s b m a n c fs _ (slA _ (slA _ S)) (by omega)).mono ?_
    rintro e w1 ⟨rfl, hb⟩
    rw [HR.out]
    have HB := Lib.hid (below_from HB0.out hb)
    have HZ := Lib.hid (varN_B hb HZ0.out)
    obtain ⟨x0, f0⟩ := HZ.out 0 _ rfl
    obtain ⟨x1, f1⟩ := HZ.out 1 _ rfl
    obtain ⟨x2, f2⟩ := HZ.out 2 _ rfl
    obtain ⟨x3, f3⟩ := HZ.out 3 _ rfl
    clear hb
    go_wp2
    have HZ2 := varN_all (xs := [.int .i64 0, .int .i64 0, .int .i64 0, .slice none 0 0]) HZ.out rfl
    refine bp_cell_tmp ⟨w.heap.size + 1, 0, none⟩ rfl rfl rfl (plLoad HZ2) ?_
    exact plPost2_0 HT.out (pl_below4 (by omega) HB.out)
  | true =>
    have HR := Lib.hid hr
    have hfit := (plRight_iff.1 hr).1
    have HF := Lib.hid hfit
    cases hp : plHas (plBl s b m.toNat) x with
    | false =>
      have HP := Lib.hid hp
      have HT := Lib.hid (show plGive ⟨s, b, m, fs⟩ x = (pl0, 3) by simp [plGive, plOkP, hr, hp])
      clear hr hcap hp hfit
      go_enter Try.func16, Try.ntmps16
      go_wp2_with fail
      refine (plRight_any s b m a n c fs _ (slA _ (slA _ S)) (by omega)).mono ?_
      rintro e w1 ⟨rfl, hb⟩
      rw [HR.out]
      have HB := Lib.hid (below_from HB0.out hb)
      have HZ := Lib.hid (varN_B hb HZ0.out)
      have HA := Lib.hid (varN_B hb HA0.out)
      obtain ⟨z0, -⟩ := HA.out 0 _ rfl
      obtain ⟨z1, -⟩ := HA.out 1 _ rfl
      obtain ⟨z2, -⟩ := HA.out 2 _ rfl
      obtain ⟨z3, -⟩ := HA.out 3 _ rfl
      clear hb
      go_wp2_with fail
      refine (plFirstP_any s b m a n c x _ HF.out).mono ?_
      rintro e w2 ⟨rfl, hb2⟩
      rw [HP.out]
      have HB2 := Lib.hid (HB.out.trans (hb2.mono HB.out.size))
      have HZ2 := Lib.hid (varN_B hb2 HZ.out)
      obtain ⟨x0, f0⟩ := HZ2.out 0 _ rfl
      obtain ⟨x1, f1⟩ := HZ2.out 1 _ rfl
      obtain ⟨x2, f2⟩ := HZ2.out 2 _ rfl
      obtain ⟨x3, f3⟩ := HZ2.out 3 _ rfl
      clear hb2 z0 z1 z2 z3
      go_wp2
      have HZ3 := varN_all (xs := [.int .i64 0, .int .i64 0, .int .i64 0, .slice none 0 0]) HZ2.out rfl
      refine bp_cell_tmp ⟨w.heap.size + 1, 0, none⟩ rfl rfl rfl (plLoad HZ3) ?_
      exact plPost2_0 HT.out (pl_below4 (by omega) HB2.out)
    | true =>
      have HP := Lib.hid hp
      cases hh : plHas fs x with
      | true =>
        have HH := Lib.hid hh
        have HT := Lib.hid (show plGive ⟨s, b, m, fs⟩ x = (pl0, 5) by simp [plGive, plOkP, hr, hp, hh])
        clear hr hcap hp hfit hh
        go_enter Try.func16, Try.ntmps16
        go_wp2_with fail
        refine (plRight_any s b m a n c fs _ (slA _ (slA _ S)) (by omega)).mono ?_
        rintro e w1 ⟨rfl, hb⟩
        rw [HR.out]
        have HB := Lib.hid (below_from HB0.out hb)
        have HZ := Lib.hid (varN_B hb HZ0.out)
        have HA := Lib.hid (varN_B hb HA0.out)
        obtain ⟨z0, -⟩ := HA.out 0 _ rfl
        obtain ⟨z1, -⟩ := HA.out 1 _ rfl
        obtain ⟨z2, -⟩ := HA.out 2 _ rfl
        obtain ⟨z3, -⟩ := HA.out 3 _ rfl
        clear hb
        go_wp2_with fail
        refine (plFirstP_any s b m a n c x _ HF.out).mono ?_
        rintro e w2 ⟨rfl, hb2⟩
        rw [HP.out]
        have HB2 := Lib.hid (HB.out.trans (hb2.mono HB.out.size))
        have HZ2 := Lib.hid (varN_B hb2 HZ.out)
        have HS2 := Lib.hid (slB HB2.out S)
        obtain ⟨y3, -⟩ := varN_B hb2 HA.out 3 _ rfl
        obtain ⟨x0, f0⟩ := HZ2.out 0 _ rfl
        obtain ⟨x1, f1⟩ := HZ2.out 1 _ rfl
        obtain ⟨x2, f2⟩ := HZ2.out 2 _ rfl
        obtain ⟨x3, f3⟩ := HZ2.out 3 _ rfl
        clear hb2 z0 z1 z2 z3
        go_wp2_with (go_at_call 31; refine (plContains_any a n c fs x _ HS2.out (by omega)).mono ?_; rw [HH.out]; rintro e w3 ⟨rfl, rfl⟩)
        have HZ3 := varN_all (xs := [.int .i64 0, .int .i64 0, .int .i64 0, .slice none 0 0]) HZ2.out rfl
        refine bp_cell_tmp ⟨w.heap.size + 1, 0, none⟩ rfl rfl rfl (plLoad HZ3) ?_
        exact plPost2_0 HT.out (pl_below4 (by omega) HB2.out)
      | false =>
        have HH := Lib.hid hh
        have HT := Lib.hid (show plGive ⟨s, b, m, fs⟩ x = (⟨s, b, m, fs ++ [x]⟩, 0) by simp [plGive, plOkP, hr, hp, hh])
        obtain ⟨i0, hi, hz0, hz1, hz2⟩ := info_parts Try.info3
        have HI := Lib.hid (And.intro hi (And.intro hz0 (And.intro hz1 hz2)))
        have HC := Lib.hid hcap
        clear hr hcap hp hfit hh hi hz0 hz1 hz2
        go_enter Try.func16, Try.ntmps16
        go_wp2_with fail
        refine (plRight_any s b m a n c fs _ (slA _ (slA _ S)) (by omega)).mono ?_
        rintro e w1 ⟨rfl, hb⟩
        rw [HR.out]
        have HB := Lib.hid (below_from HB0.out hb)
        have HZ := Lib.hid (varN_B hb HZ0.out)
        have HA := Lib.hid (varN_B hb HA0.out)
        obtain ⟨z0, -⟩ := HA.out 0 _ rfl
        obtain ⟨z1, -⟩ := HA.out 1 _ rfl
        obtain ⟨z2, -⟩ := HA.out 2 _ rfl
        obtain ⟨z3, -⟩ := HA.out 3 _ rfl
        clear hb
        go_wp2_with fail
        refine (plFirstP_any s b m a n c x _ HF.out).mono ?_
        rintro e w2 ⟨rfl, hb2⟩
        rw [HP.out]
        have HB2 := Lib.hid (HB.out.trans (hb2.mono HB.out.size))
        have HZ2 := Lib.hid (varN_B hb2 HZ.out)
        have HA2 := Lib.hid (varN_B hb2 HA.out)
        have HS2 := Lib.hid (slB HB2.out S)
        have hsz : w.heap.size + 1 < w2.heap.size := varN_lt HZ2.out (by simp)
        obtain ⟨y3, -⟩ := HA2.out 3 _ rfl
        clear hb2 z0 z1 z2 z3
        go_wp2_with (go_at_call 31; refine (plContains_any a n c fs x _ HS2.out (by omega)).mono ?_; rw [HH.out]; rintro e w3 ⟨rfl, hw3⟩; have hw4 := hw3.symm; clear hw3; subst hw4)
        refine (plClone_any a n c fs _ HS2.out (by omega) HC.out).mono ?_
        rintro e w4 ⟨v, rfl, hown, hb4⟩
        rw [Hn.out] at hown
        have HO := Lib.hid hown
        have HZ4 := Lib.hid (varN_B hb4 HZ2.out)
        have HA4 := Lib.hid (varN_B hb4 HA2.out)
        have HB4 := Lib.hid hb4
        have hsz4 := hb4.size
        clear hown hb4 y3
        go_wp2_with (at_builtin; refine wpList_append_own _ rfl _ _ 22 rfl w2.heap.size 3 i0 (.int .i64 0) 1 8 Try.underlying22 HI.out.1 HI.out.2.1 HI.out.2.2.1 HI.out.2.2.2 rfl (by decide) _ _ _ rfl (HO.out.alloc _) ⟨w4.heap.size, 0, none⟩ 1 1 [.int .i64 x] rfl rfl ?c1 ?c2 ?c3 ?c4 ?c5 ?_)
        case c1 => exact cell_one _ _ _
        case c2 => intro v hv; simp at hv; subst hv; rfl
        case c3 => unfold maxLen; omega
        case c4 => omega
        case c5 => simp; omega
        intro v' w5 hown' hgrow _
        have hb5 : Below w2.heap.size w2 w5 := (HB4.out.alloc hsz4 (.cells #[.int .i64 x] 3)).grown hgrow (by simp; omega) (fun r hr => ((HO.out.alloc (.cells #[.int .i64 x] 3)).lt r hr).1)
        rw [show fs.map (Value.int .i64) ++ [.int .i64 x] = (fs ++ [x]).map (Value.int .i64) by simp] at hown'
        obtain ⟨q, d, rfl⟩ := pl_own_form hown'
        have HO5 := Lib.hid hown'
        have HB5 := Lib.hid hb5
        have HZ5 := Lib.hid (varN_B hb5 HZ2.out)
        have HA5 := Lib.hid (varN_B hb5 HA2.out)
        obtain ⟨z0, -⟩ := HA5.out 0 _ rfl
        obtain ⟨z1, -⟩ := HA5.out 1 _ rfl
        obtain ⟨z2, -⟩ := HA5.out 2 _ rfl
        obtain ⟨z3, g3⟩ := HA5.out 3 _ rfl
        obtain ⟨x0, f0⟩ := HZ5.out 0 _ rfl
        obtain ⟨x1, f1⟩ := HZ5.out 1 _ rfl
        obtain ⟨x2, f2⟩ := HZ5.out 2 _ rfl
        obtain ⟨x3, f3⟩ := HZ5.out 3 _ rfl
        clear hown' hb5 hgrow
        go_wp2
        have HZ6 := varN_all (xs := [.int .i64 s, .int .i64 b, .int .i64 m, .slice q (n + 1) d]) (varN_other HZ5.out (g' := w.heap.size) (by omega) (o := 3) (.slice q (n + 1) d)) rfl
        refine bp_cell_tmp ⟨w.heap.size + 1, 0, none⟩ rfl rfl rfl (plLoad HZ6) ?_
        have hcd := pl_own_cap HO5.out
        obtain ⟨q', d', e', hs⟩ := ownsRow_slF HO5.out
        injection e' with e1 e2 e3
        subst e1 e3
        have hs4 := slF_set hs ⟨w.heap.size, 3, none⟩ (show w.heap.size < w2.heap.size by omega) (.slice q (n + 1) d)
        have hb6 : Below w.heap.size w (w5.setCell ⟨w.heap.size, 3, none⟩ (.slice q (n + 1) d)) := (HB2.out.trans (HB5.out.mono HB2.out.size)).setCell (p := ⟨w.heap.size, 3, none⟩) (Nat.le_refl _) _
        exact plPost2_mk HT.out (by simp [Hn.out]) hcd (Nat.le_of_lt (Nat.lt_of_succ_lt hsz)) (pl_slF4 hsz hs4) (pl_below4 (Nat.le_succ _) hb6)

def PlHeldPost (r : List Int × Int) (w : World) (e : Ending) (w' : World) : Prop := ∃ q c, e = .returned (.tuple #[.slice q r.1.length c, .int .i64 r.2]) ∧ SlF w.heap.size w' q r.1.length r.1 ∧ Below w.heap.size w w'
set_option maxHeartbeats 4000000 in
theorem plHeldF_any (s b m : Int) (a : Option Addr) (n c : Nat) (fs : List Int) (w : World) (S : Sl w a n fs) (hn : n ≤ 1000) :
    Calls Try.prog 17 #[.agg #[.int .i64 s, .int .i64 b, .int .i64 m, .slice a n c]] w (PlHeldPost (plHeldZ ⟨s, b, m, fs⟩) w) := by
  have hA := varN_new [.int .i64 s, .int .i64 b, .int .i64 m, .slice a n c] (t := 24) (w := w) w.heap.size rfl
  have HA0 := Lib.hid hA
  have HB0 := Lib.hid (show Below w.heap.size w (w.alloc (.cells #[.int .i64 s, .int .i64 b, .int .i64 m, .slice a n c] 24)) by go_grown)
  clear hA
  cases hr : plRight s b m fs with
  | false =>
    have HR := Lib.hid hr
    have HT := Lib.hid (show plHeldZ ⟨s, b, m, fs⟩ = ([], 1) by simp [plHeldZ, plOkP, hr])
    clear hr
    go_enter Try.func17, Try.ntmps17
    go_wp2_with fail
    refine (plRight_any s b m a n c fs _ (slA _ S) hn).mono ?_
    rintro e w1 ⟨rfl, hb⟩
    rw [HR.out]
    have HB := Lib.hid (below_from HB0.out hb)
    clear hb
    go_wp2
    go_ret2
    rw [HT.out]
    exact ⟨none, 0, rfl, slF_nil _ _, HB.out⟩
  | true =>
    have HR := Lib.hid hr
    have HT := Lib.hid (show plHeldZ ⟨s, b, m, fs⟩ = (plHeld s b m.toNat fs, 0) by simp [plHeldZ, plOkP, hr])
    have HF := Lib.hid (plRight_iff.1 hr).1
    clear hr
    go_enter Try.func17, Try.ntmps17
    go_wp2_with fail
    refine (plRight_any s b m a n c fs _ (slA _ S) hn).mono ?_
    rintro e w1 ⟨rfl, hb⟩
    rw [HR.out]
    have HB := Lib.hid (below_from HB0.out hb)
    obtain ⟨z0, -⟩ := varN_B hb HA0.out 0 _ rfl
    obtain ⟨z1, -⟩ := varN_B hb HA0.out 1 _ rfl
    obtain ⟨z2, -⟩ := varN_B hb HA0.out 2 _ rfl
    obtain ⟨z3, -⟩ := varN_B hb HA0.out 3 _ rfl
    clear hb
    go_wp2_with fail
    refine (plHeld_any s b m a n c fs _ HF.out (slB HB.out S) hn).mono ?_
    rintro e w2 ⟨v, rfl, hown, hb2⟩
    obtain ⟨q, d, rfl⟩ := pl_own_form hown
    have HO := Lib.hid hown
    have HB2 := Lib.hid (HB.out.trans (hb2.mono HB.out.size))
    have HS1 := Lib.hid HB.out.size
    clear hown hb2 z0 z1 z2 z3
    go_wp2
    go_ret2
    rw [HT.out]
    obtain ⟨q', d', e', hs⟩ := ownsRow_slF HO.out
    injection e' with e1 e2 e3
    subst e1 e3
    exact ⟨q, d, rfl, slF_le HS1.out hs, HB2.out⟩
end Go.Proofs.Ytnkhgofpdgnemaa
