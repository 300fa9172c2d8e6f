/- The walks of WeighLess and WeighOrders, over what package weigh must answer. -/
import Derived.Test.YtmdkokhlfflokaaWgE
import Derived.Maps.AppendAt
namespace Go.Proofs.Ytmdkokhlfflokaa
open Go.ChangeShapes Go.WideShapes Go.ChangeAt Go.RowKit
open Gen
/-- a row written out, in new memory -/
theorem vs_new10 {α : Type} {r : Rep α} {Q : Nat → Prop} {w : World} {cs : List Value} {ys : List α} {t : TypeId} (g : Nat) (hg : g = w.heap.size) (hQ : Q g) (h : Flat r Q w cs ys) : Vs r Q (w.alloc (.cells cs.toArray t)) (some ⟨g, 0, none⟩) ys.length ys := by
  refine ⟨rfl, .inr ⟨g, 0, rfl, hQ, fun i y hi => ?_⟩⟩
  obtain ⟨c, hr, hc⟩ := flat_at h i y hi
  refine ⟨c, r.keep (kept_A _ _) hr, fun j v hj => ?_⟩
  have X := varN_new (w := w) cs (t := t) g hg
  rw [Nat.zero_add]; exact (X _ _ (hc j v hj)).1
theorem lessF_alt (x y : Nat) : Fl.lessF x y = decide (Fl.K x < Fl.K y) := rfl
theorem least3 (a b c : Nat) : Fl.leastL [a, b, c] 3 = if Fl.lessF b a = true then (if Fl.lessF c b = true then 2 else 1) else (if Fl.lessF c a = true then 2 else 0) := by
  have h0 : Fl.leastL [a, b, c] 1 = 0 := by rw [Fl.leastL]; split <;> rfl
  have h1 : Fl.leastL [a, b, c] 2 = if Fl.lessF b a = true then 1 else 0 := by rw [Fl.leastL, h0]; rfl
  rw [Fl.leastL, h1]
  by_cases e : Fl.lessF b a = true
  · rw [if_pos e, if_pos e]; rfl
  · rw [if_neg e, if_neg e]; rfl

set_option maxRecDepth 100000 in
set_option maxHeartbeats 8000000 in
theorem Orders10_walk (W : WeighOk) (a b c : Nat) (w : World) (ha : FlWf a) (hb : FlWf b) (hc : FlWf c) : Calls Try.prog 4 #[.float .f64 a, .float .f64 b, .float .f64 c] w (BoolPost true w) := by
  have k1 := lessF_alt a b
  have k2 := lessF_alt b a
  have k3 := lessF_alt b c
  have k4 := lessF_alt c b
  have k5 := lessF_alt a c
  have k6 := lessF_alt c a
  have l3 := least3 a b c
  have HL := fun u => W.less a b u ha hb
  have HL2 := fun u => W.less b a u hb ha
  have HL3 := fun u => W.less b c u hb hc
  have HL4 := fun u => W.less c b u hc hb
  have HL5 := fun u => W.less a c u ha hc
  have HL6 := fun u => W.less c a u hc ha
  have HAL := Lib.hid (fun u => alive10_any W u)
  have HLE := fun (u : World) (g : Nat) (S : Vs repFl Any u (some ⟨g, 0, none⟩) 3 [a, b, c]) => W.least (some ⟨g, 0, none⟩) 3 3 [a, b, c] u S (by intro z hz; simp at hz; rcases hz with rfl | rfl | rfl <;> assumption) (by decide) (by decide) (by decide) (fun e => by cases e)
  rw [if_neg (by decide), if_neg (by decide), l3] at HLE
  obtain ⟨ab, hab⟩ : ∃ z, Fl.lessF a b = z := ⟨_, rfl⟩
  obtain ⟨ba, hba⟩ : ∃ z, Fl.lessF b a = z := ⟨_, rfl⟩
  obtain ⟨bc, hbc⟩ : ∃ z, Fl.lessF b c = z := ⟨_, rfl⟩
  obtain ⟨cb, hcb⟩ : ∃ z, Fl.lessF c b = z := ⟨_, rfl⟩
  obtain ⟨ac, hac⟩ : ∃ z, Fl.lessF a c = z := ⟨_, rfl⟩
  obtain ⟨ca, hca⟩ : ∃ z, Fl.lessF c a = z := ⟨_, rfl⟩
  rw [hab] at HL k1
  rw [hba] at HL2 k2 HLE
  rw [hbc] at HL3 k3
  rw [hcb] at HL4 k4 HLE
  rw [hac] at HL5 k5
  rw [hca] at HL6 k6 HLE
  have H1 := Lib.hid HL
  have H2 := Lib.hid HL2
  have H3 := Lib.hid HL3
  have H4 := Lib.hid HL4
  have H5 := Lib.hid HL5
  have H6 := Lib.hid HL6
  have HK := Lib.hid HLE
  -- what the six answers may be
  have hall : (ab && ba) = false ∧ (ab && bc && !ac) = false ∧ (!ab && !ba && (ac != bc || ca != cb)) = false ∧ (ba = true → cb = true → ca = true) ∧ (ba = false → ca = true → cb = true) ∧ (ba = true → ab = false) ∧ (ba = true → cb = false → True) := by
    have h1 := Int.lt_trichotomy (Fl.K a) (Fl.K b)
    have h2 := Int.lt_trichotomy (Fl.K b) (Fl.K c)
    have h3 := Int.lt_trichotomy (Fl.K a) (Fl.K c)
    subst k1 k2 k3 k4 k5 k6
    refine ⟨?_, ?_, ?_, ?_, ?_, ?_, fun _ _ => trivial⟩ <;> simp only [Bool.and_eq_false_iff, Bool.or_eq_false_iff, decide_eq_false_iff_not, decide_eq_true_eq, Bool.not_eq_false', bne_eq_false_iff_eq, decide_eq_decide] <;> omega
  clear HL HL2 HL3 HL4 HL5 HL6 HLE k1 k2 k3 k4 k5 k6 l3 hab hba hbc hcb hac hca W ha hb hc
  obtain ⟨r1, r2, r3, r4, r5, r6, -⟩ := hall
  go_enter Try.func4, Try.ntmps4
  go_wp2_with fail
  refine (H1.out _).mono ?_
  rintro e w1 ⟨rfl, hb1⟩
  have HB1 := Lib.hid hb1
  clear hb1
  go_wp2_with fail
  refine (H2.out _).mono ?_
  rintro e w2 ⟨rfl, hb2⟩
  have HB2 := Lib.hid (below_from HB1.out hb2)
  clear hb2
  go_wp2_with fail
  refine (H3.out _).mono ?_
  rintro e w3 ⟨rfl, hb3⟩
  have HB3 := Lib.hid (below_from HB2.out hb3)
  clear hb3
  go_wp2_with fail
  refine (H4.out _).mono ?_
  rintro e w4 ⟨rfl, hb4⟩
  have HB4 := Lib.hid (below_from HB3.out hb4)
  clear hb4
  go_wp2_with fail
  refine (H5.out _).mono ?_
  rintro e w5 ⟨rfl, hb5⟩
  have HB5 := Lib.hid (below_from HB4.out hb5)
  clear hb5
  go_wp2_with fail
  refine (H6.out _).mono ?_
  rintro e w6 ⟨rfl, hb6⟩
  have HB6 := Lib.hid (below_from HB5.out hb6)
  clear hb6
  revert HK
  cases ab <;> cases ba <;> cases bc <;> cases cb <;> cases ac <;> cases ca
  all_goals first
    | (exfalso; revert r1 r2 r3 r4 r5 r6; decide)
    | skip
  all_goals
    intro HK
    clear r1 r2 r3 r4 r5 r6
    simp only [Bool.false_eq_true, if_true, if_false] at HK
    go_wp2_with fail
    refine (HAL.out _).mono ?_
    rintro e w7 ⟨rfl, hb7⟩
    have HB7 := Lib.hid (below_from HB6.out hb7)
    clear hb7
    go_wp2_with fail
    refine (HK.out _ _ (vs_new10 (t := 23) (cs := [.float .f64 a, .float .f64 b, .float .f64 c]) (ys := [a, b, c]) w7.heap.size rfl trivial (flat_map1 (.float .f64) [a, b, c]))).mono ?_
    rintro e w9 ⟨rfl, hb9⟩
    have HB9 := Lib.hid (below_from (below_from HB7.out ((Below.refl _ _).alloc (Nat.le_refl _) _)) hb9)
    clear hb9
    go_wp2
    go_ret
    exact boolPost_mk rfl HB9.out
end Go.Proofs.Ytmdkokhlfflokaa
