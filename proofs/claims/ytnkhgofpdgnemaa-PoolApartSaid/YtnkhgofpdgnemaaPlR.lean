/- Contracts of respiteref12: Right, New. -/
import Derived.Test.YtnkhgofpdgnemaaPlH
namespace Go.Proofs.Ytnkhgofpdgnemaa
open Go.ChangeShapes Go.WideShapes Go.ChangeAt Go.RowKit Gen

def PlOkTo (s b : Int) (m : Nat) (fs : List Int) (k : Nat) : Prop := ∀ i, i < k → plOk s b m fs i = true
theorem plOkTo_succ {s b : Int} {m : Nat} {fs : List Int} {k : Nat} (h : PlOkTo s b m fs k) (h1 : plOk s b m fs k = true) : PlOkTo s b m fs (k + 1) := by
  intro i hi
  by_cases e : i = k
  · subst e; exact h1
  · exact h i (by omega)
theorem plRef_all {s b m : Int} {fs : List Int} (hf : plFit s b m = true) (h : PlOkTo s b m.toNat fs fs.length) : plRef s b m fs = true := by
  simp only [plRef, hf, Bool.true_and, List.all_eq_true, List.mem_range]; exact h
theorem plRef_not {s b m : Int} {fs : List Int} {k : Nat} (hk : k < fs.length) (h : plOk s b m.toNat fs k = false) : plRef s b m fs = false := by
  cases hf : plRef s b m fs with
  | false => rfl
  | true =>
    simp only [plRef, Bool.and_eq_true, List.all_eq_true, List.mem_range] at hf
    have := hf.2 k hk
    rw [h] at this; cases this

set_option maxHeartbeats 4000000 in
theorem plRefRight_any (s b m : Int) (a : Option Addr) (n c : Nat) (fs : List Int) (w : World) (S : Sl w a n fs) (hn : n ≤ 1000) (hcap : CapOk a n c) :
    Calls Try.prog 10 #[.agg #[.int .i64 s, .int .i64 b, .int .i64 m, .slice a n c]] w (BoolPost (plRef s b m fs) w) := by
  have Hn := Lib.hid S.1
  have hA := varN_new [.int .i64 s, .int .i64 b, .int .i64 m, .slice a n c] (t := 24) (w := w) w.heap.size rfl
  cases hf : plFit s b m with
  | false =>
    have HF := Lib.hid hf
    have HR := Lib.hid (show plRef s b m fs = false by simp [plRef, hf])
    clear hf hA
    go_enter Try.func10, Try.ntmps10
    go_wp2_with fail
    refine (plSizes_any s b m _).mono ?_
    rw [HF.out]
    rintro e w1 ⟨rfl, rfl⟩
    go_wp2
    go_ret
    exact boolPost_mk HR.out (by go_grown)
  | true =>
    have HF := Lib.hid hf
    obtain ⟨W, hW⟩ : ∃ W, w.alloc (.cells #[.int .i64 s, .int .i64 b, .int .i64 m, .slice a n c] 24) = W := ⟨_, rfl⟩
    have HA := Lib.hid (show VarN W w.heap.size [.int .i64 s, .int .i64 b, .int .i64 m, .slice a n c] by rw [← hW]; exact hA)
    have HB := Lib.hid (show Below w.heap.size w W by rw [← hW]; go_grown)
    have HW := Lib.hid hW
    have hc1 := hcap.1
    have hc2 := hcap.2.1
    clear hf hA hW hcap
    obtain ⟨x0, -⟩ := HA.out 0 _ rfl
    obtain ⟨x1, -⟩ := HA.out 1 _ rfl
    obtain ⟨x2, -⟩ := HA.out 2 _ rfl
    obtain ⟨x3, -⟩ := HA.out 3 _ rfl
    go_enter Try.func10, Try.ntmps10
    go_wp2_with fail
    rw [HW.out]
    refine (plSizes_any s b m _).mono ?_
    rw [HF.out]
    rintro e w1 ⟨rfl, hw1⟩
    have hw2 := hw1.symm
    clear hw1
    subst hw2
    go_wp2
    go_loopw [16] (fun i wr => ∃ k : Nat, k ≤ n ∧ i = .int .i64 k ∧ Hid (PlOkTo s b m.toNat fs k) ∧ Below W.heap.size W wr) (fun i _ => n - (intOf i).toNat)
    case atStart => exact ⟨0, by omega, rfl, by intro j hj; omega, Below.refl _ _⟩
    case round =>
      obtain ⟨k, hk, rfl, hr, hb⟩ := hrel
      by_cases hlt : k < n
      · obtain ⟨bb, oo, rfl, R⟩ := S.2.resolve_left (by omega)
        have hbw := HB.out.trans (hb.mono HB.out.size)
        have g := cellB hbw (R k (by rw [Hn.out]; exact hlt))
        have z0 := cellB hb x0
        have z1 := cellB hb x1
        have z2 := cellB hb x2
        have z3 := cellB hb x3
        obtain ⟨y, hy⟩ : ∃ y, fs.getD k 0 = y := ⟨_, rfl⟩
        rw [hy] at g
        have HOk := Lib.hid (show plOk s b m.toNat fs k = (plHas (plBl s b m.toNat) y && !plHas (fs.take k) y) by rw [plOk, hy])
        have HBW := Lib.hid hbw
        have HBr := Lib.hid hb
        have HRR := Lib.hid (show Row w bb oo fs from R)
        have i1 : (0 : Int) ≤ k := by omega
        have i2 : (k : Int) < n := by omega
        clear hy hb hbw R S x0 x1 x2 x3
        cases hp : plHas (plBl s b m.toNat) y with
        | false =>
          have HP := Lib.hid hp
          have HX := Lib.hid (plRef_not (s := s) (b := b) (m := m) (fs := fs) (k := k) (by rw [Hn.out]; exact hlt) (by rw [HOk.out, hp]; rfl))
          clear hp
          go_wp2_with (go_at_call 28; refine (plFirst_any s b m _ _ _ y _ HF.out).mono ?_; rw [HP.out]; rintro e w3 ⟨rfl, hb3⟩; have HB3 := Lib.hid (below_from HBW.out hb3); clear hb3)
          go_ret
          exact boolPost_mk HX.out HB3.out
        | true =>
          have HP := Lib.hid hp
          clear hp
          go_wp2_with fail
          refine (plFirst_any s b m _ _ _ y _ HF.out).mono ?_
          rw [HP.out]
          rintro e w3 ⟨rfl, hb3⟩
          have HB3 := Lib.hid (below_from HBW.out hb3)
          have HB3W := Lib.hid (HBr.out.trans (hb3.mono HBr.out.size))
          have y3 := cellB hb3 z3
          have HSk := Lib.hid (show Sl w3 (some ⟨bb, oo, none⟩) k (fs.take k) from ⟨by rw [List.length_take, Hn.out]; omega, .inr ⟨bb, oo, rfl, fun i hi => by
            rw [List.length_take, Hn.out] at hi
            rw [cellB HB3.out (HRR.out i (by rw [Hn.out]; omega))]
            simp [List.getD_eq_getElem?_getD, show i < k by omega]⟩⟩)
          clear hb3 z0 z1 z2 z3 g
          cases hh : plHas (fs.take k) y with
          | true =>
            have HH := Lib.hid hh
            have HX := Lib.hid (plRef_not (s := s) (b := b) (m := m) (fs := fs) (k := k) (by rw [Hn.out]; exact hlt) (by rw [HOk.out, hh, HP.out]; rfl))
            clear hh
            go_wp2_with (go_at_call 22; refine (plHas_any _ k c (fs.take k) y _ HSk.out (by omega)).mono ?_; rw [HH.out]; rintro e w4 ⟨rfl, rfl⟩)
            go_ret
            exact boolPost_mk HX.out HB3.out
          | false =>
            have HH := Lib.hid hh
            have HX := Lib.hid (plOkTo_succ hr.out (by rw [HOk.out, hh, HP.out]; rfl))
            clear hh
            go_wp2_with (go_at_call 22; refine (plHas_any _ k c (fs.take k) y _ HSk.out (by omega)).mono ?_; rw [HH.out]; rintro e w4 ⟨rfl, hw4⟩; have hw5 := hw4.symm; clear hw4; subst hw5)
            go_roundw
            case rel => exact ⟨k + 1, by omega, by go_num, HX.out, HB3W.out⟩
            case measure => simp [intOf]; omega
      · obtain rfl : k = n := by omega
        have HX := Lib.hid (plRef_all HF.out (by rw [Hn.out]; exact hr.out))
        have HBW := Lib.hid (HB.out.trans (hb.mono HB.out.size))
        clear hb
        go_wp2
        go_ret
        exact boolPost_mk HX.out HBW.out
end Go.Proofs.Ytnkhgofpdgnemaa
