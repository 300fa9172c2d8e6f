/- Contracts of package pool: held, Right; slices.Clone of integers. -/
import Derived.Test.YtnkhgofpdgnemaaPlC
import Derived.Deep.RegionHeld3
import Derived.Test.YtnkhgofpdgnemaaRv
import Derived.Test.YtnkhgofpdgnemaaStp7
namespace Go.Proofs.Ytnkhgofpdgnemaa
open Go.ChangeShapes Go.WideShapes Go.ChangeAt Go.RowKit

/-- a row of the call's own is handed back -/
def PlOwn (ys : List Int) (w : World) (e : Ending) (w' : World) : Prop := ∃ v, e = .returned v ∧ w'.ownsRow w.heap.size 3 1 v ys.length (ys.map (Value.int .i64)) ∧ Below w.heap.size w w'
theorem pl_own_le {W : World} {B B' : Nat} {e : TypeId} {size : Nat} {v : Value} {n : Nat} {xs : List Value} (h : W.ownsRow B e size v n xs) (hb : B' ≤ B) : W.ownsRow B' e size v n xs :=
  ⟨h.1, h.2.imp id fun ⟨g, cap, cur, h1, h2, h3⟩ => ⟨g, cap, cur, h1, Nat.le_trans hb h2, h3⟩⟩
theorem pl_own_form {W : World} {B : Nat} {e : TypeId} {size : Nat} {v : Value} {n : Nat} {xs : List Value} (h : W.ownsRow B e size v n xs) : ∃ a c, v = .slice a n c := by
  rcases h.2 with ⟨rfl, rfl⟩ | ⟨g, cap, cur, rfl, _⟩
  · exact ⟨_, _, rfl⟩
  · exact ⟨_, _, rfl⟩

theorem pl_below_alloc {w0 W wx : World} {o : Obj} (h : Below w0.heap.size w0 W) (hw : wx = W.alloc o) : Below w0.heap.size w0 wx := by subst hw; exact h.alloc h.size o
theorem pl_below_from {w0 W wx : World} (h : Below w0.heap.size w0 W) (hw : Below W.heap.size W wx) : Below w0.heap.size w0 wx := h.trans (hw.mono h.size)

set_option maxHeartbeats 4000000 in
theorem plHeld_any (s b m : Int) (a : Option Addr) (n c : Nat) (fs : List Int) (w : World) (hf : plFit s b m = true) (S : Sl w a n fs) (hn : n ≤ 1000) :
    Calls Try.prog 27 #[.agg #[.int .i64 s, .int .i64 b, .int .i64 m, .slice a n c]] w (PlOwn (plHeld s b m.toNat fs) w) := by
  have hm0 : 0 ≤ m := (plFit_iff.1 hf).2.2.1
  have Hf := Lib.hid (show plFit s b (m.toNat : Int) = true by rw [Int.toNat_of_nonneg hm0]; exact hf)
  have HM := Lib.hid hm0
  clear hf
  go_enter Try.func27, Try.ntmps27
  go_wp2_with fail
  obtain ⟨w0, hw0⟩ : ∃ w0, w.alloc (.cells #[.int .i64 s, .int .i64 b, .int .i64 m, .slice a n c] 24) = w0 := ⟨_, rfl⟩
  have c0 : w0.cell? ⟨w.heap.size, 0, none⟩ = some (.int .i64 s) := by rw [← hw0]; exact cell_new _ _ _ rfl rfl
  have c1 : w0.cell? ⟨w.heap.size, 1, none⟩ = some (.int .i64 b) := by rw [← hw0]; exact cell_new _ _ _ rfl rfl
  have c2 : w0.cell? ⟨w.heap.size, 2, none⟩ = some (.int .i64 m) := by rw [← hw0]; exact cell_new _ _ _ rfl rfl
  have c3 : w0.cell? ⟨w.heap.size, 3, none⟩ = some (.slice a n c) := by rw [← hw0]; exact cell_new _ _ _ rfl rfl
  have hB0 : Below w.heap.size w w0 := by rw [← hw0]; go_grown
  have HB0 := Lib.hid hB0
  have HS := Lib.hid (slB hB0 S)
  rw [hw0]
  clear hw0 hB0 hm0
  have hB1 : Below w0.heap.size w0 w0.drew := (Below.refl _ _).drew
  go_region_held3 (fun w' => w'.cell? ⟨w.heap.size, 0, none⟩ = some (.int .i64 s) ∧ w'.cell? ⟨w.heap.size, 1, none⟩ = some (.int .i64 b) ∧ w'.cell? ⟨w.heap.size, 2, none⟩ = some (.int .i64 m) ∧ w'.cell? ⟨w.heap.size, 3, none⟩ = some (.slice a n c) ∧ Below w0.heap.size w0 w')
    (first | exact ⟨c0, c1, c2, c3, (Below.refl _ _).drew⟩ | exact ⟨cellB (by assumption) c0, cellB (by assumption) c1, cellB (by assumption) c2, cellB (by assumption) c3, by assumption⟩)
    ((first | (go_at_call 24; refine (plBlocks_any s b m a n c _).mono ?_; rintro e wx ⟨rfl, hwx⟩; have hX : PlBox s b m.toNat _ wx := (by rw [hwx]; exact plBox_new HM.out _ _ rfl); have hbx' := pl_below_alloc (by assumption) hwx; clear hwx) | (go_at_call 34; refine (plWithout_any s b m.toNat _ a n c fs _ Hf.out (by assumption) (slB (by assumption) HS.out) (by omega)).mono ?_; rintro e wy ⟨v, rfl, hrow, hby⟩; have hby' := pl_below_from (by assumption) hby; have hown := pl_own_le hrow (Below.size (by assumption)); clear hrow hby)))
  have HO := Lib.hid (pl_own_le hown HB0.out.size)
  have HB := Lib.hid (HB0.out.trans (hby'.mono HB0.out.size))
  obtain ⟨q, d, rfl⟩ := pl_own_form hown
  clear hown hby' hX hbx' hB1 c0 c1 c2 c3
  go_wp2
  go_ret
  exact ⟨_, rfl, HO.out, HB.out⟩

theorem pl_skip {P : Program} {ops : Array Oper} {o : Oper} {a : Act} {w : World} {K : Act → World → Prop} {Q : Exit → Act → World → Prop} {E : Prop} (hw : Region.wanted o (yielded ops a.tmps) = false) (h : E) : if Region.wanted o (yielded ops a.tmps) = true then Oper.wp P o a w K Q else E := by
  rw [if_neg (by simp [hw])]; exact h
theorem pl_unwanted {ops : Array Oper} {o : Oper} {a : Act} {j t : Nat} {b b' : Bool} (hg : o.guard = some (j, b)) (ht : a.tmps[t]?.getD undef = .bool b') (hd : ((ops[j]?).bind (·.dst)) = some t) (hb : (b' == b) = false := by rfl) : Region.wanted o (yielded ops a.tmps) = false := by
  have e : a.tmps[t]? = some (.bool b') := by
    cases h : a.tmps[t]? with
    | none => rw [h] at ht; simp [undef] at ht
    | some v => rw [h] at ht; simp at ht; rw [ht]
  simp only [Region.wanted, hg, yielded, hd, Option.bind_some, e]
  simpa using hb

set_option maxHeartbeats 4000000 in
theorem plRight_any (s b m : Int) (a : Option Addr) (n c : Nat) (fs : List Int) (w : World) (S : Sl w a n fs) (hn : n ≤ 1000) :
    Calls Try.prog 9 #[.agg #[.int .i64 s, .int .i64 b, .int .i64 m, .slice a n c]] w (BoolPost (plRight s b m fs) w) := by
  have Hn := Lib.hid S.1
  obtain ⟨w0, hw0⟩ : ∃ w0, w.alloc (.cells #[.int .i64 s, .int .i64 b, .int .i64 m, .slice a n c] 24) = w0 := ⟨_, rfl⟩
  have c0 : w0.cell? ⟨w.heap.size, 0, none⟩ = some (.int .i64 s) := by rw [← hw0]; exact cell_new _ _ _ rfl rfl
  have c1 : w0.cell? ⟨w.heap.size, 1, none⟩ = some (.int .i64 b) := by rw [← hw0]; exact cell_new _ _ _ rfl rfl
  have c2 : w0.cell? ⟨w.heap.size, 2, none⟩ = some (.int .i64 m) := by rw [← hw0]; exact cell_new _ _ _ rfl rfl
  have c3 : w0.cell? ⟨w.heap.size, 3, none⟩ = some (.slice a n c) := by rw [← hw0]; exact cell_new _ _ _ rfl rfl
  have hB0 : Below w.heap.size w w0 := by rw [← hw0]; go_grown
  have HB0 := Lib.hid hB0
  have HS := Lib.hid (slB hB0 S)
  have HW := Lib.hid hw0
  clear hw0 hB0 S
  cases hf : plFit s b m with
  | false =>
    have HF := Lib.hid hf
    have HR := Lib.hid (show plRight s b m fs = false by simp [plRight, hf])
    clear hf
    have hB1 : Below w0.heap.size w0 w0.drew := (Below.refl _ _).drew
    go_enter Try.func9, Try.ntmps9
    go_wp2_with fail
    rw [HW.out]
    refine wp_vals [some 3, some 4, some 5, some 6, some 7, some 8, some 9, some 10, some 11, some 12, some 13, some 14, some 15, some 16, some 2] (Below w0.heap.size w0) (VL [.agg #[.int .i64 s, .int .i64 b, .int .i64 m, .slice a n c], .bool false, .bool false, undef, undef, undef, undef, undef, undef, undef, undef, undef, undef, .bool false, .bool false] 99 (fun _ => True)) (by kernel_rfl) (by kernel_rfl) (by decide) rfl hB1 ?_ ?_
    · show StepsL _ _ _ _ _ _ _
      refine InvV.cons rfl rfl rfl rfl (fun a1 vals w1 C K hK => ?_) ?_
      · have e0 : a1.tmps[1]?.getD undef = .pointer (some ⟨w.heap.size, 0, none⟩) := (eval_tmp a1 1).trans (C.old 1 rfl)
        have d0 := cellB C.base c0; have d1 := cellB C.base c1; have d2 := cellB C.base c2; have d3 := cellB C.base c3
        refine step_any rfl (wp_run (v := .agg #[.int .i64 s, .int .i64 b, .int .i64 m, .slice a n c]) ?_ (vl_same hK C rfl rfl))
        simp [execOp, go_sem, e0, d0, d1, d2, d3]
      refine InvV.cons rfl rfl rfl rfl (fun a1 vals w1 C K hK => ?_) ?_
      · have e0 : a1.eval (.tmp 3) = .agg #[.int .i64 s, .int .i64 b, .int .i64 m, .slice a n c] := got C 0 3 rfl rfl rfl rfl
        have h0 := plFits_any s b m a n c w1
        rw [HF.out] at h0
        refine step_any rfl (wp_calls _ _ _ rfl 26 rfl [.agg #[.int .i64 s, .int .i64 b, .int .i64 m, .slice a n c]] (by simp [e0]) (by kernel_rfl) (h0.mono ?_))
        rintro e w2 ⟨rfl, hb2⟩
        exact ⟨_, rfl, vl_put hK rfl rfl (pl_below_from C.base hb2) (fun h => h)⟩
      refine InvV.cons rfl rfl rfl rfl (fun a1 vals w1 C K hK => ?_) ?_
      · have e0 : a1.tmps[4]?.getD undef = .bool false := gotT C 1 4 rfl rfl rfl rfl
        refine step_any rfl (wp_run (v := .bool false) ?_ (vl_same hK C rfl rfl))
        simp [execOp, go_sem, e0]
      refine InvV.cons rfl rfl rfl rfl (fun a1 vals w1 C K hK => ?_) ?_
      · exact pl_skip (pl_unwanted rfl (gotT C 2 5 rfl rfl rfl rfl) rfl) (vl_same hK C rfl rfl)
      refine InvV.cons rfl rfl rfl rfl (fun a1 vals w1 C K hK => ?_) ?_
      · exact pl_skip (pl_unwanted rfl (gotT C 2 5 rfl rfl rfl rfl) rfl) (vl_same hK C rfl rfl)
      refine InvV.cons rfl rfl rfl rfl (fun a1 vals w1 C K hK => ?_) ?_
      · exact pl_skip (pl_unwanted rfl (gotT C 2 5 rfl rfl rfl rfl) rfl) (vl_same hK C rfl rfl)
      refine InvV.cons rfl rfl rfl rfl (fun a1 vals w1 C K hK => ?_) ?_
      · exact pl_skip (pl_unwanted rfl (gotT C 2 5 rfl rfl rfl rfl) rfl) (vl_same hK C rfl rfl)
      refine InvV.cons rfl rfl rfl rfl (fun a1 vals w1 C K hK => ?_) ?_
      · exact pl_skip (pl_unwanted rfl (gotT C 2 5 rfl rfl rfl rfl) rfl) (vl_same hK C rfl rfl)
      refine InvV.cons rfl rfl rfl rfl (fun a1 vals w1 C K hK => ?_) ?_
      · exact pl_skip (pl_unwanted rfl (gotT C 2 5 rfl rfl rfl rfl) rfl) (vl_same hK C rfl rfl)
      refine InvV.cons rfl rfl rfl rfl (fun a1 vals w1 C K hK => ?_) ?_
      · exact pl_skip (pl_unwanted rfl (gotT C 2 5 rfl rfl rfl rfl) rfl) (vl_same hK C rfl rfl)
      refine InvV.cons rfl rfl rfl rfl (fun a1 vals w1 C K hK => ?_) ?_
      · exact pl_skip (pl_unwanted rfl (gotT C 2 5 rfl rfl rfl rfl) rfl) (vl_same hK C rfl rfl)
      refine InvV.cons rfl rfl rfl rfl (fun a1 vals w1 C K hK => ?_) ?_
      · exact pl_skip (pl_unwanted rfl (gotT C 2 5 rfl rfl rfl rfl) rfl) (vl_same hK C rfl rfl)
      refine InvV.cons rfl rfl rfl rfl (fun a1 vals w1 C K hK => ?_) ?_
      · exact pl_skip (pl_unwanted rfl (gotT C 2 5 rfl rfl rfl rfl) rfl) (vl_same hK C rfl rfl)
      refine InvV.cons rfl rfl rfl rfl (fun a1 vals w1 C K hK => ?_) ?_
      · have e0 : a1.tmps[5]?.getD undef = .bool false := gotT C 2 5 rfl rfl rfl rfl
        refine step_any rfl (wp_run (v := .bool false) ?_ (vl_same hK C rfl rfl))
        simp [execOp, go_sem, e0]
      refine InvV.cons rfl rfl rfl rfl (fun a1 vals w1 C K hK => ?_) ?_
      · have e0 : a1.tmps[16]?.getD undef = .bool false := gotT C 13 16 rfl rfl rfl rfl
        refine step_any rfl (wp_run (v := .bool false) ?_ (vl_same hK C rfl rfl))
        simp [execOp, go_sem, e0]
      exact StepsL.nil
    · intro vals wx hbx' hv
      have hv14 : vals 14 = .bool false := vl_is (hv 14 (by decide)) rfl
      have HX := Lib.hid (HB0.out.trans (hbx'.mono HB0.out.size))
      simp only [putL, Act.put, List.setIfInBounds_toArray, List.set_cons_zero, List.set_cons_succ, hv14]
      clear hbx' hB1 hv
      go_wp2
      go_ret
      exact boolPost_mk HR.out HX.out
  | true =>
    have HF := Lib.hid hf
    obtain ⟨L, hL⟩ : ∃ L, (plHeld s b m.toNat fs).length = L := ⟨_, rfl⟩
    have hmb := plFit_iff.1 hf
    have hm0 : 0 ≤ m := hmb.2.2.1
    have hL16 : L ≤ 16 := by have := plIn_add s b m.toNat fs; omega
    have HR := Lib.hid (show plRight s b m fs = decide ((L : Int) + n = m) by
      rw [plRight, hf, hL, Hn.out, Bool.true_and, Bool.eq_iff_iff, decide_eq_true_eq, decide_eq_true_eq]; omega)
    have HL := Lib.hid hL
    clear hf hmb hm0 hL
    have hq : ((L : Int) + n == m) = decide ((L : Int) + n = m) := by rw [Bool.eq_iff_iff]; simp
    have hB1 : Below w0.heap.size w0 w0.drew := (Below.refl _ _).drew
    go_enter Try.func9, Try.ntmps9
    go_wp2_with fail
    rw [HW.out]
    go_region_held3 (fun w' => w'.cell? ⟨w.heap.size, 0, none⟩ = some (.int .i64 s) ∧ w'.cell? ⟨w.heap.size, 1, none⟩ = some (.int .i64 b) ∧ w'.cell? ⟨w.heap.size, 2, none⟩ = some (.int .i64 m) ∧ w'.cell? ⟨w.heap.size, 3, none⟩ = some (.slice a n c) ∧ Below w0.heap.size w0 w')
      (first | exact ⟨c0, c1, c2, c3, (Below.refl _ _).drew⟩ | exact ⟨cellB (by assumption) c0, cellB (by assumption) c1, cellB (by assumption) c2, cellB (by assumption) c3, by assumption⟩)
      ((first | (go_at_call 26; refine (plFits_any s b m a n c _).mono ?_; rw [HF.out]; rintro e wx ⟨rfl, hbx⟩; have hbx' := pl_below_from (by assumption) hbx; clear hbx) | (go_at_call 27; refine (plHeld_any s b m a n c fs _ HF.out (slB (by assumption) HS.out) hn).mono ?_; rintro e wy ⟨v, rfl, hrow, hby⟩; have hby' := pl_below_from (by assumption) hby; rw [HL.out] at hrow; obtain ⟨q, d, rfl⟩ := pl_own_form hrow; clear hrow hby)))
    have HX := Lib.hid (HB0.out.trans (hby'.mono HB0.out.size))
    have hw : IntKind.i64.wrap ((L : Int) + n) = (L : Int) + n := IntWalk.i64_in _ (by omega)
    rw [hw, hq]
    clear hbx' hby' hB1
    go_wp2
    go_ret
    exact boolPost_mk HR.out HX.out
end Go.Proofs.Ytnkhgofpdgnemaa
