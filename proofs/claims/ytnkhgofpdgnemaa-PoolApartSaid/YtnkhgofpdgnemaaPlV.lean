/- The law PoolMakes, walked. -/
import Derived.Test.YtnkhgofpdgnemaaPlU
namespace Go.Proofs.Ytnkhgofpdgnemaa
open Go.ChangeShapes Go.WideShapes Go.ChangeAt Go.RowKit Gen

theorem pl_sl_take {w : World} {a : Option Addr} {n k : Nat} {fs : List Int} (S : Sl w a n fs) (hk : k ≤ n) : Sl w a k (fs.take k) := by
  have hn := S.1
  refine ⟨by rw [List.length_take]; omega, ?_⟩
  by_cases h0 : k = 0
  · exact .inl h0
  · obtain ⟨b, o, e, R⟩ := S.2.resolve_left (by omega)
    refine .inr ⟨b, o, e, fun i hi => ?_⟩
    rw [List.length_take] at hi
    rw [R i (by omega)]
    simp [List.getD_eq_getElem?_getD, show i < k by omega]
theorem pl_cap_take {a : Option Addr} {n k c : Nat} (C : CapOk a n c) (hk : k ≤ n) : CapOk a k c := ⟨Nat.le_trans hk C.1, C.2.1, C.2.2⟩
theorem pl_sl_len {w : World} {a : Option Addr} {n k : Nat} {fs : List Int} (hk : n = k) (S : Sl w a n fs) : Sl w a k fs := by subst hk; exact S
theorem plSame_self (p : Pl4) : plSame p p = true := by
  have : sameB p.fs p.fs = true := by simp [sameB]
  simp [plSame, this]
theorem plRight_rev {s b m : Int} (hf : plFit s b m = true) : plRight s b m (plBl s b m.toNat).reverse = true :=
  plRight_iff.2 ⟨hf, plGood_rev (plFit_iff.1 hf).1 _⟩

set_option maxRecDepth 100000 in
set_option maxHeartbeats 8000000 in
theorem PoolMakes_walk (s b m ps pb pm : Int) (a : Option Addr) (n c : Nat) (fs : List Int) (w : World) (S : Sl w a n fs) (hcap : CapOk a n c) :
    Calls Try.prog 3 #[.int .i64 s, .int .i64 b, .int .i64 m, .agg #[.int .i64 ps, .int .i64 pb, .int .i64 pm, .slice a n c]] w fun e w' => e = .returned (.bool true) ∧ Below w.heap.size w w' := by
  have hA := varN_new [.int .i64 ps, .int .i64 pb, .int .i64 pm, .slice a n c] (t := 24) (w := w) w.heap.size rfl
  obtain ⟨k, hk⟩ : ∃ k, min n 20 = k := ⟨_, rfl⟩
  have hk1 : k ≤ n := by omega
  have hk2 : k ≤ 20 := by omega
  have HA0 := Lib.hid hA
  have HB0 := Lib.hid (show Below w.heap.size w (w.alloc (.cells #[.int .i64 ps, .int .i64 pb, .int .i64 pm, .slice a n c] 24)) by go_grown)
  obtain ⟨gs, hgs⟩ : ∃ gs, fs.take k = gs := ⟨_, rfl⟩
  have HS := Lib.hid (show Sl w a k gs by rw [← hgs]; exact pl_sl_take S hk1)
  have HC := Lib.hid (pl_cap_take hcap hk1)
  obtain ⟨r, hr⟩ : ∃ r, plRight ps pb pm gs = r := ⟨_, rfl⟩
  have HR := Lib.hid hr
  have HR2 := Lib.hid ((plRight_ref ps pb pm gs).symm.trans hr)
  have hrr : (r != r) = false := by simp
  clear hA hr hgs S
  go_enter Try.func3, Try.ntmps3
  go_wp2_with fail
  refine (plFew_any ps pb pm a n c hcap _).mono ?_
  rintro e w1 ⟨rfl, hb⟩
  rw [hk]
  have HA1 := Lib.hid (varN_B hb HA0.out)
  have HB1 := Lib.hid (below_from HB0.out hb)
  obtain ⟨x0, f0⟩ := HA1.out 0 _ rfl
  obtain ⟨x1, f1⟩ := HA1.out 1 _ rfl
  obtain ⟨x2, f2⟩ := HA1.out 2 _ rfl
  obtain ⟨x3, f3⟩ := HA1.out 3 _ rfl
  clear hb hk hcap
  go_upto_region 2 with fail
  obtain ⟨w2, hw2⟩ : ∃ w2, (((w1.setCell ⟨w.heap.size, 0, none⟩ (.int .i64 ps)).setCell ⟨w.heap.size, 1, none⟩ (.int .i64 pb)).setCell ⟨w.heap.size, 2, none⟩ (.int .i64 pm)).setCell ⟨w.heap.size, 3, none⟩ (.slice a k c) = w2 := ⟨_, rfl⟩
  rw [hw2]
  have HA2 := Lib.hid (show VarN w2 w.heap.size [.int .i64 ps, .int .i64 pb, .int .i64 pm, .slice a k c] by rw [← hw2]; exact varN_all HA1.out rfl)
  have HB2 := Lib.hid (show Below w.heap.size w w2 by rw [← hw2]; exact pl_below4 (Nat.le_refl _) HB1.out)
  clear hw2 x0 f0 x1 f1 x2 f2 x3 f3
  go_wp2_with fail
  cases hf : plFit s b m with
  | false =>
    have HF := Lib.hid hf
    have HT := Lib.hid (show plNew s b m = (pl0, 1) by simp [plNew, hf])
    clear hf
    refine (plNew_any s b m _).mono ?_
    rw [HT.out]
    rintro e w3 ⟨q, d, rfl, hcd, hsq, hb3⟩
    have hsq : SlF w2.heap.size w3 q 0 [] := hsq
    dsimp only [pl0, List.length_nil]
    obtain ⟨w4, hw4⟩ : ∃ w4, w3.alloc (.cells #[.int .i64 0, .int .i64 0, .int .i64 0, .slice q 0 d] 24) = w4 := ⟨_, rfl⟩
    have hs4 : w3.heap.size < w4.heap.size := by rw [← hw4]; simp
    have hb4 : Below w2.heap.size w2 w4 := by rw [← hw4]; exact hb3.alloc hb3.size _
    have HN4 := Lib.hid (show VarN w4 w3.heap.size [.int .i64 0, .int .i64 0, .int .i64 0, .slice q 0 d] by rw [← hw4]; exact varN_new [.int .i64 0, .int .i64 0, .int .i64 0, .slice q 0 d] _ rfl)
    have HQ4 := Lib.hid (show SlF w2.heap.size w4 q 0 [] by rw [← hw4]; exact slF_alloc _ hsq)
    have HB4 := Lib.hid (HB2.out.trans (hb4.mono HB2.out.size))
    have HA4 := Lib.hid (varN_B hb4 HA2.out)
    have HW4 := Lib.hid hw4
    clear hw4 hb4 hb3 hsq hcd
    go_upto_region 3 with fail
    rw [HW4.out]
    obtain ⟨y0, -⟩ := HA4.out 0 _ rfl
    obtain ⟨y1, -⟩ := HA4.out 1 _ rfl
    obtain ⟨y2, -⟩ := HA4.out 2 _ rfl
    obtain ⟨y3, -⟩ := HA4.out 3 _ rfl
    have hB0 : Below w4.heap.size w4 w4.drew := (Below.refl _ _).drew
    go_region_held3 (fun w' => w'.cell? ⟨w.heap.size, 0, none⟩ = some (.int .i64 ps) ∧ w'.cell? ⟨w.heap.size, 1, none⟩ = some (.int .i64 pb) ∧ w'.cell? ⟨w.heap.size, 2, none⟩ = some (.int .i64 pm) ∧ w'.cell? ⟨w.heap.size, 3, none⟩ = some (.slice a k c) ∧ Below w4.heap.size w4 w')
      (first | exact ⟨y0, y1, y2, y3, (Below.refl _ _).drew⟩ | exact ⟨cellB (by assumption) y0, cellB (by assumption) y1, cellB (by assumption) y2, cellB (by assumption) y3, by assumption⟩)
      ((first | (go_at_call 9; refine (plRight_any ps pb pm a k c gs _ (slB (pl_below_from HB4.out (by assumption)) HS.out) (by omega)).mono ?_; rw [HR.out]; rintro e wx ⟨rfl, hbx⟩; have hbx' := pl_below_from (by assumption) hbx; clear hbx) | (go_at_call 10; refine (plRefRight_any ps pb pm a k c gs _ (slB (pl_below_from HB4.out (by assumption)) HS.out) (by omega) HC.out).mono ?_; rw [HR2.out]; rintro e wx ⟨rfl, hbx⟩; have hbx' := pl_below_from (by assumption) hbx; clear hbx) | (go_at_call 11; refine (plAlive_any _).mono ?_; rintro e wz ⟨rfl, hbz⟩; have hbz' := pl_below_from (by assumption) hbz; clear hbz)))
    have HZW := Lib.hid (HB4.out.trans (hbz'.mono HB4.out.size))
    have HNz := Lib.hid (varN_B hbz' HN4.out)
    have HQz := Lib.hid (slF_below hbz' HQ4.out)
    clear hbz' hbx' hB0 y0 y1 y2 y3
    obtain ⟨v0, -⟩ := HNz.out 0 _ rfl
    obtain ⟨v1, -⟩ := HNz.out 1 _ rfl
    obtain ⟨v2, -⟩ := HNz.out 2 _ rfl
    obtain ⟨v3, -⟩ := HNz.out 3 _ rfl
    go_wp2_with fail
    refine (plSizes_any s b m _).mono ?_
    rw [HF.out]
    rintro e wy ⟨rfl, hwy⟩
    have hwy2 := hwy.symm
    clear hwy
    subst hwy2
    go_wp2_with fail
    refine (plSame_any 0 0 0 0 0 0 q none 0 d 0 0 [] [] _ HQz.out.sl (sl_nil _) (by omega)).mono ?_
    rw [plSame_self]
    rintro e wt ⟨rfl, hbt⟩
    have HT2 := Lib.hid (HZW.out.trans (hbt.mono HZW.out.size))
    clear hbt
    go_wp2
    go_ret
    exact ⟨rfl, HT2.out⟩
  | true =>
    have HF := Lib.hid hf
    have HT := Lib.hid (show plNew s b m = (⟨s, b, m, (plBl s b m.toNat).reverse⟩, 0) by simp [plNew, hf])
    clear hf
    refine (plNew_any s b m _).mono ?_
    rw [HT.out]
    rintro e w3 ⟨q, d, rfl, hcd, hsq, hb3⟩
    have hlr : (plBl s b m.toNat).reverse.length = m.toNat := by rw [List.length_reverse, plBl_length]
    have hsq : SlF w2.heap.size w3 q (plBl s b m.toNat).reverse.length (plBl s b m.toNat).reverse := hsq
    have hcd : CapOk q (plBl s b m.toNat).reverse.length d := hcd
    dsimp only
    rw [hlr] at hsq hcd ⊢
    obtain ⟨N, hN⟩ : ∃ N, m.toNat = N := ⟨_, rfl⟩
    rw [hN] at hsq hcd ⊢
    obtain ⟨w4, hw4⟩ : ∃ w4, w3.alloc (.cells #[.int .i64 s, .int .i64 b, .int .i64 m, .slice q N d] 24) = w4 := ⟨_, rfl⟩
    have hs4 : w3.heap.size < w4.heap.size := by rw [← hw4]; simp
    have hb4 : Below w2.heap.size w2 w4 := by rw [← hw4]; exact hb3.alloc hb3.size _
    have HN4 := Lib.hid (show VarN w4 w3.heap.size [.int .i64 s, .int .i64 b, .int .i64 m, .slice q N d] by rw [← hw4]; exact varN_new [.int .i64 s, .int .i64 b, .int .i64 m, .slice q N d] _ rfl)
    have HQ4 := Lib.hid (show SlF w2.heap.size w4 q N (plBl s b N).reverse by rw [← hw4]; exact slF_alloc _ hsq)
    have HB4 := Lib.hid (HB2.out.trans (hb4.mono HB2.out.size))
    have HA4 := Lib.hid (varN_B hb4 HA2.out)
    have HW4 := Lib.hid hw4
    have HC4 := Lib.hid hcd
    clear hw4 hb4 hb3 hsq hcd
    go_upto_region 3 with fail
    rw [HW4.out]
    obtain ⟨y0, -⟩ := HA4.out 0 _ rfl
    obtain ⟨y1, -⟩ := HA4.out 1 _ rfl
    obtain ⟨y2, -⟩ := HA4.out 2 _ rfl
    obtain ⟨y3, -⟩ := HA4.out 3 _ rfl
    have hB0 : Below w4.heap.size w4 w4.drew := (Below.refl _ _).drew
    go_region_held3 (fun w' => w'.cell? ⟨w.heap.size, 0, none⟩ = some (.int .i64 ps) ∧ w'.cell? ⟨w.heap.size, 1, none⟩ = some (.int .i64 pb) ∧ w'.cell? ⟨w.heap.size, 2, none⟩ = some (.int .i64 pm) ∧ w'.cell? ⟨w.heap.size, 3, none⟩ = some (.slice a k c) ∧ Below w4.heap.size w4 w')
      (first | exact ⟨y0, y1, y2, y3, (Below.refl _ _).drew⟩ | exact ⟨cellB (by assumption) y0, cellB (by assumption) y1, cellB (by assumption) y2, cellB (by assumption) y3, by assumption⟩)
      ((first | (go_at_call 9; refine (plRight_any ps pb pm a k c gs _ (slB (pl_below_from HB4.out (by assumption)) HS.out) (by omega)).mono ?_; rw [HR.out]; rintro e wx ⟨rfl, hbx⟩; have hbx' := pl_below_from (by assumption) hbx; clear hbx) | (go_at_call 10; refine (plRefRight_any ps pb pm a k c gs _ (slB (pl_below_from HB4.out (by assumption)) HS.out) (by omega) HC.out).mono ?_; rw [HR2.out]; rintro e wx ⟨rfl, hbx⟩; have hbx' := pl_below_from (by assumption) hbx; clear hbx) | (go_at_call 11; refine (plAlive_any _).mono ?_; rintro e wz ⟨rfl, hbz⟩; have hbz' := pl_below_from (by assumption) hbz; clear hbz)))
    have HZW := Lib.hid (HB4.out.trans (hbz'.mono HB4.out.size))
    have HNz := Lib.hid (varN_B hbz' HN4.out)
    have HQz := Lib.hid (slF_below hbz' HQ4.out)
    clear hbz' hbx' hB0 y0 y1 y2 y3
    obtain ⟨v0, -⟩ := HNz.out 0 _ rfl
    obtain ⟨v1, -⟩ := HNz.out 1 _ rfl
    obtain ⟨v2, -⟩ := HNz.out 2 _ rfl
    obtain ⟨v3, -⟩ := HNz.out 3 _ rfl
    go_wp2_with fail
    refine (plSizes_any s b m _).mono ?_
    rw [HF.out]
    rintro e wy ⟨rfl, hwy⟩
    have hwy2 := hwy.symm
    clear hwy
    subst hwy2
    have HRt := Lib.hid (show plRight s b m (plBl s b N).reverse = true by rw [← hN]; exact plRight_rev HF.out)
    have hBz : Below wz.heap.size wz wz.drew := (Below.refl _ _).drew
    have HNW := Lib.hid (show m.toNat = N from hN)
    have hN16 : N ≤ 16 := by have := (plFit_iff.1 HF.out).2.2.2.1; have := HNW.out; omega
    clear hN hlr
    go_upto_region 7 with fail
    go_region_held3 (fun w' => w'.cell? ⟨w3.heap.size, 0, none⟩ = some (.int .i64 s) ∧ w'.cell? ⟨w3.heap.size, 1, none⟩ = some (.int .i64 b) ∧ w'.cell? ⟨w3.heap.size, 2, none⟩ = some (.int .i64 m) ∧ w'.cell? ⟨w3.heap.size, 3, none⟩ = some (.slice q N d) ∧ Below wz.heap.size wz w')
      (first | exact ⟨v0, v1, v2, v3, (Below.refl _ _).drew⟩ | exact ⟨cellB (by assumption) v0, cellB (by assumption) v1, cellB (by assumption) v2, cellB (by assumption) v3, by assumption⟩)
      ((first | (go_at_call 14; refine (plRefNew_any s b m _ HF.out).mono ?_; rw [HNW.out]; rintro e wx ⟨q2, d2, rfl, hs2, hbx⟩; have hs3 : Sl wx q2 N (plBl s b N).reverse := pl_sl_len (by rw [List.length_reverse, plBl_length]) hs2.sl; rw [show (plBl s b N).reverse.length = N by rw [List.length_reverse, plBl_length]]; have hbx2 := pl_below_from (by assumption) hbx; clear hbx hs2) | (go_at_call 13; refine (plSame_any s b m s b m q q2 N d N d2 (plBl s b N).reverse (plBl s b N).reverse _ (slB (by assumption) HQz.out.sl) (by assumption) (by omega)).mono ?_; rw [plSame_self]; rintro e wu ⟨rfl, hbu⟩; have hbu2 := pl_below_from (by assumption) hbu; clear hbu) | (go_at_call 9; refine (plRight_any s b m q N d (plBl s b N).reverse _ (slB (by assumption) HQz.out.sl) (by omega)).mono ?_; rw [HRt.out]; rintro e wv ⟨rfl, hbv⟩; have hbv2 := pl_below_from (by assumption) hbv; clear hbv)))
    have HV := Lib.hid (HZW.out.trans (hbv2.mono HZW.out.size))
    clear hbv2 hbu2 hbx2 hBz
    go_wp2
    go_ret
    exact ⟨rfl, HV.out⟩
end Go.Proofs.Ytnkhgofpdgnemaa
