/- The law PoolLast, walked. -/
import Derived.Test.YtnkhgofpdgnemaaPlW
namespace Go.Proofs.Ytnkhgofpdgnemaa
open Go.ChangeShapes Go.WideShapes Go.ChangeAt Go.RowKit Gen

theorem plRight_snoc {s b m x : Int} {fs : List Int} (h : plRight s b m fs = true) (hx : plHas (plBl s b m.toNat) x = true) (hn : plHas fs x = false) : plRight s b m (fs ++ [x]) = true := by
  obtain ⟨h1, h2⟩ := plRight_iff.1 h
  exact plRight_iff.2 ⟨h1, plGood_snoc h2 (plHas_iff.1 hx) (plHas_not.1 hn)⟩
theorem plRight_take {s b m : Int} {fs : List Int} (k : Nat) (h : plRight s b m fs = true) : plRight s b m (fs.take k) = true := by
  obtain ⟨h1, h2⟩ := plRight_iff.1 h
  exact plRight_iff.2 ⟨h1, plGood_take k h2⟩
theorem plRight_len {s b m : Int} {fs : List Int} (h : plRight s b m fs = true) : fs.length ≤ 16 := by
  obtain ⟨h1, h2⟩ := plRight_iff.1 h
  have := plGood_length h2
  have := (plFit_iff.1 h1).2.2.2.1
  omega
/-- what Give says when it does not refuse -/
theorem plGive_ok {s b m x : Int} {fs : List Int} (h : (plGive ⟨s, b, m, fs⟩ x).2 = 0) : plGive ⟨s, b, m, fs⟩ x = (⟨s, b, m, fs ++ [x]⟩, 0) ∧ plRight s b m fs = true ∧ plRight s b m (fs ++ [x]) = true := by
  unfold plGive at h ⊢
  by_cases h1 : plOkP ⟨s, b, m, fs⟩ = true
  · rw [if_pos h1] at h ⊢
    by_cases h2 : plHas (plBl s b m.toNat) x = true
    · rw [if_pos h2] at h ⊢
      cases h3 : plHas fs x with
      | true => simp [h3] at h
      | false => exact ⟨by simp, h1, plRight_snoc h1 h2 h3⟩
    · rw [if_neg h2] at h; simp at h
  · rw [if_neg h1] at h; simp at h
theorem plGive_err {s b m x : Int} {fs : List Int} (h : (plGive ⟨s, b, m, fs⟩ x).2 ≠ 0) : ∃ e, plGive ⟨s, b, m, fs⟩ x = (pl0, e) ∧ e ≠ 0 := by
  unfold plGive at h ⊢
  by_cases h1 : plOkP ⟨s, b, m, fs⟩ = true
  · rw [if_pos h1] at h ⊢
    by_cases h2 : plHas (plBl s b m.toNat) x = true
    · rw [if_pos h2] at h ⊢
      by_cases h3 : plHas fs x = true
      · rw [if_pos h3]; exact ⟨5, rfl, by omega⟩
      · rw [if_neg h3] at h; exact absurd rfl h
    · rw [if_neg h2]; exact ⟨3, rfl, by omega⟩
  · rw [if_neg h1]; exact ⟨1, rfl, by omega⟩
theorem plTake_snoc {s b m x : Int} {fs : List Int} (h : plRight s b m (fs ++ [x]) = true) : plTake ⟨s, b, m, fs ++ [x]⟩ = (⟨s, b, m, fs⟩, x, 0) := by
  unfold plTake
  rw [if_pos (show plOkP ⟨s, b, m, fs ++ [x]⟩ = true from h)]
  simp
theorem plTake_some {s b m : Int} {fs : List Int} {k : Nat} (h : plRight s b m fs = true) (hk : fs.length = k + 1) : plTake ⟨s, b, m, fs⟩ = (⟨s, b, m, fs.take k⟩, fs.getD k 0, 0) := by
  unfold plTake
  rw [if_pos (show plOkP ⟨s, b, m, fs⟩ = true from h)]
  simp [hk]
theorem plTake_none {s b m : Int} {fs : List Int} (h : plRight s b m fs = true) (hk : fs.length = 0) : plTake ⟨s, b, m, fs⟩ = (pl0, 0, 14) := by
  unfold plTake
  rw [if_pos (show plOkP ⟨s, b, m, fs⟩ = true from h)]
  simp [hk]

set_option maxRecDepth 100000 in
set_option maxHeartbeats 16000000 in
theorem PoolLast_walk (s b m x : Int) (a : Option Addr) (n c : Nat) (fs : List Int) (w : World) (S : Sl w a n fs) (hcap : CapOk a n c) :
    Calls Try.prog 6 #[.agg #[.int .i64 s, .int .i64 b, .int .i64 m, .slice a n c], .int .i64 x] w fun e w' => e = .returned (.bool true) ∧ Below w.heap.size w w' := by
  have hA := varN_new [.int .i64 s, .int .i64 b, .int .i64 m, .slice a n c] (t := 24) (w := w) w.heap.size rfl
  obtain ⟨k, hk⟩ : ∃ k, min n 20 = k := ⟨_, rfl⟩
  have hk1 : k ≤ n := by omega
  have hk2 : k ≤ 20 := by omega
  have HA0 := Lib.hid hA
  have HB0 := Lib.hid (show Below w.heap.size w (w.alloc (.cells #[.int .i64 s, .int .i64 b, .int .i64 m, .slice a n c] 24)) by go_grown)
  obtain ⟨gs, hgs⟩ : ∃ gs, fs.take k = gs := ⟨_, rfl⟩
  have HS := Lib.hid (show Sl w a k gs by rw [← hgs]; exact pl_sl_take S hk1)
  have HC := Lib.hid (pl_cap_take hcap hk1)
  have HL := Lib.hid (show gs.length = k from HS.out.1)
  clear hA hgs S
  go_enter Try.func6, Try.ntmps6
  go_wp2_with fail
  refine (plFew_any s b m a n c hcap _).mono ?_
  rintro e w1 ⟨rfl, hb⟩
  rw [hk]
  have HA1 := Lib.hid (varN_B hb HA0.out)
  have HB1 := Lib.hid (below_from HB0.out hb)
  obtain ⟨x0, f0⟩ := HA1.out 0 _ rfl
  obtain ⟨x1, f1⟩ := HA1.out 1 _ rfl
  obtain ⟨x2, f2⟩ := HA1.out 2 _ rfl
  obtain ⟨x3, f3⟩ := HA1.out 3 _ rfl
  clear hb hk hcap
  go_upto_region 2 with fail
  obtain ⟨w2, hw2⟩ : ∃ w2, (((w1.setCell ⟨w.heap.size, 0, none⟩ (.int .i64 s)).setCell ⟨w.heap.size, 1, none⟩ (.int .i64 b)).setCell ⟨w.heap.size, 2, none⟩ (.int .i64 m)).setCell ⟨w.heap.size, 3, none⟩ (.slice a k c) = w2 := ⟨_, rfl⟩
  rw [hw2]
  have HA2 := Lib.hid (show VarN w2 w.heap.size [.int .i64 s, .int .i64 b, .int .i64 m, .slice a k c] by rw [← hw2]; exact varN_all HA1.out rfl)
  have HB2 := Lib.hid (show Below w.heap.size w w2 by rw [← hw2]; exact pl_below4 (Nat.le_refl _) HB1.out)
  clear hw2 x0 f0 x1 f1 x2 f2 x3 f3
  obtain ⟨y0, -⟩ := HA2.out 0 _ rfl
  obtain ⟨y1, -⟩ := HA2.out 1 _ rfl
  obtain ⟨y2, -⟩ := HA2.out 2 _ rfl
  obtain ⟨y3, -⟩ := HA2.out 3 _ rfl
  go_wp2_with fail
  refine (plGive_any s b m a k c gs x _ (slB HB2.out HS.out) (by omega) HC.out).mono ?_
  rintro e w3 ⟨q2, d2, rfl, hcd, hs3, hb3⟩
  clear y0 y1 y2 y3
  by_cases he : (plGive ⟨s, b, m, gs⟩ x).2 = 0
  · obtain ⟨hg, hr0, hr⟩ := plGive_ok he
    rw [hg] at hs3 hcd ⊢
    have hl1 : (gs ++ [x]).length = k + 1 := by rw [List.length_append, HL.out]; rfl
    dsimp only at hs3 hcd ⊢
    rw [hl1] at hs3 hcd ⊢
    have hk16 : k + 1 ≤ 16 := by have := plRight_len hr; omega
    have HRR := Lib.hid hr
    have HR0 := Lib.hid hr0
    obtain ⟨w4, hw4⟩ : ∃ w4, w3.alloc (.cells #[.int .i64 s, .int .i64 b, .int .i64 m, .slice q2 (k + 1) d2] 24) = w4 := ⟨_, rfl⟩
    have hb4 : Below w2.heap.size w2 w4 := by rw [← hw4]; exact hb3.alloc hb3.size _
    have HV := Lib.hid (show VarN w4 w3.heap.size [.int .i64 s, .int .i64 b, .int .i64 m, .slice q2 (k + 1) d2] by rw [← hw4]; exact varN_new [.int .i64 s, .int .i64 b, .int .i64 m, .slice q2 (k + 1) d2] _ rfl)
    have HSV := Lib.hid (show Sl w4 q2 (k + 1) (gs ++ [x]) by rw [← hw4]; exact slA _ hs3.sl)
    have HB4 := Lib.hid (HB2.out.trans (hb4.mono HB2.out.size))
    have HA4 := Lib.hid (varN_B hb4 HA2.out)
    have HW4 := Lib.hid hw4
    have HCD := Lib.hid hcd
    clear hw4 hb4 hb3 hs3 hg he hl1 hr hr0 hcd
    go_upto_region 3 with fail
    rw [HW4.out]
    obtain ⟨u0, -⟩ := HV.out 0 _ rfl
    obtain ⟨u1, -⟩ := HV.out 1 _ rfl
    obtain ⟨u2, -⟩ := HV.out 2 _ rfl
    obtain ⟨u3, -⟩ := HV.out 3 _ rfl
    go_wp2_with fail
    refine (plTake_any s b m q2 (k + 1) d2 (gs ++ [x]) _ HSV.out (by omega) HCD.out).mono ?_
    rw [plTake_snoc HRR.out]
    rintro e w5 ⟨q5, d5, rfl, hcd, hs5, hb5⟩
    dsimp only at hcd hs5 ⊢
    rw [HL.out] at hcd hs5 ⊢
    obtain ⟨w6, hw6⟩ : ∃ w6, w5.alloc (.cells #[.int .i64 s, .int .i64 b, .int .i64 m, .slice q5 k d5] 24) = w6 := ⟨_, rfl⟩
    have hb6 : Below w4.heap.size w4 w6 := by rw [← hw6]; exact hb5.alloc hb5.size _
    have HV6 := Lib.hid (show VarN w6 w5.heap.size [.int .i64 s, .int .i64 b, .int .i64 m, .slice q5 k d5] by rw [← hw6]; exact varN_new [.int .i64 s, .int .i64 b, .int .i64 m, .slice q5 k d5] _ rfl)
    have HSV6 := Lib.hid (show Sl w6 q5 k gs by rw [← hw6]; exact slA _ hs5.sl)
    have HSF6 := Lib.hid (show SlP (fun b => b ≠ w5.heap.size) w6 q5 k gs by rw [← hw6]; exact slPA _ (slP_old (fun b hb => by omega) hs5.sl))
    have HLT := Lib.hid (show w5.heap.size < w6.heap.size by rw [← hw6]; simp)
    have HLE := Lib.hid (show w.heap.size ≤ w5.heap.size from Nat.le_trans HB4.out.size hb5.size)
    have HB6 := Lib.hid (HB4.out.trans (hb6.mono HB4.out.size))
    have HA6 := Lib.hid (varN_B hb6 HA4.out)
    have HW6 := Lib.hid hw6
    have HCD5 := Lib.hid hcd
    have hxx : (x != x) = false := by simp
    clear hw6 hb6 hb5 hs5 hcd u0 u1 u2 u3
    go_upto_region 6 with fail
    rw [HW6.out]
    obtain ⟨u0, -⟩ := HV6.out 0 _ rfl
    obtain ⟨u1, -⟩ := HV6.out 1 _ rfl
    obtain ⟨u2, -⟩ := HV6.out 2 _ rfl
    obtain ⟨u3, -⟩ := HV6.out 3 _ rfl
    obtain ⟨y0, -⟩ := HA6.out 0 _ rfl
    obtain ⟨y1, -⟩ := HA6.out 1 _ rfl
    obtain ⟨y2, -⟩ := HA6.out 2 _ rfl
    obtain ⟨y3, -⟩ := HA6.out 3 _ rfl
    go_wp2_with fail
    refine (plSame_any s b m s b m q5 a k d5 k c gs gs _ HSV6.out (slB HB6.out HS.out) (by omega)).mono ?_
    rw [plSame_self]
    rintro e w7 ⟨rfl, hb7⟩
    have HB7 := Lib.hid (HB6.out.trans (hb7.mono HB6.out.size))
    have HV7 := Lib.hid (varN_B hb7 HV6.out)
    have HSF7 := Lib.hid (slPB hb7 HSF6.out)
    clear hb7 u0 u1 u2 u3 y0 y1 y2 y3
    go_wp2_with fail
    refine (plAlive_any _).mono ?_
    rintro e w8 ⟨rfl, hb8⟩
    have HB8 := Lib.hid (HB7.out.trans (hb8.mono HB7.out.size))
    have HV8 := Lib.hid (varN_B hb8 HV7.out)
    have HSF8 := Lib.hid (slPB hb8 HSF7.out)
    clear hb8
    go_wp2
    go_loopw [53] (fun ct wr => ∃ (i j : Nat) (q : Option Addr) (d : Nat), i + j = k ∧ ct = .int .i64 i ∧ Hid (VarN wr w5.heap.size [.int .i64 s, .int .i64 b, .int .i64 m, .slice q j d]) ∧ Hid (SlP (fun b => b ≠ w5.heap.size) wr q j (gs.take j)) ∧ Hid (CapOk q j d) ∧ Hid (Below w.heap.size w wr)) (fun ct _ => 17 - (intOf ct).toNat)
    case atStart => exact ⟨0, k, q5, d5, by omega, rfl, HV8.out, by rw [List.take_of_length_le (by rw [HL.out]; omega)]; exact HSF8.out, HCD5.out, HB8.out⟩
    case round =>
      obtain ⟨i, j, q, d, hij, rfl, hV, hS, hC, hB⟩ := hrel
      have hRj := Lib.hid (plRight_take j HR0.out)
      have hLj := Lib.hid (show (gs.take j).length = j by rw [List.length_take, HL.out]; omega)
      have hi17 : (i : Int) < 17 := by omega
      have hi0 : (0 : Int) ≤ i := by omega
      have hg := varN_lt hV.out (by simp)
      obtain ⟨u0, -⟩ := hV.out 0 _ rfl
      obtain ⟨u1, -⟩ := hV.out 1 _ rfl
      obtain ⟨u2, -⟩ := hV.out 2 _ rfl
      obtain ⟨u3, -⟩ := hV.out 3 _ rfl
      cases j with
      | zero =>
        go_wp2_with fail
        refine (plTake_any s b m q 0 d (gs.take 0) _ hS.out.sl (by omega) hC.out).mono ?_
        rw [plTake_none hRj.out hLj.out]
        rintro e w9 ⟨q9, d9, rfl, -, -, hb9⟩
        dsimp only [pl0, List.length_nil]
        have HV9 := Lib.hid (varN_B (hb9.alloc hb9.size (.cells #[.int .i64 0, .int .i64 0, .int .i64 0, .slice q9 0 d9] 24)) hV.out)
        have HB9 := Lib.hid (hB.out.trans ((hb9.alloc hb9.size (.cells #[.int .i64 0, .int .i64 0, .int .i64 0, .slice q9 0 d9] 24)).mono hB.out.size))
        obtain ⟨w10, hw10⟩ : ∃ w10, w9.alloc (.cells #[.int .i64 0, .int .i64 0, .int .i64 0, .slice q9 0 d9] 24) = w10 := ⟨_, rfl⟩
        have HN := Lib.hid (show VarN w10 w9.heap.size [.int .i64 0, .int .i64 0, .int .i64 0, .slice q9 0 d9] by rw [← hw10]; exact varN_new [.int .i64 0, .int .i64 0, .int .i64 0, .slice q9 0 d9] _ rfl)
        rw [hw10] at HV9 HB9
        have HW10 := Lib.hid hw10
        clear hw10 hb9 u0 u1 u2 u3
        obtain ⟨u3, -⟩ := HV9.out 3 _ rfl
        obtain ⟨v3, -⟩ := HN.out 3 _ rfl
        go_upto_region 11 with fail
        rw [HW10.out]
        go_wp2
        go_ret
        exact ⟨rfl, HB9.out⟩
      | succ j =>
        go_wp2_with fail
        refine (plTake_any s b m q (j + 1) d (gs.take (j + 1)) _ hS.out.sl (by omega) hC.out).mono ?_
        rw [plTake_some hRj.out hLj.out]
        rintro e w9 ⟨q9, d9, rfl, hc9, hs9, hb9⟩
        have hlj : ((gs.take (j + 1)).take j) = gs.take j := by rw [List.take_take]; congr 1; omega
        have hlj2 : (gs.take j).length = j := by rw [List.length_take, HL.out]; omega
        dsimp only at hc9 hs9 ⊢
        rw [hlj, hlj2] at hc9 hs9 ⊢
        obtain ⟨w10, hw10⟩ : ∃ w10, w9.alloc (.cells #[.int .i64 s, .int .i64 b, .int .i64 m, .slice q9 j d9] 24) = w10 := ⟨_, rfl⟩
        have hb10 : Below wr.heap.size wr w10 := by rw [← hw10]; exact hb9.alloc hb9.size _
        have HN := Lib.hid (show VarN w10 w9.heap.size [.int .i64 s, .int .i64 b, .int .i64 m, .slice q9 j d9] by rw [← hw10]; exact varN_new [.int .i64 s, .int .i64 b, .int .i64 m, .slice q9 j d9] _ rfl)
        have HSN := Lib.hid (show SlP (fun b => b ≠ w5.heap.size) w10 q9 j (gs.take j) by rw [← hw10]; exact slPA _ (slP_slF (fun b hb => by omega) hs9))
        have HV10 := Lib.hid (varN_B hb10 hV.out)
        have HB10 := Lib.hid (hB.out.trans (hb10.mono hB.out.size))
        have HC9 := Lib.hid hc9
        have HW10 := Lib.hid hw10
        have hjj : ((j : Int) != ((j + 1 : Nat) : Int) - 1) = false := by simp
        clear hw10 hb10 hb9 hs9 hc9 hlj hlj2 u0 u1 u2 u3
        obtain ⟨u0, f0⟩ := HV10.out 0 _ rfl
        obtain ⟨u1, f1⟩ := HV10.out 1 _ rfl
        obtain ⟨u2, f2⟩ := HV10.out 2 _ rfl
        obtain ⟨u3, f3⟩ := HV10.out 3 _ rfl
        obtain ⟨v0, -⟩ := HN.out 0 _ rfl
        obtain ⟨v1, -⟩ := HN.out 1 _ rfl
        obtain ⟨v2, -⟩ := HN.out 2 _ rfl
        obtain ⟨v3, -⟩ := HN.out 3 _ rfl
        go_upto_region 11 with fail
        rw [HW10.out]
        go_wp2
        have hV12 := varN_all (xs := [.int .i64 s, .int .i64 b, .int .i64 m, .slice q9 j d9]) HV10.out rfl
        have hS12 := pl_slP4 (x := .int .i64 s) (y := .int .i64 b) (z := .int .i64 m) (u := .slice q9 j d9) (fun _ h => h) HSN.out
        have hB12 := pl_below4 (x := .int .i64 s) (y := .int .i64 b) (z := .int .i64 m) (u := .slice q9 j d9) HLE.out HB10.out
        go_roundw
        case rel => exact ⟨i + 1, j, q9, d9, by omega, by go_num, hV12, hS12, HC9.out, hB12⟩
        case measure => simp [intOf]; omega
  · obtain ⟨er, hg, he0⟩ := plGive_err he
    rw [hg] at hs3 hcd ⊢
    dsimp only [pl0, List.length_nil] at hs3 hcd ⊢
    have HB4 := Lib.hid (HB2.out.trans ((hb3.alloc hb3.size (.cells #[.int .i64 0, .int .i64 0, .int .i64 0, .slice q2 0 d2] 24)).mono HB2.out.size))
    have HV := Lib.hid (varN_new [.int .i64 0, .int .i64 0, .int .i64 0, .slice q2 0 d2] (t := 24) (w := w3) w3.heap.size rfl)
    have hne : (er != 0) = true := by simpa using he0
    clear hs3 hcd hb3 hg he he0
    go_wp2_with fail
    refine (plAlive_any _).mono ?_
    rintro e w5 ⟨rfl, hb5⟩
    obtain ⟨u3, -⟩ := varN_B hb5 HV.out 3 _ rfl
    have HB5 := Lib.hid (HB4.out.trans (hb5.mono HB4.out.size))
    clear hb5
    go_wp2
    go_ret
    exact ⟨rfl, HB5.out⟩
end Go.Proofs.Ytnkhgofpdgnemaa
