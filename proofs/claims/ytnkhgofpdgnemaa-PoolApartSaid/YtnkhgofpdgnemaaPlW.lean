/- The law PoolMoves, walked. -/
import Derived.Test.YtnkhgofpdgnemaaPlV
namespace Go.Proofs.Ytnkhgofpdgnemaa
open Go.ChangeShapes Go.WideShapes Go.ChangeAt Go.RowKit Gen

theorem plTake_R {p : Pl4} (h : plOkP p = true) : plTake p = plTakeR p := by simp [plTake, plTakeR, h]
theorem plGive_R {p : Pl4} (h : plOkP p = true) (x : Int) : plGive p x = plGiveR p x := by simp [plGive, plGiveR, h]

theorem slP_keepB {Q : Nat → Prop} {w w' : World} {a : Option Addr} {n : Nat} {zs : List Int} (hb : Below w.heap.size w w') (h : SlP Q w a n zs) : SlP Q w' a n zs := slPB hb h

set_option maxRecDepth 100000 in
set_option maxHeartbeats 16000000 in
theorem PoolMoves_walk (s b m x : Int) (a : Option Addr) (n c : Nat) (fs : List Int) (w : World) (S : Sl w a n fs) (hcap : CapOk a n c) :
    Calls Try.prog 4 #[.agg #[.int .i64 s, .int .i64 b, .int .i64 m, .slice a n c], .int .i64 x] w fun e w' => e = .returned (.bool true) ∧ Below w.heap.size w w' := by
  have hA := varN_new [.int .i64 s, .int .i64 b, .int .i64 m, .slice a n c] (t := 24) (w := w) w.heap.size rfl
  obtain ⟨k, hk⟩ : ∃ k, min n 20 = k := ⟨_, rfl⟩
  have hk1 : k ≤ n := by omega
  have hk2 : k ≤ 20 := by omega
  have HA0 := Lib.hid hA
  have HB0 := Lib.hid (show Below w.heap.size w (w.alloc (.cells #[.int .i64 s, .int .i64 b, .int .i64 m, .slice a n c] 24)) by go_grown)
  obtain ⟨gs, hgs⟩ : ∃ gs, fs.take k = gs := ⟨_, rfl⟩
  have HS := Lib.hid (show Sl w a k gs by rw [← hgs]; exact pl_sl_take S hk1)
  have HC := Lib.hid (pl_cap_take hcap hk1)
  have HL := Lib.hid (show gs.length = k from HS.out.1)
  clear hA hgs S
  go_enter Try.func4, Try.ntmps4
  go_wp2_with fail
  refine (plFew_any s b m a n c hcap _).mono ?_
  rintro e w1 ⟨rfl, hb⟩
  rw [hk]
  have HA1 := Lib.hid (varN_B hb HA0.out)
  have HB1 := Lib.hid (below_from HB0.out hb)
  obtain ⟨x0, f0⟩ := HA1.out 0 _ rfl
  obtain ⟨x1, f1⟩ := HA1.out 1 _ rfl
  obtain ⟨x2, f2⟩ := HA1.out 2 _ rfl
  obtain ⟨x3, f3⟩ := HA1.out 3 _ rfl
  clear hb hk hcap
  go_upto_region 2 with fail
  obtain ⟨w2, hw2⟩ : ∃ w2, (((w1.setCell ⟨w.heap.size, 0, none⟩ (.int .i64 s)).setCell ⟨w.heap.size, 1, none⟩ (.int .i64 b)).setCell ⟨w.heap.size, 2, none⟩ (.int .i64 m)).setCell ⟨w.heap.size, 3, none⟩ (.slice a k c) = w2 := ⟨_, rfl⟩
  rw [hw2]
  have HA2 := Lib.hid (show VarN w2 w.heap.size [.int .i64 s, .int .i64 b, .int .i64 m, .slice a k c] by rw [← hw2]; exact varN_all HA1.out rfl)
  have HB2 := Lib.hid (show Below w.heap.size w w2 by rw [← hw2]; exact pl_below4 (Nat.le_refl _) HB1.out)
  clear hw2 x0 f0 x1 f1 x2 f2 x3 f3
  obtain ⟨y0, -⟩ := HA2.out 0 _ rfl
  obtain ⟨y1, -⟩ := HA2.out 1 _ rfl
  obtain ⟨y2, -⟩ := HA2.out 2 _ rfl
  obtain ⟨y3, -⟩ := HA2.out 3 _ rfl
  -- Take
  go_wp2_with fail
  refine (plTake_any s b m a k c gs _ (slB HB2.out HS.out) (by omega) HC.out).mono ?_
  rintro e w3 ⟨q1, d1, rfl, -, hs1, hb3⟩
  clear y0 y1 y2 y3
  obtain ⟨P1, hP1⟩ : ∃ P1, plTake ⟨s, b, m, gs⟩ = P1 := ⟨_, rfl⟩
  rw [hP1] at hs1 ⊢
  obtain ⟨⟨s1, b1, m1, l1⟩, t1, e1⟩ := P1
  dsimp only at hs1 ⊢
  have HP1 := Lib.hid hP1
  obtain ⟨n1, hn1⟩ : ∃ n1, l1.length = n1 := ⟨_, rfl⟩
  rw [hn1] at hs1 ⊢
  obtain ⟨w4, hw4⟩ : ∃ w4, w3.alloc (.cells #[.int .i64 s1, .int .i64 b1, .int .i64 m1, .slice q1 n1 d1] 24) = w4 := ⟨_, rfl⟩
  have hb4 : Below w2.heap.size w2 w4 := by rw [← hw4]; exact hb3.alloc hb3.size _
  have HV1 := Lib.hid (show VarN w4 w3.heap.size [.int .i64 s1, .int .i64 b1, .int .i64 m1, .slice q1 n1 d1] by rw [← hw4]; exact varN_new [.int .i64 s1, .int .i64 b1, .int .i64 m1, .slice q1 n1 d1] _ rfl)
  have HS1 := Lib.hid (show Sl w4 q1 n1 l1 by rw [← hw4]; exact slA _ hs1.sl)
  have HB4 := Lib.hid (HB2.out.trans (hb4.mono HB2.out.size))
  have HA4 := Lib.hid (varN_B hb4 HA2.out)
  have HW4 := Lib.hid hw4
  have HN1 := Lib.hid hn1
  clear hw4 hb4 hb3 hs1 hP1 hn1
  obtain ⟨y0, -⟩ := HA4.out 0 _ rfl
  obtain ⟨y1, -⟩ := HA4.out 1 _ rfl
  obtain ⟨y2, -⟩ := HA4.out 2 _ rfl
  obtain ⟨y3, -⟩ := HA4.out 3 _ rfl
  go_upto_region 3 with fail
  rw [HW4.out]
  -- Give
  go_wp2_with fail
  refine (plGive_any s b m a k c gs x _ (slB HB4.out HS.out) (by omega) HC.out).mono ?_
  rintro e w5 ⟨q2, d2, rfl, -, hs2, hb5⟩
  clear y0 y1 y2 y3
  obtain ⟨P2, hP2⟩ : ∃ P2, plGive ⟨s, b, m, gs⟩ x = P2 := ⟨_, rfl⟩
  rw [hP2] at hs2 ⊢
  obtain ⟨⟨s2, b2, m2, l2⟩, e2⟩ := P2
  dsimp only at hs2 ⊢
  have HP2 := Lib.hid hP2
  obtain ⟨n2, hn2⟩ : ∃ n2, l2.length = n2 := ⟨_, rfl⟩
  rw [hn2] at hs2 ⊢
  obtain ⟨w6, hw6⟩ : ∃ w6, w5.alloc (.cells #[.int .i64 s2, .int .i64 b2, .int .i64 m2, .slice q2 n2 d2] 24) = w6 := ⟨_, rfl⟩
  have hb6 : Below w4.heap.size w4 w6 := by rw [← hw6]; exact hb5.alloc hb5.size _
  have HV2 := Lib.hid (show VarN w6 w5.heap.size [.int .i64 s2, .int .i64 b2, .int .i64 m2, .slice q2 n2 d2] by rw [← hw6]; exact varN_new [.int .i64 s2, .int .i64 b2, .int .i64 m2, .slice q2 n2 d2] _ rfl)
  have HS2 := Lib.hid (show Sl w6 q2 n2 l2 by rw [← hw6]; exact slA _ hs2.sl)
  have HS16 := Lib.hid (slB hb6 HS1.out)
  have HV16 := Lib.hid (varN_B hb6 HV1.out)
  have HB6 := Lib.hid (HB4.out.trans (hb6.mono HB4.out.size))
  have HA6 := Lib.hid (varN_B hb6 HA4.out)
  have HW6 := Lib.hid hw6
  have HN2 := Lib.hid hn2
  clear hw6 hb6 hb5 hs2 hP2 hn2
  obtain ⟨y0, -⟩ := HA6.out 0 _ rfl
  obtain ⟨y1, -⟩ := HA6.out 1 _ rfl
  obtain ⟨y2, -⟩ := HA6.out 2 _ rfl
  obtain ⟨y3, -⟩ := HA6.out 3 _ rfl
  go_upto_region 4 with fail
  rw [HW6.out]
  -- Held
  go_wp2_with fail
  refine (plHeldF_any s b m a k c gs _ (slB HB6.out HS.out) (by omega)).mono ?_
  rintro e w7 ⟨q3, d3, rfl, hs3, hb7⟩
  clear y0 y1 y2 y3
  obtain ⟨P3, hP3⟩ : ∃ P3, plHeldZ ⟨s, b, m, gs⟩ = P3 := ⟨_, rfl⟩
  rw [hP3] at hs3 ⊢
  obtain ⟨l3, e3⟩ := P3
  dsimp only at hs3 ⊢
  have HP3 := Lib.hid hP3
  obtain ⟨n3, hn3⟩ : ∃ n3, l3.length = n3 := ⟨_, rfl⟩
  rw [hn3] at hs3 ⊢
  have HS3 := Lib.hid hs3.sl
  have HS27 := Lib.hid (slB hb7 HS2.out)
  have HV27 := Lib.hid (varN_B hb7 HV2.out)
  have HS17 := Lib.hid (slB hb7 HS16.out)
  have HV17 := Lib.hid (varN_B hb7 HV16.out)
  have HB7 := Lib.hid (HB6.out.trans (hb7.mono HB6.out.size))
  have HA7 := Lib.hid (varN_B hb7 HA6.out)
  clear hb7 hs3 hP3
  have HN3 := Lib.hid hn3
  clear hn3
  obtain ⟨y0, -⟩ := HA7.out 0 _ rfl
  obtain ⟨y1, -⟩ := HA7.out 1 _ rfl
  obtain ⟨y2, -⟩ := HA7.out 2 _ rfl
  obtain ⟨y3, -⟩ := HA7.out 3 _ rfl
  -- ref.Right
  go_wp2_with fail
  refine (plRefRight_any s b m a k c gs _ (slB HB7.out HS.out) (by omega) HC.out).mono ?_
  rintro e w8 ⟨rfl, hb8⟩
  clear y0 y1 y2 y3
  rw [← plRight_ref]
  have HA8 := Lib.hid (varN_B hb8 HA7.out)
  have HB8 := Lib.hid (HB7.out.trans (hb8.mono HB7.out.size))
  have HS18 := Lib.hid (slB hb8 HS17.out)
  have HV18 := Lib.hid (varN_B hb8 HV17.out)
  have HS28 := Lib.hid (slB hb8 HS27.out)
  have HV28 := Lib.hid (varN_B hb8 HV27.out)
  have HS38 := Lib.hid (slB hb8 HS3.out)
  clear hb8
  cases hr : plRight s b m gs with
  | false =>
    have Q1 := HP1.out
    rw [show plTake ⟨s, b, m, gs⟩ = (pl0, 0, 1) by simp [plTake, plOkP, hr]] at Q1
    have Q2 := HP2.out
    rw [show plGive ⟨s, b, m, gs⟩ x = (pl0, 1) by simp [plGive, plOkP, hr]] at Q2
    have Q3 := HP3.out
    rw [show plHeldZ ⟨s, b, m, gs⟩ = ([], 1) by simp [plHeldZ, plOkP, hr]] at Q3
    simp only [pl0, Prod.mk.injEq, Pl4.mk.injEq] at Q1 Q2 Q3
    have HN1' := HN1.out
    have HN2' := HN2.out
    have HN3' := HN3.out
    obtain ⟨⟨rfl, rfl, rfl, rfl⟩, rfl, rfl⟩ := Q1
    obtain ⟨⟨rfl, rfl, rfl, rfl⟩, rfl⟩ := Q2
    obtain ⟨rfl, rfl⟩ := Q3
    obtain rfl : n1 = 0 := HN1'.symm
    obtain rfl : n2 = 0 := HN2'.symm
    obtain rfl : n3 = 0 := HN3'.symm
    clear HN1' HN2' HN3' HN1 HN2 HN3 hr
    go_wp2_with fail
    refine (plAlive_any _).mono ?_
    rintro e w9 ⟨rfl, hb9⟩
    have HB9 := Lib.hid (HB8.out.trans (hb9.mono HB8.out.size))
    have HV19 := Lib.hid (varN_B hb9 HV18.out)
    have HV29 := Lib.hid (varN_B hb9 HV28.out)
    have HS19 := Lib.hid (slB hb9 HS18.out)
    have HS29 := Lib.hid (slB hb9 HS28.out)
    clear hb9
    obtain ⟨u0, -⟩ := HV19.out 0 _ rfl
    obtain ⟨u1, -⟩ := HV19.out 1 _ rfl
    obtain ⟨u2, -⟩ := HV19.out 2 _ rfl
    obtain ⟨u3, -⟩ := HV19.out 3 _ rfl
    go_wp2_with fail
    refine (plSame_any 0 0 0 0 0 0 q1 none 0 d1 0 0 [] [] _ HS19.out (sl_nil _) (by omega)).mono ?_
    rw [plSame_self]
    rintro e w10 ⟨rfl, hb10⟩
    have HB10 := Lib.hid (HB9.out.trans (hb10.mono HB9.out.size))
    have HV210 := Lib.hid (varN_B hb10 HV29.out)
    have HS210 := Lib.hid (slB hb10 HS29.out)
    clear hb10 u0 u1 u2 u3
    obtain ⟨u0, -⟩ := HV210.out 0 _ rfl
    obtain ⟨u1, -⟩ := HV210.out 1 _ rfl
    obtain ⟨u2, -⟩ := HV210.out 2 _ rfl
    obtain ⟨u3, -⟩ := HV210.out 3 _ rfl
    go_wp2_with fail
    refine (plSame_any 0 0 0 0 0 0 q2 none 0 d2 0 0 [] [] _ HS210.out (sl_nil _) (by omega)).mono ?_
    rw [plSame_self]
    rintro e w11 ⟨rfl, hb11⟩
    have HB11 := Lib.hid (HB10.out.trans (hb11.mono HB10.out.size))
    clear hb11 u0 u1 u2 u3
    go_wp2
    go_ret
    exact ⟨rfl, HB11.out⟩
  | true =>
    have HR := Lib.hid hr
    have HF := Lib.hid (plRight_iff.1 hr).1
    have HT := Lib.hid (show plTakeR ⟨s, b, m, gs⟩ = (⟨s1, b1, m1, l1⟩, t1, e1) from (plTake_R (p := ⟨s, b, m, gs⟩) hr).symm.trans HP1.out)
    have HG := Lib.hid (show plGiveR ⟨s, b, m, gs⟩ x = (⟨s2, b2, m2, l2⟩, e2) from (plGive_R (p := ⟨s, b, m, gs⟩) hr x).symm.trans HP2.out)
    have Q3 := HP3.out
    rw [show plHeldZ ⟨s, b, m, gs⟩ = (plHeld s b m.toNat gs, 0) by simp [plHeldZ, plOkP, hr]] at Q3
    simp only [Prod.mk.injEq] at Q3
    obtain ⟨Q3, rfl⟩ := Q3
    have HQ3 := Lib.hid Q3
    have hn16 : n1 ≤ 20 := by
      have := HT.out; have := HN1.out; have := HL.out
      have e : l1.length ≤ gs.length := by
        have h := congrArg (fun z => z.1.fs.length) HT.out
        simp only at h
        rw [← h, plTakeR]
        split
        · exact Nat.zero_le _
        · simp only [List.length_take]; omega
      omega
    have hn26 : n2 ≤ 21 := by
      have := HG.out; have := HN2.out; have := HL.out
      have e : l2.length ≤ gs.length + 1 := by
        have h := congrArg (fun z => z.1.fs.length) HG.out
        simp only at h
        rw [← h, plGiveR]
        split
        · split
          · exact Nat.zero_le _
          · simp
        · exact Nat.zero_le _
      omega
    have hn36 : n3 ≤ 16 := by
      have := plIn_add s b m.toNat gs; have := (plFit_iff.1 HF.out).2.2.2.1; have := HN3.out; rw [← HQ3.out] at this; omega
    clear hr Q3
    obtain ⟨y0, -⟩ := HA8.out 0 _ rfl
    obtain ⟨y1, -⟩ := HA8.out 1 _ rfl
    obtain ⟨y2, -⟩ := HA8.out 2 _ rfl
    obtain ⟨y3, -⟩ := HA8.out 3 _ rfl
    go_wp2_with fail
    refine (plRefTake_any (fun b => b < w.heap.size) s b m a k c gs _ (slP_keepB HB8.out (slP_old (fun _ h => h) HS.out)) (fun b hb => Nat.lt_of_lt_of_le hb HB8.out.size) (by omega) HC.out).mono ?_
    rw [HT.out]
    rintro e w9 ⟨q4, d4, rfl, hs4, hb9⟩
    dsimp only at hs4 ⊢
    rw [HN1.out] at hs4 ⊢
    clear y0 y1 y2 y3
    obtain ⟨w10, hw10⟩ : ∃ w10, w9.alloc (.cells #[.int .i64 s1, .int .i64 b1, .int .i64 m1, .slice q4 n1 d4] 24) = w10 := ⟨_, rfl⟩
    have hb10 : Below w8.heap.size w8 w10 := by rw [← hw10]; exact hb9.alloc hb9.size _
    have HV4 := Lib.hid (show VarN w10 w9.heap.size [.int .i64 s1, .int .i64 b1, .int .i64 m1, .slice q4 n1 d4] by rw [← hw10]; exact varN_new [.int .i64 s1, .int .i64 b1, .int .i64 m1, .slice q4 n1 d4] _ rfl)
    have HS4 := Lib.hid (show Sl w10 q4 n1 l1 by rw [← hw10]; exact slA _ hs4.sl)
    have HB10 := Lib.hid (HB8.out.trans (hb10.mono HB8.out.size))
    have HA10 := Lib.hid (varN_B hb10 HA8.out)
    have HW10 := Lib.hid hw10
    have HS110 := Lib.hid (slB hb10 HS18.out)
    have HV110 := Lib.hid (varN_B hb10 HV18.out)
    have HS210 := Lib.hid (slB hb10 HS28.out)
    have HV210 := Lib.hid (varN_B hb10 HV28.out)
    have HS310 := Lib.hid (slB hb10 HS38.out)
    clear hw10 hb10 hb9 hs4
    obtain ⟨y0, -⟩ := HA10.out 0 _ rfl
    obtain ⟨y1, -⟩ := HA10.out 1 _ rfl
    obtain ⟨y2, -⟩ := HA10.out 2 _ rfl
    obtain ⟨y3, -⟩ := HA10.out 3 _ rfl
    go_upto_region 8 with fail
    rw [HW10.out]
    go_wp2_with fail
    refine (plRefGive_any s b m a k c gs x _ (slB HB10.out HS.out) (by omega) HF.out HC.out).mono ?_
    rw [HG.out]
    rintro e w11 ⟨q5, d5, rfl, -, hs5, hb11⟩
    dsimp only at hs5 ⊢
    rw [HN2.out] at hs5 ⊢
    clear y0 y1 y2 y3
    obtain ⟨w12, hw12⟩ : ∃ w12, w11.alloc (.cells #[.int .i64 s2, .int .i64 b2, .int .i64 m2, .slice q5 n2 d5] 24) = w12 := ⟨_, rfl⟩
    have hb12 : Below w10.heap.size w10 w12 := by rw [← hw12]; exact hb11.alloc hb11.size _
    have HV5 := Lib.hid (show VarN w12 w11.heap.size [.int .i64 s2, .int .i64 b2, .int .i64 m2, .slice q5 n2 d5] by rw [← hw12]; exact varN_new [.int .i64 s2, .int .i64 b2, .int .i64 m2, .slice q5 n2 d5] _ rfl)
    have HS5 := Lib.hid (show Sl w12 q5 n2 l2 by rw [← hw12]; exact slA _ hs5.sl)
    have HV412 := Lib.hid (varN_B hb12 HV4.out)
    have HS412 := Lib.hid (slB hb12 HS4.out)
    have HB12 := Lib.hid (HB10.out.trans (hb12.mono HB10.out.size))
    have HA12 := Lib.hid (varN_B hb12 HA10.out)
    have HW12 := Lib.hid hw12
    have HS112 := Lib.hid (slB hb12 HS110.out)
    have HV112 := Lib.hid (varN_B hb12 HV110.out)
    have HS212 := Lib.hid (slB hb12 HS210.out)
    have HV212 := Lib.hid (varN_B hb12 HV210.out)
    have HS312 := Lib.hid (slB hb12 HS310.out)
    clear hw12 hb12 hb11 hs5
    go_upto_region 9 with fail
    rw [HW12.out]
    go_wp2_with fail
    refine (plAlive_any _).mono ?_
    rintro e w13 ⟨rfl, hb13⟩
    have HB13 := Lib.hid (HB12.out.trans (hb13.mono HB12.out.size))
    have HV113 := Lib.hid (varN_B hb13 HV112.out)
    have HV413 := Lib.hid (varN_B hb13 HV412.out)
    have HV213 := Lib.hid (varN_B hb13 HV212.out)
    have HV513 := Lib.hid (varN_B hb13 HV5.out)
    have HA13 := Lib.hid (varN_B hb13 HA12.out)
    have HS113 := Lib.hid (slB hb13 HS112.out)
    have HS413 := Lib.hid (slB hb13 HS412.out)
    have HS213 := Lib.hid (slB hb13 HS212.out)
    have HS513 := Lib.hid (slB hb13 HS5.out)
    have HS313 := Lib.hid (slB hb13 HS312.out)
    clear hb13
    obtain ⟨u0, -⟩ := HV113.out 0 _ rfl
    obtain ⟨u1, -⟩ := HV113.out 1 _ rfl
    obtain ⟨u2, -⟩ := HV113.out 2 _ rfl
    obtain ⟨u3, -⟩ := HV113.out 3 _ rfl
    obtain ⟨v0, -⟩ := HV413.out 0 _ rfl
    obtain ⟨v1, -⟩ := HV413.out 1 _ rfl
    obtain ⟨v2, -⟩ := HV413.out 2 _ rfl
    obtain ⟨v3, -⟩ := HV413.out 3 _ rfl
    go_wp2_with fail
    refine (plSame_any s1 b1 m1 s1 b1 m1 q1 q4 n1 d1 n1 d4 l1 l1 _ HS113.out HS413.out (by omega)).mono ?_
    rw [plSame_self]
    rintro e w14 ⟨rfl, hb14⟩
    have HB14 := Lib.hid (HB13.out.trans (hb14.mono HB13.out.size))
    have HV214 := Lib.hid (varN_B hb14 HV213.out)
    have HV514 := Lib.hid (varN_B hb14 HV513.out)
    have HA14 := Lib.hid (varN_B hb14 HA13.out)
    have HS214 := Lib.hid (slB hb14 HS213.out)
    have HS514 := Lib.hid (slB hb14 HS513.out)
    have HS314 := Lib.hid (slB hb14 HS313.out)
    clear hb14 u0 u1 u2 u3 v0 v1 v2 v3
    obtain ⟨u0, -⟩ := HV214.out 0 _ rfl
    obtain ⟨u1, -⟩ := HV214.out 1 _ rfl
    obtain ⟨u2, -⟩ := HV214.out 2 _ rfl
    obtain ⟨u3, -⟩ := HV214.out 3 _ rfl
    obtain ⟨v0, -⟩ := HV514.out 0 _ rfl
    obtain ⟨v1, -⟩ := HV514.out 1 _ rfl
    obtain ⟨v2, -⟩ := HV514.out 2 _ rfl
    obtain ⟨v3, -⟩ := HV514.out 3 _ rfl
    go_wp2_with fail
    refine (plSame_any s2 b2 m2 s2 b2 m2 q2 q5 n2 d2 n2 d5 l2 l2 _ HS214.out HS514.out (by omega)).mono ?_
    rw [plSame_self]
    rintro e w15 ⟨rfl, hb15⟩
    have HB15 := Lib.hid (HB14.out.trans (hb15.mono HB14.out.size))
    have HA15 := Lib.hid (varN_B hb15 HA14.out)
    have HS315 := Lib.hid (slB hb15 HS314.out)
    clear hb15 u0 u1 u2 u3 v0 v1 v2 v3
    obtain ⟨y0, -⟩ := HA15.out 0 _ rfl
    obtain ⟨y1, -⟩ := HA15.out 1 _ rfl
    obtain ⟨y2, -⟩ := HA15.out 2 _ rfl
    obtain ⟨y3, -⟩ := HA15.out 3 _ rfl
    go_wp2_with fail
    refine (plRefHeld_any s b m a k c gs _ (slB HB15.out HS.out) (by omega) HF.out).mono ?_
    rw [HQ3.out, HN3.out]
    rintro e w16 ⟨q6, d6, rfl, hs6, hb16⟩
    have HB16 := Lib.hid (HB15.out.trans (hb16.mono HB15.out.size))
    have HS316 := Lib.hid (slB hb16 HS315.out)
    have HS6 := Lib.hid hs6.sl
    clear hb16 hs6 y0 y1 y2 y3
    go_wp2_with fail
    refine (Ints_any q3 q6 n3 d3 n3 d6 l3 l3 _ HS316.out HS6.out (by omega)).mono ?_
    rw [show sameB l3 l3 = true by simp [sameB]]
    rintro e w17 ⟨rfl, hb17⟩
    have HB17 := Lib.hid (HB16.out.trans (hb17.mono HB16.out.size))
    clear hb17
    go_wp2
    go_ret
    exact ⟨rfl, HB17.out⟩
end Go.Proofs.Ytnkhgofpdgnemaa
