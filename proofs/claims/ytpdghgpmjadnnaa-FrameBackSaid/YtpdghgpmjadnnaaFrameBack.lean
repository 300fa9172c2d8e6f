/- The walk of FrameBack. -/
import Derived.Test.YtpdghgpmjadnnaaFrN
namespace Go.Proofs.Ytpdghgpmjadnnaa
open Go.ChangeShapes Go.WideShapes Go.ChangeAt Go.RowKit
open Gen

set_option maxRecDepth 100000 in
set_option maxHeartbeats 8000000 in
theorem FrameBack_walk (t : Thr) (tg en : Int) (rg : Nat → Int) (fa la : Option Addr) (fn fc ln lc : Nat) (w : World) (F : ThF w fa fn fc la ln lc t) (_hen : (Lit.int .i64 en).wf = true) :
    Calls Try.prog 4 #[.agg #[.int .i64 t.pc, .int .i64 (t.r 0), .int .i64 (t.r 1), .int .i64 (t.r 2), .int .i64 (t.r 3), .int .i64 (t.r 4), .int .i64 (t.r 5), .int .i64 (t.r 6), .int .i64 (t.r 7), .slice fa fn fc, .int .i64 t.st, .int .i64 t.ft, .slice la ln lc], .int .i64 tg, .int .i64 en, .agg #[.int .i64 (rg 0), .int .i64 (rg 1), .int .i64 (rg 2), .int .i64 (rg 3), .int .i64 (rg 4), .int .i64 (rg 5), .int .i64 (rg 6), .int .i64 (rg 7)]] w (BoolPost true w) := by
  obtain ⟨W, hW⟩ : ∃ W, W = (w.alloc (Obj.cells #[.int .i64 t.pc, .int .i64 (t.r 0), .int .i64 (t.r 1), .int .i64 (t.r 2), .int .i64 (t.r 3), .int .i64 (t.r 4), .int .i64 (t.r 5), .int .i64 (t.r 6), .int .i64 (t.r 7), .slice fa fn fc, .int .i64 t.st, .int .i64 t.ft, .slice la ln lc] 27)).alloc (Obj.cells #[.int .i64 (rg 0), .int .i64 (rg 1), .int .i64 (rg 2), .int .i64 (rg 3), .int .i64 (rg 4), .int .i64 (rg 5), .int .i64 (rg 6), .int .i64 (rg 7)] 22) := ⟨_, rfl⟩
  have X : VarN W w.heap.size [.int .i64 t.pc, .int .i64 (t.r 0), .int .i64 (t.r 1), .int .i64 (t.r 2), .int .i64 (t.r 3), .int .i64 (t.r 4), .int .i64 (t.r 5), .int .i64 (t.r 6), .int .i64 (t.r 7), .slice fa fn fc, .int .i64 t.st, .int .i64 t.ft, .slice la ln lc] := by rw [hW]; exact varN_A _ (varN_new [.int .i64 t.pc, .int .i64 (t.r 0), .int .i64 (t.r 1), .int .i64 (t.r 2), .int .i64 (t.r 3), .int .i64 (t.r 4), .int .i64 (t.r 5), .int .i64 (t.r 6), .int .i64 (t.r 7), .slice fa fn fc, .int .i64 t.st, .int .i64 t.ft, .slice la ln lc] _ rfl)
  have RG : VarN W (w.heap.size + 1) [.int .i64 (rg 0), .int .i64 (rg 1), .int .i64 (rg 2), .int .i64 (rg 3), .int .i64 (rg 4), .int .i64 (rg 5), .int .i64 (rg 6), .int .i64 (rg 7)] := by rw [hW]; exact varN_new [.int .i64 (rg 0), .int .i64 (rg 1), .int .i64 (rg 2), .int .i64 (rg 3), .int .i64 (rg 4), .int .i64 (rg 5), .int .i64 (rg 6), .int .i64 (rg 7)] _ (by simp)
  have HRG := Lib.hid RG
  clear RG
  have hB : Below w.heap.size w W := by rw [hW]; go_grown
  have C1 := F.fcap
  have C2 := F.lcap
  have FU := few_F F
  obtain ⟨u, hu⟩ : ∃ u : Thr, cutT t (min fn 8) (min ln 10) = u := ⟨_, rfl⟩
  obtain ⟨m9, hm9⟩ : ∃ m, min fn 8 = m := ⟨_, rfl⟩
  obtain ⟨m12, hm12⟩ : ∃ m, min ln 10 = m := ⟨_, rfl⟩
  have HE1 := Lib.hid (show t.pc = u.pc by rw [← hu]; rfl)
  have HE2 := Lib.hid (show t.r = u.r by rw [← hu]; rfl)
  have HE3 := Lib.hid (show t.st = u.st by rw [← hu]; rfl)
  have HE4 := Lib.hid (show t.ft = u.ft by rw [← hu]; rfl)
  have HM9 := Lib.hid hm9
  have HM12 := Lib.hid hm12
  rw [hu, hm9, hm12] at FU
  have HX := Lib.hid X
  have HB := Lib.hid hB
  have HW := Lib.hid hW
  have HU := Lib.hid FU
  clear hW X hB F FU hu hm9 hm12
  go_enter Try.func4, Try.ntmps4
  go_upto_region 1 with fail
  rw [← HW.out]
  have k0 := (HX.out 0 _ rfl).1
  have k1 := (HX.out 1 _ rfl).1
  have k2 := (HX.out 2 _ rfl).1
  have k3 := (HX.out 3 _ rfl).1
  have k4 := (HX.out 4 _ rfl).1
  have k5 := (HX.out 5 _ rfl).1
  have k6 := (HX.out 6 _ rfl).1
  have k7 := (HX.out 7 _ rfl).1
  have k8 := (HX.out 8 _ rfl).1
  have k9 := (HX.out 9 _ rfl).1
  have k10 := (HX.out 10 _ rfl).1
  have k11 := (HX.out 11 _ rfl).1
  have k12 := (HX.out 12 _ rfl).1
  go_wp2_with fail
  refine (few6_any t fa la fn fc ln lc W C1 C2).mono ?_
  rintro e w1 ⟨rfl, hb1⟩
  rw [HM9.out, HM12.out, HE1.out, HE2.out, HE3.out, HE4.out]
  have X1 := varN_B hb1 HX.out
  have B1 := below_from HB.out hb1
  obtain ⟨V, hV⟩ : ∃ V, V = setN w1 w.heap.size 0 [.int .i64 u.pc, .int .i64 (u.r 0), .int .i64 (u.r 1), .int .i64 (u.r 2), .int .i64 (u.r 3), .int .i64 (u.r 4), .int .i64 (u.r 5), .int .i64 (u.r 6), .int .i64 (u.r 7), .slice fa m9 fc, .int .i64 u.st, .int .i64 u.ft, .slice la m12 lc] := ⟨_, rfl⟩
  have X2 : VarN V w.heap.size [.int .i64 u.pc, .int .i64 (u.r 0), .int .i64 (u.r 1), .int .i64 (u.r 2), .int .i64 (u.r 3), .int .i64 (u.r 4), .int .i64 (u.r 5), .int .i64 (u.r 6), .int .i64 (u.r 7), .slice fa m9 fc, .int .i64 u.st, .int .i64 u.ft, .slice la m12 lc] := by rw [hV]; exact varN_all X1 rfl
  have B2 : Below w.heap.size w V := by rw [hV]; exact below_setN (Nat.le_refl _) B1
  have RG2 : VarN V (w.heap.size + 1) [.int .i64 (rg 0), .int .i64 (rg 1), .int .i64 (rg 2), .int .i64 (rg 3), .int .i64 (rg 4), .int .i64 (rg 5), .int .i64 (rg 6), .int .i64 (rg 7)] := by rw [hV]; exact varN_others (by omega) (varN_B hb1 HRG.out)
  clear HRG
  have HRG := Lib.hid RG2
  clear RG2
  have HV : Hid (V = (((((((((((((w1.setCell ⟨w.heap.size, 0, none⟩ (.int .i64 u.pc)).setCell ⟨w.heap.size, 1, none⟩ (.int .i64 (u.r 0))).setCell ⟨w.heap.size, 2, none⟩ (.int .i64 (u.r 1))).setCell ⟨w.heap.size, 3, none⟩ (.int .i64 (u.r 2))).setCell ⟨w.heap.size, 4, none⟩ (.int .i64 (u.r 3))).setCell ⟨w.heap.size, 5, none⟩ (.int .i64 (u.r 4))).setCell ⟨w.heap.size, 6, none⟩ (.int .i64 (u.r 5))).setCell ⟨w.heap.size, 7, none⟩ (.int .i64 (u.r 6))).setCell ⟨w.heap.size, 8, none⟩ (.int .i64 (u.r 7))).setCell ⟨w.heap.size, 9, none⟩ (.slice fa m9 fc)).setCell ⟨w.heap.size, 10, none⟩ (.int .i64 u.st)).setCell ⟨w.heap.size, 11, none⟩ (.int .i64 u.ft)).setCell ⟨w.heap.size, 12, none⟩ (.slice la m12 lc))) := hV
  clear HX HB HW
  have HX := Lib.hid X2
  have HB := Lib.hid B2
  have HX1 := Lib.hid X1
  clear hV X2 B2 B1 X1 hb1 HM9 HM12 HE1 HE2 HE3 HE4 k0 k1 k2 k3 k4 k5 k6 k7 k8 k9 k10 k11 k12 C1 C2
  obtain ⟨y0, g0⟩ := HX1.out 0 _ rfl
  obtain ⟨y1, g1⟩ := HX1.out 1 _ rfl
  obtain ⟨y2, g2⟩ := HX1.out 2 _ rfl
  obtain ⟨y3, g3⟩ := HX1.out 3 _ rfl
  obtain ⟨y4, g4⟩ := HX1.out 4 _ rfl
  obtain ⟨y5, g5⟩ := HX1.out 5 _ rfl
  obtain ⟨y6, g6⟩ := HX1.out 6 _ rfl
  obtain ⟨y7, g7⟩ := HX1.out 7 _ rfl
  obtain ⟨y8, g8⟩ := HX1.out 8 _ rfl
  obtain ⟨y9, g9⟩ := HX1.out 9 _ rfl
  obtain ⟨y10, g10⟩ := HX1.out 10 _ rfl
  obtain ⟨y11, g11⟩ := HX1.out 11 _ rfl
  obtain ⟨y12, g12⟩ := HX1.out 12 _ rfl
  go_upto_region 2 with fail
  rw [← HV.out]
  clear y0 y1 y2 y3 y4 y5 y6 y7 y8 y9 y10 y11 y12 g0 g1 g2 g3 g4 g5 g6 g7 g8 g9 g10 g11 g12 HX1 HV
  obtain ⟨ta, hta⟩ : ∃ ta, callT u tg = ta := ⟨_, rfl⟩
  obtain ⟨ea, hea⟩ : ∃ ea, callE u tg = ea := ⟨_, rfl⟩
  have HTA := Lib.hid hta
  have HEA := Lib.hid hea
  clear hta hea
  have HZ1 := Lib.hid (varN_lt HRG.out (by simp))
  have k0 := (HX.out 0 _ rfl).1
  have k1 := (HX.out 1 _ rfl).1
  have k2 := (HX.out 2 _ rfl).1
  have k3 := (HX.out 3 _ rfl).1
  have k4 := (HX.out 4 _ rfl).1
  have k5 := (HX.out 5 _ rfl).1
  have k6 := (HX.out 6 _ rfl).1
  have k7 := (HX.out 7 _ rfl).1
  have k8 := (HX.out 8 _ rfl).1
  have k9 := (HX.out 9 _ rfl).1
  have k10 := (HX.out 10 _ rfl).1
  have k11 := (HX.out 11 _ rfl).1
  have k12 := (HX.out 12 _ rfl).1
  go_wp2_with fail
  have h0 := frCall_any u tg fa la m9 fc m12 lc V (thF_low HB.out HU.out)
  rw [HTA.out, HEA.out] at h0
  with_reducible refine h0.mono ?_
  clear h0
  rintro e w2 ⟨af, afc, al, alc, rfl, Fa, hb⟩
  obtain ⟨an, han⟩ : ∃ n, ta.fs.length = n := ⟨_, rfl⟩
  obtain ⟨am, ham⟩ : ∃ n, ta.lf.length = n := ⟨_, rfl⟩
  rw [han, ham] at Fa
  rw [han, ham]
  have hz2 := hb.size
  replace HX := Lib.hid (varN_B hb HX.out)
  replace HRG := Lib.hid (varN_B hb HRG.out)
  replace HB := Lib.hid (below_from HB.out hb)
  have HFQ := Lib.hid (thQ_old Fa)
  have HFa := Lib.hid Fa
  clear hb Fa
  obtain ⟨V2, hV2⟩ : ∃ V, V = w2.alloc (Obj.cells #[.int .i64 ta.pc, .int .i64 (ta.r 0), .int .i64 (ta.r 1), .int .i64 (ta.r 2), .int .i64 (ta.r 3), .int .i64 (ta.r 4), .int .i64 (ta.r 5), .int .i64 (ta.r 6), .int .i64 (ta.r 7), .slice af an afc, .int .i64 ta.st, .int .i64 ta.ft, .slice al am alc] 27) := ⟨_, rfl⟩
  have hb : Below w2.heap.size w2 V2 := by rw [hV2]; exact (Below.refl _ _).alloc (Nat.le_refl _) _
  have HA := Lib.hid (show VarN V2 w2.heap.size [.int .i64 ta.pc, .int .i64 (ta.r 0), .int .i64 (ta.r 1), .int .i64 (ta.r 2), .int .i64 (ta.r 3), .int .i64 (ta.r 4), .int .i64 (ta.r 5), .int .i64 (ta.r 6), .int .i64 (ta.r 7), .slice af an afc, .int .i64 ta.st, .int .i64 ta.ft, .slice al am alc] by rw [hV2]; exact varN_new [.int .i64 ta.pc, .int .i64 (ta.r 0), .int .i64 (ta.r 1), .int .i64 (ta.r 2), .int .i64 (ta.r 3), .int .i64 (ta.r 4), .int .i64 (ta.r 5), .int .i64 (ta.r 6), .int .i64 (ta.r 7), .slice af an afc, .int .i64 ta.st, .int .i64 ta.ft, .slice al am alc] _ rfl)
  have HZ2 := Lib.hid (show V.heap.size ≤ w2.heap.size from hz2)
  clear hz2
  replace HX := Lib.hid (varN_B hb HX.out)
  replace HRG := Lib.hid (varN_B hb HRG.out)
  replace HFa := Lib.hid (thF_B hb HFa.out)
  replace HFQ := Lib.hid (thQ_keep (kept_B hb) HFQ.out)
  replace HB := Lib.hid (below_from HB.out hb)
  have HV2 := Lib.hid hV2
  clear hb hV2
  clear k0 k1 k2 k3 k4 k5 k6 k7 k8 k9 k10 k11 k12
  by_cases h0 : ea = 0
  ·
    subst h0
    obtain ⟨c1, c2, c3, c4, c5, c6⟩ := callE_ok HEA.out
    have hta : ta = ⟨tg, u.r, u.fs ++ [(u.pc + 1, u.r 4, u.r 5, u.r 6, u.r 7)], u.st, u.ft, u.lf⟩ := by rw [← HTA.out, c6]
    obtain ⟨pe, hpe⟩ : ∃ pe : Int, (en.tmod 1001 + 1001).tmod 1001 = pe := ⟨_, rfl⟩
    have hp1 := rem_place en
    rw [hpe] at hp1
    have hpc := rightT_pc c1
    have hbk := back_app (pe := pe) (r := rg) (f := (u.pc + 1, u.r 4, u.r 5, u.r 6, u.r 7)) c1 c5 hp1 (by show 0 ≤ u.pc + 1 ∧ u.pc + 1 ≤ 1000; omega)
    obtain ⟨fs2, hfs2⟩ : ∃ l, u.fs ++ [((u.pc + 1, u.r 4, u.r 5, u.r 6, u.r 7) : Fr)] = l := ⟨_, rfl⟩
    rw [hfs2] at hta hbk
    have HBK := Lib.hid hbk
    have HPC := Lib.hid hpc
    have HRT := Lib.hid c1
    have HPE := Lib.hid hpe
    subst hta
    have HLT : Hid (w.heap.size + 1 < w2.heap.size) := by
      have h1 := HZ1.out
      have h3 := HZ2.out
      show w.heap.size + 1 < w2.heap.size
      omega
    clear hbk hpc hpe hp1 c1 c2 c3 c4 c5 c6 hfs2 HTA HEA
    have qr := eq_regs u.r u.r V2
    rw [eqR_self] at qr
    have HA' := HA.out
    dsimp only at HA'
    clear HA
    have HA := Lib.hid HA'
    clear HA'
    have k0 := (HX.out 0 _ rfl).1
    have k1 := (HX.out 1 _ rfl).1
    have k2 := (HX.out 2 _ rfl).1
    have k3 := (HX.out 3 _ rfl).1
    have k4 := (HX.out 4 _ rfl).1
    have k5 := (HX.out 5 _ rfl).1
    have k6 := (HX.out 6 _ rfl).1
    have k7 := (HX.out 7 _ rfl).1
    have k8 := (HX.out 8 _ rfl).1
    have k9 := (HX.out 9 _ rfl).1
    have k10 := (HX.out 10 _ rfl).1
    have k11 := (HX.out 11 _ rfl).1
    have k12 := (HX.out 12 _ rfl).1
    have j0 := (HA.out 0 _ rfl).1
    have j1 := (HA.out 1 _ rfl).1
    have j2 := (HA.out 2 _ rfl).1
    have j3 := (HA.out 3 _ rfl).1
    have j4 := (HA.out 4 _ rfl).1
    have j5 := (HA.out 5 _ rfl).1
    have j6 := (HA.out 6 _ rfl).1
    have j7 := (HA.out 7 _ rfl).1
    have j8 := (HA.out 8 _ rfl).1
    have j9 := (HA.out 9 _ rfl).1
    have j10 := (HA.out 10 _ rfl).1
    have j11 := (HA.out 11 _ rfl).1
    have j12 := (HA.out 12 _ rfl).1
    go_upto_region 5 with fail
    rw [← HV2.out]
    clear HV2
    go_wp2_with fail
    refine (alive6_any _).mono ?_
    rintro e w3 ⟨rfl, hb⟩
    replace HX := Lib.hid (varN_B hb HX.out)
    replace HRG := Lib.hid (varN_B hb HRG.out)
    replace HA := Lib.hid (varN_B hb HA.out)
    replace HFa := Lib.hid (thF_B hb HFa.out)
    replace HFQ := Lib.hid (thQ_keep (kept_B hb) HFQ.out)
    replace HB := Lib.hid (below_from HB.out hb)
    clear hb
    clear k0 k1 k2 k3 k4 k5 k6 k7 k8 k9 k10 k11 k12 j0 j1 j2 j3 j4 j5 j6 j7 j8 j9 j10 j11 j12 qr
    go_upto_region 7 with fail
    have k0 := (HRG.out 0 _ rfl).1
    have k1 := (HRG.out 1 _ rfl).1
    have k2 := (HRG.out 2 _ rfl).1
    have k3 := (HRG.out 3 _ rfl).1
    have k4 := (HRG.out 4 _ rfl).1
    have k5 := (HRG.out 5 _ rfl).1
    have k6 := (HRG.out 6 _ rfl).1
    have k7 := (HRG.out 7 _ rfl).1
    obtain ⟨y0, g0⟩ := HA.out 0 _ rfl
    obtain ⟨y1, g1⟩ := HA.out 1 _ rfl
    obtain ⟨y2, g2⟩ := HA.out 2 _ rfl
    obtain ⟨y3, g3⟩ := HA.out 3 _ rfl
    obtain ⟨y4, g4⟩ := HA.out 4 _ rfl
    obtain ⟨y5, g5⟩ := HA.out 5 _ rfl
    obtain ⟨y6, g6⟩ := HA.out 6 _ rfl
    obtain ⟨y7, g7⟩ := HA.out 7 _ rfl
    obtain ⟨y8, g8⟩ := HA.out 8 _ rfl
    have hwp : wrap64 (en.tmod 1001 + 1001) = en.tmod 1001 + 1001 := by
      have h1 := Int.lt_tmod_of_pos en (show (0 : Int) < 1001 by decide)
      have h2 := Int.tmod_lt_of_pos en (show (0 : Int) < 1001 by decide)
      exact IntWalk.wrap64_in _ (by omega)
    have hpe := HPE.out
    go_upto_region 8 with fail
    clear hwp hpe
    obtain ⟨Z, hZ⟩ : ∃ Z, Z = (setN w3 w2.heap.size 1 [.int .i64 (rg 0), .int .i64 (rg 1), .int .i64 (rg 2), .int .i64 (rg 3), .int .i64 (rg 4), .int .i64 (rg 5), .int .i64 (rg 6), .int .i64 (rg 7)]).setCell ⟨w2.heap.size, 0, none⟩ (.int .i64 pe) := ⟨_, rfl⟩
    have HZ : Hid (Z = (((((((((w3.setCell ⟨w2.heap.size, 1, none⟩ (.int .i64 (rg 0))).setCell ⟨w2.heap.size, 2, none⟩ (.int .i64 (rg 1))).setCell ⟨w2.heap.size, 3, none⟩ (.int .i64 (rg 2))).setCell ⟨w2.heap.size, 4, none⟩ (.int .i64 (rg 3))).setCell ⟨w2.heap.size, 5, none⟩ (.int .i64 (rg 4))).setCell ⟨w2.heap.size, 6, none⟩ (.int .i64 (rg 5))).setCell ⟨w2.heap.size, 7, none⟩ (.int .i64 (rg 6))).setCell ⟨w2.heap.size, 8, none⟩ (.int .i64 (rg 7))).setCell ⟨w2.heap.size, 0, none⟩ (.int .i64 pe))) := hZ
    rw [← HZ.out]
    have hlt := HLT.out
    have A1 : VarN (setN w3 w2.heap.size 1 [.int .i64 (rg 0), .int .i64 (rg 1), .int .i64 (rg 2), .int .i64 (rg 3), .int .i64 (rg 4), .int .i64 (rg 5), .int .i64 (rg 6), .int .i64 (rg 7)]) w2.heap.size [.int .i64 tg, .int .i64 (rg 0), .int .i64 (rg 1), .int .i64 (rg 2), .int .i64 (rg 3), .int .i64 (rg 4), .int .i64 (rg 5), .int .i64 (rg 6), .int .i64 (rg 7), .slice af an afc, .int .i64 u.st, .int .i64 u.ft, .slice al am alc] := varN_setN (xs := [.int .i64 (rg 0), .int .i64 (rg 1), .int .i64 (rg 2), .int .i64 (rg 3), .int .i64 (rg 4), .int .i64 (rg 5), .int .i64 (rg 6), .int .i64 (rg 7)]) 1 HA.out (by simp)
    have A2 : VarN Z w2.heap.size [.int .i64 pe, .int .i64 (rg 0), .int .i64 (rg 1), .int .i64 (rg 2), .int .i64 (rg 3), .int .i64 (rg 4), .int .i64 (rg 5), .int .i64 (rg 6), .int .i64 (rg 7), .slice af an afc, .int .i64 u.st, .int .i64 u.ft, .slice al am alc] := by rw [hZ]; exact varN_set A1 0 (by simp) _
    have X2 : VarN Z w.heap.size [.int .i64 u.pc, .int .i64 (u.r 0), .int .i64 (u.r 1), .int .i64 (u.r 2), .int .i64 (u.r 3), .int .i64 (u.r 4), .int .i64 (u.r 5), .int .i64 (u.r 6), .int .i64 (u.r 7), .slice fa m9 fc, .int .i64 u.st, .int .i64 u.ft, .slice la m12 lc] := by rw [hZ]; exact varN_other (varN_others (by omega) HX.out) (by omega) _
    have R2 : VarN Z (w.heap.size + 1) [.int .i64 (rg 0), .int .i64 (rg 1), .int .i64 (rg 2), .int .i64 (rg 3), .int .i64 (rg 4), .int .i64 (rg 5), .int .i64 (rg 6), .int .i64 (rg 7)] := by rw [hZ]; exact varN_other (varN_others (by omega) HRG.out) (by omega) _
    have B2 : Below w.heap.size w Z := by rw [hZ]; exact (below_setN (by omega) HB.out).setCell (p := ⟨w2.heap.size, 0, none⟩) (by show _ ≤ w2.heap.size; omega) _
    have FA2 : ThF Z af an afc al am alc ⟨pe, rg, fs2, u.st, u.ft, u.lf⟩ := by
      have h1 := HFQ.out
      have h2 : ThQ (fun b => b < w2.heap.size) Z af an afc al am alc ⟨tg, u.r, fs2, u.st, u.ft, u.lf⟩ := by
        rw [hZ]; exact thQ_keep (kept_set _ _ _ (fun b hb => by show b ≠ w2.heap.size; omega)) (thQ_keep (kept_setN (fun b hb => by omega)) h1)
      exact ⟨h2.f.fcap, h2.f.fs, h2.f.lcap, h2.f.lf⟩
    clear HX HRG HB HA hZ HFa HFQ HZ A1 hlt k0 k1 k2 k3 k4 k5 k6 k7 y0 y1 y2 y3 y4 y5 y6 y7 y8 g0 g1 g2 g3 g4 g5 g6 g7 g8
    have HX := Lib.hid X2
    have HRG := Lib.hid R2
    have HB := Lib.hid B2
    have HA := Lib.hid A2
    have HFA := Lib.hid FA2
    clear X2 R2 B2 A2 FA2
    obtain ⟨tb, htb⟩ : ∃ tb : Thr, ⟨u.pc + 1, resR rg (u.r 4) (u.r 5) (u.r 6) (u.r 7), u.fs, u.st, u.ft, u.lf⟩ = tb := ⟨_, rfl⟩
    have HTB := Lib.hid htb
    clear htb
    have k0 := (HA.out 0 _ rfl).1
    have k1 := (HA.out 1 _ rfl).1
    have k2 := (HA.out 2 _ rfl).1
    have k3 := (HA.out 3 _ rfl).1
    have k4 := (HA.out 4 _ rfl).1
    have k5 := (HA.out 5 _ rfl).1
    have k6 := (HA.out 6 _ rfl).1
    have k7 := (HA.out 7 _ rfl).1
    have k8 := (HA.out 8 _ rfl).1
    have k9 := (HA.out 9 _ rfl).1
    have k10 := (HA.out 10 _ rfl).1
    have k11 := (HA.out 11 _ rfl).1
    have k12 := (HA.out 12 _ rfl).1
    go_wp2_with fail
    have h0 : Calls Try.prog 8 #[.agg #[.int .i64 pe, .int .i64 (rg 0), .int .i64 (rg 1), .int .i64 (rg 2), .int .i64 (rg 3), .int .i64 (rg 4), .int .i64 (rg 5), .int .i64 (rg 6), .int .i64 (rg 7), .slice af an afc, .int .i64 u.st, .int .i64 u.ft, .slice al am alc]] Z (ThPostF tb 0 Z) := by
      have h := frBackF_any ⟨pe, rg, fs2, u.st, u.ft, u.lf⟩ af al an afc am alc Z HFA.out
      rw [HBK.out.1, HBK.out.2, HTB.out] at h
      exact h
    with_reducible refine h0.mono ?_
    clear h0 k0 k1 k2 k3 k4 k5 k6 k7 k8 k9 k10 k11 k12 HFA HA HBK
    rintro e w4 ⟨bf, bfc, bl, blc, rfl, FB, hb⟩
    obtain ⟨bn, hbn⟩ : ∃ n, tb.fs.length = n := ⟨_, rfl⟩
    obtain ⟨bm, hbm⟩ : ∃ n, tb.lf.length = n := ⟨_, rfl⟩
    rw [hbn, hbm] at FB
    rw [hbn, hbm]
    have hzz := varN_lt HX.out (by simp)
    obtain ⟨V4, hV4⟩ : ∃ V, V = w4.alloc (Obj.cells #[.int .i64 tb.pc, .int .i64 (tb.r 0), .int .i64 (tb.r 1), .int .i64 (tb.r 2), .int .i64 (tb.r 3), .int .i64 (tb.r 4), .int .i64 (tb.r 5), .int .i64 (tb.r 6), .int .i64 (tb.r 7), .slice bf bn bfc, .int .i64 tb.st, .int .i64 tb.ft, .slice bl bm blc] 27) := ⟨_, rfl⟩
    have hbA : Below w4.heap.size w4 V4 := by rw [hV4]; exact (Below.refl _ _).alloc (Nat.le_refl _) _
    have h4 := hb.size
    have X3 := varN_B hbA (varN_B hb HX.out)
    have R3 := varN_B hbA (varN_B hb HRG.out)
    have Q3 : VarN V4 w4.heap.size [.int .i64 tb.pc, .int .i64 (tb.r 0), .int .i64 (tb.r 1), .int .i64 (tb.r 2), .int .i64 (tb.r 3), .int .i64 (tb.r 4), .int .i64 (tb.r 5), .int .i64 (tb.r 6), .int .i64 (tb.r 7), .slice bf bn bfc, .int .i64 tb.st, .int .i64 tb.ft, .slice bl bm blc] := by rw [hV4]; exact varN_new [.int .i64 tb.pc, .int .i64 (tb.r 0), .int .i64 (tb.r 1), .int .i64 (tb.r 2), .int .i64 (tb.r 3), .int .i64 (tb.r 4), .int .i64 (tb.r 5), .int .i64 (tb.r 6), .int .i64 (tb.r 7), .slice bf bn bfc, .int .i64 tb.st, .int .i64 tb.ft, .slice bl bm blc] _ rfl
    have B3 := below_from (below_from HB.out hb) hbA
    have FB3 := thQ_keep (kept_B hbA) FB
    have HV4 := Lib.hid hV4
    obtain ⟨Y, hY⟩ : ∃ Y, Y = V4.setCell ⟨w.heap.size, 0, none⟩ (.int .i64 (u.pc + 1)) := ⟨_, rfl⟩
    have X4 : VarN Y w.heap.size [.int .i64 (u.pc + 1), .int .i64 (u.r 0), .int .i64 (u.r 1), .int .i64 (u.r 2), .int .i64 (u.r 3), .int .i64 (u.r 4), .int .i64 (u.r 5), .int .i64 (u.r 6), .int .i64 (u.r 7), .slice fa m9 fc, .int .i64 u.st, .int .i64 u.ft, .slice la m12 lc] := by rw [hY]; exact varN_set X3 0 (by simp) _
    have R4 : VarN Y (w.heap.size + 1) [.int .i64 (rg 0), .int .i64 (rg 1), .int .i64 (rg 2), .int .i64 (rg 3), .int .i64 (rg 4), .int .i64 (rg 5), .int .i64 (rg 6), .int .i64 (rg 7)] := by rw [hY]; exact varN_other R3 (by omega) _
    have Q4 : VarN Y w4.heap.size [.int .i64 tb.pc, .int .i64 (tb.r 0), .int .i64 (tb.r 1), .int .i64 (tb.r 2), .int .i64 (tb.r 3), .int .i64 (tb.r 4), .int .i64 (tb.r 5), .int .i64 (tb.r 6), .int .i64 (tb.r 7), .slice bf bn bfc, .int .i64 tb.st, .int .i64 tb.ft, .slice bl bm blc] := by rw [hY]; exact varN_other Q3 (by omega) _
    have B4 : Below w.heap.size w Y := by rw [hY]; exact B3.setCell (p := ⟨w.heap.size, 0, none⟩) (Nat.le_refl _) _
    have FB4 : ThQ (fun b => Z.heap.size ≤ b) Y bf bn bfc bl bm blc tb := by rw [hY]; exact thQ_keep (kept_set _ _ _ (fun b hb => by show b ≠ w.heap.size; omega)) FB3
    obtain ⟨E, hE⟩ : ∃ E, E = setN Y w.heap.size 1 [.int .i64 (rg 0), .int .i64 (rg 1), .int .i64 (rg 2), .int .i64 (rg 3)] := ⟨_, rfl⟩
    have X5 : VarN E w.heap.size [.int .i64 (u.pc + 1), .int .i64 (rg 0), .int .i64 (rg 1), .int .i64 (rg 2), .int .i64 (rg 3), .int .i64 (u.r 4), .int .i64 (u.r 5), .int .i64 (u.r 6), .int .i64 (u.r 7), .slice fa m9 fc, .int .i64 u.st, .int .i64 u.ft, .slice la m12 lc] := by rw [hE]; exact varN_setN (xs := [.int .i64 (rg 0), .int .i64 (rg 1), .int .i64 (rg 2), .int .i64 (rg 3)]) 1 X4 (by simp)
    have Q5 : VarN E w4.heap.size [.int .i64 tb.pc, .int .i64 (tb.r 0), .int .i64 (tb.r 1), .int .i64 (tb.r 2), .int .i64 (tb.r 3), .int .i64 (tb.r 4), .int .i64 (tb.r 5), .int .i64 (tb.r 6), .int .i64 (tb.r 7), .slice bf bn bfc, .int .i64 tb.st, .int .i64 tb.ft, .slice bl bm blc] := by rw [hE]; exact varN_others (by omega) Q4
    have B5 : Below w.heap.size w E := by rw [hE]; exact below_setN (Nat.le_refl _) B4
    have FB5 : ThQ (fun b => Z.heap.size ≤ b) E bf bn bfc bl bm blc tb := by rw [hE]; exact thQ_keep (kept_setN (fun b hb => by omega)) FB4
    have HWR1 := Lib.hid (show IntKind.i64.wrap (u.pc + 1) = u.pc + 1 from IntWalk.i64_in _ (by have := HPC.out; omega))
    have HWR2 := Lib.hid (show wrap64 (u.pc + 1) = u.pc + 1 from IntWalk.wrap64_in _ (by have := HPC.out; omega))
    have HY := Lib.hid hY
    have HE := Lib.hid hE
    have HX3 := Lib.hid X3
    clear HX HRG HB
    have HX := Lib.hid X4
    have HRG := Lib.hid R4
    have HX5 := Lib.hid X5
    have HQ5 := Lib.hid Q5
    have HB5 := Lib.hid B5
    have HFB := Lib.hid FB5
    have HBN := Lib.hid hbn
    have HBM := Lib.hid hbm
    clear hzz hbA h4 X3 R3 Q3 B3 FB3 hV4 hY X4 R4 Q4 B4 FB4 hE X5 Q5 B5 FB5 FB hb hbn hbm
    go_upto_region 9 with fail
    rw [← HV4.out]
    clear HV4
    have k0 := (HX3.out 0 _ rfl).1
    obtain ⟨y0, g0⟩ := HX3.out 0 _ rfl
    have hw1 := HWR1.out
    have hw2 := HWR2.out
    go_upto_region 10 with fail
    rw [← HY.out]
    clear hw1 hw2 HWR1 HWR2 k0 y0 g0 HX3 HY
    go_wp2
    go_loopw [62] (fun i wr => ∃ k : Nat, k ≤ 4 ∧ i = .int .i64 k ∧ wr = setN Y w.heap.size 1 (([.int .i64 (rg 0), .int .i64 (rg 1), .int .i64 (rg 2), .int .i64 (rg 3)] : List Value).take k)) (fun i _ => 4 - (intOf i).toNat)
    case atStart => exact ⟨0, by omega, rfl, rfl⟩
    case round =>
      obtain ⟨k, hk, rfl, hwr⟩ := hrel
      rcases (show k = 0 ∨ k = 1 ∨ k = 2 ∨ k = 3 ∨ k = 4 by omega) with rfl | rfl | rfl | rfl | rfl
      · have XK : VarN wr w.heap.size [.int .i64 (u.pc + 1), .int .i64 (u.r 0), .int .i64 (u.r 1), .int .i64 (u.r 2), .int .i64 (u.r 3), .int .i64 (u.r 4), .int .i64 (u.r 5), .int .i64 (u.r 6), .int .i64 (u.r 7), .slice fa m9 fc, .int .i64 u.st, .int .i64 u.ft, .slice la m12 lc] := by rw [hwr]; exact varN_setN (xs := []) 1 HX.out (by simp)
        have RK : VarN wr (w.heap.size + 1) [.int .i64 (rg 0), .int .i64 (rg 1), .int .i64 (rg 2), .int .i64 (rg 3), .int .i64 (rg 4), .int .i64 (rg 5), .int .i64 (rg 6), .int .i64 (rg 7)] := by rw [hwr]; exact varN_others (by omega) HRG.out
        have r := (RK 0 _ rfl).1
        obtain ⟨y, g⟩ := XK 1 _ rfl
        have HWRO := Lib.hid hwr
        clear hwr XK RK
        go_wp2
        go_roundw
        case rel => exact ⟨1, by omega, rfl, by rw [HWRO.out]; rfl⟩
        case measure => simp [intOf]
      · have XK : VarN wr w.heap.size [.int .i64 (u.pc + 1), .int .i64 (rg 0), .int .i64 (u.r 1), .int .i64 (u.r 2), .int .i64 (u.r 3), .int .i64 (u.r 4), .int .i64 (u.r 5), .int .i64 (u.r 6), .int .i64 (u.r 7), .slice fa m9 fc, .int .i64 u.st, .int .i64 u.ft, .slice la m12 lc] := by rw [hwr]; exact varN_setN (xs := [.int .i64 (rg 0)]) 1 HX.out (by simp)
        have RK : VarN wr (w.heap.size + 1) [.int .i64 (rg 0), .int .i64 (rg 1), .int .i64 (rg 2), .int .i64 (rg 3), .int .i64 (rg 4), .int .i64 (rg 5), .int .i64 (rg 6), .int .i64 (rg 7)] := by rw [hwr]; exact varN_others (by omega) HRG.out
        have r := (RK 1 _ rfl).1
        obtain ⟨y, g⟩ := XK 2 _ rfl
        have HWRO := Lib.hid hwr
        clear hwr XK RK
        go_wp2
        go_roundw
        case rel => exact ⟨2, by omega, rfl, by rw [HWRO.out]; rfl⟩
        case measure => simp [intOf]
      · have XK : VarN wr w.heap.size [.int .i64 (u.pc + 1), .int .i64 (rg 0), .int .i64 (rg 1), .int .i64 (u.r 2), .int .i64 (u.r 3), .int .i64 (u.r 4), .int .i64 (u.r 5), .int .i64 (u.r 6), .int .i64 (u.r 7), .slice fa m9 fc, .int .i64 u.st, .int .i64 u.ft, .slice la m12 lc] := by rw [hwr]; exact varN_setN (xs := [.int .i64 (rg 0), .int .i64 (rg 1)]) 1 HX.out (by simp)
        have RK : VarN wr (w.heap.size + 1) [.int .i64 (rg 0), .int .i64 (rg 1), .int .i64 (rg 2), .int .i64 (rg 3), .int .i64 (rg 4), .int .i64 (rg 5), .int .i64 (rg 6), .int .i64 (rg 7)] := by rw [hwr]; exact varN_others (by omega) HRG.out
        have r := (RK 2 _ rfl).1
        obtain ⟨y, g⟩ := XK 3 _ rfl
        have HWRO := Lib.hid hwr
        clear hwr XK RK
        go_wp2
        go_roundw
        case rel => exact ⟨3, by omega, rfl, by rw [HWRO.out]; rfl⟩
        case measure => simp [intOf]
      · have XK : VarN wr w.heap.size [.int .i64 (u.pc + 1), .int .i64 (rg 0), .int .i64 (rg 1), .int .i64 (rg 2), .int .i64 (u.r 3), .int .i64 (u.r 4), .int .i64 (u.r 5), .int .i64 (u.r 6), .int .i64 (u.r 7), .slice fa m9 fc, .int .i64 u.st, .int .i64 u.ft, .slice la m12 lc] := by rw [hwr]; exact varN_setN (xs := [.int .i64 (rg 0), .int .i64 (rg 1), .int .i64 (rg 2)]) 1 HX.out (by simp)
        have RK : VarN wr (w.heap.size + 1) [.int .i64 (rg 0), .int .i64 (rg 1), .int .i64 (rg 2), .int .i64 (rg 3), .int .i64 (rg 4), .int .i64 (rg 5), .int .i64 (rg 6), .int .i64 (rg 7)] := by rw [hwr]; exact varN_others (by omega) HRG.out
        have r := (RK 3 _ rfl).1
        obtain ⟨y, g⟩ := XK 4 _ rfl
        have HWRO := Lib.hid hwr
        clear hwr XK RK
        go_wp2
        go_roundw
        case rel => exact ⟨4, by omega, rfl, by rw [HWRO.out]; rfl⟩
        case measure => simp [intOf]
      · have hwe : wr = E := by rw [hwr, HE.out]; rfl
        subst hwe
        clear hwr HE
        have k0 := (HX5.out 0 _ rfl).1
        have k1 := (HX5.out 1 _ rfl).1
        have k2 := (HX5.out 2 _ rfl).1
        have k3 := (HX5.out 3 _ rfl).1
        have k4 := (HX5.out 4 _ rfl).1
        have k5 := (HX5.out 5 _ rfl).1
        have k6 := (HX5.out 6 _ rfl).1
        have k7 := (HX5.out 7 _ rfl).1
        have k8 := (HX5.out 8 _ rfl).1
        have k9 := (HX5.out 9 _ rfl).1
        have k10 := (HX5.out 10 _ rfl).1
        have k11 := (HX5.out 11 _ rfl).1
        have k12 := (HX5.out 12 _ rfl).1
        have j0 := (HQ5.out 0 _ rfl).1
        have j1 := (HQ5.out 1 _ rfl).1
        have j2 := (HQ5.out 2 _ rfl).1
        have j3 := (HQ5.out 3 _ rfl).1
        have j4 := (HQ5.out 4 _ rfl).1
        have j5 := (HQ5.out 5 _ rfl).1
        have j6 := (HQ5.out 6 _ rfl).1
        have j7 := (HQ5.out 7 _ rfl).1
        have j8 := (HQ5.out 8 _ rfl).1
        have j9 := (HQ5.out 9 _ rfl).1
        have j10 := (HQ5.out 10 _ rfl).1
        have j11 := (HQ5.out 11 _ rfl).1
        have j12 := (HQ5.out 12 _ rfl).1
        go_wp2_with fail
        have FUE := thF_low HB5.out HU.out
        have h0 : Calls Try.prog 12 #[.agg #[.int .i64 tb.pc, .int .i64 (tb.r 0), .int .i64 (tb.r 1), .int .i64 (tb.r 2), .int .i64 (tb.r 3), .int .i64 (tb.r 4), .int .i64 (tb.r 5), .int .i64 (tb.r 6), .int .i64 (tb.r 7), .slice bf bn bfc, .int .i64 tb.st, .int .i64 tb.ft, .slice bl bm blc], .agg #[.int .i64 (u.pc + 1), .int .i64 (rg 0), .int .i64 (rg 1), .int .i64 (rg 2), .int .i64 (rg 3), .int .i64 (u.r 4), .int .i64 (u.r 5), .int .i64 (u.r 6), .int .i64 (u.r 7), .slice fa m9 fc, .int .i64 u.st, .int .i64 u.ft, .slice la m12 lc]] wr (BoolPost true wr) := by
          have h := refSame6_any tb ⟨u.pc + 1, mixR rg u.r 4, u.fs, u.st, u.ft, u.lf⟩ bf bl bn bfc bm blc fa la m9 fc m12 lc wr HFB.out.f ⟨FUE.fcap, FUE.fs, FUE.lcap, FUE.lf⟩ (by
            have h1 := HFB.out.fs.1
            have h2 : tb.fs = u.fs := by rw [← HTB.out]
            have h3 := (rightT_len HRT.out).1
            rw [h2] at h1; omega)
          have hs : sameT tb ⟨u.pc + 1, mixR rg u.r 4, u.fs, u.st, u.ft, u.lf⟩ = true := sameT_iff.2 ⟨by rw [← HTB.out], by rw [← HTB.out]; simp [eqR, resR, mixR, List.range, List.range.loop], by rw [← HTB.out], by rw [← HTB.out], by rw [← HTB.out], by rw [← HTB.out]⟩
          rw [hs] at h
          exact h
        clear FUE
        with_reducible refine h0.mono ?_
        clear h0
        rintro e w5 ⟨rfl, hb⟩
        have HB6 := Lib.hid (below_from HB5.out hb)
        clear hb
        go_wp2
        go_ret
        exact boolPost_mk rfl HB6.out
  ·
    have hz : ta = zThr := by rw [← HTA.out]; exact callT_no (by rw [HEA.out]; exact h0)
    subst hz
    obtain rfl : an = 0 := by rw [← han]; rfl
    have q : (ea != 0) = true := by simpa using h0
    clear h0
    have j0 := (HA.out 0 _ rfl).1
    have j1 := (HA.out 1 _ rfl).1
    have j2 := (HA.out 2 _ rfl).1
    have j3 := (HA.out 3 _ rfl).1
    have j4 := (HA.out 4 _ rfl).1
    have j5 := (HA.out 5 _ rfl).1
    have j6 := (HA.out 6 _ rfl).1
    have j7 := (HA.out 7 _ rfl).1
    have j8 := (HA.out 8 _ rfl).1
    have j9 := (HA.out 9 _ rfl).1
    have j10 := (HA.out 10 _ rfl).1
    have j11 := (HA.out 11 _ rfl).1
    have j12 := (HA.out 12 _ rfl).1
    go_upto_region 3 with fail
    rw [← HV2.out]
    clear HV2
    go_wp2_with fail
    refine (alive6_any _).mono ?_
    rintro e w3 ⟨rfl, hb⟩
    replace HX := Lib.hid (varN_B hb HX.out)
    replace HRG := Lib.hid (varN_B hb HRG.out)
    replace HA := Lib.hid (varN_B hb HA.out)
    replace HFa := Lib.hid (thF_B hb HFa.out)
    replace HFQ := Lib.hid (thQ_keep (kept_B hb) HFQ.out)
    replace HB := Lib.hid (below_from HB.out hb)
    clear hb
    clear j0 j1 j2 j3 j4 j5 j6 j7 j8 j9 j10 j11 j12
    have j0 := (HA.out 0 _ rfl).1
    have j1 := (HA.out 1 _ rfl).1
    have j2 := (HA.out 2 _ rfl).1
    have j3 := (HA.out 3 _ rfl).1
    have j4 := (HA.out 4 _ rfl).1
    have j5 := (HA.out 5 _ rfl).1
    have j6 := (HA.out 6 _ rfl).1
    have j7 := (HA.out 7 _ rfl).1
    have j8 := (HA.out 8 _ rfl).1
    have j9 := (HA.out 9 _ rfl).1
    have j10 := (HA.out 10 _ rfl).1
    have j11 := (HA.out 11 _ rfl).1
    have j12 := (HA.out 12 _ rfl).1
    go_wp2
    go_ret
    exact boolPost_mk rfl HB.out
end Go.Proofs.Ytpdghgpmjadnnaa
