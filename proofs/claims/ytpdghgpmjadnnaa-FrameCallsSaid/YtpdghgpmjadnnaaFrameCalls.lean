/- The walk of FrameCalls. -/
import Derived.Test.YtpdghgpmjadnnaaFrK
import Derived.Test.YtpdghgpmjadnnaaFrL
import Derived.Test.YtpdghgpmjadnnaaFrM
namespace Go.Proofs.Ytpdghgpmjadnnaa
open Go.ChangeShapes Go.WideShapes Go.ChangeAt Go.RowKit
open Gen

theorem eqR_self (r : Nat → Int) : eqR r r = true := by simp [eqR]
theorem sameT_self (t : Thr) : sameT t t = true := sameT_iff.2 ⟨rfl, eqR_self _, rfl, rfl, rfl, rfl⟩
theorem thF_low {w w' : World} {fa la : Option Addr} {fn fc ln lc : Nat} {t : Thr} (hb : Below w.heap.size w w') (F : ThF w fa fn fc la ln lc t) : ThF w' fa fn fc la ln lc t :=
  (thQ_keep (kept_low hb (fun _ h => h)) (thQ_old F)).f
def cutT (t : Thr) (n m : Nat) : Thr := ⟨t.pc, t.r, t.fs.take n, t.st, t.ft, t.lf.take m⟩
theorem few_F {w : World} {fa la : Option Addr} {fn fc ln lc : Nat} {t : Thr} (F : ThF w fa fn fc la ln lc t) : ThF w fa (min fn 8) fc la (min ln 10) lc (cutT t (min fn 8) (min ln 10)) :=
  ⟨⟨by have := F.fcap.1; omega, F.fcap.2⟩, vs_take F.fs _ (by omega), ⟨by have := F.lcap.1; omega, F.lcap.2⟩, vs_take F.lf _ (by omega)⟩

set_option maxRecDepth 100000 in
set_option maxHeartbeats 8000000 in
theorem FrameCalls_walk (t : Thr) (tg : Int) (fa la : Option Addr) (fn fc ln lc : Nat) (w : World) (F : ThF w fa fn fc la ln lc t) :
    Calls Try.prog 3 #[.agg #[.int .i64 t.pc, .int .i64 (t.r 0), .int .i64 (t.r 1), .int .i64 (t.r 2), .int .i64 (t.r 3), .int .i64 (t.r 4), .int .i64 (t.r 5), .int .i64 (t.r 6), .int .i64 (t.r 7), .slice fa fn fc, .int .i64 t.st, .int .i64 t.ft, .slice la ln lc], .int .i64 tg] w (BoolPost true w) := by
  obtain ⟨W, hW⟩ : ∃ W, W = w.alloc (Obj.cells #[.int .i64 t.pc, .int .i64 (t.r 0), .int .i64 (t.r 1), .int .i64 (t.r 2), .int .i64 (t.r 3), .int .i64 (t.r 4), .int .i64 (t.r 5), .int .i64 (t.r 6), .int .i64 (t.r 7), .slice fa fn fc, .int .i64 t.st, .int .i64 t.ft, .slice la ln lc] 27) := ⟨_, rfl⟩
  have X : VarN W w.heap.size [.int .i64 t.pc, .int .i64 (t.r 0), .int .i64 (t.r 1), .int .i64 (t.r 2), .int .i64 (t.r 3), .int .i64 (t.r 4), .int .i64 (t.r 5), .int .i64 (t.r 6), .int .i64 (t.r 7), .slice fa fn fc, .int .i64 t.st, .int .i64 t.ft, .slice la ln lc] := by rw [hW]; exact varN_new [.int .i64 t.pc, .int .i64 (t.r 0), .int .i64 (t.r 1), .int .i64 (t.r 2), .int .i64 (t.r 3), .int .i64 (t.r 4), .int .i64 (t.r 5), .int .i64 (t.r 6), .int .i64 (t.r 7), .slice fa fn fc, .int .i64 t.st, .int .i64 t.ft, .slice la ln lc] _ rfl
  have hB : Below w.heap.size w W := by rw [hW]; go_grown
  have C1 := F.fcap
  have C2 := F.lcap
  have FU := few_F F
  obtain ⟨u, hu⟩ : ∃ u : Thr, cutT t (min fn 8) (min ln 10) = u := ⟨_, rfl⟩
  obtain ⟨m9, hm9⟩ : ∃ m, min fn 8 = m := ⟨_, rfl⟩
  obtain ⟨m12, hm12⟩ : ∃ m, min ln 10 = m := ⟨_, rfl⟩
  have HE1 := Lib.hid (show t.pc = u.pc by rw [← hu]; rfl)
  have HE2 := Lib.hid (show t.r = u.r by rw [← hu]; rfl)
  have HE3 := Lib.hid (show t.st = u.st by rw [← hu]; rfl)
  have HE4 := Lib.hid (show t.ft = u.ft by rw [← hu]; rfl)
  have HM9 := Lib.hid hm9
  have HM12 := Lib.hid hm12
  rw [hu, hm9, hm12] at FU
  have HN9 := Lib.hid (show m9 ≤ 1000 by omega)
  have HX := Lib.hid X
  have HB := Lib.hid hB
  have HW := Lib.hid hW
  have HU := Lib.hid FU
  clear hW X hB F FU hu hm9 hm12
  go_enter Try.func3, Try.ntmps3
  go_upto_region 1 with fail
  rw [← HW.out]
  have k0 := (HX.out 0 _ rfl).1
  have k1 := (HX.out 1 _ rfl).1
  have k2 := (HX.out 2 _ rfl).1
  have k3 := (HX.out 3 _ rfl).1
  have k4 := (HX.out 4 _ rfl).1
  have k5 := (HX.out 5 _ rfl).1
  have k6 := (HX.out 6 _ rfl).1
  have k7 := (HX.out 7 _ rfl).1
  have k8 := (HX.out 8 _ rfl).1
  have k9 := (HX.out 9 _ rfl).1
  have k10 := (HX.out 10 _ rfl).1
  have k11 := (HX.out 11 _ rfl).1
  have k12 := (HX.out 12 _ rfl).1
  go_wp2_with fail
  refine (few6_any t fa la fn fc ln lc W C1 C2).mono ?_
  rintro e w1 ⟨rfl, hb1⟩
  rw [HM9.out, HM12.out, HE1.out, HE2.out, HE3.out, HE4.out]
  have X1 := varN_B hb1 HX.out
  have B1 := below_from HB.out hb1
  obtain ⟨V, hV⟩ : ∃ V, V = setN w1 w.heap.size 0 [.int .i64 u.pc, .int .i64 (u.r 0), .int .i64 (u.r 1), .int .i64 (u.r 2), .int .i64 (u.r 3), .int .i64 (u.r 4), .int .i64 (u.r 5), .int .i64 (u.r 6), .int .i64 (u.r 7), .slice fa m9 fc, .int .i64 u.st, .int .i64 u.ft, .slice la m12 lc] := ⟨_, rfl⟩
  have X2 : VarN V w.heap.size [.int .i64 u.pc, .int .i64 (u.r 0), .int .i64 (u.r 1), .int .i64 (u.r 2), .int .i64 (u.r 3), .int .i64 (u.r 4), .int .i64 (u.r 5), .int .i64 (u.r 6), .int .i64 (u.r 7), .slice fa m9 fc, .int .i64 u.st, .int .i64 u.ft, .slice la m12 lc] := by rw [hV]; exact varN_all X1 rfl
  have B2 : Below w.heap.size w V := by rw [hV]; exact below_setN (Nat.le_refl _) B1
  have HV : Hid (V = (((((((((((((w1.setCell ⟨w.heap.size, 0, none⟩ (.int .i64 u.pc)).setCell ⟨w.heap.size, 1, none⟩ (.int .i64 (u.r 0))).setCell ⟨w.heap.size, 2, none⟩ (.int .i64 (u.r 1))).setCell ⟨w.heap.size, 3, none⟩ (.int .i64 (u.r 2))).setCell ⟨w.heap.size, 4, none⟩ (.int .i64 (u.r 3))).setCell ⟨w.heap.size, 5, none⟩ (.int .i64 (u.r 4))).setCell ⟨w.heap.size, 6, none⟩ (.int .i64 (u.r 5))).setCell ⟨w.heap.size, 7, none⟩ (.int .i64 (u.r 6))).setCell ⟨w.heap.size, 8, none⟩ (.int .i64 (u.r 7))).setCell ⟨w.heap.size, 9, none⟩ (.slice fa m9 fc)).setCell ⟨w.heap.size, 10, none⟩ (.int .i64 u.st)).setCell ⟨w.heap.size, 11, none⟩ (.int .i64 u.ft)).setCell ⟨w.heap.size, 12, none⟩ (.slice la m12 lc))) := hV
  clear HX HB HW
  have HX := Lib.hid X2
  have HB := Lib.hid B2
  have HX1 := Lib.hid X1
  clear hV X2 B2 B1 X1 hb1 HM9 HM12 HE1 HE2 HE3 HE4 k0 k1 k2 k3 k4 k5 k6 k7 k8 k9 k10 k11 k12 C1 C2
  obtain ⟨y0, g0⟩ := HX1.out 0 _ rfl
  obtain ⟨y1, g1⟩ := HX1.out 1 _ rfl
  obtain ⟨y2, g2⟩ := HX1.out 2 _ rfl
  obtain ⟨y3, g3⟩ := HX1.out 3 _ rfl
  obtain ⟨y4, g4⟩ := HX1.out 4 _ rfl
  obtain ⟨y5, g5⟩ := HX1.out 5 _ rfl
  obtain ⟨y6, g6⟩ := HX1.out 6 _ rfl
  obtain ⟨y7, g7⟩ := HX1.out 7 _ rfl
  obtain ⟨y8, g8⟩ := HX1.out 8 _ rfl
  obtain ⟨y9, g9⟩ := HX1.out 9 _ rfl
  obtain ⟨y10, g10⟩ := HX1.out 10 _ rfl
  obtain ⟨y11, g11⟩ := HX1.out 11 _ rfl
  obtain ⟨y12, g12⟩ := HX1.out 12 _ rfl
  go_upto_region 2 with fail
  rw [← HV.out]
  clear y0 y1 y2 y3 y4 y5 y6 y7 y8 y9 y10 y11 y12 g0 g1 g2 g3 g4 g5 g6 g7 g8 g9 g10 g11 g12 HX1 HV
  obtain ⟨ta, hta⟩ : ∃ ta, callT u tg = ta := ⟨_, rfl⟩
  obtain ⟨ea, hea⟩ : ∃ ea, callE u tg = ea := ⟨_, rfl⟩
  obtain ⟨tb, htb⟩ : ∃ tb, backT u = tb := ⟨_, rfl⟩
  obtain ⟨eb, heb⟩ : ∃ eb, backE u = eb := ⟨_, rfl⟩
  have HTA := Lib.hid hta
  have HEA := Lib.hid hea
  have HTB := Lib.hid htb
  have HEB := Lib.hid heb
  clear hta hea htb heb
  have k0 := (HX.out 0 _ rfl).1
  have k1 := (HX.out 1 _ rfl).1
  have k2 := (HX.out 2 _ rfl).1
  have k3 := (HX.out 3 _ rfl).1
  have k4 := (HX.out 4 _ rfl).1
  have k5 := (HX.out 5 _ rfl).1
  have k6 := (HX.out 6 _ rfl).1
  have k7 := (HX.out 7 _ rfl).1
  have k8 := (HX.out 8 _ rfl).1
  have k9 := (HX.out 9 _ rfl).1
  have k10 := (HX.out 10 _ rfl).1
  have k11 := (HX.out 11 _ rfl).1
  have k12 := (HX.out 12 _ rfl).1
  go_wp2_with fail
  have h0 := frCall_any u tg fa la m9 fc m12 lc V (thF_low HB.out HU.out)
  rw [HTA.out, HEA.out] at h0
  with_reducible refine h0.mono ?_
  clear h0
  rintro e w2 ⟨af, afc, al, alc, rfl, Fa, hb⟩
  obtain ⟨an, han⟩ : ∃ n, ta.fs.length = n := ⟨_, rfl⟩
  obtain ⟨am, ham⟩ : ∃ n, ta.lf.length = n := ⟨_, rfl⟩
  rw [han, ham] at Fa
  rw [han, ham]
  replace HX := Lib.hid (varN_B hb HX.out)
  replace HB := Lib.hid (below_from HB.out hb)
  have HFa := Lib.hid Fa
  clear hb Fa
  obtain ⟨V2, hV2⟩ : ∃ V, V = w2.alloc (Obj.cells #[.int .i64 ta.pc, .int .i64 (ta.r 0), .int .i64 (ta.r 1), .int .i64 (ta.r 2), .int .i64 (ta.r 3), .int .i64 (ta.r 4), .int .i64 (ta.r 5), .int .i64 (ta.r 6), .int .i64 (ta.r 7), .slice af an afc, .int .i64 ta.st, .int .i64 ta.ft, .slice al am alc] 27) := ⟨_, rfl⟩
  have hb : Below w2.heap.size w2 V2 := by rw [hV2]; exact (Below.refl _ _).alloc (Nat.le_refl _) _
  have HA := Lib.hid (show VarN V2 w2.heap.size [.int .i64 ta.pc, .int .i64 (ta.r 0), .int .i64 (ta.r 1), .int .i64 (ta.r 2), .int .i64 (ta.r 3), .int .i64 (ta.r 4), .int .i64 (ta.r 5), .int .i64 (ta.r 6), .int .i64 (ta.r 7), .slice af an afc, .int .i64 ta.st, .int .i64 ta.ft, .slice al am alc] by rw [hV2]; exact varN_new [.int .i64 ta.pc, .int .i64 (ta.r 0), .int .i64 (ta.r 1), .int .i64 (ta.r 2), .int .i64 (ta.r 3), .int .i64 (ta.r 4), .int .i64 (ta.r 5), .int .i64 (ta.r 6), .int .i64 (ta.r 7), .slice af an afc, .int .i64 ta.st, .int .i64 ta.ft, .slice al am alc] _ rfl)
  replace HX := Lib.hid (varN_B hb HX.out)
  replace HFa := Lib.hid (thF_B hb HFa.out)
  replace HB := Lib.hid (below_from HB.out hb)
  have HV2 := Lib.hid hV2
  clear hb hV2
  clear k0 k1 k2 k3 k4 k5 k6 k7 k8 k9 k10 k11 k12
  have k0 := (HX.out 0 _ rfl).1
  have k1 := (HX.out 1 _ rfl).1
  have k2 := (HX.out 2 _ rfl).1
  have k3 := (HX.out 3 _ rfl).1
  have k4 := (HX.out 4 _ rfl).1
  have k5 := (HX.out 5 _ rfl).1
  have k6 := (HX.out 6 _ rfl).1
  have k7 := (HX.out 7 _ rfl).1
  have k8 := (HX.out 8 _ rfl).1
  have k9 := (HX.out 9 _ rfl).1
  have k10 := (HX.out 10 _ rfl).1
  have k11 := (HX.out 11 _ rfl).1
  have k12 := (HX.out 12 _ rfl).1
  go_upto_region 3 with fail
  rw [← HV2.out]
  clear HV2
  go_wp2_with fail
  have h0 := frBack_any u fa la m9 fc m12 lc V2 (thF_low HB.out HU.out)
  rw [HTB.out, HEB.out] at h0
  with_reducible refine h0.mono ?_
  clear h0
  rintro e w3 ⟨bf, bfc, bl, blc, rfl, Fb, hb⟩
  obtain ⟨bn, hbn⟩ : ∃ n, tb.fs.length = n := ⟨_, rfl⟩
  obtain ⟨bm, hbm⟩ : ∃ n, tb.lf.length = n := ⟨_, rfl⟩
  rw [hbn, hbm] at Fb
  rw [hbn, hbm]
  replace HX := Lib.hid (varN_B hb HX.out)
  replace HA := Lib.hid (varN_B hb HA.out)
  replace HFa := Lib.hid (thF_B hb HFa.out)
  replace HB := Lib.hid (below_from HB.out hb)
  have HFb := Lib.hid Fb
  clear hb Fb
  obtain ⟨V3, hV3⟩ : ∃ V, V = w3.alloc (Obj.cells #[.int .i64 tb.pc, .int .i64 (tb.r 0), .int .i64 (tb.r 1), .int .i64 (tb.r 2), .int .i64 (tb.r 3), .int .i64 (tb.r 4), .int .i64 (tb.r 5), .int .i64 (tb.r 6), .int .i64 (tb.r 7), .slice bf bn bfc, .int .i64 tb.st, .int .i64 tb.ft, .slice bl bm blc] 27) := ⟨_, rfl⟩
  have hb : Below w3.heap.size w3 V3 := by rw [hV3]; exact (Below.refl _ _).alloc (Nat.le_refl _) _
  have HBv := Lib.hid (show VarN V3 w3.heap.size [.int .i64 tb.pc, .int .i64 (tb.r 0), .int .i64 (tb.r 1), .int .i64 (tb.r 2), .int .i64 (tb.r 3), .int .i64 (tb.r 4), .int .i64 (tb.r 5), .int .i64 (tb.r 6), .int .i64 (tb.r 7), .slice bf bn bfc, .int .i64 tb.st, .int .i64 tb.ft, .slice bl bm blc] by rw [hV3]; exact varN_new [.int .i64 tb.pc, .int .i64 (tb.r 0), .int .i64 (tb.r 1), .int .i64 (tb.r 2), .int .i64 (tb.r 3), .int .i64 (tb.r 4), .int .i64 (tb.r 5), .int .i64 (tb.r 6), .int .i64 (tb.r 7), .slice bf bn bfc, .int .i64 tb.st, .int .i64 tb.ft, .slice bl bm blc] _ rfl)
  replace HX := Lib.hid (varN_B hb HX.out)
  replace HA := Lib.hid (varN_B hb HA.out)
  replace HFa := Lib.hid (thF_B hb HFa.out)
  replace HFb := Lib.hid (thF_B hb HFb.out)
  replace HB := Lib.hid (below_from HB.out hb)
  have HV3 := Lib.hid hV3
  clear hb hV3
  clear k0 k1 k2 k3 k4 k5 k6 k7 k8 k9 k10 k11 k12
  have k0 := (HX.out 0 _ rfl).1
  have k1 := (HX.out 1 _ rfl).1
  have k2 := (HX.out 2 _ rfl).1
  have k3 := (HX.out 3 _ rfl).1
  have k4 := (HX.out 4 _ rfl).1
  have k5 := (HX.out 5 _ rfl).1
  have k6 := (HX.out 6 _ rfl).1
  have k7 := (HX.out 7 _ rfl).1
  have k8 := (HX.out 8 _ rfl).1
  have k9 := (HX.out 9 _ rfl).1
  have k10 := (HX.out 10 _ rfl).1
  have k11 := (HX.out 11 _ rfl).1
  have k12 := (HX.out 12 _ rfl).1
  go_upto_region 4 with fail
  rw [← HV3.out]
  clear HV3
  cases hr : rightT u with
  | false =>
    have HR := Lib.hid hr
    clear hr
    have ha1 : ea = 1 := by rw [← HEA.out, callE, if_neg (by rw [HR.out]; simp)]
    have ha2 : ta = zThr := by rw [← HTA.out]; exact callT_no (by rw [HEA.out, ha1]; decide)
    have hb1 : eb = 1 := by rw [← HEB.out, backE, if_neg (by rw [HR.out]; simp)]
    have hb2 : tb = zThr := by rw [← HTB.out]; exact backT_no (by rw [HEB.out, hb1]; decide)
    subst ha1 ha2 hb1 hb2
    clear HTA HEA HTB HEB
    have FV := thF_low HB.out HU.out
    have q1 : ∀ w', Below V3.heap.size V3 w' → Calls Try.prog 9 #[.agg #[.int .i64 u.pc, .int .i64 (u.r 0), .int .i64 (u.r 1), .int .i64 (u.r 2), .int .i64 (u.r 3), .int .i64 (u.r 4), .int .i64 (u.r 5), .int .i64 (u.r 6), .int .i64 (u.r 7), .slice fa m9 fc, .int .i64 u.st, .int .i64 u.ft, .slice la m12 lc]] w' (BoolPost false w') := fun w' hb => by
      have h := frRight_any u fa la m9 fc m12 lc w' (thF_B hb FV); rwa [HR.out] at h
    have q2 : ∀ w', Below V3.heap.size V3 w' → Calls Try.prog 10 #[.agg #[.int .i64 u.pc, .int .i64 (u.r 0), .int .i64 (u.r 1), .int .i64 (u.r 2), .int .i64 (u.r 3), .int .i64 (u.r 4), .int .i64 (u.r 5), .int .i64 (u.r 6), .int .i64 (u.r 7), .slice fa m9 fc, .int .i64 u.st, .int .i64 u.ft, .slice la m12 lc]] w' (BoolPost false w') := fun w' hb => by
      have h := refRight6_any u fa la m9 fc m12 lc w' (thF_B hb FV); rwa [HR.out] at h
    have hB0 : Below V3.heap.size V3 V3.drew := (Below.refl _ _).drew
    go_region_held3 (fun w' => w'.cell? ⟨w.heap.size, 0, none⟩ = some (.int .i64 u.pc) ∧ w'.cell? ⟨w.heap.size, 1, none⟩ = some (.int .i64 (u.r 0)) ∧ w'.cell? ⟨w.heap.size, 2, none⟩ = some (.int .i64 (u.r 1)) ∧ w'.cell? ⟨w.heap.size, 3, none⟩ = some (.int .i64 (u.r 2)) ∧ w'.cell? ⟨w.heap.size, 4, none⟩ = some (.int .i64 (u.r 3)) ∧ w'.cell? ⟨w.heap.size, 5, none⟩ = some (.int .i64 (u.r 4)) ∧ w'.cell? ⟨w.heap.size, 6, none⟩ = some (.int .i64 (u.r 5)) ∧ w'.cell? ⟨w.heap.size, 7, none⟩ = some (.int .i64 (u.r 6)) ∧ w'.cell? ⟨w.heap.size, 8, none⟩ = some (.int .i64 (u.r 7)) ∧ w'.cell? ⟨w.heap.size, 9, none⟩ = some (.slice fa m9 fc) ∧ w'.cell? ⟨w.heap.size, 10, none⟩ = some (.int .i64 u.st) ∧ w'.cell? ⟨w.heap.size, 11, none⟩ = some (.int .i64 u.ft) ∧ w'.cell? ⟨w.heap.size, 12, none⟩ = some (.slice la m12 lc) ∧ Below V3.heap.size V3 w')
      (first | exact ⟨k0, k1, k2, k3, k4, k5, k6, k7, k8, k9, k10, k11, k12, (Below.refl _ _).drew⟩ | exact ⟨cellB (by assumption) k0, cellB (by assumption) k1, cellB (by assumption) k2, cellB (by assumption) k3, cellB (by assumption) k4, cellB (by assumption) k5, cellB (by assumption) k6, cellB (by assumption) k7, cellB (by assumption) k8, cellB (by assumption) k9, cellB (by assumption) k10, cellB (by assumption) k11, cellB (by assumption) k12, by assumption⟩)
      ((first | (go_at_call 9; refine (q1 _ (by assumption)).mono ?_; rintro e wx ⟨rfl, hbx⟩; have hbx' := below_from (by assumption) hbx) | (go_at_call 10; refine (q2 _ (by assumption)).mono ?_; rintro e wx ⟨rfl, hbx⟩; have hbx' := below_from (by assumption) hbx) | (go_at_call 11; refine (alive6_any _).mono ?_; rintro e wx ⟨rfl, hbx⟩; have hbx' := below_from (by assumption) hbx)))
    replace HX := Lib.hid (varN_B hbx' HX.out)
    replace HA := Lib.hid (varN_B hbx' HA.out)
    replace HBv := Lib.hid (varN_B hbx' HBv.out)
    replace HFa := Lib.hid (thF_B hbx' HFa.out)
    replace HFb := Lib.hid (thF_B hbx' HFb.out)
    replace HB := Lib.hid (below_from HB.out hbx')
    clear hbx hbx' hB0
    clear q1 q2 FV
    clear k0 k1 k2 k3 k4 k5 k6 k7 k8 k9 k10 k11 k12
    have k0 := (HX.out 0 _ rfl).1
    have k1 := (HX.out 1 _ rfl).1
    have k2 := (HX.out 2 _ rfl).1
    have k3 := (HX.out 3 _ rfl).1
    have k4 := (HX.out 4 _ rfl).1
    have k5 := (HX.out 5 _ rfl).1
    have k6 := (HX.out 6 _ rfl).1
    have k7 := (HX.out 7 _ rfl).1
    have k8 := (HX.out 8 _ rfl).1
    have k9 := (HX.out 9 _ rfl).1
    have k10 := (HX.out 10 _ rfl).1
    have k11 := (HX.out 11 _ rfl).1
    have k12 := (HX.out 12 _ rfl).1
    go_wp2_with fail
    refine (refRight6_any u fa la m9 fc m12 lc _ (thF_low HB.out HU.out)).mono ?_
    rintro e w7 ⟨rfl, hb⟩
    rw [HR.out]
    replace HX := Lib.hid (varN_B hb HX.out)
    replace HA := Lib.hid (varN_B hb HA.out)
    replace HBv := Lib.hid (varN_B hb HBv.out)
    replace HFa := Lib.hid (thF_B hb HFa.out)
    replace HFb := Lib.hid (thF_B hb HFb.out)
    replace HB := Lib.hid (below_from HB.out hb)
    clear hb
    clear k0 k1 k2 k3 k4 k5 k6 k7 k8 k9 k10 k11 k12
    have k0 := (HA.out 0 _ rfl).1
    have k1 := (HA.out 1 _ rfl).1
    have k2 := (HA.out 2 _ rfl).1
    have k3 := (HA.out 3 _ rfl).1
    have k4 := (HA.out 4 _ rfl).1
    have k5 := (HA.out 5 _ rfl).1
    have k6 := (HA.out 6 _ rfl).1
    have k7 := (HA.out 7 _ rfl).1
    have k8 := (HA.out 8 _ rfl).1
    have k9 := (HA.out 9 _ rfl).1
    have k10 := (HA.out 10 _ rfl).1
    have k11 := (HA.out 11 _ rfl).1
    have k12 := (HA.out 12 _ rfl).1
    go_wp2_with fail
    refine (refSame6_any zThr zThr af al an afc am alc none none 0 0 0 0 _ HFa.out (thF_zero _) (by rw [← han]; decide)).mono ?_
    rintro e w8 ⟨rfl, hb⟩
    rw [sameT_self]
    replace HX := Lib.hid (varN_B hb HX.out)
    replace HA := Lib.hid (varN_B hb HA.out)
    replace HBv := Lib.hid (varN_B hb HBv.out)
    replace HFa := Lib.hid (thF_B hb HFa.out)
    replace HFb := Lib.hid (thF_B hb HFb.out)
    replace HB := Lib.hid (below_from HB.out hb)
    clear hb
    clear k0 k1 k2 k3 k4 k5 k6 k7 k8 k9 k10 k11 k12
    have k0 := (HBv.out 0 _ rfl).1
    have k1 := (HBv.out 1 _ rfl).1
    have k2 := (HBv.out 2 _ rfl).1
    have k3 := (HBv.out 3 _ rfl).1
    have k4 := (HBv.out 4 _ rfl).1
    have k5 := (HBv.out 5 _ rfl).1
    have k6 := (HBv.out 6 _ rfl).1
    have k7 := (HBv.out 7 _ rfl).1
    have k8 := (HBv.out 8 _ rfl).1
    have k9 := (HBv.out 9 _ rfl).1
    have k10 := (HBv.out 10 _ rfl).1
    have k11 := (HBv.out 11 _ rfl).1
    have k12 := (HBv.out 12 _ rfl).1
    go_wp2_with fail
    refine (refSame6_any zThr zThr bf bl bn bfc bm blc none none 0 0 0 0 _ HFb.out (thF_zero _) (by rw [← hbn]; decide)).mono ?_
    rintro e w9 ⟨rfl, hb⟩
    rw [sameT_self]
    replace HX := Lib.hid (varN_B hb HX.out)
    replace HA := Lib.hid (varN_B hb HA.out)
    replace HBv := Lib.hid (varN_B hb HBv.out)
    replace HFa := Lib.hid (thF_B hb HFa.out)
    replace HFb := Lib.hid (thF_B hb HFb.out)
    replace HB := Lib.hid (below_from HB.out hb)
    clear hb
    clear k0 k1 k2 k3 k4 k5 k6 k7 k8 k9 k10 k11 k12
    go_wp2
    go_ret
    exact boolPost_mk rfl HB.out
  | true =>
    have HR := Lib.hid hr
    clear hr
    have HEB' := Lib.hid (show eb = backRE u by rw [← HEB.out, backE, if_pos HR.out]; rfl)
    have HTB' := Lib.hid (show tb = backRT u by
      rw [← HTB.out, backT, backRT, backE, if_pos HR.out]
      by_cases h : u.fs.length = 0
      · rw [if_pos h, if_neg (by decide)]; simp [h]
      · rw [if_neg h, if_pos rfl]; simp [h])
    clear HTB HEB
    have FV := thF_low HB.out HU.out
    have q1 : ∀ w', Below V3.heap.size V3 w' → Calls Try.prog 9 #[.agg #[.int .i64 u.pc, .int .i64 (u.r 0), .int .i64 (u.r 1), .int .i64 (u.r 2), .int .i64 (u.r 3), .int .i64 (u.r 4), .int .i64 (u.r 5), .int .i64 (u.r 6), .int .i64 (u.r 7), .slice fa m9 fc, .int .i64 u.st, .int .i64 u.ft, .slice la m12 lc]] w' (BoolPost true w') := fun w' hb => by
      have h := frRight_any u fa la m9 fc m12 lc w' (thF_B hb FV); rwa [HR.out] at h
    have q2 : ∀ w', Below V3.heap.size V3 w' → Calls Try.prog 10 #[.agg #[.int .i64 u.pc, .int .i64 (u.r 0), .int .i64 (u.r 1), .int .i64 (u.r 2), .int .i64 (u.r 3), .int .i64 (u.r 4), .int .i64 (u.r 5), .int .i64 (u.r 6), .int .i64 (u.r 7), .slice fa m9 fc, .int .i64 u.st, .int .i64 u.ft, .slice la m12 lc]] w' (BoolPost true w') := fun w' hb => by
      have h := refRight6_any u fa la m9 fc m12 lc w' (thF_B hb FV); rwa [HR.out] at h
    have hB0 : Below V3.heap.size V3 V3.drew := (Below.refl _ _).drew
    go_region_held3 (fun w' => w'.cell? ⟨w.heap.size, 0, none⟩ = some (.int .i64 u.pc) ∧ w'.cell? ⟨w.heap.size, 1, none⟩ = some (.int .i64 (u.r 0)) ∧ w'.cell? ⟨w.heap.size, 2, none⟩ = some (.int .i64 (u.r 1)) ∧ w'.cell? ⟨w.heap.size, 3, none⟩ = some (.int .i64 (u.r 2)) ∧ w'.cell? ⟨w.heap.size, 4, none⟩ = some (.int .i64 (u.r 3)) ∧ w'.cell? ⟨w.heap.size, 5, none⟩ = some (.int .i64 (u.r 4)) ∧ w'.cell? ⟨w.heap.size, 6, none⟩ = some (.int .i64 (u.r 5)) ∧ w'.cell? ⟨w.heap.size, 7, none⟩ = some (.int .i64 (u.r 6)) ∧ w'.cell? ⟨w.heap.size, 8, none⟩ = some (.int .i64 (u.r 7)) ∧ w'.cell? ⟨w.heap.size, 9, none⟩ = some (.slice fa m9 fc) ∧ w'.cell? ⟨w.heap.size, 10, none⟩ = some (.int .i64 u.st) ∧ w'.cell? ⟨w.heap.size, 11, none⟩ = some (.int .i64 u.ft) ∧ w'.cell? ⟨w.heap.size, 12, none⟩ = some (.slice la m12 lc) ∧ Below V3.heap.size V3 w')
      (first | exact ⟨k0, k1, k2, k3, k4, k5, k6, k7, k8, k9, k10, k11, k12, (Below.refl _ _).drew⟩ | exact ⟨cellB (by assumption) k0, cellB (by assumption) k1, cellB (by assumption) k2, cellB (by assumption) k3, cellB (by assumption) k4, cellB (by assumption) k5, cellB (by assumption) k6, cellB (by assumption) k7, cellB (by assumption) k8, cellB (by assumption) k9, cellB (by assumption) k10, cellB (by assumption) k11, cellB (by assumption) k12, by assumption⟩)
      ((first | (go_at_call 9; refine (q1 _ (by assumption)).mono ?_; rintro e wx ⟨rfl, hbx⟩; have hbx' := below_from (by assumption) hbx) | (go_at_call 10; refine (q2 _ (by assumption)).mono ?_; rintro e wx ⟨rfl, hbx⟩; have hbx' := below_from (by assumption) hbx) | (go_at_call 11; refine (alive6_any _).mono ?_; rintro e wx ⟨rfl, hbx⟩; have hbx' := below_from (by assumption) hbx)))
    replace HX := Lib.hid (varN_B hbx' HX.out)
    replace HA := Lib.hid (varN_B hbx' HA.out)
    replace HBv := Lib.hid (varN_B hbx' HBv.out)
    replace HFa := Lib.hid (thF_B hbx' HFa.out)
    replace HFb := Lib.hid (thF_B hbx' HFb.out)
    replace HB := Lib.hid (below_from HB.out hbx')
    clear hbx hbx' hB0
    clear q1 q2 FV
    clear k0 k1 k2 k3 k4 k5 k6 k7 k8 k9 k10 k11 k12
    have k0 := (HX.out 0 _ rfl).1
    have k1 := (HX.out 1 _ rfl).1
    have k2 := (HX.out 2 _ rfl).1
    have k3 := (HX.out 3 _ rfl).1
    have k4 := (HX.out 4 _ rfl).1
    have k5 := (HX.out 5 _ rfl).1
    have k6 := (HX.out 6 _ rfl).1
    have k7 := (HX.out 7 _ rfl).1
    have k8 := (HX.out 8 _ rfl).1
    have k9 := (HX.out 9 _ rfl).1
    have k10 := (HX.out 10 _ rfl).1
    have k11 := (HX.out 11 _ rfl).1
    have k12 := (HX.out 12 _ rfl).1
    go_wp2_with fail
    refine (refRight6_any u fa la m9 fc m12 lc _ (thF_low HB.out HU.out)).mono ?_
    rintro e w7 ⟨rfl, hb⟩
    rw [HR.out]
    replace HX := Lib.hid (varN_B hb HX.out)
    replace HA := Lib.hid (varN_B hb HA.out)
    replace HBv := Lib.hid (varN_B hb HBv.out)
    replace HFa := Lib.hid (thF_B hb HFa.out)
    replace HFb := Lib.hid (thF_B hb HFb.out)
    replace HB := Lib.hid (below_from HB.out hb)
    clear hb
    clear k0 k1 k2 k3 k4 k5 k6 k7 k8 k9 k10 k11 k12
    have k0 := (HX.out 0 _ rfl).1
    have k1 := (HX.out 1 _ rfl).1
    have k2 := (HX.out 2 _ rfl).1
    have k3 := (HX.out 3 _ rfl).1
    have k4 := (HX.out 4 _ rfl).1
    have k5 := (HX.out 5 _ rfl).1
    have k6 := (HX.out 6 _ rfl).1
    have k7 := (HX.out 7 _ rfl).1
    have k8 := (HX.out 8 _ rfl).1
    have k9 := (HX.out 9 _ rfl).1
    have k10 := (HX.out 10 _ rfl).1
    have k11 := (HX.out 11 _ rfl).1
    have k12 := (HX.out 12 _ rfl).1
    go_wp2_with fail
    have h0 := refBack6_any u fa la m9 fc m12 lc _ (thF_low HB.out HU.out) HN9.out
    rw [← HTB'.out, ← HEB'.out] at h0
    with_reducible refine h0.mono ?_
    clear h0
    rintro e w8 ⟨df, dfc, dl, dlc, rfl, Fd, hb⟩
    obtain ⟨dn, hdn⟩ : ∃ n, tb.fs.length = n := ⟨_, rfl⟩
    obtain ⟨dm, hdm⟩ : ∃ n, tb.lf.length = n := ⟨_, rfl⟩
    rw [hdn, hdm] at Fd
    rw [hdn, hdm]
    replace HX := Lib.hid (varN_B hb HX.out)
    replace HA := Lib.hid (varN_B hb HA.out)
    replace HBv := Lib.hid (varN_B hb HBv.out)
    replace HFa := Lib.hid (thF_B hb HFa.out)
    replace HFb := Lib.hid (thF_B hb HFb.out)
    replace HB := Lib.hid (below_from HB.out hb)
    have HFd := Lib.hid Fd
    clear hb Fd
    obtain ⟨V8, hV8⟩ : ∃ V, V = w8.alloc (Obj.cells #[.int .i64 tb.pc, .int .i64 (tb.r 0), .int .i64 (tb.r 1), .int .i64 (tb.r 2), .int .i64 (tb.r 3), .int .i64 (tb.r 4), .int .i64 (tb.r 5), .int .i64 (tb.r 6), .int .i64 (tb.r 7), .slice df dn dfc, .int .i64 tb.st, .int .i64 tb.ft, .slice dl dm dlc] 27) := ⟨_, rfl⟩
    have hb : Below w8.heap.size w8 V8 := by rw [hV8]; exact (Below.refl _ _).alloc (Nat.le_refl _) _
    have HD := Lib.hid (show VarN V8 w8.heap.size [.int .i64 tb.pc, .int .i64 (tb.r 0), .int .i64 (tb.r 1), .int .i64 (tb.r 2), .int .i64 (tb.r 3), .int .i64 (tb.r 4), .int .i64 (tb.r 5), .int .i64 (tb.r 6), .int .i64 (tb.r 7), .slice df dn dfc, .int .i64 tb.st, .int .i64 tb.ft, .slice dl dm dlc] by rw [hV8]; exact varN_new [.int .i64 tb.pc, .int .i64 (tb.r 0), .int .i64 (tb.r 1), .int .i64 (tb.r 2), .int .i64 (tb.r 3), .int .i64 (tb.r 4), .int .i64 (tb.r 5), .int .i64 (tb.r 6), .int .i64 (tb.r 7), .slice df dn dfc, .int .i64 tb.st, .int .i64 tb.ft, .slice dl dm dlc] _ rfl)
    replace HX := Lib.hid (varN_B hb HX.out)
    replace HA := Lib.hid (varN_B hb HA.out)
    replace HBv := Lib.hid (varN_B hb HBv.out)
    replace HFa := Lib.hid (thF_B hb HFa.out)
    replace HFb := Lib.hid (thF_B hb HFb.out)
    replace HFd := Lib.hid (thF_B hb HFd.out)
    replace HB := Lib.hid (below_from HB.out hb)
    have HV8 := Lib.hid hV8
    clear hb hV8
    clear k0 k1 k2 k3 k4 k5 k6 k7 k8 k9 k10 k11 k12
    have k0 := (HBv.out 0 _ rfl).1
    have k1 := (HBv.out 1 _ rfl).1
    have k2 := (HBv.out 2 _ rfl).1
    have k3 := (HBv.out 3 _ rfl).1
    have k4 := (HBv.out 4 _ rfl).1
    have k5 := (HBv.out 5 _ rfl).1
    have k6 := (HBv.out 6 _ rfl).1
    have k7 := (HBv.out 7 _ rfl).1
    have k8 := (HBv.out 8 _ rfl).1
    have k9 := (HBv.out 9 _ rfl).1
    have k10 := (HBv.out 10 _ rfl).1
    have k11 := (HBv.out 11 _ rfl).1
    have k12 := (HBv.out 12 _ rfl).1
    have j0 := (HD.out 0 _ rfl).1
    have j1 := (HD.out 1 _ rfl).1
    have j2 := (HD.out 2 _ rfl).1
    have j3 := (HD.out 3 _ rfl).1
    have j4 := (HD.out 4 _ rfl).1
    have j5 := (HD.out 5 _ rfl).1
    have j6 := (HD.out 6 _ rfl).1
    have j7 := (HD.out 7 _ rfl).1
    have j8 := (HD.out 8 _ rfl).1
    have j9 := (HD.out 9 _ rfl).1
    have j10 := (HD.out 10 _ rfl).1
    have j11 := (HD.out 11 _ rfl).1
    have j12 := (HD.out 12 _ rfl).1
    have HLB := Lib.hid (show tb.fs.length ≤ 1000 by
      have h1 := (rightT_len HR.out).1
      rw [HTB'.out, backRT]
      split
      · simp [zThr]
      · simp only [List.length_take]; omega)
    have hp := rightT_pc HR.out
    have HP := Lib.hid hp
    go_upto_region 9 with fail
    rw [← HV8.out]
    clear HV8 hp
    have qe : (eb != eb) = false := by simp
    go_wp2_with fail
    refine (refSame6_any tb tb bf bl bn bfc bm blc df dl dn dfc dm dlc _ HFb.out HFd.out (by rw [← hbn]; have := HLB.out; omega)).mono ?_
    rintro e w9 ⟨rfl, hb⟩
    rw [sameT_self]
    replace HX := Lib.hid (varN_B hb HX.out)
    replace HA := Lib.hid (varN_B hb HA.out)
    replace HBv := Lib.hid (varN_B hb HBv.out)
    replace HD := Lib.hid (varN_B hb HD.out)
    replace HFa := Lib.hid (thF_B hb HFa.out)
    replace HFb := Lib.hid (thF_B hb HFb.out)
    replace HFd := Lib.hid (thF_B hb HFd.out)
    replace HB := Lib.hid (below_from HB.out hb)
    clear hb
    clear k0 k1 k2 k3 k4 k5 k6 k7 k8 k9 k10 k11 k12
    clear j0 j1 j2 j3 j4 j5 j6 j7 j8 j9 j10 j11 j12
    by_cases hpp : u.pc ≠ 1000 ∧ 0 ≤ tg ∧ tg ≤ 1000
    ·
      have hc : rightT u = true ∧ u.pc ≠ 1000 ∧ 0 ≤ tg ∧ tg ≤ 1000 := ⟨HR.out, hpp⟩
      have HTA' := Lib.hid (show callRT u tg = ta by
        rw [← HTA.out, callT, callRT, callE, if_pos hc]
        by_cases h : u.fs.length = 6
        · simp [h]
        · simp [h])
      have HEA' := Lib.hid (show callRE u = ea by rw [← HEA.out, callE, if_pos hc]; rfl)
      have HLA := Lib.hid (show ta.fs.length ≤ 1000 by
        have h1 := (rightT_len HR.out).1
        rw [← HTA'.out, callRT]
        split
        · simp [zThr]
        · simp only [List.length_append, List.length_cons, List.length_nil]; omega)
      clear HTA HEA hc
      have q1 : (u.pc == 1000) = false := by simpa using hpp.1
      have q2 : ¬ tg < 0 := by omega
      have q3 : ¬ 1000 < tg := by omega
      clear hpp
      have k0 := (HX.out 0 _ rfl).1
      have k1 := (HX.out 1 _ rfl).1
      have k2 := (HX.out 2 _ rfl).1
      have k3 := (HX.out 3 _ rfl).1
      have k4 := (HX.out 4 _ rfl).1
      have k5 := (HX.out 5 _ rfl).1
      have k6 := (HX.out 6 _ rfl).1
      have k7 := (HX.out 7 _ rfl).1
      have k8 := (HX.out 8 _ rfl).1
      have k9 := (HX.out 9 _ rfl).1
      have k10 := (HX.out 10 _ rfl).1
      have k11 := (HX.out 11 _ rfl).1
      have k12 := (HX.out 12 _ rfl).1
      go_wp2_with fail
      have h0 := refCall6_any u tg fa la m9 fc m12 lc _ (thF_low HB.out HU.out) HN9.out HP.out
      rw [HTA'.out, HEA'.out] at h0
      with_reducible refine h0.mono ?_
      clear h0
      rintro e w10 ⟨cf, cfc, cl, clc, rfl, Fc, hb⟩
      obtain ⟨cn, hcn⟩ : ∃ n, ta.fs.length = n := ⟨_, rfl⟩
      obtain ⟨cm, hcm⟩ : ∃ n, ta.lf.length = n := ⟨_, rfl⟩
      rw [hcn, hcm] at Fc
      rw [hcn, hcm]
      replace HX := Lib.hid (varN_B hb HX.out)
      replace HA := Lib.hid (varN_B hb HA.out)
      replace HBv := Lib.hid (varN_B hb HBv.out)
      replace HD := Lib.hid (varN_B hb HD.out)
      replace HFa := Lib.hid (thF_B hb HFa.out)
      replace HFb := Lib.hid (thF_B hb HFb.out)
      replace HFd := Lib.hid (thF_B hb HFd.out)
      replace HB := Lib.hid (below_from HB.out hb)
      have HFc := Lib.hid Fc
      clear hb Fc
      obtain ⟨V10, hV10⟩ : ∃ V, V = w10.alloc (Obj.cells #[.int .i64 ta.pc, .int .i64 (ta.r 0), .int .i64 (ta.r 1), .int .i64 (ta.r 2), .int .i64 (ta.r 3), .int .i64 (ta.r 4), .int .i64 (ta.r 5), .int .i64 (ta.r 6), .int .i64 (ta.r 7), .slice cf cn cfc, .int .i64 ta.st, .int .i64 ta.ft, .slice cl cm clc] 27) := ⟨_, rfl⟩
      have hb : Below w10.heap.size w10 V10 := by rw [hV10]; exact (Below.refl _ _).alloc (Nat.le_refl _) _
      have HCv := Lib.hid (show VarN V10 w10.heap.size [.int .i64 ta.pc, .int .i64 (ta.r 0), .int .i64 (ta.r 1), .int .i64 (ta.r 2), .int .i64 (ta.r 3), .int .i64 (ta.r 4), .int .i64 (ta.r 5), .int .i64 (ta.r 6), .int .i64 (ta.r 7), .slice cf cn cfc, .int .i64 ta.st, .int .i64 ta.ft, .slice cl cm clc] by rw [hV10]; exact varN_new [.int .i64 ta.pc, .int .i64 (ta.r 0), .int .i64 (ta.r 1), .int .i64 (ta.r 2), .int .i64 (ta.r 3), .int .i64 (ta.r 4), .int .i64 (ta.r 5), .int .i64 (ta.r 6), .int .i64 (ta.r 7), .slice cf cn cfc, .int .i64 ta.st, .int .i64 ta.ft, .slice cl cm clc] _ rfl)
      replace HX := Lib.hid (varN_B hb HX.out)
      replace HA := Lib.hid (varN_B hb HA.out)
      replace HBv := Lib.hid (varN_B hb HBv.out)
      replace HD := Lib.hid (varN_B hb HD.out)
      replace HFa := Lib.hid (thF_B hb HFa.out)
      replace HFb := Lib.hid (thF_B hb HFb.out)
      replace HFd := Lib.hid (thF_B hb HFd.out)
      replace HFc := Lib.hid (thF_B hb HFc.out)
      replace HB := Lib.hid (below_from HB.out hb)
      have HV10 := Lib.hid hV10
      clear hb hV10
      clear k0 k1 k2 k3 k4 k5 k6 k7 k8 k9 k10 k11 k12
      have k0 := (HA.out 0 _ rfl).1
      have k1 := (HA.out 1 _ rfl).1
      have k2 := (HA.out 2 _ rfl).1
      have k3 := (HA.out 3 _ rfl).1
      have k4 := (HA.out 4 _ rfl).1
      have k5 := (HA.out 5 _ rfl).1
      have k6 := (HA.out 6 _ rfl).1
      have k7 := (HA.out 7 _ rfl).1
      have k8 := (HA.out 8 _ rfl).1
      have k9 := (HA.out 9 _ rfl).1
      have k10 := (HA.out 10 _ rfl).1
      have k11 := (HA.out 11 _ rfl).1
      have k12 := (HA.out 12 _ rfl).1
      have j0 := (HCv.out 0 _ rfl).1
      have j1 := (HCv.out 1 _ rfl).1
      have j2 := (HCv.out 2 _ rfl).1
      have j3 := (HCv.out 3 _ rfl).1
      have j4 := (HCv.out 4 _ rfl).1
      have j5 := (HCv.out 5 _ rfl).1
      have j6 := (HCv.out 6 _ rfl).1
      have j7 := (HCv.out 7 _ rfl).1
      have j8 := (HCv.out 8 _ rfl).1
      have j9 := (HCv.out 9 _ rfl).1
      have j10 := (HCv.out 10 _ rfl).1
      have j11 := (HCv.out 11 _ rfl).1
      have j12 := (HCv.out 12 _ rfl).1
      go_upto_region 14 with fail
      rw [← HV10.out]
      clear HV10
      have qe : (ea == ea) = true := by simp
      go_wp2_with fail
      refine (refSame6_any ta ta af al an afc am alc cf cl cn cfc cm clc _ HFa.out HFc.out (by rw [← han]; have := HLA.out; omega)).mono ?_
      rintro e w11 ⟨rfl, hb⟩
      rw [sameT_self]
      replace HX := Lib.hid (varN_B hb HX.out)
      replace HA := Lib.hid (varN_B hb HA.out)
      replace HBv := Lib.hid (varN_B hb HBv.out)
      replace HD := Lib.hid (varN_B hb HD.out)
      replace HCv := Lib.hid (varN_B hb HCv.out)
      replace HFa := Lib.hid (thF_B hb HFa.out)
      replace HFb := Lib.hid (thF_B hb HFb.out)
      replace HFd := Lib.hid (thF_B hb HFd.out)
      replace HFc := Lib.hid (thF_B hb HFc.out)
      replace HB := Lib.hid (below_from HB.out hb)
      clear hb
      go_wp2
      go_ret
      exact boolPost_mk rfl HB.out
    ·
      have hc : ¬ (rightT u = true ∧ u.pc ≠ 1000 ∧ 0 ≤ tg ∧ tg ≤ 1000) := fun h => hpp h.2
      have ha1 : ea = 1 := by rw [← HEA.out, callE, if_neg hc]
      have ha2 : ta = zThr := by rw [← HTA.out]; exact callT_no (by rw [HEA.out, ha1]; decide)
      subst ha1 ha2
      clear HTA HEA hc
      have hcase : (u.pc == 1000) = true ∨ ((u.pc == 1000) = false ∧ tg < 0) ∨ ((u.pc == 1000) = false ∧ ¬ tg < 0 ∧ 1000 < tg) := by
        cases h : u.pc == 1000
        · simp at h; simp; omega
        · simp
      clear hpp
      rcases hcase with q1 | ⟨q1, q2⟩ | ⟨q1, q2, q3⟩
      all_goals
        have k0 := (HX.out 0 _ rfl).1
        have k1 := (HX.out 1 _ rfl).1
        have k2 := (HX.out 2 _ rfl).1
        have k3 := (HX.out 3 _ rfl).1
        have k4 := (HX.out 4 _ rfl).1
        have k5 := (HX.out 5 _ rfl).1
        have k6 := (HX.out 6 _ rfl).1
        have k7 := (HX.out 7 _ rfl).1
        have k8 := (HX.out 8 _ rfl).1
        have k9 := (HX.out 9 _ rfl).1
        have k10 := (HX.out 10 _ rfl).1
        have k11 := (HX.out 11 _ rfl).1
        have k12 := (HX.out 12 _ rfl).1
        have j0 := (HA.out 0 _ rfl).1
        have j1 := (HA.out 1 _ rfl).1
        have j2 := (HA.out 2 _ rfl).1
        have j3 := (HA.out 3 _ rfl).1
        have j4 := (HA.out 4 _ rfl).1
        have j5 := (HA.out 5 _ rfl).1
        have j6 := (HA.out 6 _ rfl).1
        have j7 := (HA.out 7 _ rfl).1
        have j8 := (HA.out 8 _ rfl).1
        have j9 := (HA.out 9 _ rfl).1
        have j10 := (HA.out 10 _ rfl).1
        have j11 := (HA.out 11 _ rfl).1
        have j12 := (HA.out 12 _ rfl).1
        go_wp2_with fail
        refine (refSame6_any zThr zThr af al an afc am alc none none 0 0 0 0 _ HFa.out (thF_zero _) (by rw [← han]; decide)).mono ?_
        rintro e w10 ⟨rfl, hb⟩
        rw [sameT_self]
        replace HX := Lib.hid (varN_B hb HX.out)
        replace HA := Lib.hid (varN_B hb HA.out)
        replace HBv := Lib.hid (varN_B hb HBv.out)
        replace HD := Lib.hid (varN_B hb HD.out)
        replace HFa := Lib.hid (thF_B hb HFa.out)
        replace HFb := Lib.hid (thF_B hb HFb.out)
        replace HFd := Lib.hid (thF_B hb HFd.out)
        replace HB := Lib.hid (below_from HB.out hb)
        clear hb
        go_wp2
        go_ret
        exact boolPost_mk rfl HB.out
end Go.Proofs.Ytpdghgpmjadnnaa
