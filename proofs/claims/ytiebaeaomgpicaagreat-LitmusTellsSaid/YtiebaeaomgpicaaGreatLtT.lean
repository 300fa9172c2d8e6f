/- The walk of LitmusTells. -/
import Derived.Test.YtiebaeaomgpicaaGreatLtL
import Derived.Test.YtiebaeaomgpicaaGreatLtB
import Derived.Test.YtiebaeaomgpicaaGreatRcU
import Derived.Test.YtiebaeaomgpicaaGreatRcJ
namespace Go.Proofs.YtiebaeaomgpicaaGreat
open Go.ChangeShapes Go.WideShapes Go.ChangeAt Go.RowKit
open Gen
/-- behind the first statement: the test in a variable, the row cut -/
def TellsCut4 (w : World) (W D : Int) (p : Option Addr) (n c : Nat) (m : Nat) (cs : List (List Mv)) (s9 s3 : Value) (wx : World) : Prop :=
  ∃ g tq td, s9 = .pointer (some ⟨g, 0, none⟩) ∧ s3 = .slice p n c ∧ VarN wx g [.int .i64 W, .int .i64 D, .slice tq m td] ∧ Vs (repSlice repInt3) Any wx tq m cs ∧ Below w.heap.size w wx
theorem tellsCut_new {w w1 : World} {W D : Int} {p : Option Addr} {n c m : Nat} {cs : List (List Mv)} {s3 : Value} {tq : Option Addr} {td : Nat} (hs : s3 = .slice p n c) (V : Vs (repSlice repInt3) Any w1 tq m cs) (hb : Below w.heap.size w w1) :
    TellsCut4 w W D p n c m cs (.pointer (some ⟨w1.heap.size, 0, none⟩)) s3 (w1.alloc (.cells #[.int .i64 W, .int .i64 D, .slice tq m td] 25)) :=
  ⟨_, tq, td, rfl, hs, varN_new [.int .i64 W, .int .i64 D, .slice tq m td] _ rfl, vs_A _ (vs_any V), hb.alloc hb.size _⟩
theorem tellsCut_set {w w1 : World} {W D : Int} {p : Option Addr} {n c m : Nat} {cs : List (List Mv)} {s3 : Value} {tq : Option Addr} {td g : Nat} {vs : List Value} (hs : s3 = .slice p n c) (hg : w.heap.size ≤ g) (V : Vs (repSlice repInt3) (fun b => b ≠ g) w1 tq m cs) (X : VarN w1 g vs) (hl : vs.length = 3) (hb : Below w.heap.size w w1) :
    TellsCut4 w W D p n c m cs (.pointer (some ⟨g, 0, none⟩)) s3 (setN w1 g 0 [.int .i64 W, .int .i64 D, .slice tq m td]) :=
  ⟨g, tq, td, rfl, hs, varN_all (xs := [.int .i64 W, .int .i64 D, .slice tq m td]) X (by rw [hl]; rfl), vs_any (vs_keep (kept_setN (fun b h => h)) V), below_setN hg hb⟩
theorem hasL_dec (l : List (List Int)) (o : List Int) : hasL l o = decide (o ∈ l) := by
  rw [Bool.eq_iff_iff]
  simp only [hasL, List.any_eq_true, sameB, decide_eq_true_eq]
  constructor
  · rintro ⟨x, hx, rfl⟩; exact hx
  · intro h; exact ⟨o, h, rfl⟩
theorem tells_Q {w : World} {q : Option Addr} {l : Nat} {ts : List (List Mv)} (V : Vs (repSlice repInt3) Any w q l ts) : Vs (repSlice repInt3) (fun b => b ≠ w.heap.size) w q l ts ∧ Vs (repSlice repInt3) (fun b => b ≠ w.heap.size) (w.alloc (Obj.cells #[.int .i64 0, .int .i64 0, .slice none 0 0] 25)) q l ts :=
  have h := vs_mono (Q' := fun b => b ≠ w.heap.size) (fun b h => by omega) (vs_old V)
  ⟨h, vs_A _ h⟩

set_option maxRecDepth 100000 in
set_option maxHeartbeats 8000000 in
theorem Tells4_walk (W D : Int) (q p : Option Addr) (l d n c : Nat) (ts : List (List Mv)) (o : List Int) (w : World) (hld : l ≤ d) (hd : d ≤ 9223372036854775807) (V : Vs (repSlice repInt3) Any w q l ts) (hnc : n ≤ c) (hc : c ≤ 9223372036854775807) (SO : Vs repInt Any w p n o) :
    Calls Tryz.prog 3 #[.int .i64 W, .int .i64 D, .slice q l d, .slice p n c] w (BoolPost true w) := by
  have VV := tells_Q V
  have hA := testQ_any (fun b => b ≠ w.heap.size) W D q l d ts (w.alloc (Obj.cells #[.int .i64 0, .int .i64 0, .slice none 0 0] 25)).drew hld hd (vs_D VV.2) (fun b h => by have h : (w.alloc _).heap.size ≤ b := h; simp at h; omega)
  have hN := testQ_any Any W D q l d ts w.drew hld hd (vs_D V) (fun _ _ => trivial)
  have VO := vs_und (vs_take SO (min n 20) (by omega))
  obtain ⟨m, hm⟩ : ∃ m, min l 4 = m := ⟨_, rfl⟩
  have hsh := short_cut (ts := ts)
  obtain ⟨cs, hcs⟩ : ∃ cs, cutL ts = cs := ⟨_, rfl⟩
  rw [hm, hcs] at hA hN
  rw [hcs] at hsh
  obtain ⟨no, hno⟩ : ∃ m, min n 20 = m := ⟨_, rfl⟩
  rw [hno] at VO
  obtain ⟨oo, hoo⟩ : ∃ x, o.take no = x := ⟨_, rfl⟩
  rw [hoo] at VO
  have hm4 : m ≤ 4 := by omega
  have hno20 : no ≤ 20 := by omega
  have HNO := Lib.hid hno
  have HSH := Lib.hid hsh
  have HA := Lib.hid hA
  have HN := Lib.hid hN
  have HVO := Lib.hid VO
  clear hm hcs hsh hA hN V VV VO hld hd SO hno hoo
  go_enter Tryz.func3, Tryz.ntmps3
  go_upto_region 1 with fail
  go_cut [9, 3] (fun s9 s3 wx => TellsCut4 w W D p no c m cs s9 s3 wx)
  case first =>
    have HQ : Hid ((min (n : Int) 20).toNat = no) := by show (min (n : Int) 20).toNat = no; have := HNO.out; omega
    have i1 : 0 ≤ min (n : Int) 20 := by omega
    have i2 : min (n : Int) 20 ≤ c := by omega
    go_region_with (go_at_call 4; first | (refine HN.out.mono ?_; rintro e w1 ⟨tq, td, rfl, -, -, -, VT, hb1⟩; have HB1 := Lib.hid (below_from (Below.refl _ _).drew hb1); have HVT := Lib.hid VT; clear hb1 VT) | (refine HA.out.mono ?_; rintro e w1 ⟨tq, td, rfl, -, -, -, VT, hb1⟩; have X1 : VarN w1 w.heap.size [.int .i64 0, .int .i64 0, .slice none 0 0] := varN_B hb1 (varN_D (varN_new [.int .i64 0, .int .i64 0, .slice none 0 0] _ rfl)); obtain ⟨y0, fy0⟩ := X1 0 _ rfl; obtain ⟨y1, fy1⟩ := X1 1 _ rfl; obtain ⟨y2, fy2⟩ := X1 2 _ rfl; have HX1 := Lib.hid X1; have HB1 := Lib.hid (below_from ((Below.refl w.heap.size w).alloc (Nat.le_refl _) _).drew hb1); have HVT := Lib.hid VT; clear hb1 VT X1))
    all_goals
      go_wp2_with fail
      go_meet
      have HH := HNO.out
      first
        | exact tellsCut_new (by rw [HQ.out]) (vs_any HVT.out) HB1.out
        | exact tellsCut_set (g := w.heap.size) (by rw [HQ.out]) (Nat.le_refl _) HVT.out HX1.out rfl HB1.out
  case rest =>
    obtain ⟨g, tq, td, rfl, rfl, X, VT, hb⟩ := hcut
    obtain rfl : cs.length = m := VT.1
    have HX := Lib.hid X
    have HVT := Lib.hid (vs_und VT)
    have HB := Lib.hid hb
    obtain ⟨x0, -⟩ := X 0 _ rfl
    obtain ⟨x1, -⟩ := X 1 _ rfl
    obtain ⟨x2, -⟩ := X 2 _ rfl
    have HOC := Lib.hid (vs_any (vs_keep (kept_low hb (fun _ h => h.2)) HVO.out))
    obtain ⟨wc0, hwc⟩ : ∃ x, x = wc := ⟨_, rfl⟩
    subst hwc
    clear X VT hb HA HN
    cases hmay : mayL W D cs with
    | false =>
      have HM := Lib.hid hmay
      clear hmay
      go_wp2_with fail
      refine (outcomes_no W D tq cs.length td cs wc0 (vs_any HVT.out) HSH.out (by omega) HM.out).mono ?_
      rintro e w2 ⟨rfl, hb2⟩
      have HB2 := Lib.hid hb2
      obtain ⟨y0, -⟩ := varN_B hb2 HX.out 0 _ rfl
      obtain ⟨y1, -⟩ := varN_B hb2 HX.out 1 _ rfl
      obtain ⟨y2, -⟩ := varN_B hb2 HX.out 2 _ rfl
      clear hb2 x0 x1 x2
      go_wp2_with fail
      refine (can_no W D tq cs.length td cs p no c w2 (vs_any (vs_keep (kept_B HB2.out) HVT.out)) HSH.out (by omega) HM.out).mono ?_
      rintro e w3 ⟨rfl, hb3⟩
      have HB3 := Lib.hid (below_from HB2.out hb3)
      obtain ⟨z0, -⟩ := varN_B HB3.out HX.out 0 _ rfl
      obtain ⟨z1, -⟩ := varN_B HB3.out HX.out 1 _ rfl
      obtain ⟨z2, -⟩ := varN_B HB3.out HX.out 2 _ rfl
      clear hb3 y0 y1 y2
      have q1 : ∀ w', Below w3.heap.size w3 w' → Calls Tryz.prog 7 #[.agg #[.int .i64 W, .int .i64 D, .slice tq cs.length td]] w' (BoolPost false w') := fun wq h => by
        have h := litRight_any W D tq cs.length td cs wq (vs_any (vs_keep (kept_B (below_from HB3.out h)) HVT.out)) HSH.out (by omega); rwa [HM.out] at h
      have q2 : ∀ w', Below w3.heap.size w3 w' → Calls Tryz.prog 8 #[.agg #[.int .i64 W, .int .i64 D, .slice tq cs.length td]] w' (BoolPost false w') := fun wq h => by
        have h := refRight4_any W D tq cs.length td cs wq (vs_any (vs_keep (kept_B (below_from HB3.out h)) HVT.out)) HSH.out (by omega); rwa [HM.out] at h
      have hB0 : Below w3.heap.size w3 w3.drew := (Below.refl _ _).drew
      go_upto_region 4 with fail
      go_region_held3 (fun w' => w'.cell? ⟨g, 0, none⟩ = some (.int .i64 W) ∧ w'.cell? ⟨g, 1, none⟩ = some (.int .i64 D) ∧ w'.cell? ⟨g, 2, none⟩ = some (.slice tq cs.length td) ∧ Below w3.heap.size w3 w')
        (first | exact ⟨z0, z1, z2, (Below.refl _ _).drew⟩ | exact ⟨cellB (by assumption) z0, cellB (by assumption) z1, cellB (by assumption) z2, by assumption⟩)
        ((first | (go_at_call 7; refine (q1 _ (by assumption)).mono ?_; rintro e wx ⟨rfl, hbx⟩; have hbx' := below_from (by assumption) hbx) | (go_at_call 8; refine (q2 _ (by assumption)).mono ?_; rintro e wx ⟨rfl, hbx⟩; have hbx' := below_from (by assumption) hbx) | (go_at_call 9; refine (alive4_any _).mono ?_; rintro e wx ⟨rfl, hbx⟩; have hbx' := below_from (by assumption) hbx)))
      have HB35 := Lib.hid hbx'
      have HB5 := Lib.hid (below_from HB3.out hbx')
      obtain ⟨v0, -⟩ := varN_B HB5.out HX.out 0 _ rfl
      obtain ⟨v1, -⟩ := varN_B HB5.out HX.out 1 _ rfl
      obtain ⟨v2, -⟩ := varN_B HB5.out HX.out 2 _ rfl
      clear hbx hbx' hB0 q1 q2 z0 z1 z2
      go_wp2_with fail
      refine (refRight4_any W D tq cs.length td cs wx (vs_any (vs_keep (kept_B HB5.out) HVT.out)) HSH.out (by omega)).mono ?_
      rintro e w6 ⟨rfl, hb6⟩
      rw [HM.out]
      have HB6 := Lib.hid (below_from HB5.out hb6)
      clear hb6 v0 v1 v2
      go_wp2
      go_ret
      exact boolPost_mk rfl (HB.out.trans (HB6.out.mono HB.out.size))
    | true =>
      obtain ⟨N, hN⟩ : ∃ N, N = (rowsL W D cs).length := ⟨_, rfl⟩
      have h0 := outcomes_row W D tq td cs wc0 (vs_any HVT.out) HSH.out hmay
      rw [← hN] at h0
      have hN1 : N ≤ 2000000000 := by have := rows_many hmay; omega
      have HM := Lib.hid hmay
      have HNN := Lib.hid hN
      have HH0 := Lib.hid h0
      clear hmay hN h0
      go_wp2_with fail
      refine HH0.out.mono ?_
      rintro e w2 ⟨v, vs, rfl, own, flat, hb2⟩
      obtain ⟨a2, c2, rfl, -, -, -, VR⟩ := vs_own (r := repSlice repInt) (Q := Any) own (flat_mono (fun _ _ => trivial) flat) (fun _ _ _ => trivial)
      have HR := Lib.hid (vs_und VR)
      have HB2 := Lib.hid hb2
      obtain ⟨y0, -⟩ := varN_B hb2 HX.out 0 _ rfl
      obtain ⟨y1, -⟩ := varN_B hb2 HX.out 1 _ rfl
      obtain ⟨y2, -⟩ := varN_B hb2 HX.out 2 _ rfl
      clear own flat hb2 VR x0 x1 x2
      go_wp2_with fail
      refine (can_any W D tq td cs oo p no c w2 (vs_any (vs_keep (kept_B HB2.out) HVT.out)) HSH.out HM.out (vs_keep (kept_B HB2.out) HOC.out) (by omega)).mono ?_
      rintro e w3 ⟨rfl, hb3⟩
      obtain ⟨cb, hcb⟩ : ∃ b, decide (oo ∈ rowsL W D cs) = b := ⟨_, rfl⟩
      rw [hcb]
      have HCB := Lib.hid hcb
      have HB3 := Lib.hid (below_from HB2.out hb3)
      have HR3 := Lib.hid (vs_keep (kept_B hb3) HR.out)
      obtain ⟨z0, -⟩ := varN_B HB3.out HX.out 0 _ rfl
      obtain ⟨z1, -⟩ := varN_B HB3.out HX.out 1 _ rfl
      obtain ⟨z2, -⟩ := varN_B HB3.out HX.out 2 _ rfl
      clear hb3 hcb y0 y1 y2
      have q1 : ∀ w', Below w3.heap.size w3 w' → Calls Tryz.prog 7 #[.agg #[.int .i64 W, .int .i64 D, .slice tq cs.length td]] w' (BoolPost true w') := fun wq h => by
        have h := litRight_any W D tq cs.length td cs wq (vs_any (vs_keep (kept_B (below_from HB3.out h)) HVT.out)) HSH.out (by omega); rwa [HM.out] at h
      have q2 : ∀ w', Below w3.heap.size w3 w' → Calls Tryz.prog 8 #[.agg #[.int .i64 W, .int .i64 D, .slice tq cs.length td]] w' (BoolPost true w') := fun wq h => by
        have h := refRight4_any W D tq cs.length td cs wq (vs_any (vs_keep (kept_B (below_from HB3.out h)) HVT.out)) HSH.out (by omega); rwa [HM.out] at h
      have hB0 : Below w3.heap.size w3 w3.drew := (Below.refl _ _).drew
      go_upto_region 4 with fail
      go_region_held3 (fun w' => w'.cell? ⟨g, 0, none⟩ = some (.int .i64 W) ∧ w'.cell? ⟨g, 1, none⟩ = some (.int .i64 D) ∧ w'.cell? ⟨g, 2, none⟩ = some (.slice tq cs.length td) ∧ Below w3.heap.size w3 w')
        (first | exact ⟨z0, z1, z2, (Below.refl _ _).drew⟩ | exact ⟨cellB (by assumption) z0, cellB (by assumption) z1, cellB (by assumption) z2, by assumption⟩)
        ((first | (go_at_call 7; refine (q1 _ (by assumption)).mono ?_; rintro e wx ⟨rfl, hbx⟩; have hbx' := below_from (by assumption) hbx) | (go_at_call 8; refine (q2 _ (by assumption)).mono ?_; rintro e wx ⟨rfl, hbx⟩; have hbx' := below_from (by assumption) hbx) | (go_at_call 9; refine (alive4_any _).mono ?_; rintro e wx ⟨rfl, hbx⟩; have hbx' := below_from (by assumption) hbx)))
      have HB35 := Lib.hid hbx'
      have HB5 := Lib.hid (below_from HB3.out hbx')
      obtain ⟨v0, -⟩ := varN_B HB5.out HX.out 0 _ rfl
      obtain ⟨v1, -⟩ := varN_B HB5.out HX.out 1 _ rfl
      obtain ⟨v2, -⟩ := varN_B HB5.out HX.out 2 _ rfl
      clear hbx hbx' hB0 q1 q2 z0 z1 z2
      go_wp2_with fail
      refine (refRight4_any W D tq cs.length td cs wx (vs_any (vs_keep (kept_B HB5.out) HVT.out)) HSH.out (by omega)).mono ?_
      rintro e w6 ⟨rfl, hb6⟩
      rw [HM.out]
      have HB6 := Lib.hid (below_from HB5.out hb6)
      have H6X := Lib.hid hb6
      obtain ⟨u0, -⟩ := varN_B HB6.out HX.out 0 _ rfl
      obtain ⟨u1, -⟩ := varN_B HB6.out HX.out 1 _ rfl
      obtain ⟨u2, -⟩ := varN_B HB6.out HX.out 2 _ rfl
      clear hb6 v0 v1 v2
      go_wp2_with fail
      refine (refOutcomes_any W D tq td cs w6 (vs_any (vs_keep (kept_B HB6.out) HVT.out)) HM.out).mono ?_
      rintro e w7 ⟨rq, rc, rfl, -, -, -, VR7, hb7⟩
      have hl7 : (srtL (rowsL W D cs)).length = N := by rw [srt_len, ← HNN.out]
      rw [hl7] at VR7 ⊢
      have HB7 := Lib.hid (below_from HB6.out hb7)
      have h35 : Below w3.heap.size w3 w7 := below_from HB35.out (below_from H6X.out hb7)
      have h8 := refRows_any a2 N c2 (srtL (rowsL W D cs)) rq N rc (srtL (rowsL W D cs)) w7 (vs_any (vs_keep (kept_B h35) HR3.out)) VR7 (by omega)
      rw [decide_eq_true (rfl : srtL (rowsL W D cs) = srtL (rowsL W D cs))] at h8
      have HH8 := Lib.hid h8
      have HR7 := Lib.hid VR7
      clear hb7 hl7 VR7 h35 h8 u0 u1 u2
      go_wp2_with fail
      refine HH8.out.mono ?_
      rintro e w8 ⟨rfl, hb8⟩
      have HB8 := Lib.hid (below_from HB7.out hb8)
      have h9 := refHas_any rq N rc (srtL (rowsL W D cs)) p no c oo w8 (vs_keep (kept_B hb8) HR7.out) (vs_slR (vs_keep (kept_B HB8.out) HOC.out)) (by omega)
      rw [hasL_dec, show decide (oo ∈ srtL (rowsL W D cs)) = cb by rw [← HCB.out, decide_eq_decide]; exact srt_mem _ _] at h9
      have HH9 := Lib.hid h9
      clear hb8 h9
      go_wp2_with fail
      refine HH9.out.mono ?_
      rintro e w9 ⟨rfl, hb9⟩
      have HB9 := Lib.hid (below_from HB8.out hb9)
      clear hb9
      go_wp2
      go_ret
      exact boolPost_mk (by simp) (HB.out.trans (HB9.out.mono HB.out.size))
end Go.Proofs.YtiebaeaomgpicaaGreat
