/- The contract of package tso's Flush. -/
import Derived.Test.YteojpdhmhjoeiaaTsoG
namespace Go.Proofs.Yteojpdhmhjoeiaa
open Go.ChangeShapes Go.WideShapes Go.ChangeAt Go.RowKit

theorem wf_small {x : Int} (h0 : 0 ≤ x) (h1 : x < 1000) : (Lit.int .i64 x).wf = true := WalkArith.wf_i64 (by omega)
theorem own_lt {F g k l l2 j : Nat} {bs : List (List (Int × Int))} {w : World} (O : BOwn F g k l2 bs w) (H : Hid (bs.length = l)) (h : j < l) : j < l2 := by
  have := O.1; rw [H.out] at this; omega
/-- whatever was there reads as it did -/
def KeepOld (W W' : World) : Prop := ∀ (b o : Nat) (u : Value), W.cell? ⟨b, o, none⟩ = some u → W'.cell? ⟨b, o, none⟩ = some u
theorem keepOld_app {W W' : World} (h : KeepOld W W') {b o : Nat} {u : Value} (c : W.cell? ⟨b, o, none⟩ = some u) : W'.cell? ⟨b, o, none⟩ = some u := h _ _ _ c
theorem keepOld_refl (W : World) : KeepOld W W := fun _ _ _ h => h
theorem keepOld_B {W W' W2 : World} (h : KeepOld W W') (hb : Below W'.heap.size W' W2) : KeepOld W W2 := fun _ _ _ c => cellB hb (h _ _ _ c)
theorem keepOld_but {W W' W2 : World} {g : Nat} (h : KeepOld W W') (K : ∀ (b o : Nat) (u : Value), b ≠ g → W'.cell? ⟨b, o, none⟩ = some u → W2.cell? ⟨b, o, none⟩ = some u) (hg : W.heap.size ≤ g) : KeepOld W W2 := fun b o u c => K b o u (by have := cell_lt c; dsimp only at this; omega) (h _ _ _ c)
theorem set4_keep {W wy : World} {g b o : Nat} {v x y z u : Value} (hb : KeepOld W wy) (hne : b ≠ g) (h : W.cell? ⟨b, o, none⟩ = some v) : ((((wy.setCell ⟨g, 0, none⟩ x).setCell ⟨g, 1, none⟩ y).setCell ⟨g, 2, none⟩ z).setCell ⟨g, 3, none⟩ u).cell? ⟨b, o, none⟩ = some v := by
  have ne : ∀ j, (⟨g, j, none⟩ : Addr) ≠ ⟨b, o, none⟩ := fun j e => hne (congrArg Addr.block e).symm
  rw [World.cell?_setCell_other _ _ _ _ (ne _), World.cell?_setCell_other _ _ _ _ (ne _), World.cell?_setCell_other _ _ _ _ (ne _), World.cell?_setCell_other _ _ _ _ (ne _)]
  exact hb _ _ _ h

set_option maxRecDepth 100000 in
set_option maxHeartbeats 8000000 in
theorem tsoFlush_any (a a' q : Option Addr) (n c n' c' l d : Nat) (ws ts : List Int) (D : Int) (bs : List (List (Int × Int))) (th : Int) (w : World) (S1 : Sl w a n ws) (S2 : Sl w a' n' ts) (S : Bl w q l bs) :
    Calls Try.prog 63 #[.agg #[.slice a n c, .slice a' n' c', .int .i64 D, .slice q l d], .int .i64 th] w (TsoPost (okL (flushTE ws ts D bs th) (flushTW ws bs th)) (okL (flushTE ws ts D bs th) ts) (okZ (flushTE ws ts D bs th) D) (okL (flushTE ws ts D bs th) (flushTB bs th)) (flushTE ws ts D bs th) w) := by
  have Hl := Lib.hid S.1
  have Hn := Lib.hid S1.1
  cases hh : hasB ws ts D bs th with
  | false =>
    have he : flushTE ws ts D bs th = 1 := by rw [flushTE, if_neg (by rw [hh]; decide)]
    rw [he]
    have HH := Lib.hid (show (mayT ws ts D bs && thB bs th) = false from hh)
    clear hh he
    go_enter Try.func63, Try.ntmps63
    go_wp2_with fail
    refine (tsoHas_any a a' q n c n' c' l d ws ts D th bs _ (slA _ (slA _ (slA _ S1))) (slA _ (slA _ (slA _ S2))) (blA _ (blA _ (blA _ S)))).mono ?_
    rintro e w1 ⟨rfl, hb⟩
    rw [HH.out]
    have R := var4_B hb (var4_A _ (var4_new (w := w.alloc _) (w.heap.size + 1) (by simp)))
    have HR := Lib.hid (var4_set R (.slice none 0 0) (.slice none 0 0) (.int .i64 0) (.slice none 0 0))
    obtain ⟨⟨r0, r1, r2, r3⟩, f0, f1, f2, f3⟩ := R
    have HB := Lib.hid (below_from (by go_grown) hb : Below w.heap.size w w1)
    clear hb
    go_wp2
    refine bp_cell_tmp ⟨w.heap.size + 1, 0, none⟩ rfl rfl rfl (load_tso' _ _ _ _ _ _ HR.out.1.1 HR.out.1.2.1 HR.out.1.2.2.1 HR.out.1.2.2.2) ?_
    exact tsoPost_no (by decide) (below_set4 (g := w.heap.size + 1) HB.out (by omega) _ _ _ _)
  | true =>
    obtain ⟨hm, h0, h1⟩ := hasB_parts hh
    obtain ⟨j, rfl⟩ := Int.eq_ofNat_of_zero_le h0
    have hjl : j < l := by rw [← Hl.out]; omega
    have i1 : (0 : Int) ≤ j := by omega
    have i2 : (j : Int) < l := by omega
    obtain ⟨ps, hps⟩ : ∃ ps, bs.getD j [] = ps := ⟨_, rfl⟩
    have hpt := (mayT_parts hm).2.2.2 j (by omega)
    rw [hps] at hpt
    have hD8 : ps.length ≤ 8 := by have := (mayT_parts hm).2.2.1.2; have := hpt.1; omega
    have hw160 := (mayB_size (mayT_parts hm).1).2.1
    have HFP : Hid (ps ≠ [] → (Lit.int .i64 (firstP ps).1).wf = true) := fun hne => by
      have hp := hpt.2 0 (List.length_pos_iff.2 hne)
      exact wf_small hp.1 (by show (ps.getD 0 (0, 0)).1 < 1000; omega)
    have HPS := Lib.hid hps
    have HH := Lib.hid (show (mayT ws ts D bs && thB bs j) = true from hh)
    have HE := Lib.hid (show flushTE ws ts D bs j = if ps = [] then 8 else usableZ ws ts (firstP ps).1 by rw [flushTE, if_pos hh, bufOf, Int.toNat_natCast, hps])
    have HTW := Lib.hid (show flushTW ws bs j = ws.set (firstP ps).1.toNat (firstP ps).2 by rw [flushTW, bufOf, Int.toNat_natCast, hps])
    have HTB := Lib.hid (show flushTB bs j = bs.set j (restP ps) by rw [flushTB, bufOf, Int.toNat_natCast, hps])
    have HM := Lib.hid hm
    clear hh hm h0 h1 hps hpt hw160
    go_enter Try.func63, Try.ntmps63
    go_wp2_with fail
    refine (tsoHas_any a a' q n c n' c' l d ws ts D j bs _ (slA _ (slA _ (slA _ S1))) (slA _ (slA _ (slA _ S2))) (blA _ (blA _ (blA _ S)))).mono ?_
    rintro e w1 ⟨rfl, hb⟩
    rw [HH.out]
    have hb1 : Below w.heap.size w w1 := below_from (by go_grown) hb
    have R := var4_B hb (var4_A _ (var4_new (w := w.alloc _) (w.heap.size + 1) (by simp)))
    have X := var4_B hb (var4_new (w := (w.alloc _).alloc _) (w.heap.size + 1 + 1) (by simp))
    have T1 := slB hb1 S1
    have T2 := slB hb1 S2
    have T := blB hb1 S
    have HB := Lib.hid hb1
    obtain ⟨⟨k0, k1, k2, k3⟩, -⟩ := id X
    have hgw := var4_lt R
    have hgx := var4_lt X
    clear hb hb1 S1 S2 S HH
    obtain ⟨b, o, y, yc, rfl, g0, hcap, hp⟩ := bl_at T hjl
    rw [HPS.out] at g0 hp hcap
    obtain ⟨m, hm⟩ : ∃ m, ps.length = m := ⟨_, rfl⟩
    rw [hm] at g0 hp hcap hD8
    have HCAP := Lib.hid hcap
    have HPL := Lib.hid hm
    clear hcap hm
    go_wp2_with fail
    refine (Pop_any y m yc ps _ hp HCAP.out (by omega)).mono ?_
    rintro e w2 ⟨r, rc, rfl, hrc, u0, hb⟩
    obtain ⟨fp, hfp⟩ : ∃ z, firstP ps = z := ⟨_, rfl⟩
    obtain ⟨rp, hrp⟩ : ∃ z, restP ps = z := ⟨_, rfl⟩
    obtain ⟨rn, hrn⟩ : ∃ z, rp.length = z := ⟨_, rfl⟩
    obtain ⟨pe, hpe⟩ : ∃ z, popE ps = z := ⟨_, rfl⟩
    rw [hfp] at HFP HE HTW
    rw [hrp] at HTB u0 hrc
    rw [hrn] at u0 hrc
    rw [hfp, hrp, hrn, hpe]
    obtain ⟨x, v⟩ := fp
    obtain ⟨W, hW⟩ : ∃ W, W = w2.alloc (Obj.cells #[.int .i64 x, .int .i64 v] 69) := ⟨_, rfl⟩
    have b2 : Below w1.heap.size w1 W := by rw [hW]; exact hb.alloc hb.size _
    replace R := var4_B b2 R
    replace X := var4_B b2 X
    replace T1 := slB b2 T1
    replace T2 := slB b2 T2
    replace T := blB b2 T
    have p0 : W.cell? ⟨w2.heap.size, 0, none⟩ = some (.int .i64 x) := by rw [hW]; exact cell_new _ _ _ rfl rfl
    have p1 : W.cell? ⟨w2.heap.size, 1, none⟩ = some (.int .i64 v) := by rw [hW]; exact cell_new _ _ _ rfl rfl
    have hz2 : w1.heap.size ≤ w2.heap.size := hb.size
    have hzW : w2.heap.size < W.heap.size := cell_lt p0
    have hp0 : PlQ (fun z => w1.heap.size ≤ z ∧ z < W.heap.size) W r rn rp := by rw [hW]; exact plQ_F (F := w1.heap.size) (fun z h1 h2 => ⟨h1, h2⟩) (plF_alloc _ u0)
    have HW := Lib.hid hW
    have HB3 := Lib.hid (below_from HB.out b2)
    have HRR := Lib.hid R
    have HRC := Lib.hid hrc
    have HP0 := Lib.hid hp0
    have HPE := Lib.hid hpe
    clear hb hrc u0 b2 k0 k1 k2 k3 hW HB hp0 g0 hp hpe hrn hrp hfp
    obtain ⟨⟨k0, k1, k2, k3⟩, -⟩ := X
    go_upto_region 5 with fail
    rw [← HW.out]
    by_cases hne : ps = []
    · have HES := Lib.hid (show flushTE ws ts D bs j = 8 by rw [HE.out, if_pos hne])
      have h8 : pe = 8 := by rw [← HPE.out, popE, if_pos hne]
      subst h8
      have HZ := Lib.hid (var4_set R (.slice none 0 0) (.slice none 0 0) (.int .i64 0) (.slice none 0 0))
      obtain ⟨⟨r0, r1, r2, r3⟩, f0, f1, f2, f3⟩ := R
      clear hne k0 k1 k2 k3 T1 T2 T p0 p1 HPE
      go_wp2
      refine bp_cell_tmp ⟨w.heap.size + 1, 0, none⟩ rfl rfl rfl (load_tso' _ _ _ _ _ _ HZ.out.1.1 HZ.out.1.2.1 HZ.out.1.2.2.1 HZ.out.1.2.2.2) ?_
      rw [HES.out]
      exact tsoPost_no (by decide) (below_set4 (g := w.heap.size + 1) HB3.out (by omega) _ _ _ _)
    · have h0 : pe = 0 := by rw [← HPE.out, popE, if_neg hne]
      subst h0
      have HXW := Lib.hid (HFP.out hne)
      by_cases hu : usableZ ws ts x = 0
      · have HES := Lib.hid (show flushTE ws ts D bs j = 0 by rw [HE.out, if_neg hne]; exact hu)
        have HU := Lib.hid hu
        clear hu hne R HPE
        go_wp2_with fail
        have hK0 : KeepOld W W.drew := fun _ _ _ h => h
        have hB0 : Below W.heap.size W W.drew := (Below.refl _ _).drew
        go_region_held3 (fun w' => (w'.cell? ⟨w.heap.size + 1 + 1, 0, none⟩ = some (.slice a n c) ∧ w'.cell? ⟨w.heap.size + 1 + 1, 1, none⟩ = some (.slice a' n' c') ∧ w'.cell? ⟨w.heap.size + 1 + 1, 2, none⟩ = some (.int .i64 D) ∧ w'.cell? ⟨w.heap.size + 1 + 1, 3, none⟩ = some (.slice (some ⟨b, o, none⟩) l d)) ∧ w'.cell? ⟨w2.heap.size, 0, none⟩ = some (.int .i64 x) ∧ w'.cell? ⟨w2.heap.size, 1, none⟩ = some (.int .i64 v))
          (first | exact ⟨⟨k0, k1, k2, k3⟩, p0, p1⟩ | (exact ⟨⟨keepOld_app (by assumption) k0, keepOld_app (by assumption) k1, keepOld_app (by assumption) k2, keepOld_app (by assumption) k3⟩, keepOld_app (by assumption) p0, keepOld_app (by assumption) p1⟩) | (exact ⟨⟨set4_keep (by assumption) (by omega) k0, set4_keep (by assumption) (by omega) k1, set4_keep (by assumption) (by omega) k2, set4_keep (by assumption) (by omega) k3⟩, set4_keep (by assumption) (by omega) p0, set4_keep (by assumption) (by omega) p1⟩))
          ((first | (go_at_call 24; refine (copiedT_any a a' (some ⟨b, o, none⟩) n c n' c' l d ws ts D bs _ (slB (by assumption) T1) (slB (by assumption) T2) (blB (by assumption) T) HM.out).mono ?_; rintro e wz ⟨p, m1, d1, p', m2, d2, g, l2, rfl, u1, u2, O, hbz⟩; have hKz := keepOld_B hK0 hbz; have hgz : W.heap.size ≤ g := O.2.1; have hzz : W.heap.size ≤ wz.heap.size := hbz.size; have hjl2 : j < l2 := own_lt O Hl hjl; have O2 := bown_mono (F := W.heap.size) (F' := w1.heap.size) (by omega) O; have pz := plQ_keep (fun _ _ _ _ h3 => keepOld_app hKz h3) (plQ_mono (Q' := fun z => w1.heap.size ≤ z ∧ z ≠ g) (fun z h => ⟨h.1, by omega⟩) HP0.out)) | (go_at_call 57; refine (hold_any w1.heap.size g l2 p p' m1 d1 m2 d2 D bs j r rn rc rp _ O2 hjl2 pz HRC.out).mono ?_; rintro e wh ⟨rfl, O3, K3, hbh⟩; have hKh := keepOld_but hKz K3 hgz; have v1 := slP_keep (fun b o u hq hu => K3 b o u hq.2 hu) u1; have v2 := slP_keep (fun b o u hq hu => K3 b o u hq.2 hu) u2; have hgh : wz.heap.size ≤ wh.heap.size := hbh.size) | (go_at_call 25; refine (storedT_ok p p' (some ⟨g, 0, none⟩) m1 d1 m2 d2 l2 l2 ws ts D x v _ v1.sl v2.sl HXW.out HU.out).mono ?_; rintro e wy ⟨p3, m3, d3, p4, m4, d4, rfl, u3, u4, hby⟩; have hKy := keepOld_B hKh hby; have R4 := var4_B hby (var4_low hbh (by omega) (var4_B hbz HRR.out)); obtain ⟨⟨r0, r1, r2, r3⟩, f0, f1, f2, f3⟩ := id R4)))
        have hFw : w.heap.size ≤ w1.heap.size := by omega
        have H4 := Lib.hid (var4_set R4 (.slice p3 m3 d3) (.slice p4 m4 d4) (.int .i64 D) (.slice (some ⟨g, 0, none⟩) l2 l2))
        have hBy : Below w.heap.size w wy := ((below_from HB3.out (below_from hB0 hbz)).trans (hbh.mono hFw)).trans (hby.mono (by have := HB3.out.size; omega))
        have HZ := Lib.hid (tsoPost_yes HES.out (tsoPost_mk (F := w1.heap.size) (g := w.heap.size + 1) (ws := flushTW ws bs j) (ts := ts) (D := D) (bs := flushTB bs j) (x := 0) (y0 := .slice p3 m3 d3) (y1 := .slice p4 m4 d4) (y2 := .int .i64 D) (y3 := .slice (some ⟨g, 0, none⟩) l2 l2) (d := d3) (d' := d4) (e := l2) hgw (by omega) (Q := fun b => wh.heap.size ≤ b) (fun b h => by omega) (by rw [HTW.out]; exact slP_slF (fun _ h => h) u3) (slP_slF (fun _ h => h) u4) (by rw [HTB.out]; exact blPB hby (bown_bl O3)) hBy))
        clear u1 u2 u3 u4 v1 v2 O O2 O3 K3 pz hbz hbh hby hKz hKh hKy hK0 hB0 p0 p1 k0 k1 k2 k3 T1 T2 T R4
        go_wp2
        refine bp_cell_tmp ⟨w.heap.size + 1, 0, none⟩ rfl rfl rfl (load_tso' _ _ _ _ _ _ H4.out.1.1 H4.out.1.2.1 H4.out.1.2.2.1 H4.out.1.2.2.2) ?_
        exact HZ.out
      · obtain ⟨ev, hev⟩ : ∃ z, usableZ ws ts x = z := ⟨_, rfl⟩
        have HUN := Lib.hid hu
        have HU := Lib.hid hev
        have HES := Lib.hid (show flushTE ws ts D bs j = ev by rw [HE.out, if_neg hne]; exact hev)
        have HEN := Lib.hid (show ev ≠ 0 by rw [← hev]; exact hu)
        clear hu hne R HPE hev
        go_wp2_with fail
        have hK0 : KeepOld W W.drew := fun _ _ _ h => h
        have hB0 : Below W.heap.size W W.drew := (Below.refl _ _).drew
        go_region_held3 (fun w' => (w'.cell? ⟨w.heap.size + 1 + 1, 0, none⟩ = some (.slice a n c) ∧ w'.cell? ⟨w.heap.size + 1 + 1, 1, none⟩ = some (.slice a' n' c') ∧ w'.cell? ⟨w.heap.size + 1 + 1, 2, none⟩ = some (.int .i64 D) ∧ w'.cell? ⟨w.heap.size + 1 + 1, 3, none⟩ = some (.slice (some ⟨b, o, none⟩) l d)) ∧ w'.cell? ⟨w2.heap.size, 0, none⟩ = some (.int .i64 x) ∧ w'.cell? ⟨w2.heap.size, 1, none⟩ = some (.int .i64 v))
          (first | exact ⟨⟨k0, k1, k2, k3⟩, p0, p1⟩ | (exact ⟨⟨keepOld_app (by assumption) k0, keepOld_app (by assumption) k1, keepOld_app (by assumption) k2, keepOld_app (by assumption) k3⟩, keepOld_app (by assumption) p0, keepOld_app (by assumption) p1⟩) | (exact ⟨⟨set4_keep (by assumption) (by omega) k0, set4_keep (by assumption) (by omega) k1, set4_keep (by assumption) (by omega) k2, set4_keep (by assumption) (by omega) k3⟩, set4_keep (by assumption) (by omega) p0, set4_keep (by assumption) (by omega) p1⟩))
          ((first | (go_at_call 24; refine (copiedT_any a a' (some ⟨b, o, none⟩) n c n' c' l d ws ts D bs _ (slB (by assumption) T1) (slB (by assumption) T2) (blB (by assumption) T) HM.out).mono ?_; rintro e wz ⟨p, m1, d1, p', m2, d2, g, l2, rfl, u1, u2, O, hbz⟩; have hKz := keepOld_B hK0 hbz; have hgz : W.heap.size ≤ g := O.2.1; have hzz : W.heap.size ≤ wz.heap.size := hbz.size; have hjl2 : j < l2 := own_lt O Hl hjl; have O2 := bown_mono (F := W.heap.size) (F' := w1.heap.size) (by omega) O; have pz := plQ_keep (fun _ _ _ _ h3 => keepOld_app hKz h3) (plQ_mono (Q' := fun z => w1.heap.size ≤ z ∧ z ≠ g) (fun z h => ⟨h.1, by omega⟩) HP0.out)) | (go_at_call 57; refine (hold_any w1.heap.size g l2 p p' m1 d1 m2 d2 D bs j r rn rc rp _ O2 hjl2 pz HRC.out).mono ?_; rintro e wh ⟨rfl, O3, K3, hbh⟩; have hKh := keepOld_but hKz K3 hgz; have v1 := slP_keep (fun b o u hq hu => K3 b o u hq.2 hu) u1; have v2 := slP_keep (fun b o u hq hu => K3 b o u hq.2 hu) u2; have hgh : wz.heap.size ≤ wh.heap.size := hbh.size) | (go_at_call 25; refine (storedT_no p p' (some ⟨g, 0, none⟩) m1 d1 m2 d2 l2 l2 ws ts D x v _ v1.sl v2.sl HXW.out HUN.out).mono ?_; rw [HU.out]; rintro e wy ⟨rfl, hby⟩; have hKy := keepOld_B hKh hby; have R4 := var4_B hby (var4_low hbh (by omega) (var4_B hbz HRR.out)); obtain ⟨⟨r0, r1, r2, r3⟩, f0, f1, f2, f3⟩ := id R4)))
        have hFw : w.heap.size ≤ w1.heap.size := by omega
        have H4 := Lib.hid (var4_set R4 (.slice none 0 0) (.slice none 0 0) (.int .i64 0) (.slice none 0 0))
        have HBy := Lib.hid (((below_from HB3.out (below_from hB0 hbz)).trans (hbh.mono hFw)).trans (hby.mono (by have := HB3.out.size; omega)))
        clear u1 u2 v1 v2 O O2 O3 K3 pz hbz hbh hby hKz hKh hKy hK0 hB0 p0 p1 k0 k1 k2 k3 T1 T2 T R4
        go_wp2
        refine bp_cell_tmp ⟨w.heap.size + 1, 0, none⟩ rfl rfl rfl (load_tso' _ _ _ _ _ _ H4.out.1.1 H4.out.1.2.1 H4.out.1.2.2.1 H4.out.1.2.2.2) ?_
        rw [HES.out]
        exact tsoPost_no HEN.out (below_set4 (g := w.heap.size + 1) HBy.out (by omega) _ _ _ _)
end Go.Proofs.Yteojpdhmhjoeiaa
