/- The contract of package tso's Store. -/
import Derived.Test.YteojpdhmhjoeiaaTsoF
namespace Go.Proofs.Yteojpdhmhjoeiaa
open Go.ChangeShapes Go.WideShapes Go.ChangeAt Go.RowKit

theorem tsoPost_no {A B : List Int} {z E : Int} {C : List (List (Int × Int))} (he : E ≠ 0) {w w' : World} (hb : Below w.heap.size w w') : TsoPost (okL E A) (okL E B) (okZ E z) (okL E C) E w (.returned (.tuple #[.agg #[.slice none 0 0, .slice none 0 0, .int .i64 0, .slice none 0 0], .int .i64 E])) w' := by
  rw [okL_neg he, okL_neg he, okZ_neg he, okL_neg he]; exact tsoPost_nil hb
theorem tsoPost_yes {A B : List Int} {z E : Int} {C : List (List (Int × Int))} (he : E = 0) {w w' : World} {e : Ending} (h : TsoPost A B z C 0 w e w') : TsoPost (okL E A) (okL E B) (okZ E z) (okL E C) E w e w' := by
  rw [okL_pos he, okL_pos he, okZ_pos he, okL_pos he, he]; exact h
/-- the four cells of a variable, none of them frozen -/
def Var4 (w : World) (g : Nat) (x y z u : Value) : Prop := (w.cell? ⟨g, 0, none⟩ = some x ∧ w.cell? ⟨g, 1, none⟩ = some y ∧ w.cell? ⟨g, 2, none⟩ = some z ∧ w.cell? ⟨g, 3, none⟩ = some u) ∧ w.frozen? ⟨g, 0, none⟩ = false ∧ w.frozen? ⟨g, 1, none⟩ = false ∧ w.frozen? ⟨g, 2, none⟩ = false ∧ w.frozen? ⟨g, 3, none⟩ = false
theorem var4_new {w : World} {x y z u : Value} {t : TypeId} (g : Nat) (hg : g = w.heap.size) : Var4 (w.alloc (.cells #[x, y, z, u] t)) g x y z u :=
  ⟨⟨cell_new _ _ _ hg rfl, cell_new _ _ _ hg rfl, cell_new _ _ _ hg rfl, cell_new _ _ _ hg rfl⟩, frozen_new _ _ hg, frozen_new _ _ hg, frozen_new _ _ hg, frozen_new _ _ hg⟩
theorem var4_B {w w' : World} {g : Nat} {x y z u : Value} (hb : Below w.heap.size w w') (h : Var4 w g x y z u) : Var4 w' g x y z u := by
  obtain ⟨⟨a, b, c, d⟩, e, f, i, j⟩ := h
  exact ⟨⟨cellB hb a, cellB hb b, cellB hb c, cellB hb d⟩, frozenB hb a e, frozenB hb b f, frozenB hb c i, frozenB hb d j⟩
theorem var4_A {w : World} {g : Nat} {x y z u : Value} (o : Obj) (h : Var4 w g x y z u) : Var4 (w.alloc o) g x y z u := var4_B ((Below.refl _ _).alloc (Nat.le_refl _) _) h
theorem var4_set {w : World} {g : Nat} {x y z u : Value} (h : Var4 w g x y z u) (x' y' z' u' : Value) : Var4 ((((w.setCell ⟨g, 0, none⟩ x').setCell ⟨g, 1, none⟩ y').setCell ⟨g, 2, none⟩ z').setCell ⟨g, 3, none⟩ u') g x' y' z' u' := by
  obtain ⟨⟨a, b, c, d⟩, e, f, i, j⟩ := h
  refine ⟨set4 x' y' z' u' (by rw [a]; rfl) (by rw [b]; rfl) (by rw [c]; rfl) (by rw [d]; rfl), ?_, ?_, ?_, ?_⟩ <;> (simp only [World.frozen?_setCell]; assumption)
theorem set4_old {W wy : World} {g b o : Nat} {v x y z u : Value} (hb : Below W.heap.size W wy) (hne : b ≠ g) (h : W.cell? ⟨b, o, none⟩ = some v) : ((((wy.setCell ⟨g, 0, none⟩ x).setCell ⟨g, 1, none⟩ y).setCell ⟨g, 2, none⟩ z).setCell ⟨g, 3, none⟩ u).cell? ⟨b, o, none⟩ = some v := by
  have ne : ∀ j, (⟨g, j, none⟩ : Addr) ≠ ⟨b, o, none⟩ := fun j e => hne (congrArg Addr.block e).symm
  rw [World.cell?_setCell_other _ _ _ _ (ne _), World.cell?_setCell_other _ _ _ _ (ne _), World.cell?_setCell_other _ _ _ _ (ne _), World.cell?_setCell_other _ _ _ _ (ne _)]
  exact cellB hb h
theorem var4_low {F : Nat} {w w' : World} {g : Nat} {x y z u : Value} (hb : Below F w w') (hg : g < F) (h : Var4 w g x y z u) : Var4 w' g x y z u := by
  obtain ⟨⟨a, b, c, d⟩, e, f, i, j⟩ := h
  exact ⟨⟨(hb.cell (p := ⟨g, 0, none⟩) hg).trans a, (hb.cell (p := ⟨g, 1, none⟩) hg).trans b, (hb.cell (p := ⟨g, 2, none⟩) hg).trans c, (hb.cell (p := ⟨g, 3, none⟩) hg).trans d⟩, (hb.frozen (p := ⟨g, 0, none⟩) hg).trans e, (hb.frozen (p := ⟨g, 1, none⟩) hg).trans f, (hb.frozen (p := ⟨g, 2, none⟩) hg).trans i, (hb.frozen (p := ⟨g, 3, none⟩) hg).trans j⟩
theorem var4_lt {w : World} {g : Nat} {x y z u : Value} (h : Var4 w g x y z u) : g < w.heap.size := cell_lt h.1.1

set_option maxRecDepth 100000 in
set_option maxHeartbeats 4000000 in
theorem tsoStore_any (a a' q : Option Addr) (n c n' c' l d : Nat) (ws ts : List Int) (D : Int) (bs : List (List (Int × Int))) (th x v : Int) (w : World) (S1 : Sl w a n ws) (S2 : Sl w a' n' ts) (S : Bl w q l bs) (hx : (Lit.int .i64 x).wf = true) :
    Calls Try.prog 27 #[.agg #[.slice a n c, .slice a' n' c', .int .i64 D, .slice q l d], .int .i64 th, .int .i64 x, .int .i64 v] w (TsoPost (okL (storeTE ws ts D bs th x) (storeTW ws D x v)) (okL (storeTE ws ts D bs th x) ts) (okZ (storeTE ws ts D bs th x) D) (okL (storeTE ws ts D bs th x) (storeTB D bs th x v)) (storeTE ws ts D bs th x) w) := by
  have HX := Lib.hid hx
  have Hl := Lib.hid S.1
  clear hx
  cases hh : hasB ws ts D bs th with
  | false =>
    have he : storeTE ws ts D bs th x = 1 := by rw [storeTE, if_neg (by rw [hh]; decide)]
    rw [he]
    have HH := Lib.hid (show (mayT ws ts D bs && thB bs th) = false from hh)
    clear hh he
    go_enter Try.func27, Try.ntmps27
    go_wp2_with fail
    refine (tsoHas_any a a' q n c n' c' l d ws ts D th bs _ (slA _ (slA _ (slA _ S1))) (slA _ (slA _ (slA _ S2))) (blA _ (blA _ (blA _ S)))).mono ?_
    rintro e w1 ⟨rfl, hb⟩
    rw [HH.out]
    have R := var4_B hb (var4_A _ (var4_new (w := w.alloc _) (w.heap.size + 1) (by simp)))
    have HR := Lib.hid (var4_set R (.slice none 0 0) (.slice none 0 0) (.int .i64 0) (.slice none 0 0))
    obtain ⟨⟨r0, r1, r2, r3⟩, f0, f1, f2, f3⟩ := R
    have HB := Lib.hid (below_from (by go_grown) hb : Below w.heap.size w w1)
    clear hb
    go_wp2
    refine bp_cell_tmp ⟨w.heap.size + 1, 0, none⟩ rfl rfl rfl (load_tso' _ _ _ _ _ _ HR.out.1.1 HR.out.1.2.1 HR.out.1.2.2.1 HR.out.1.2.2.2) ?_
    exact tsoPost_no (by decide) (below_set4 (g := w.heap.size + 1) HB.out (by omega) _ _ _ _)
  | true =>
    obtain ⟨hm, h0, h1⟩ := hasB_parts hh
    obtain ⟨j, rfl⟩ := Int.eq_ofNat_of_zero_le h0
    have hjl : j < l := by rw [← Hl.out]; omega
    have i1 : (0 : Int) ≤ j := by omega
    have i2 : (j : Int) < l := by omega
    have HH := Lib.hid (show (mayT ws ts D bs && thB bs j) = true from hh)
    have HE := Lib.hid (show storeTE ws ts D bs j x = if usableZ ws ts x = 0 then (if D = 0 then 0 else if ((bs.getD j []).length : Int) = D then 7 else 0) else usableZ ws ts x by rw [storeTE, if_pos hh, bufOf, Int.toNat_natCast])
    have hD0 : 0 ≤ D := (mayT_parts hm).2.2.1.1
    have hD8 : D ≤ 8 := (mayT_parts hm).2.2.1.2
    have hlD : ((bs.getD j []).length : Int) ≤ D := ((mayT_parts hm).2.2.2 j (by omega)).1
    have HM := Lib.hid hm
    clear hh hm h0 h1
    go_enter Try.func27, Try.ntmps27
    go_wp2_with fail
    refine (tsoHas_any a a' q n c n' c' l d ws ts D j bs _ (slA _ (slA _ (slA _ S1))) (slA _ (slA _ (slA _ S2))) (blA _ (blA _ (blA _ S)))).mono ?_
    rintro e w1 ⟨rfl, hb⟩
    rw [HH.out]
    have hb1 : Below w.heap.size w w1 := below_from (by go_grown) hb
    have R := var4_B hb (var4_A _ (var4_new (w := w.alloc _) (w.heap.size + 1) (by simp)))
    have X := var4_B hb (var4_new (w := (w.alloc _).alloc _) (w.heap.size + 1 + 1) (by simp))
    have T1 := slB hb1 S1
    have T2 := slB hb1 S2
    have T := blB hb1 S
    have HB := Lib.hid hb1
    obtain ⟨⟨k0, k1, k2, k3⟩, -⟩ := id X
    clear hb hb1 S1 S2 S HH
    go_wp2_with fail
    refine (Load_any a a' n c n' c' ws ts x _ T1 T2 HX.out).mono ?_
    rintro e w2 ⟨rfl, hb⟩
    obtain ⟨ev, hev⟩ : ∃ z, usableZ ws ts x = z := ⟨_, rfl⟩
    obtain ⟨lv, hlv⟩ : ∃ z, loadZ ws ts x = z := ⟨_, rfl⟩
    have HEV := Lib.hid hev
    rw [hev, hlv]
    have HB2 := Lib.hid (below_from HB.out hb)
    replace R := var4_B hb R
    by_cases he : ev = 0
    · subst he
      replace X := var4_B hb X
      replace T1 := slB hb T1
      replace T2 := slB hb T2
      replace T := blB hb T
      have hgw2 := var4_lt R
      have hgx2 := var4_lt X
      obtain ⟨W, hW⟩ : ∃ W, W = w2.alloc (Obj.cells #[.int .i64 x, .int .i64 v] 69) := ⟨_, rfl⟩
      have b2 : Below w2.heap.size w2 W := by rw [hW]; exact (Below.refl _ _).alloc (Nat.le_refl _) _
      replace R := var4_B b2 R
      replace X := var4_B b2 X
      replace T1 := slB b2 T1
      replace T2 := slB b2 T2
      replace T := blB b2 T
      have p0 : W.cell? ⟨w2.heap.size, 0, none⟩ = some (.int .i64 x) := by rw [hW]; exact cell_new _ _ _ rfl rfl
      have p1 : W.cell? ⟨w2.heap.size, 1, none⟩ = some (.int .i64 v) := by rw [hW]; exact cell_new _ _ _ rfl rfl
      have hgw := var4_lt R
      have hgx := var4_lt X
      have hw2 : w.heap.size + 1 < w2.heap.size ∧ w.heap.size + 1 + 1 < w2.heap.size := ⟨hgw2, hgx2⟩
      have HW := Lib.hid hW
      have HB3 := Lib.hid (below_from HB2.out b2)
      have HB3s := Lib.hid HB3.out.size
      have HR := Lib.hid R
      clear hb hlv hev b2 k0 k1 k2 k3 R hW HB HB2
      obtain ⟨⟨k0, k1, k2, k3⟩, -⟩ := X
      go_upto_region 8 with fail
      rw [← HW.out]
      by_cases hd : D = 0
      · subst hd
        have HES := Lib.hid (show storeTE ws ts 0 bs j x = 0 by rw [HE.out, HEV.out, if_pos rfl, if_pos rfl])
        go_wp2_with fail
        have hB0 : Below W.heap.size W W.drew := (Below.refl _ _).drew
        have HE0 := Lib.hid HEV.out
        go_region_held3 (fun w' => (w'.cell? ⟨w.heap.size + 1 + 1, 0, none⟩ = some (.slice a n c) ∧ w'.cell? ⟨w.heap.size + 1 + 1, 1, none⟩ = some (.slice a' n' c') ∧ w'.cell? ⟨w.heap.size + 1 + 1, 2, none⟩ = some (.int .i64 0) ∧ w'.cell? ⟨w.heap.size + 1 + 1, 3, none⟩ = some (.slice q l d)) ∧ w'.cell? ⟨w2.heap.size, 0, none⟩ = some (.int .i64 x) ∧ w'.cell? ⟨w2.heap.size, 1, none⟩ = some (.int .i64 v))
          (first | exact ⟨⟨k0, k1, k2, k3⟩, p0, p1⟩ | (exact ⟨⟨cellB (by assumption) k0, cellB (by assumption) k1, cellB (by assumption) k2, cellB (by assumption) k3⟩, cellB (by assumption) p0, cellB (by assumption) p1⟩) | (exact ⟨⟨set4_old (by assumption) (by omega) k0, set4_old (by assumption) (by omega) k1, set4_old (by assumption) (by omega) k2, set4_old (by assumption) (by omega) k3⟩, set4_old (by assumption) (by omega) p0, set4_old (by assumption) (by omega) p1⟩))
          ((first | (go_at_call 24; refine (copiedT_any a a' q n c n' c' l d ws ts 0 bs _ (slB (by assumption) T1) (slB (by assumption) T2) (blB (by assumption) T) HM.out).mono ?_; rintro e wx ⟨p, m, d1, p', m', d2, y, l2, rfl, u1, u2, O, hbx⟩; have hbx' := below_from (by assumption) hbx) | (go_at_call 25; refine (storedT_ok p p' (some ⟨y, 0, none⟩) m d1 m' d2 l2 l2 ws ts 0 x v _ u1.sl u2.sl HX.out HEV.out).mono ?_; rintro e wy ⟨p3, m3, d3, p4, m4, d4, rfl, u3, u4, hby⟩; have hby' := below_from (by assumption) hby; obtain ⟨⟨r0, r1, r2, r3⟩, f0, f1, f2, f3⟩ := var4_B hby' HR.out)))
        have H4 := Lib.hid (var4_set (var4_B hby' HR.out) (.slice p3 m3 d3) (.slice p4 m4 d4) (.int .i64 0) (.slice (some ⟨y, 0, none⟩) l2 l2))
        have HZ := Lib.hid (tsoPost_yes HES.out (tsoPost_mk (F := W.heap.size) (g := w.heap.size + 1) (ws := storeTW ws 0 x v) (ts := ts) (D := 0) (bs := storeTB 0 bs j x v) (x := 0) (y0 := .slice p3 m3 d3) (y1 := .slice p4 m4 d4) (y2 := .int .i64 0) (y3 := .slice (some ⟨y, 0, none⟩) l2 l2) (d := d3) (d' := d4) (e := l2) hgw (by omega) (Q := fun b => wx.heap.size ≤ b) (fun b h => Nat.le_trans hbx'.size h) (slP_slF (fun _ h => h) u3) (slP_slF (fun _ h => h) u4) (blPB hby (bown_bl O)) (below_from HB3.out hby')))
        clear u1 u2 u3 u4 O hbx hby hbx' hby' hB0 p0 p1 k0 k1 k2 k3 T1 T2 T
        go_wp2
        refine bp_cell_tmp ⟨w.heap.size + 1, 0, none⟩ rfl rfl rfl (load_tso' _ _ _ _ _ _ H4.out.1.1 H4.out.1.2.1 H4.out.1.2.2.1 H4.out.1.2.2.2) ?_
        exact HZ.out
      · have q1 : (D == 0) = false := by simpa using hd
        have HDN := Lib.hid hd
        obtain ⟨b, o, y, yc, rfl, g0, hcap, hp⟩ := bl_at T hjl
        obtain ⟨ps, hps⟩ : ∃ ps, bs.getD j [] = ps := ⟨_, rfl⟩
        rw [hps] at g0 hp hcap hlD
        have HPS := Lib.hid hps
        obtain ⟨m, hm⟩ : ∃ m, ps.length = m := ⟨_, rfl⟩
        rw [hm] at g0 hp hcap hlD
        have HPL := Lib.hid hm
        have HCAP := Lib.hid hcap
        have hm8 : m ≤ 8 := by omega
        have HPE := Lib.hid (show pushE m D = if (m : Int) = D then 7 else 0 by rw [pushE, if_neg (by omega)])
        clear hps hm hcap hd
        go_wp2_with fail
        have hB0 : Below W.heap.size W W.drew := (Below.refl _ _).drew
        go_region_held3 (fun w' => (w'.cell? ⟨w.heap.size + 1 + 1, 2, none⟩ = some (.int .i64 D) ∧ w'.cell? ⟨w.heap.size + 1 + 1, 3, none⟩ = some (.slice (some ⟨b, o, none⟩) l d)) ∧ w'.cell? ⟨b, o + j, none⟩ = some (.slice y m yc) ∧ w'.cell? ⟨w2.heap.size, 0, none⟩ = some (.int .i64 x) ∧ w'.cell? ⟨w2.heap.size, 1, none⟩ = some (.int .i64 v))
          (first | exact ⟨⟨k2, k3⟩, g0, p0, p1⟩ | (exact ⟨⟨cellB (by assumption) k2, cellB (by assumption) k3⟩, cellB (by assumption) g0, cellB (by assumption) p0, cellB (by assumption) p1⟩))
          ((go_at_call 56; refine (Push_any y m yc ps D x v _ (plB (by assumption) hp) HCAP.out).mono ?_; rintro e wx ⟨r, rc, rfl, hrc, u0, hbx⟩; have hbx' := below_from (by assumption) hbx))
        have hsz : W.heap.size ≤ wx.heap.size := hbx'.size
        replace T1 := slB hbx' T1
        replace T2 := slB hbx' T2
        replace T := blB hbx' T
        replace k0 := cellB hbx' k0
        replace k1 := cellB hbx' k1
        replace k2 := cellB hbx' k2
        replace k3 := cellB hbx' k3
        have R := var4_B hbx' HR.out
        have HBX := Lib.hid (below_from HB3.out hbx')
        by_cases hf : (m : Int) = D
        · have HES := Lib.hid (show storeTE ws ts D bs j x = 7 by rw [HE.out, HEV.out, if_pos rfl, if_neg HDN.out, HPS.out, HPL.out, if_pos hf])
          have HP7 := Lib.hid (show pushE m D = 7 by rw [HPE.out, if_pos hf])
          rw [HP7.out]
          have HZ := Lib.hid (var4_set R (.slice none 0 0) (.slice none 0 0) (.int .i64 0) (.slice none 0 0))
          obtain ⟨⟨r0, r1, r2, r3⟩, f0, f1, f2, f3⟩ := R
          clear hf u0 hbx hbx' hB0 k0 k1 k2 k3 T1 T2 T hp g0 p0 p1 hrc HPE
          go_wp2
          refine bp_cell_tmp ⟨w.heap.size + 1, 0, none⟩ rfl rfl rfl (load_tso' _ _ _ _ _ _ HZ.out.1.1 HZ.out.1.2.1 HZ.out.1.2.2.1 HZ.out.1.2.2.2) ?_
          rw [HES.out]
          exact tsoPost_no (by decide) (below_set4 (g := w.heap.size + 1) HBX.out (by omega) _ _ _ _)
        · have HES := Lib.hid (show storeTE ws ts D bs j x = 0 by rw [HE.out, HEV.out, if_pos rfl, if_neg HDN.out, HPS.out, HPL.out, if_neg hf])
          have HP0 := Lib.hid (show pushE m D = 0 by rw [HPE.out, if_neg hf])
          have hL : pushL ps D (x, v) = ps ++ [(x, v)] := by rw [pushL, HPL.out, HP0.out, if_pos rfl]
          rw [HP0.out]
          rw [hL] at u0 hrc ⊢
          have hm1 : (ps ++ [(x, v)]).length = m + 1 := by rw [List.length_append, HPL.out]; rfl
          rw [hm1] at u0 hrc ⊢
          have HTW := Lib.hid (show storeTW ws D x v = ws by rw [storeTW, if_neg HDN.out])
          have HTB := Lib.hid (show storeTB D bs j x v = bs.set j (ps ++ [(x, v)]) by rw [storeTB, if_neg HDN.out, bufOf, Int.toNat_natCast, HPS.out])
          have U0 := Lib.hid u0
          have HRC := Lib.hid hrc
          have HRR := Lib.hid R
          clear hf hL hm1 u0 hrc hbx hbx' hB0 g0 p0 p1 hp HPE R HR HB3
          go_wp2_with fail
          refine (copiedT_any a a' (some ⟨b, o, none⟩) n c n' c' l d ws ts D bs _ T1 T2 T HM.out).mono ?_
          rintro e wz ⟨p, m1, d1, p', m2, d2, g, l2, rfl, u1, u2, O, hbz⟩
          have hgz : wx.heap.size ≤ g := O.2.1
          have hl2 : l2 = l := by rw [← O.1, Hl.out]
          subst hl2
          have O2 := bown_mono (F' := W.heap.size) (by omega) O
          have hp0 : PlQ (fun z => W.heap.size ≤ z ∧ z ≠ g) wz r (m + 1) (ps ++ [(x, v)]) := plQB hbz (plQ_F (fun z h1 h2 => ⟨h1, by omega⟩) U0.out)
          have U1 := Lib.hid u1
          have U2 := Lib.hid u2
          have HO := Lib.hid O2
          have HP := Lib.hid hp0
          have HBZ := Lib.hid hbz
          clear O O2 hp0 hbz u1 u2 T1 T2 T k0 k1 k2 k3
          go_wp2_with fail
          refine (hold_any W.heap.size g l2 p p' m1 d1 m2 d2 D bs j r (m + 1) rc (ps ++ [(x, v)]) _ HO.out hjl HP.out HRC.out).mono ?_
          rintro e wh ⟨rfl, O3, K3, hbh⟩
          have R3 := var4_low hbh (by omega) (var4_B HBZ.out HRR.out)
          have hfd := field_tso wh (.slice p m1 d1) (.slice p' m2 d2) (.int .i64 D) (.slice (some ⟨g, 0, none⟩) l2 l2)
          have H4 := Lib.hid (var4_set R3 (.slice p m1 d1) (.slice p' m2 d2) (.int .i64 D) (.slice (some ⟨g, 0, none⟩) l2 l2))
          have HZ := Lib.hid (tsoPost_yes HES.out (tsoPost_mk (F := W.heap.size) (g := w.heap.size + 1) (ws := storeTW ws D x v) (ts := ts) (D := D) (bs := storeTB D bs j x v) (x := 0) (y0 := .slice p m1 d1) (y1 := .slice p' m2 d2) (y2 := .int .i64 D) (y3 := .slice (some ⟨g, 0, none⟩) l2 l2) (d := d1) (d' := d2) (e := l2) hgw (by omega) (Q := fun b => wx.heap.size ≤ b ∧ b ≠ g) (fun b h => Nat.le_trans hsz h.1) (by rw [HTW.out]; exact slP_keep (fun b o u hq hu => K3 b o u hq.2 hu) U1.out) (slP_keep (fun b o u hq hu => K3 b o u hq.2 hu) U2.out) (by rw [HTB.out]; exact bown_bl O3) ((below_from HBX.out HBZ.out).trans (hbh.mono (by have := HB3s.out; omega)))))
          obtain ⟨⟨r0, r1, r2, r3⟩, f0, f1, f2, f3⟩ := R3
          clear O3 K3 hbh
          go_wp2
          refine bp_cell_tmp ⟨w.heap.size + 1, 0, none⟩ rfl rfl rfl (load_tso' _ _ _ _ _ _ H4.out.1.1 H4.out.1.2.1 H4.out.1.2.2.1 H4.out.1.2.2.2) ?_
          exact HZ.out
    · have q1 : (ev != 0) = true := by simpa using he
      have HR := Lib.hid (var4_set R (.slice none 0 0) (.slice none 0 0) (.int .i64 0) (.slice none 0 0))
      obtain ⟨⟨r0, r1, r2, r3⟩, f0, f1, f2, f3⟩ := R
      have HEN := Lib.hid he
      have HES := Lib.hid (show storeTE ws ts D bs j x = ev by rw [HE.out, HEV.out, if_neg he])
      clear hb hlv hev he k0 k1 k2 k3 X T1 T2 T HB hlD hD0 hD8
      go_wp2
      refine bp_cell_tmp ⟨w.heap.size + 1, 0, none⟩ rfl rfl rfl (load_tso' _ _ _ _ _ _ HR.out.1.1 HR.out.1.2.1 HR.out.1.2.2.1 HR.out.1.2.2.2) ?_
      rw [HES.out]
      exact tsoPost_no HEN.out (below_set4 (g := w.heap.size + 1) HB2.out (by omega) _ _ _ _)
end Go.Proofs.Yteojpdhmhjoeiaa
