/- Contracts of the document's own answers of layer 3 (package respiteref03), with a word on the blocks in which their lists lie: Store. -/
import Derived.Test.YtiebaeaomgpicaaGreatMR
namespace Go.Proofs.YtiebaeaomgpicaaGreat
open Go.ChangeShapes Go.WideShapes Go.ChangeAt Go.RowKit

theorem slW_und {Q Q' : Nat → Prop} {w : World} {a : Option Addr} {n : Nat} {zs : List Int} (hQ : ∀ b, Q b → b < w.heap.size → Q' b) (h : SlP Q w a n zs) : SlP Q' w a n zs := by
  refine ⟨h.1, ?_⟩
  by_cases h0 : n = 0
  · exact .inl h0
  · obtain ⟨b, o, e, q, r⟩ := h.2.resolve_left h0
    exact .inr ⟨b, o, e, hQ b q (cell_lt (r 0 (by have := h.1; omega))), r⟩
theorem plW_und {Q Q' : Nat → Prop} {w : World} {a : Option Addr} {n : Nat} {ps : List (Int × Int)} (hQ : ∀ b, Q b → b < w.heap.size → Q' b) (h : PlQ Q w a n ps) : PlQ Q' w a n ps := by
  refine ⟨h.1, ?_⟩
  by_cases h0 : n = 0
  · exact .inl h0
  · obtain ⟨b, o, e, q, r⟩ := h.2.resolve_left h0
    exact .inr ⟨b, o, e, hQ b q (cell_lt (r 0 (by have := h.1; omega)).1), r⟩
theorem blW_und {Q Q' : Nat → Prop} {w : World} {a : Option Addr} {n : Nat} {bs : List (List (Int × Int))} (hQ : ∀ b, Q b → b < w.heap.size → Q' b) (h : BlP Q w a n bs) : BlP Q' w a n bs := by
  refine ⟨h.1, ?_⟩
  by_cases h0 : n = 0
  · exact .inl h0
  · obtain ⟨b, o, e, q, r⟩ := h.2.resolve_left h0
    obtain ⟨q1, c, h1, _⟩ := r 0 (by have := h.1; omega)
    refine .inr ⟨b, o, e, hQ _ q (cell_lt h1), fun i hi => ?_⟩
    obtain ⟨q', c', k1, k2, k3⟩ := r i hi
    exact ⟨q', c', k1, k2, plW_und hQ k3⟩
/-- a machine and an error; where its lists lie -/
def RefTQ (Q : Nat → Prop) (ws ts : List Int) (D : Int) (bs : List (List (Int × Int))) (x : Int) (w : World) (e : Ending) (w' : World) : Prop :=
  ∃ a n c a' n' c' q l d, e = .returned (.tuple #[.agg #[.slice a n c, .slice a' n' c', .int .i64 D, .slice q l d], .int .i64 x]) ∧ SlP Q w' a n ws ∧ SlP Q w' a' n' ts ∧ BlP Q w' q l bs ∧ Below w.heap.size w w'
theorem refTQ_no {Q : Nat → Prop} {A B : List Int} {z E : Int} {C : List (List (Int × Int))} (he : E ≠ 0) {w w' : World} (hb : Below w.heap.size w w') : RefTQ Q (okL E A) (okL E B) (okZ E z) (okL E C) E w (.returned (.tuple #[.agg #[.slice none 0 0, .slice none 0 0, .int .i64 0, .slice none 0 0], .int .i64 E])) w' := by
  rw [okL_neg he, okL_neg he, okZ_neg he, okL_neg he]
  exact ⟨_, _, _, _, _, _, _, _, _, rfl, slP_nil _ _, slP_nil _ _, blP_nil _ _, hb⟩
theorem refTQ_yes {Q : Nat → Prop} {A B : List Int} {z E : Int} {C : List (List (Int × Int))} (he : E = 0) {w w' : World} {a a' q : Option Addr} {n c n' c' l d : Nat} (s1 : SlP Q w' a n A) (s2 : SlP Q w' a' n' B) (s3 : BlP Q w' q l C) (hb : Below w.heap.size w w') :
    RefTQ Q (okL E A) (okL E B) (okZ E z) (okL E C) E w (.returned (.tuple #[.agg #[.slice a n c, .slice a' n' c', .int .i64 z, .slice q l d], .int .i64 0])) w' := by
  subst he
  exact ⟨_, _, _, _, _, _, _, _, _, rfl, s1, s2, s3, hb⟩

set_option maxRecDepth 100000 in
set_option maxHeartbeats 8000000 in
theorem refStoreTQ_any (Q : Nat → Prop) (a a' q : Option Addr) (n c n' c' l d : Nat) (ws ts : List Int) (D : Int) (bs : List (List (Int × Int))) (th x v : Int) (w : World) (P1 : SlP Q w a n ws) (P2 : SlP Q w a' n' ts) (PB : BlP Q w q l bs) (hQQ : ∀ b, w.heap.size ≤ b → Q b) (hh : hasB ws ts D bs th = true) :
    Calls Tryz.prog 50 #[.agg #[.slice a n c, .slice a' n' c', .int .i64 D, .slice q l d], .int .i64 th, .int .i64 x, .int .i64 v] w (RefTQ Q (okL (storeTE ws ts D bs th x) (storeTW ws D x v)) (okL (storeTE ws ts D bs th x) ts) (okZ (storeTE ws ts D bs th x) D) (okL (storeTE ws ts D bs th x) (storeTB D bs th x v)) (storeTE ws ts D bs th x) w) := by
  have S1 := P1.sl
  have S2 := P2.sl
  have S := PB.bl
  have Hl := Lib.hid S.1
  obtain ⟨hm, h0, h1⟩ := hasB_parts hh
  obtain ⟨j, rfl⟩ := Int.eq_ofNat_of_zero_le h0
  have hjl : j < l := by rw [← Hl.out]; omega
  have hl8 : l ≤ 8 := by rw [← Hl.out]; exact (mayT_parts hm).2.1.2
  have i1 : (0 : Int) ≤ j := by omega
  have i2 : (j : Int) < l := by omega
  have HE := Lib.hid (show storeTE ws ts D bs j x = if usableZ ws ts x = 0 then (if D = 0 then 0 else if ((bs.getD j []).length : Int) = D then 7 else 0) else usableZ ws ts x by rw [storeTE, if_pos hh, bufOf, Int.toNat_natCast])
  have hlD : ((bs.getD j []).length : Int) ≤ D := ((mayT_parts hm).2.2.2 j (by omega)).1
  have hD8 : D ≤ 8 := (mayT_parts hm).2.2.1.2
  have HM := Lib.hid (mayT_parts hm).1
  clear hh hm h0 h1
  go_enter Tryz.func50, Tryz.ntmps50
  go_wp2_with fail
  have hQ : ∀ b, ((w.alloc (Obj.cells #[.slice a n c, .slice a' n' c', .int .i64 D, .slice q l d] 46)).alloc (Obj.cells #[.slice none 0 0, .slice none 0 0, .int .i64 0, .slice none 0 0] 46)).heap.size ≤ b → Q b ∧ b ≠ w.heap.size ∧ b ≠ w.heap.size + 1 := fun b h => by simp at h; exact ⟨hQQ b (by omega), by omega, by omega⟩
  refine (refStoreQ_any (fun b => Q b ∧ b ≠ w.heap.size ∧ b ≠ w.heap.size + 1) a a' n c n' c' ws ts x v _ (slA _ (slA _ S1)) (slPA _ (slPA _ (slW_und (fun b q h => ⟨q, by omega, by omega⟩) P2))) hQ HM.out).mono ?_
  rintro e w1 ⟨a2, n2, c2, a3, n3, c3, rfl, u1, u2, hb⟩
  clear hQ
  obtain ⟨ev, hev⟩ : ∃ z, usableZ ws ts x = z := ⟨_, rfl⟩
  have HEV := Lib.hid hev
  rw [hev]
  obtain ⟨W, hW⟩ : ∃ W, W = w1.alloc (Obj.cells #[.slice a2 n2 c2, .slice a3 n3 c3] 43) := ⟨_, rfl⟩
  have b1 : Below w.heap.size w w1 := below_from (by go_grown) hb
  have bW : Below w1.heap.size w1 W := by rw [hW]; exact (Below.refl _ _).alloc (Nat.le_refl _) _
  have X := var4_B bW (var4_B hb (var4_A _ (var4_new (w := w) w.heap.size rfl)))
  have R := var4_B bW (var4_B hb (var4_new (w := w.alloc _) (w.heap.size + 1) (by simp)))
  have m0 : W.cell? ⟨w1.heap.size, 0, none⟩ = some (.slice a2 n2 c2) := by rw [hW]; exact cell_new _ _ _ rfl rfl
  have m1 : W.cell? ⟨w1.heap.size, 1, none⟩ = some (.slice a3 n3 c3) := by rw [hW]; exact cell_new _ _ _ rfl rfl
  replace u1 := slPB bW u1
  replace u2 := slPB bW u2
  have hz := var4_lt R
  have HB1 := Lib.hid (below_from b1 bW)
  have HW := Lib.hid hW
  clear hb b1 bW hev hW
  go_upto_region 2 with fail
  rw [← HW.out]
  have HRR := Lib.hid R
  obtain ⟨⟨x0, x1, x2, x3⟩, g0, g1, g2, g3⟩ := id X
  obtain ⟨⟨r0, r1, r2, r3⟩, f0, f1, f2, f3⟩ := id R
  by_cases he : ev = 0
  · subst he
    by_cases hd : D = 0
    · subst hd
      have HES := Lib.hid (show storeTE ws ts 0 bs j x = 0 by rw [HE.out, HEV.out, if_pos rfl, if_pos rfl])
      have HTW := Lib.hid (show storeTW ws 0 x v = storeW ws ts x v by rw [storeTW, if_pos rfl, storeW, if_pos HEV.out])
      have HTT := Lib.hid (show storeT ws ts x = ts by rw [storeT, if_pos HEV.out])
      have HTB := Lib.hid (show storeTB 0 bs j x v = bs from if_pos rfl)
      have H4 := Lib.hid (var4_set R (.slice a2 n2 c2) (.slice a3 n3 c3) (.int .i64 0) (.slice q l d))
      clear X R
      go_wp2
      refine bp_cell_tmp ⟨w.heap.size + 1, 0, none⟩ rfl rfl rfl (load_tso' _ _ _ _ _ _ H4.out.1.1 H4.out.1.2.1 H4.out.1.2.2.1 H4.out.1.2.2.2) ?_
      have hbf := below_set4 (g := w.heap.size + 1) HB1.out (by omega) (.slice a2 n2 c2) (.slice a3 n3 c3) (.int .i64 0) (.slice q l d)
      refine refTQ_yes HES.out ?_ ?_ ?_ hbf
      · rw [HTW.out]
        exact slP_mono (fun b h => h.1) (slP_set _ (fun b h => h.2.2) _ (slP_set _ (fun b h => h.2.2) _ (slP_set _ (fun b h => h.2.2) _ (slP_set _ (fun b h => h.2.2) _ u1))))
      · rw [HTT.out] at u2
        exact slP_mono (fun b h => h.1) (slP_set _ (fun b h => h.2.2) _ (slP_set _ (fun b h => h.2.2) _ (slP_set _ (fun b h => h.2.2) _ (slP_set _ (fun b h => h.2.2) _ u2))))
      · rw [HTB.out]
        exact blPB hbf PB
    · have q1 : (D == 0) = false := by simpa using hd
      have HDN := Lib.hid hd
      have BQ := blW_und (Q' := fun b => Q b ∧ b ≠ w.heap.size ∧ b ≠ w.heap.size + 1) (fun b q h => ⟨q, by omega, by omega⟩) PB
      obtain ⟨b, o, y, yc, rfl, k0, hcap, hp⟩ := blP_at BQ hjl
      obtain ⟨ps, hps⟩ : ∃ ps, bs.getD j [] = ps := ⟨_, rfl⟩
      rw [hps] at k0 hp hcap hlD
      have HPS := Lib.hid hps
      obtain ⟨m, hm⟩ : ∃ m, ps.length = m := ⟨_, rfl⟩
      rw [hm] at k0 hp hcap hlD
      have HPL := Lib.hid hm
      replace k0 := cellB HB1.out k0
      have hm8 : m ≤ 8 := by omega
      have hc0 := hcap.2.2
      have HC0 := Lib.hid hc0
      have HBQ := Lib.hid BQ
      clear hps hm hcap hd hc0 BQ u1 u2 m0 m1
      by_cases hf : (m : Int) = D
      · have HES := Lib.hid (show storeTE ws ts D bs j x = 7 by rw [HE.out, HEV.out, if_pos rfl, if_neg HDN.out, HPS.out, HPL.out, if_pos hf])
        have q2 : ((m : Int) == D) = true := by simpa using hf
        have HZ := Lib.hid (var4_set R (.slice none 0 0) (.slice none 0 0) (.int .i64 0) (.slice none 0 0))
        clear hf X R
        go_wp2
        refine bp_cell_tmp ⟨w.heap.size + 1, 0, none⟩ rfl rfl rfl (load_tso' _ _ _ _ _ _ HZ.out.1.1 HZ.out.1.2.1 HZ.out.1.2.2.1 HZ.out.1.2.2.2) ?_
        rw [HES.out]
        exact refTQ_no (by decide) (below_set4 (g := w.heap.size + 1) HB1.out (by omega) _ _ _ _)
      · have HES := Lib.hid (show storeTE ws ts D bs j x = 0 by rw [HE.out, HEV.out, if_pos rfl, if_neg HDN.out, HPS.out, HPL.out, if_neg hf])
        have q2 : ((m : Int) == D) = false := by simpa using hf
        have HTW := Lib.hid (show storeTW ws D x v = ws from if_neg HDN.out)
        have HTB := Lib.hid (show storeTB D bs j x v = bs.set j (ps ++ [(x, v)]) by rw [storeTB, if_neg HDN.out, bufOf, Int.toNat_natCast, HPS.out])
        have HLN := Lib.hid (show (ps ++ [(x, v)]).length = m + 1 by rw [List.length_append, HPL.out]; rfl)
        have HX := Lib.hid X
        clear hf X R
        go_wp2_with fail
        have hB0 : Below W.heap.size W W.drew := (Below.refl _ _).drew
        go_region_with (first | (go_at_call 86; refine (refPush_any y m yc ps x v _ (plB (by assumption) (plB HB1.out hp.pl)) (by omega) HC0.out).mono ?_; rintro e wx ⟨r, rc, rfl, hrc, u0, hbx⟩; rw [HLN.out] at hrc u0 ⊢; have x3' := cellB hbx x3; have hbx' := below_from (by assumption) hbx; have g3' := frozenB hbx x3 g3; have hzx : W.heap.size ≤ wx.heap.size := hbx.size) | (go_at_call 83; refine (refWithT_any (some ⟨b, o, none⟩) l d bs j r (m + 1) rc (ps ++ [(x, v)]) _ (fun b => Q b ∧ b ≠ w.heap.size ∧ b ≠ w.heap.size + 1) (blPB hbx' (blPB HB1.out HBQ.out)) hl8 (plQ_F (F := W.heap.size) (fun z h1 h2 => ⟨hQQ z (by omega), by omega, by omega⟩) u0) hrc (fun z h => ⟨hQQ z (by omega), by omega, by omega⟩)).mono ?_; rintro e wy ⟨r5, f2', rfl, u5, hby⟩; have x3'' := cellB hby x3'; have g3'' := frozenB hby x3' g3'; have hby' := below_from hbx' hby))
        all_goals
          have X1 := var4_set3 (var4_B hby (var4_B hbx' HX.out)) (.slice r5 l f2')
          have R1 := var4_other (o := 3) (var4_B hby (var4_B hbx' HRR.out)) (show w.heap.size ≠ w.heap.size + 1 by omega) (.slice r5 l f2')
          have hbf1 : Below w.heap.size w (wy.setCell ⟨w.heap.size, 3, none⟩ (.slice r5 l f2')) := (below_from HB1.out hby').setCell (Nat.le_refl _) _
          have HF1 := Lib.hid hbf1
          have U5 := Lib.hid (blP_keep (keep_set (p := ⟨w.heap.size, 3, none⟩) (x := .slice r5 l f2') (fun b h => h.2.1)) u5)
          have H4 := Lib.hid (var4_set R1 (.slice a n c) (.slice a' n' c') (.int .i64 D) (.slice r5 l f2'))
          obtain ⟨⟨z0, z1, z2, z3⟩, -⟩ := X1
          obtain ⟨⟨s0, s1, s2, s3⟩, t0, t1, t2, t3⟩ := R1
          clear hbf1 u0 u5 hby hby' hbx hbx' hB0 x0 x1 x2 x3 x3' x3'' g0 g1 g2 g3 g3' g3'' r0 r1 r2 r3 f0 f1 f2 f3 hrc
          go_wp2
          refine bp_cell_tmp ⟨w.heap.size + 1, 0, none⟩ rfl rfl rfl (load_tso' _ _ _ _ _ _ H4.out.1.1 H4.out.1.2.1 H4.out.1.2.2.1 H4.out.1.2.2.2) ?_
          have hbf := below_set4 (g := w.heap.size + 1) HF1.out (by omega) (.slice a n c) (.slice a' n' c') (.int .i64 D) (.slice r5 l f2')
          refine refTQ_yes HES.out ?_ ?_ ?_ hbf
          · rw [HTW.out]; exact slPB hbf P1
          · exact slPB hbf P2
          · rw [HTB.out, ← withBs_all Hl.out]
            exact blP_mono (fun b h => h.1) (blP_keep (keep_set (p := ⟨w.heap.size + 1, 3, none⟩) (fun b h => h.2.2)) (blP_keep (keep_set (p := ⟨w.heap.size + 1, 2, none⟩) (fun b h => h.2.2)) (blP_keep (keep_set (p := ⟨w.heap.size + 1, 1, none⟩) (fun b h => h.2.2)) (blP_keep (keep_set (p := ⟨w.heap.size + 1, 0, none⟩) (fun b h => h.2.2)) U5.out))))
  · have q1 : (ev != 0) = true := by simpa using he
    have HEN := Lib.hid he
    have HES := Lib.hid (show storeTE ws ts D bs j x = ev by rw [HE.out, HEV.out, if_neg he])
    have HZ := Lib.hid (var4_set R (.slice none 0 0) (.slice none 0 0) (.int .i64 0) (.slice none 0 0))
    clear he X R hlD hD8
    go_wp2
    refine bp_cell_tmp ⟨w.heap.size + 1, 0, none⟩ rfl rfl rfl (load_tso' _ _ _ _ _ _ HZ.out.1.1 HZ.out.1.2.1 HZ.out.1.2.2.1 HZ.out.1.2.2.2) ?_
    rw [HES.out]
    exact refTQ_no HEN.out (below_set4 (g := w.heap.size + 1) HB1.out (by omega) _ _ _ _)
end Go.Proofs.YtiebaeaomgpicaaGreat
