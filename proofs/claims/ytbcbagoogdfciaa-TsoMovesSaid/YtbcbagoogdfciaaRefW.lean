/- Contracts of the document's own answers of layer 3 (package respiteref03): Store. -/
import Derived.Test.YtbcbagoogdfciaaRefV
namespace Go.Proofs.Ytbcbagoogdfciaa
open Go.ChangeShapes Go.WideShapes Go.ChangeAt Go.RowKit

/-- a machine and an error -/
def RefTP (ws ts : List Int) (D : Int) (bs : List (List (Int × Int))) (x : Int) (w : World) (e : Ending) (w' : World) : Prop :=
  ∃ a n c a' n' c' q l d, e = .returned (.tuple #[.agg #[.slice a n c, .slice a' n' c', .int .i64 D, .slice q l d], .int .i64 x]) ∧ Sl w' a n ws ∧ Sl w' a' n' ts ∧ Bl w' q l bs ∧ Below w.heap.size w w'
theorem refTP_no {A B : List Int} {z E : Int} {C : List (List (Int × Int))} (he : E ≠ 0) {w w' : World} (hb : Below w.heap.size w w') : RefTP (okL E A) (okL E B) (okZ E z) (okL E C) E w (.returned (.tuple #[.agg #[.slice none 0 0, .slice none 0 0, .int .i64 0, .slice none 0 0], .int .i64 E])) w' := by
  rw [okL_neg he, okL_neg he, okZ_neg he, okL_neg he]
  exact ⟨_, _, _, _, _, _, _, _, _, rfl, sl_nil _, sl_nil _, bl_nil _, hb⟩
theorem refTP_yes {A B : List Int} {z E : Int} {C : List (List (Int × Int))} (he : E = 0) {w w' : World} {a a' q : Option Addr} {n c n' c' l d : Nat} (s1 : Sl w' a n A) (s2 : Sl w' a' n' B) (s3 : Bl w' q l C) (hb : Below w.heap.size w w') :
    RefTP (okL E A) (okL E B) (okZ E z) (okL E C) E w (.returned (.tuple #[.agg #[.slice a n c, .slice a' n' c', .int .i64 z, .slice q l d], .int .i64 0])) w' := by
  subst he
  exact ⟨_, _, _, _, _, _, _, _, _, rfl, s1, s2, s3, hb⟩
theorem withBs_all {bs : List (List (Int × Int))} {j : Nat} {b : List (Int × Int)} {l : Nat} (hl : bs.length = l) : withBs bs j b l = bs.set j b := by rw [← hl, withBs_set]

set_option maxRecDepth 100000 in
set_option maxHeartbeats 8000000 in
theorem refStoreT_any (a a' q : Option Addr) (n c n' c' l d : Nat) (ws ts : List Int) (D : Int) (bs : List (List (Int × Int))) (th x v : Int) (w : World) (S1 : Sl w a n ws) (S2 : Sl w a' n' ts) (S : Bl w q l bs) (hh : hasB ws ts D bs th = true) :
    Calls Try.prog 21 #[.agg #[.slice a n c, .slice a' n' c', .int .i64 D, .slice q l d], .int .i64 th, .int .i64 x, .int .i64 v] w (RefTP (okL (storeTE ws ts D bs th x) (storeTW ws D x v)) (okL (storeTE ws ts D bs th x) ts) (okZ (storeTE ws ts D bs th x) D) (okL (storeTE ws ts D bs th x) (storeTB D bs th x v)) (storeTE ws ts D bs th x) w) := by
  have Hl := Lib.hid S.1
  obtain ⟨hm, h0, h1⟩ := hasB_parts hh
  obtain ⟨j, rfl⟩ := Int.eq_ofNat_of_zero_le h0
  have hjl : j < l := by rw [← Hl.out]; omega
  have hl8 : l ≤ 8 := by rw [← Hl.out]; exact (mayT_parts hm).2.1.2
  have i1 : (0 : Int) ≤ j := by omega
  have i2 : (j : Int) < l := by omega
  have HE := Lib.hid (show storeTE ws ts D bs j x = if usableZ ws ts x = 0 then (if D = 0 then 0 else if ((bs.getD j []).length : Int) = D then 7 else 0) else usableZ ws ts x by rw [storeTE, if_pos hh, bufOf, Int.toNat_natCast])
  have hlD : ((bs.getD j []).length : Int) ≤ D := ((mayT_parts hm).2.2.2 j (by omega)).1
  have hD8 : D ≤ 8 := (mayT_parts hm).2.2.1.2
  have HM := Lib.hid (mayT_parts hm).1
  clear hh hm h0 h1
  go_enter Try.func21, Try.ntmps21
  go_wp2_with fail
  have hQ : ∀ b, ((w.alloc (Obj.cells #[.slice a n c, .slice a' n' c', .int .i64 D, .slice q l d] 27)).alloc (Obj.cells #[.slice none 0 0, .slice none 0 0, .int .i64 0, .slice none 0 0] 27)).heap.size ≤ b → b ≠ w.heap.size ∧ b ≠ w.heap.size + 1 := fun b h => by simp at h; omega
  refine (refStoreQ_any (fun b => b ≠ w.heap.size ∧ b ≠ w.heap.size + 1) a a' n c n' c' ws ts x v _ (slA _ (slA _ S1)) (slPA _ (slPA _ (slP_old (fun b h => by omega) S2))) hQ HM.out).mono ?_
  rintro e w1 ⟨a2, n2, c2, a3, n3, c3, rfl, u1, u2, hb⟩
  clear hQ
  obtain ⟨ev, hev⟩ : ∃ z, usableZ ws ts x = z := ⟨_, rfl⟩
  have HEV := Lib.hid hev
  rw [hev]
  obtain ⟨W, hW⟩ : ∃ W, W = w1.alloc (Obj.cells #[.slice a2 n2 c2, .slice a3 n3 c3] 25) := ⟨_, rfl⟩
  have b1 : Below w.heap.size w w1 := below_from (by go_grown) hb
  have bW : Below w1.heap.size w1 W := by rw [hW]; exact (Below.refl _ _).alloc (Nat.le_refl _) _
  have X := var4_B bW (var4_B hb (var4_A _ (var4_new (w := w) w.heap.size rfl)))
  have R := var4_B bW (var4_B hb (var4_new (w := w.alloc _) (w.heap.size + 1) (by simp)))
  have m0 : W.cell? ⟨w1.heap.size, 0, none⟩ = some (.slice a2 n2 c2) := by rw [hW]; exact cell_new _ _ _ rfl rfl
  have m1 : W.cell? ⟨w1.heap.size, 1, none⟩ = some (.slice a3 n3 c3) := by rw [hW]; exact cell_new _ _ _ rfl rfl
  replace u1 := slPB bW u1
  replace u2 := slPB bW u2
  have hz := var4_lt R
  have HB1 := Lib.hid (below_from b1 bW)
  have HW := Lib.hid hW
  clear hb b1 bW hev hW
  go_upto_region 2 with fail
  rw [← HW.out]
  have HRR := Lib.hid R
  obtain ⟨⟨x0, x1, x2, x3⟩, g0, g1, g2, g3⟩ := id X
  obtain ⟨⟨r0, r1, r2, r3⟩, f0, f1, f2, f3⟩ := id R
  by_cases he : ev = 0
  · subst he
    by_cases hd : D = 0
    · subst hd
      have HES := Lib.hid (show storeTE ws ts 0 bs j x = 0 by rw [HE.out, HEV.out, if_pos rfl, if_pos rfl])
      have HTW := Lib.hid (show storeTW ws 0 x v = storeW ws ts x v by rw [storeTW, if_pos rfl, storeW, if_pos HEV.out])
      have HTT := Lib.hid (show storeT ws ts x = ts by rw [storeT, if_pos HEV.out])
      have HTB := Lib.hid (show storeTB 0 bs j x v = bs from if_pos rfl)
      have H4 := Lib.hid (var4_set R (.slice a2 n2 c2) (.slice a3 n3 c3) (.int .i64 0) (.slice q l d))
      clear X R
      go_wp2
      refine bp_cell_tmp ⟨w.heap.size + 1, 0, none⟩ rfl rfl rfl (load_tso' _ _ _ _ _ _ H4.out.1.1 H4.out.1.2.1 H4.out.1.2.2.1 H4.out.1.2.2.2) ?_
      have hbf := below_set4 (g := w.heap.size + 1) HB1.out (by omega) (.slice a2 n2 c2) (.slice a3 n3 c3) (.int .i64 0) (.slice q l d)
      refine refTP_yes HES.out ?_ ?_ ?_ hbf
      · rw [HTW.out]
        exact (slP_set _ (fun b h => h.2) _ (slP_set _ (fun b h => h.2) _ (slP_set _ (fun b h => h.2) _ (slP_set _ (fun b h => h.2) _ u1)))).sl
      · rw [HTT.out] at u2
        exact (slP_set _ (fun b h => h.2) _ (slP_set _ (fun b h => h.2) _ (slP_set _ (fun b h => h.2) _ (slP_set _ (fun b h => h.2) _ u2)))).sl
      · rw [HTB.out]
        exact blB hbf S
    · have q1 : (D == 0) = false := by simpa using hd
      have HDN := Lib.hid hd
      have BQ := blP_old (Q := fun b => b ≠ w.heap.size ∧ b ≠ w.heap.size + 1) (fun b h => by omega) S
      obtain ⟨b, o, y, yc, rfl, k0, hcap, hp⟩ := blP_at BQ hjl
      obtain ⟨ps, hps⟩ : ∃ ps, bs.getD j [] = ps := ⟨_, rfl⟩
      rw [hps] at k0 hp hcap hlD
      have HPS := Lib.hid hps
      obtain ⟨m, hm⟩ : ∃ m, ps.length = m := ⟨_, rfl⟩
      rw [hm] at k0 hp hcap hlD
      have HPL := Lib.hid hm
      replace k0 := cellB HB1.out k0
      have hm8 : m ≤ 8 := by omega
      have hc0 := hcap.2.2
      have HC0 := Lib.hid hc0
      have HBQ := Lib.hid BQ
      clear hps hm hcap hd hc0 BQ u1 u2 m0 m1
      by_cases hf : (m : Int) = D
      · have HES := Lib.hid (show storeTE ws ts D bs j x = 7 by rw [HE.out, HEV.out, if_pos rfl, if_neg HDN.out, HPS.out, HPL.out, if_pos hf])
        have q2 : ((m : Int) == D) = true := by simpa using hf
        have HZ := Lib.hid (var4_set R (.slice none 0 0) (.slice none 0 0) (.int .i64 0) (.slice none 0 0))
        clear hf X R
        go_wp2
        refine bp_cell_tmp ⟨w.heap.size + 1, 0, none⟩ rfl rfl rfl (load_tso' _ _ _ _ _ _ HZ.out.1.1 HZ.out.1.2.1 HZ.out.1.2.2.1 HZ.out.1.2.2.2) ?_
        rw [HES.out]
        exact refTP_no (by decide) (below_set4 (g := w.heap.size + 1) HB1.out (by omega) _ _ _ _)
      · have HES := Lib.hid (show storeTE ws ts D bs j x = 0 by rw [HE.out, HEV.out, if_pos rfl, if_neg HDN.out, HPS.out, HPL.out, if_neg hf])
        have q2 : ((m : Int) == D) = false := by simpa using hf
        have HTW := Lib.hid (show storeTW ws D x v = ws from if_neg HDN.out)
        have HTB := Lib.hid (show storeTB D bs j x v = bs.set j (ps ++ [(x, v)]) by rw [storeTB, if_neg HDN.out, bufOf, Int.toNat_natCast, HPS.out])
        have HLN := Lib.hid (show (ps ++ [(x, v)]).length = m + 1 by rw [List.length_append, HPL.out]; rfl)
        have HX := Lib.hid X
        clear hf X R
        go_wp2_with fail
        have hB0 : Below W.heap.size W W.drew := (Below.refl _ _).drew
        go_region_with (first | (go_at_call 41; refine (refPush_any y m yc ps x v _ (plB (by assumption) (plB HB1.out hp.pl)) (by omega) HC0.out).mono ?_; rintro e wx ⟨r, rc, rfl, hrc, u0, hbx⟩; rw [HLN.out] at hrc u0 ⊢; have x3' := cellB hbx x3; have hbx' := below_from (by assumption) hbx; have g3' := frozenB hbx x3 g3; have hzx : W.heap.size ≤ wx.heap.size := hbx.size) | (go_at_call 40; refine (refWithT_any (some ⟨b, o, none⟩) l d bs j r (m + 1) rc (ps ++ [(x, v)]) _ (fun b => b ≠ w.heap.size ∧ b ≠ w.heap.size + 1) (blPB hbx' (blPB HB1.out HBQ.out)) hl8 (plQ_F (F := W.heap.size) (fun z h1 h2 => by omega) u0) hrc (fun z h => by omega)).mono ?_; rintro e wy ⟨r5, f2', rfl, u5, hby⟩; have x3'' := cellB hby x3'; have g3'' := frozenB hby x3' g3'; have hby' := below_from hbx' hby))
        all_goals
          have X1 := var4_set3 (var4_B hby (var4_B hbx' HX.out)) (.slice r5 l f2')
          have R1 := var4_other (o := 3) (var4_B hby (var4_B hbx' HRR.out)) (show w.heap.size ≠ w.heap.size + 1 by omega) (.slice r5 l f2')
          have hbf1 : Below w.heap.size w (wy.setCell ⟨w.heap.size, 3, none⟩ (.slice r5 l f2')) := (below_from HB1.out hby').setCell (Nat.le_refl _) _
          have HF1 := Lib.hid hbf1
          have U5 := Lib.hid (blP_keep (keep_set (p := ⟨w.heap.size, 3, none⟩) (x := .slice r5 l f2') (fun b h => h.1)) u5)
          have H4 := Lib.hid (var4_set R1 (.slice a n c) (.slice a' n' c') (.int .i64 D) (.slice r5 l f2'))
          obtain ⟨⟨z0, z1, z2, z3⟩, -⟩ := X1
          obtain ⟨⟨s0, s1, s2, s3⟩, t0, t1, t2, t3⟩ := R1
          clear hbf1 u0 u5 hby hby' hbx hbx' hB0 x0 x1 x2 x3 x3' x3'' g0 g1 g2 g3 g3' g3'' r0 r1 r2 r3 f0 f1 f2 f3 hrc
          go_wp2
          refine bp_cell_tmp ⟨w.heap.size + 1, 0, none⟩ rfl rfl rfl (load_tso' _ _ _ _ _ _ H4.out.1.1 H4.out.1.2.1 H4.out.1.2.2.1 H4.out.1.2.2.2) ?_
          have hbf := below_set4 (g := w.heap.size + 1) HF1.out (by omega) (.slice a n c) (.slice a' n' c') (.int .i64 D) (.slice r5 l f2')
          refine refTP_yes HES.out ?_ ?_ ?_ hbf
          · rw [HTW.out]; exact slB hbf S1
          · exact slB hbf S2
          · rw [HTB.out, ← withBs_all Hl.out]
            exact (blP_keep (keep_set (p := ⟨w.heap.size + 1, 3, none⟩) (fun b h => h.2)) (blP_keep (keep_set (p := ⟨w.heap.size + 1, 2, none⟩) (fun b h => h.2)) (blP_keep (keep_set (p := ⟨w.heap.size + 1, 1, none⟩) (fun b h => h.2)) (blP_keep (keep_set (p := ⟨w.heap.size + 1, 0, none⟩) (fun b h => h.2)) U5.out)))).bl
  · have q1 : (ev != 0) = true := by simpa using he
    have HEN := Lib.hid he
    have HES := Lib.hid (show storeTE ws ts D bs j x = ev by rw [HE.out, HEV.out, if_neg he])
    have HZ := Lib.hid (var4_set R (.slice none 0 0) (.slice none 0 0) (.int .i64 0) (.slice none 0 0))
    clear he X R hlD hD8
    go_wp2
    refine bp_cell_tmp ⟨w.heap.size + 1, 0, none⟩ rfl rfl rfl (load_tso' _ _ _ _ _ _ HZ.out.1.1 HZ.out.1.2.1 HZ.out.1.2.2.1 HZ.out.1.2.2.2) ?_
    rw [HES.out]
    exact refTP_no HEN.out (below_set4 (g := w.heap.size + 1) HB1.out (by omega) _ _ _ _)
end Go.Proofs.Ytbcbagoogdfciaa
