/- Contracts of the document's own answers of layer 3 (package respiteref03), with a word on the blocks in which their lists lie: Locked. -/
import Derived.Test.YtiebaeaomgpicaaGreatRfW
import Derived.Test.YtiebaeaomgpicaaGreatMR
namespace Go.Proofs.YtiebaeaomgpicaaGreat
open Go.ChangeShapes Go.WideShapes Go.ChangeAt Go.RowKit

/-- a machine, a word and an error; where the lists lie -/
def RefLQ (Q : Nat → Prop) (ws ts : List Int) (D : Int) (bs : List (List (Int × Int))) (v x : Int) (w : World) (e : Ending) (w' : World) : Prop :=
  ∃ a n c a' n' c' q l d, e = .returned (.tuple #[.agg #[.slice a n c, .slice a' n' c', .int .i64 D, .slice q l d], .int .i64 v, .int .i64 x]) ∧ SlP Q w' a n ws ∧ SlP Q w' a' n' ts ∧ BlP Q w' q l bs ∧ Below w.heap.size w w'
theorem refLQ_no {Q : Nat → Prop} {A B : List Int} {z u E : Int} {C : List (List (Int × Int))} (he : E ≠ 0) {w w' : World} (hb : Below w.heap.size w w') : RefLQ Q (okL E A) (okL E B) (okZ E z) (okL E C) (okZ E u) E w (.returned (.tuple #[.agg #[.slice none 0 0, .slice none 0 0, .int .i64 0, .slice none 0 0], .int .i64 0, .int .i64 E])) w' := by
  rw [okL_neg he, okL_neg he, okZ_neg he, okL_neg he, okZ_neg he]
  exact ⟨_, _, _, _, _, _, _, _, _, rfl, slP_nil _ _, slP_nil _ _, blP_nil _ _, hb⟩
theorem refLQ_yes {Q : Nat → Prop} {A B : List Int} {z u E : Int} {C : List (List (Int × Int))} (he : E = 0) {w w' : World} {a a' q : Option Addr} {n c n' c' l d : Nat} (s1 : SlP Q w' a n A) (s2 : SlP Q w' a' n' B) (s3 : BlP Q w' q l C) (hb : Below w.heap.size w w') :
    RefLQ Q (okL E A) (okL E B) (okZ E z) (okL E C) (okZ E u) E w (.returned (.tuple #[.agg #[.slice a n c, .slice a' n' c', .int .i64 z, .slice q l d], .int .i64 u, .int .i64 0])) w' := by
  subst he
  exact ⟨_, _, _, _, _, _, _, _, _, rfl, s1, s2, s3, hb⟩
set_option maxRecDepth 100000 in
set_option maxHeartbeats 8000000 in
theorem refLockedTQ_any (Q : Nat → Prop) (a a' q : Option Addr) (n c n' c' l d : Nat) (ws ts : List Int) (D : Int) (bs : List (List (Int × Int))) (th k x y z : Int) (w : World) (P1 : SlP Q w a n ws) (P2 : SlP Q w a' n' ts) (PB : BlP Q w q l bs) (hQQ : ∀ b, w.heap.size ≤ b → Q b) (hh : hasB ws ts D bs th = true) (hk : kindB k = true) :
    Calls Tryz.prog 53 #[.agg #[.slice a n c, .slice a' n' c', .int .i64 D, .slice q l d], .int .i64 th, .int .i64 k, .int .i64 x, .int .i64 y, .int .i64 z] w (RefLQ Q (okL (lockTE ws ts D bs th k x) (lockTW ws ts k x y z)) (okL (lockTE ws ts D bs th k x) ts) (okZ (lockTE ws ts D bs th k x) D) (okL (lockTE ws ts D bs th k x) bs) (okZ (lockTE ws ts D bs th k x) (loadZ ws ts x)) (lockTE ws ts D bs th k x) w) := by
  have S1 := P1.sl
  have S2 := P2.sl
  have S := PB.bl
  have Hl := Lib.hid S.1
  obtain ⟨hm, h0, h1⟩ := hasB_parts hh
  obtain ⟨j, rfl⟩ := Int.eq_ofNat_of_zero_le h0
  have hjl : j < l := by rw [← Hl.out]; omega
  have i1 : (0 : Int) ≤ j := by omega
  have i2 : (j : Int) < l := by omega
  obtain ⟨ps, hps⟩ : ∃ ps, bs.getD j [] = ps := ⟨_, rfl⟩
  have HE := Lib.hid (show lockTE ws ts D bs j k x = if ps = [] then usableZ ws ts x else 9 by rw [lockTE, if_pos ⟨hh, hk⟩, bufOf, Int.toNat_natCast, hps])
  have HM := Lib.hid (mayT_parts hm).1
  have hkk : k = 0 ∨ k = 1 ∨ k = 2 := by simp only [kindB, decide_eq_true_eq] at hk; omega
  obtain ⟨W, hW⟩ : ∃ W, W = (w.alloc (Obj.cells #[.slice a n c, .slice a' n' c', .int .i64 D, .slice q l d] 46)).alloc (Obj.cells #[.slice none 0 0, .slice none 0 0, .int .i64 0, .slice none 0 0] 46) := ⟨_, rfl⟩
  have b0 : Below w.heap.size w W := by rw [hW]; go_grown
  have X : Var4 W w.heap.size (.slice a n c) (.slice a' n' c') (.int .i64 D) (.slice q l d) := by rw [hW]; exact var4_A _ (var4_new _ rfl)
  have R : Var4 W (w.heap.size + 1) (.slice none 0 0) (.slice none 0 0) (.int .i64 0) (.slice none 0 0) := by rw [hW]; exact var4_new _ (by simp)
  have T1 := slB b0 S1
  have T2 := slPB b0 (slW_und (Q' := fun b => Q b ∧ b ≠ w.heap.size ∧ b ≠ w.heap.size + 1) (fun b q h => ⟨q, by omega, by omega⟩) P2)
  have hz := var4_lt R
  obtain ⟨b, o, p, pc, rfl, k0, hcap, hp⟩ := bl_at S hjl
  replace k0 := cellB b0 k0
  rw [hps] at k0
  obtain ⟨m, hmm⟩ : ∃ m, ps.length = m := ⟨_, rfl⟩
  rw [hmm] at k0
  have HPL := Lib.hid hmm
  have HB := Lib.hid b0
  have HW := Lib.hid hW
  have HRR := Lib.hid R
  have HX := Lib.hid X
  clear hps hmm hcap hp b0 hW hh hm h0 h1 hk
  go_enter Tryz.func53, Tryz.ntmps53
  go_upto_region 1 with fail
  rw [← HW.out]
  obtain ⟨⟨x0, x1, x2, x3⟩, -⟩ := id X
  obtain ⟨⟨r0, r1, r2, r3⟩, f0, f1, f2, f3⟩ := id R
  by_cases hne : ps = []
  · have HNE := Lib.hid hne
    obtain rfl : 0 = m := by rw [← HPL.out, hne]; rfl
    clear hne
    go_wp2_with fail
    refine (refLoad_any a a' n c n' c' ws ts x _ T1 T2.sl HM.out).mono ?_
    rintro e w1 ⟨rfl, hb⟩
    obtain ⟨ev, hev⟩ : ∃ z, usableZ ws ts x = z := ⟨_, rfl⟩
    obtain ⟨lv, hlv⟩ : ∃ z, loadZ ws ts x = z := ⟨_, rfl⟩
    have HEV := Lib.hid hev
    have HLV := Lib.hid hlv
    rw [hev, hlv]
    replace R := var4_B hb R
    replace X := var4_B hb X
    replace T1 := slB hb T1
    replace T2 := slPB hb T2
    have HB1 := Lib.hid (below_from HB.out hb)
    have hz1 : W.heap.size ≤ w1.heap.size := hb.size
    have HES := Lib.hid (show lockTE ws ts D bs j k x = ev by rw [HE.out, if_pos HNE.out, hev])
    clear hb hev hlv x0 x1 x2 x3 r0 r1 r2 r3 f0 f1 f2 f3 k0
    by_cases he : ev = 0
    · subst he
      obtain ⟨⟨x0, x1, x2, x3⟩, g0, g1, g2, g3⟩ := id X
      have HX1 := Lib.hid X
      have HR1 := Lib.hid R
      clear X R
      obtain ⟨nv, hnv⟩ : ∃ nv, lockV k lv y z = nv := ⟨_, rfl⟩
      have HNV := Lib.hid hnv
      have hcases : (k = 0 ∧ lv = y ∧ nv = z) ∨ (k = 0 ∧ lv ≠ y ∧ nv = lv) ∨ (k = 1 ∧ nv = y) ∨ (k = 2 ∧ nv = wrap64 (lv + y)) := by
        rcases hkk with rfl | rfl | rfl
        · rw [lockV, if_pos rfl] at hnv
          by_cases e : lv = y
          · rw [if_pos e] at hnv; exact .inl ⟨rfl, e, hnv.symm⟩
          · rw [if_neg e] at hnv; exact .inr (.inl ⟨rfl, e, hnv.symm⟩)
        · rw [lockV, if_neg (by decide), if_pos rfl] at hnv
          exact .inr (.inr (.inl ⟨rfl, hnv.symm⟩))
        · rw [lockV, if_neg (by decide), if_neg (by decide)] at hnv
          exact .inr (.inr (.inr ⟨rfl, hnv.symm.trans (IntWalk.i64_left _)⟩))
      clear hkk hnv
      have hQ : ∀ b, w1.heap.size ≤ b → Q b ∧ b ≠ w.heap.size ∧ b ≠ w.heap.size + 1 := fun b h => ⟨hQQ b (by omega), by omega, by omega⟩
      have HQ := Lib.hid hQ
      clear hQ
      rcases hcases with ⟨rfl, rfl, rfl⟩ | ⟨rfl, hw, rfl⟩ | ⟨rfl, rfl⟩ | ⟨rfl, hw⟩
      · have q1 : (lv == lv) = true := by simp
        go_wp2_with fail
        have h0 := refStoreQ_any (fun b => Q b ∧ b ≠ w.heap.size ∧ b ≠ w.heap.size + 1) a a' n c n' c' ws ts x nv w1 T1 T2 HQ.out HM.out
        with_reducible refine h0.mono ?_
        clear h0
        rw [HEV.out]
        rintro e w3 ⟨a2, n2, c2, a3, n3, c3, rfl, u1, u2, hb3⟩
        have HTS := Lib.hid (show storeW ws ts x nv = lockTW ws ts 0 x lv nv by rw [storeW, if_pos HEV.out, lockTW, HLV.out, HNV.out])
        have HTT := Lib.hid (show storeT ws ts x = ts by rw [storeT, if_pos HEV.out])
        rw [HTS.out] at u1
        rw [HTT.out] at u2
        obtain ⟨Z0, hZ0⟩ : ∃ Z, Z = w3.alloc (Obj.cells #[.slice a2 n2 c2, .slice a3 n3 c3] 43) := ⟨_, rfl⟩
        have bz : Below w1.heap.size w1 Z0 := by rw [hZ0]; exact hb3.alloc hb3.size _
        have b3 : Below w3.heap.size w3 Z0 := by rw [hZ0]; exact (Below.refl _ _).alloc (Nat.le_refl _) _
        have m0 : Z0.cell? ⟨w3.heap.size, 0, none⟩ = some (.slice a2 n2 c2) := by rw [hZ0]; exact cell_new _ _ _ rfl rfl
        have m1 : Z0.cell? ⟨w3.heap.size, 1, none⟩ = some (.slice a3 n3 c3) := by rw [hZ0]; exact cell_new _ _ _ rfl rfl
        have X3 := var4_B bz HX1.out
        have R3 := var4_B bz HR1.out
        obtain ⟨Z2, hZ2⟩ : ∃ Z, Z = (Z0.setCell ⟨w.heap.size, 0, none⟩ (.slice a2 n2 c2)).setCell ⟨w.heap.size, 1, none⟩ (.slice a3 n3 c3) := ⟨_, rfl⟩
        have X5 : Var4 Z2 w.heap.size (.slice a2 n2 c2) (.slice a3 n3 c3) (.int .i64 D) (.slice (some ⟨b, o, none⟩) l d) := by rw [hZ2]; exact var4_set01 X3 _ _
        have R5 : Var4 Z2 (w.heap.size + 1) (.slice none 0 0) (.slice none 0 0) (.int .i64 0) (.slice none 0 0) := by rw [hZ2]; exact var4_other (var4_other R3 (by omega) _) (by omega) _
        have B2 : Below w.heap.size w Z2 := by rw [hZ2]; exact ((below_from HB1.out bz).setCell (p := ⟨w.heap.size, 0, none⟩) (Nat.le_refl _) _).setCell (p := ⟨w.heap.size, 1, none⟩) (Nat.le_refl _) _
        have H6 := Lib.hid (var4_set R5 (.slice a2 n2 c2) (.slice a3 n3 c3) (.int .i64 D) (.slice (some ⟨b, o, none⟩) l d))
        have kq : ∀ (b1 o1 : Nat) (u : Value), (b1 ≠ w.heap.size ∧ b1 ≠ w.heap.size + 1) → w3.cell? ⟨b1, o1, none⟩ = some u → ((((Z2.setCell ⟨w.heap.size + 1, 0, none⟩ (.slice a2 n2 c2)).setCell ⟨w.heap.size + 1, 1, none⟩ (.slice a3 n3 c3)).setCell ⟨w.heap.size + 1, 2, none⟩ (.int .i64 D)).setCell ⟨w.heap.size + 1, 3, none⟩ (.slice (some ⟨b, o, none⟩) l d)).cell? ⟨b1, o1, none⟩ = some u := fun b1 o1 u hq hu => by
          have k2 : Z2.cell? ⟨b1, o1, none⟩ = some u := by
            rw [hZ2]
            exact keep_set (Q := fun b => b ≠ w.heap.size) (fun _ h => h) _ _ _ hq.1 (keep_set (Q := fun b => b ≠ w.heap.size) (fun _ h => h) _ _ _ hq.1 (cellB b3 hu))
          exact keep_set (Q := fun b => b ≠ w.heap.size + 1) (fun _ h => h) _ _ _ hq.2 (keep_set (Q := fun b => b ≠ w.heap.size + 1) (fun _ h => h) _ _ _ hq.2 (keep_set (Q := fun b => b ≠ w.heap.size + 1) (fun _ h => h) _ _ _ hq.2 (keep_set (Q := fun b => b ≠ w.heap.size + 1) (fun _ h => h) _ _ _ hq.2 k2)))
        have V1 := Lib.hid (slP_mono (fun b h => h.1) (slP_keep (fun b o u hq hu => kq b o u hq.2 hu) u1))
        have V2 := Lib.hid (slP_mono (fun b h => h.1) (slP_keep (fun b o u hq hu => kq b o u hq.2 hu) u2))
        have HB2 := Lib.hid B2
        have HZ0 := Lib.hid hZ0
        have HZ2 := Lib.hid hZ2
        obtain ⟨⟨y0, y1, y2, y3⟩, y4, y5, y6, y7⟩ := X3
        clear kq B2 hZ0 hZ2 u1 u2 hb3 b3 bz R3 x0 x1 x2 x3 g0 g1 g2 g3 T1 T2
        go_upto_region 14 with fail
        rw [← HZ0.out]
        go_upto_region 15 with fail
        rw [← HZ2.out]
        clear y0 y1 y2 y3 y4 y5 y6 y7 m0 m1
        obtain ⟨⟨y0, y1, y2, y3⟩, -⟩ := X5
        obtain ⟨⟨s0, s1, s2, s3⟩, t0, t1, t2, t3⟩ := R5
        go_wp2
        refine bp_cell_tmp2 ⟨w.heap.size + 1, 0, none⟩ rfl rfl rfl (load_tso' _ _ _ _ _ _ H6.out.1.1 H6.out.1.2.1 H6.out.1.2.2.1 H6.out.1.2.2.2) ?_
        have hbf := below_set4 (g := w.heap.size + 1) HB2.out (by omega) (.slice a2 n2 c2) (.slice a3 n3 c3) (.int .i64 D) (.slice (some ⟨b, o, none⟩) l d)
        rw [HLV.out]
        exact refLQ_yes HES.out V1.out V2.out (blPB hbf PB) hbf
      · have q1 : (nv == y) = false := by simpa using hw
        clear hw
        go_wp2_with fail
        have h0 := refStoreQ_any (fun b => Q b ∧ b ≠ w.heap.size ∧ b ≠ w.heap.size + 1) a a' n c n' c' ws ts x nv w1 T1 T2 HQ.out HM.out
        with_reducible refine h0.mono ?_
        clear h0
        rw [HEV.out]
        rintro e w3 ⟨a2, n2, c2, a3, n3, c3, rfl, u1, u2, hb3⟩
        have HTS := Lib.hid (show storeW ws ts x nv = lockTW ws ts 0 x y z by rw [storeW, if_pos HEV.out, lockTW, HLV.out, HNV.out])
        have HTT := Lib.hid (show storeT ws ts x = ts by rw [storeT, if_pos HEV.out])
        rw [HTS.out] at u1
        rw [HTT.out] at u2
        obtain ⟨Z0, hZ0⟩ : ∃ Z, Z = w3.alloc (Obj.cells #[.slice a2 n2 c2, .slice a3 n3 c3] 43) := ⟨_, rfl⟩
        have bz : Below w1.heap.size w1 Z0 := by rw [hZ0]; exact hb3.alloc hb3.size _
        have b3 : Below w3.heap.size w3 Z0 := by rw [hZ0]; exact (Below.refl _ _).alloc (Nat.le_refl _) _
        have m0 : Z0.cell? ⟨w3.heap.size, 0, none⟩ = some (.slice a2 n2 c2) := by rw [hZ0]; exact cell_new _ _ _ rfl rfl
        have m1 : Z0.cell? ⟨w3.heap.size, 1, none⟩ = some (.slice a3 n3 c3) := by rw [hZ0]; exact cell_new _ _ _ rfl rfl
        have X3 := var4_B bz HX1.out
        have R3 := var4_B bz HR1.out
        obtain ⟨Z2, hZ2⟩ : ∃ Z, Z = (Z0.setCell ⟨w.heap.size, 0, none⟩ (.slice a2 n2 c2)).setCell ⟨w.heap.size, 1, none⟩ (.slice a3 n3 c3) := ⟨_, rfl⟩
        have X5 : Var4 Z2 w.heap.size (.slice a2 n2 c2) (.slice a3 n3 c3) (.int .i64 D) (.slice (some ⟨b, o, none⟩) l d) := by rw [hZ2]; exact var4_set01 X3 _ _
        have R5 : Var4 Z2 (w.heap.size + 1) (.slice none 0 0) (.slice none 0 0) (.int .i64 0) (.slice none 0 0) := by rw [hZ2]; exact var4_other (var4_other R3 (by omega) _) (by omega) _
        have B2 : Below w.heap.size w Z2 := by rw [hZ2]; exact ((below_from HB1.out bz).setCell (p := ⟨w.heap.size, 0, none⟩) (Nat.le_refl _) _).setCell (p := ⟨w.heap.size, 1, none⟩) (Nat.le_refl _) _
        have H6 := Lib.hid (var4_set R5 (.slice a2 n2 c2) (.slice a3 n3 c3) (.int .i64 D) (.slice (some ⟨b, o, none⟩) l d))
        have kq : ∀ (b1 o1 : Nat) (u : Value), (b1 ≠ w.heap.size ∧ b1 ≠ w.heap.size + 1) → w3.cell? ⟨b1, o1, none⟩ = some u → ((((Z2.setCell ⟨w.heap.size + 1, 0, none⟩ (.slice a2 n2 c2)).setCell ⟨w.heap.size + 1, 1, none⟩ (.slice a3 n3 c3)).setCell ⟨w.heap.size + 1, 2, none⟩ (.int .i64 D)).setCell ⟨w.heap.size + 1, 3, none⟩ (.slice (some ⟨b, o, none⟩) l d)).cell? ⟨b1, o1, none⟩ = some u := fun b1 o1 u hq hu => by
          have k2 : Z2.cell? ⟨b1, o1, none⟩ = some u := by
            rw [hZ2]
            exact keep_set (Q := fun b => b ≠ w.heap.size) (fun _ h => h) _ _ _ hq.1 (keep_set (Q := fun b => b ≠ w.heap.size) (fun _ h => h) _ _ _ hq.1 (cellB b3 hu))
          exact keep_set (Q := fun b => b ≠ w.heap.size + 1) (fun _ h => h) _ _ _ hq.2 (keep_set (Q := fun b => b ≠ w.heap.size + 1) (fun _ h => h) _ _ _ hq.2 (keep_set (Q := fun b => b ≠ w.heap.size + 1) (fun _ h => h) _ _ _ hq.2 (keep_set (Q := fun b => b ≠ w.heap.size + 1) (fun _ h => h) _ _ _ hq.2 k2)))
        have V1 := Lib.hid (slP_mono (fun b h => h.1) (slP_keep (fun b o u hq hu => kq b o u hq.2 hu) u1))
        have V2 := Lib.hid (slP_mono (fun b h => h.1) (slP_keep (fun b o u hq hu => kq b o u hq.2 hu) u2))
        have HB2 := Lib.hid B2
        have HZ0 := Lib.hid hZ0
        have HZ2 := Lib.hid hZ2
        obtain ⟨⟨y0, y1, y2, y3⟩, y4, y5, y6, y7⟩ := X3
        clear kq B2 hZ0 hZ2 u1 u2 hb3 b3 bz R3 x0 x1 x2 x3 g0 g1 g2 g3 T1 T2
        go_upto_region 14 with fail
        rw [← HZ0.out]
        go_upto_region 15 with fail
        rw [← HZ2.out]
        clear y0 y1 y2 y3 y4 y5 y6 y7 m0 m1
        obtain ⟨⟨y0, y1, y2, y3⟩, -⟩ := X5
        obtain ⟨⟨s0, s1, s2, s3⟩, t0, t1, t2, t3⟩ := R5
        go_wp2
        refine bp_cell_tmp2 ⟨w.heap.size + 1, 0, none⟩ rfl rfl rfl (load_tso' _ _ _ _ _ _ H6.out.1.1 H6.out.1.2.1 H6.out.1.2.2.1 H6.out.1.2.2.2) ?_
        have hbf := below_set4 (g := w.heap.size + 1) HB2.out (by omega) (.slice a2 n2 c2) (.slice a3 n3 c3) (.int .i64 D) (.slice (some ⟨b, o, none⟩) l d)
        rw [HLV.out]
        exact refLQ_yes HES.out V1.out V2.out (blPB hbf PB) hbf
      · go_wp2_with fail
        have h0 := refStoreQ_any (fun b => Q b ∧ b ≠ w.heap.size ∧ b ≠ w.heap.size + 1) a a' n c n' c' ws ts x nv w1 T1 T2 HQ.out HM.out
        with_reducible refine h0.mono ?_
        clear h0
        rw [HEV.out]
        rintro e w3 ⟨a2, n2, c2, a3, n3, c3, rfl, u1, u2, hb3⟩
        have HTS := Lib.hid (show storeW ws ts x nv = lockTW ws ts 1 x nv z by rw [storeW, if_pos HEV.out, lockTW, HLV.out, HNV.out])
        have HTT := Lib.hid (show storeT ws ts x = ts by rw [storeT, if_pos HEV.out])
        rw [HTS.out] at u1
        rw [HTT.out] at u2
        obtain ⟨Z0, hZ0⟩ : ∃ Z, Z = w3.alloc (Obj.cells #[.slice a2 n2 c2, .slice a3 n3 c3] 43) := ⟨_, rfl⟩
        have bz : Below w1.heap.size w1 Z0 := by rw [hZ0]; exact hb3.alloc hb3.size _
        have b3 : Below w3.heap.size w3 Z0 := by rw [hZ0]; exact (Below.refl _ _).alloc (Nat.le_refl _) _
        have m0 : Z0.cell? ⟨w3.heap.size, 0, none⟩ = some (.slice a2 n2 c2) := by rw [hZ0]; exact cell_new _ _ _ rfl rfl
        have m1 : Z0.cell? ⟨w3.heap.size, 1, none⟩ = some (.slice a3 n3 c3) := by rw [hZ0]; exact cell_new _ _ _ rfl rfl
        have X3 := var4_B bz HX1.out
        have R3 := var4_B bz HR1.out
        obtain ⟨Z2, hZ2⟩ : ∃ Z, Z = (Z0.setCell ⟨w.heap.size, 0, none⟩ (.slice a2 n2 c2)).setCell ⟨w.heap.size, 1, none⟩ (.slice a3 n3 c3) := ⟨_, rfl⟩
        have X5 : Var4 Z2 w.heap.size (.slice a2 n2 c2) (.slice a3 n3 c3) (.int .i64 D) (.slice (some ⟨b, o, none⟩) l d) := by rw [hZ2]; exact var4_set01 X3 _ _
        have R5 : Var4 Z2 (w.heap.size + 1) (.slice none 0 0) (.slice none 0 0) (.int .i64 0) (.slice none 0 0) := by rw [hZ2]; exact var4_other (var4_other R3 (by omega) _) (by omega) _
        have B2 : Below w.heap.size w Z2 := by rw [hZ2]; exact ((below_from HB1.out bz).setCell (p := ⟨w.heap.size, 0, none⟩) (Nat.le_refl _) _).setCell (p := ⟨w.heap.size, 1, none⟩) (Nat.le_refl _) _
        have H6 := Lib.hid (var4_set R5 (.slice a2 n2 c2) (.slice a3 n3 c3) (.int .i64 D) (.slice (some ⟨b, o, none⟩) l d))
        have kq : ∀ (b1 o1 : Nat) (u : Value), (b1 ≠ w.heap.size ∧ b1 ≠ w.heap.size + 1) → w3.cell? ⟨b1, o1, none⟩ = some u → ((((Z2.setCell ⟨w.heap.size + 1, 0, none⟩ (.slice a2 n2 c2)).setCell ⟨w.heap.size + 1, 1, none⟩ (.slice a3 n3 c3)).setCell ⟨w.heap.size + 1, 2, none⟩ (.int .i64 D)).setCell ⟨w.heap.size + 1, 3, none⟩ (.slice (some ⟨b, o, none⟩) l d)).cell? ⟨b1, o1, none⟩ = some u := fun b1 o1 u hq hu => by
          have k2 : Z2.cell? ⟨b1, o1, none⟩ = some u := by
            rw [hZ2]
            exact keep_set (Q := fun b => b ≠ w.heap.size) (fun _ h => h) _ _ _ hq.1 (keep_set (Q := fun b => b ≠ w.heap.size) (fun _ h => h) _ _ _ hq.1 (cellB b3 hu))
          exact keep_set (Q := fun b => b ≠ w.heap.size + 1) (fun _ h => h) _ _ _ hq.2 (keep_set (Q := fun b => b ≠ w.heap.size + 1) (fun _ h => h) _ _ _ hq.2 (keep_set (Q := fun b => b ≠ w.heap.size + 1) (fun _ h => h) _ _ _ hq.2 (keep_set (Q := fun b => b ≠ w.heap.size + 1) (fun _ h => h) _ _ _ hq.2 k2)))
        have V1 := Lib.hid (slP_mono (fun b h => h.1) (slP_keep (fun b o u hq hu => kq b o u hq.2 hu) u1))
        have V2 := Lib.hid (slP_mono (fun b h => h.1) (slP_keep (fun b o u hq hu => kq b o u hq.2 hu) u2))
        have HB2 := Lib.hid B2
        have HZ0 := Lib.hid hZ0
        have HZ2 := Lib.hid hZ2
        obtain ⟨⟨y0, y1, y2, y3⟩, y4, y5, y6, y7⟩ := X3
        clear kq B2 hZ0 hZ2 u1 u2 hb3 b3 bz R3 x0 x1 x2 x3 g0 g1 g2 g3 T1 T2
        go_upto_region 14 with fail
        rw [← HZ0.out]
        go_upto_region 15 with fail
        rw [← HZ2.out]
        clear y0 y1 y2 y3 y4 y5 y6 y7 m0 m1
        obtain ⟨⟨y0, y1, y2, y3⟩, -⟩ := X5
        obtain ⟨⟨s0, s1, s2, s3⟩, t0, t1, t2, t3⟩ := R5
        go_wp2
        refine bp_cell_tmp2 ⟨w.heap.size + 1, 0, none⟩ rfl rfl rfl (load_tso' _ _ _ _ _ _ H6.out.1.1 H6.out.1.2.1 H6.out.1.2.2.1 H6.out.1.2.2.2) ?_
        have hbf := below_set4 (g := w.heap.size + 1) HB2.out (by omega) (.slice a2 n2 c2) (.slice a3 n3 c3) (.int .i64 D) (.slice (some ⟨b, o, none⟩) l d)
        rw [HLV.out]
        exact refLQ_yes HES.out V1.out V2.out (blPB hbf PB) hbf
      · subst hw
        go_wp2_with fail
        have h0 := refStoreQ_any (fun b => Q b ∧ b ≠ w.heap.size ∧ b ≠ w.heap.size + 1) a a' n c n' c' ws ts x (wrap64 (lv + y)) w1 T1 T2 HQ.out HM.out
        with_reducible refine h0.mono ?_
        clear h0
        rw [HEV.out]
        rintro e w3 ⟨a2, n2, c2, a3, n3, c3, rfl, u1, u2, hb3⟩
        have HTS := Lib.hid (show storeW ws ts x (wrap64 (lv + y)) = lockTW ws ts 2 x y z by rw [storeW, if_pos HEV.out, lockTW, HLV.out, HNV.out])
        have HTT := Lib.hid (show storeT ws ts x = ts by rw [storeT, if_pos HEV.out])
        rw [HTS.out] at u1
        rw [HTT.out] at u2
        obtain ⟨Z0, hZ0⟩ : ∃ Z, Z = w3.alloc (Obj.cells #[.slice a2 n2 c2, .slice a3 n3 c3] 43) := ⟨_, rfl⟩
        have bz : Below w1.heap.size w1 Z0 := by rw [hZ0]; exact hb3.alloc hb3.size _
        have b3 : Below w3.heap.size w3 Z0 := by rw [hZ0]; exact (Below.refl _ _).alloc (Nat.le_refl _) _
        have m0 : Z0.cell? ⟨w3.heap.size, 0, none⟩ = some (.slice a2 n2 c2) := by rw [hZ0]; exact cell_new _ _ _ rfl rfl
        have m1 : Z0.cell? ⟨w3.heap.size, 1, none⟩ = some (.slice a3 n3 c3) := by rw [hZ0]; exact cell_new _ _ _ rfl rfl
        have X3 := var4_B bz HX1.out
        have R3 := var4_B bz HR1.out
        obtain ⟨Z2, hZ2⟩ : ∃ Z, Z = (Z0.setCell ⟨w.heap.size, 0, none⟩ (.slice a2 n2 c2)).setCell ⟨w.heap.size, 1, none⟩ (.slice a3 n3 c3) := ⟨_, rfl⟩
        have X5 : Var4 Z2 w.heap.size (.slice a2 n2 c2) (.slice a3 n3 c3) (.int .i64 D) (.slice (some ⟨b, o, none⟩) l d) := by rw [hZ2]; exact var4_set01 X3 _ _
        have R5 : Var4 Z2 (w.heap.size + 1) (.slice none 0 0) (.slice none 0 0) (.int .i64 0) (.slice none 0 0) := by rw [hZ2]; exact var4_other (var4_other R3 (by omega) _) (by omega) _
        have B2 : Below w.heap.size w Z2 := by rw [hZ2]; exact ((below_from HB1.out bz).setCell (p := ⟨w.heap.size, 0, none⟩) (Nat.le_refl _) _).setCell (p := ⟨w.heap.size, 1, none⟩) (Nat.le_refl _) _
        have H6 := Lib.hid (var4_set R5 (.slice a2 n2 c2) (.slice a3 n3 c3) (.int .i64 D) (.slice (some ⟨b, o, none⟩) l d))
        have kq : ∀ (b1 o1 : Nat) (u : Value), (b1 ≠ w.heap.size ∧ b1 ≠ w.heap.size + 1) → w3.cell? ⟨b1, o1, none⟩ = some u → ((((Z2.setCell ⟨w.heap.size + 1, 0, none⟩ (.slice a2 n2 c2)).setCell ⟨w.heap.size + 1, 1, none⟩ (.slice a3 n3 c3)).setCell ⟨w.heap.size + 1, 2, none⟩ (.int .i64 D)).setCell ⟨w.heap.size + 1, 3, none⟩ (.slice (some ⟨b, o, none⟩) l d)).cell? ⟨b1, o1, none⟩ = some u := fun b1 o1 u hq hu => by
          have k2 : Z2.cell? ⟨b1, o1, none⟩ = some u := by
            rw [hZ2]
            exact keep_set (Q := fun b => b ≠ w.heap.size) (fun _ h => h) _ _ _ hq.1 (keep_set (Q := fun b => b ≠ w.heap.size) (fun _ h => h) _ _ _ hq.1 (cellB b3 hu))
          exact keep_set (Q := fun b => b ≠ w.heap.size + 1) (fun _ h => h) _ _ _ hq.2 (keep_set (Q := fun b => b ≠ w.heap.size + 1) (fun _ h => h) _ _ _ hq.2 (keep_set (Q := fun b => b ≠ w.heap.size + 1) (fun _ h => h) _ _ _ hq.2 (keep_set (Q := fun b => b ≠ w.heap.size + 1) (fun _ h => h) _ _ _ hq.2 k2)))
        have V1 := Lib.hid (slP_mono (fun b h => h.1) (slP_keep (fun b o u hq hu => kq b o u hq.2 hu) u1))
        have V2 := Lib.hid (slP_mono (fun b h => h.1) (slP_keep (fun b o u hq hu => kq b o u hq.2 hu) u2))
        have HB2 := Lib.hid B2
        have HZ0 := Lib.hid hZ0
        have HZ2 := Lib.hid hZ2
        obtain ⟨⟨y0, y1, y2, y3⟩, y4, y5, y6, y7⟩ := X3
        clear kq B2 hZ0 hZ2 u1 u2 hb3 b3 bz R3 x0 x1 x2 x3 g0 g1 g2 g3 T1 T2
        go_upto_region 14 with fail
        rw [← HZ0.out]
        go_upto_region 15 with fail
        rw [← HZ2.out]
        clear y0 y1 y2 y3 y4 y5 y6 y7 m0 m1
        obtain ⟨⟨y0, y1, y2, y3⟩, -⟩ := X5
        obtain ⟨⟨s0, s1, s2, s3⟩, t0, t1, t2, t3⟩ := R5
        go_wp2
        refine bp_cell_tmp2 ⟨w.heap.size + 1, 0, none⟩ rfl rfl rfl (load_tso' _ _ _ _ _ _ H6.out.1.1 H6.out.1.2.1 H6.out.1.2.2.1 H6.out.1.2.2.2) ?_
        have hbf := below_set4 (g := w.heap.size + 1) HB2.out (by omega) (.slice a2 n2 c2) (.slice a3 n3 c3) (.int .i64 D) (.slice (some ⟨b, o, none⟩) l d)
        rw [HLV.out]
        exact refLQ_yes HES.out V1.out V2.out (blPB hbf PB) hbf
    · have q1 : (ev != 0) = true := by simpa using he
      have HEN := Lib.hid he
      have HZ := Lib.hid (var4_set R (.slice none 0 0) (.slice none 0 0) (.int .i64 0) (.slice none 0 0))
      obtain ⟨⟨s0, s1, s2, s3⟩, t0, t1, t2, t3⟩ := R
      clear he X hkk
      go_wp2
      refine bp_cell_tmp2 ⟨w.heap.size + 1, 0, none⟩ rfl rfl rfl (load_tso' _ _ _ _ _ _ HZ.out.1.1 HZ.out.1.2.1 HZ.out.1.2.2.1 HZ.out.1.2.2.2) ?_
      rw [HES.out]
      exact refLQ_no HEN.out (below_set4 (g := w.heap.size + 1) HB1.out (by omega) _ _ _ _)
  · have HES := Lib.hid (show lockTE ws ts D bs j k x = 9 by rw [HE.out, if_neg hne])
    have hm0 : 0 < m := by rw [← HPL.out]; exact List.length_pos_iff.2 hne
    have HZ := Lib.hid (var4_set R (.slice none 0 0) (.slice none 0 0) (.int .i64 0) (.slice none 0 0))
    clear hne X R hkk
    go_wp2
    refine bp_cell_tmp2 ⟨w.heap.size + 1, 0, none⟩ rfl rfl rfl (load_tso' _ _ _ _ _ _ HZ.out.1.1 HZ.out.1.2.1 HZ.out.1.2.2.1 HZ.out.1.2.2.2) ?_
    rw [HES.out]
    exact refLQ_no (by decide) (below_set4 (g := w.heap.size + 1) HB.out (by omega) _ _ _ _)
end Go.Proofs.YtiebaeaomgpicaaGreat
