/- Contracts of the document's own answers of layer 3 (package respiteref03), with a word on the blocks in which their lists lie: Flush. -/
import Derived.Test.YtiebaeaomgpicaaGreatRfW
import Derived.Test.YtiebaeaomgpicaaGreatMR
namespace Go.Proofs.YtiebaeaomgpicaaGreat
open Go.ChangeShapes Go.WideShapes Go.ChangeAt Go.RowKit

theorem refStoreFQ_any (Q : Nat → Prop) (F0 : Nat) (a a' : Option Addr) (n c n' c' : Nat) (ws ts : List Int) (i v : Int) (w : World) (S1 : Sl w a n ws) (U2 : SlP (fun b => b < F0 ∧ Q b) w a' n' ts) (hm : mayB ws ts = true) :
    Calls Tryz.prog 46 #[.agg #[.slice a n c, .slice a' n' c'], .int .i64 i, .int .i64 v] w (MemResQ (fun b => (b < F0 ∧ Q b) ∨ w.heap.size ≤ b) (storeW ws ts i v) (storeT ws ts i) (usableZ ws ts i) w) :=
  refStoreQ_any _ a a' n c n' c' ws ts i v w S1 (slP_mono (fun _ h => .inl h) U2) (fun _ h => .inr h) hm
/-- the memory that a store told, in a variable of one's own -/
def FlushCutQ (Q : Nat → Prop) (F0 : Nat) (W : World) (ws ts : List Int) (E : Int) (s7 s8 : Value) (wx : World) : Prop :=
  ∃ g a n c a' n' c', s7 = .pointer (some ⟨g, 0, none⟩) ∧ s8 = .int .i64 E ∧ W.heap.size ≤ g ∧ wx.cell? ⟨g, 0, none⟩ = some (.slice a n c) ∧ wx.cell? ⟨g, 1, none⟩ = some (.slice a' n' c') ∧ SlP (fun b => (b < F0 ∧ Q b) ∨ W.heap.size ≤ b) wx a n ws ∧ SlP (fun b => (b < F0 ∧ Q b) ∨ W.heap.size ≤ b) wx a' n' ts ∧ Below W.heap.size W wx
theorem flushCutQ_new {Q : Nat → Prop} {F0 : Nat} {W wx : World} {ws ts : List Int} {E : Int} {a a' : Option Addr} {n c n' c' : Nat} (hb : Below W.heap.size W wx) (u1 : SlP (fun b => (b < F0 ∧ Q b) ∨ W.heap.size ≤ b) wx a n ws) (u2 : SlP (fun b => (b < F0 ∧ Q b) ∨ W.heap.size ≤ b) wx a' n' ts) :
    FlushCutQ Q F0 W ws ts E (.pointer (some ⟨wx.heap.size, 0, none⟩)) (.int .i64 E) (wx.alloc (.cells #[.slice a n c, .slice a' n' c'] 43)) :=
  ⟨_, _, _, _, _, _, _, rfl, rfl, hb.size, cell_new _ _ _ rfl rfl, cell_new _ _ _ rfl rfl, slPA _ u1, slPA _ u2, hb.alloc hb.size _⟩
theorem flushCutQ_set {Q : Nat → Prop} {F0 : Nat} {W wx : World} {ws ts : List Int} {E : Int} {a a' : Option Addr} {n c n' c' : Nat} {x y : Value} (hF : F0 ≤ W.heap.size) (hb : Below W.heap.size W wx) (Y0 : wx.cell? ⟨W.heap.size, 0, none⟩ = some x) (Y1 : wx.cell? ⟨W.heap.size, 1, none⟩ = some y)
    (u1 : SlP (fun b => (b < F0 ∧ Q b) ∨ W.heap.size + 1 ≤ b) wx a n ws) (u2 : SlP (fun b => (b < F0 ∧ Q b) ∨ W.heap.size + 1 ≤ b) wx a' n' ts) :
    FlushCutQ Q F0 W ws ts E (.pointer (some ⟨W.heap.size, 0, none⟩)) (.int .i64 E) ((wx.setCell ⟨W.heap.size, 0, none⟩ (.slice a n c)).setCell ⟨W.heap.size, 1, none⟩ (.slice a' n' c')) := by
  have k : ∀ b, ((b < F0 ∧ Q b) ∨ W.heap.size + 1 ≤ b) → b ≠ W.heap.size := fun b h => by omega
  refine ⟨_, _, _, _, _, _, _, rfl, rfl, Nat.le_refl _, set2_0 _ _ (by rw [Y0]; rfl), set2_1 _ _ (by rw [Y1]; rfl), ?_, ?_, (hb.setCell (p := ⟨W.heap.size, 0, none⟩) (Nat.le_refl _) _).setCell (p := ⟨W.heap.size, 1, none⟩) (Nat.le_refl _) _⟩
  · exact slP_mono (fun b h => h.imp id (fun h => by omega)) (slP_set ⟨W.heap.size, 1, none⟩ k _ (slP_set ⟨W.heap.size, 0, none⟩ k _ u1))
  · exact slP_mono (fun b h => h.imp id (fun h => by omega)) (slP_set ⟨W.heap.size, 1, none⟩ k _ (slP_set ⟨W.heap.size, 0, none⟩ k _ u2))

set_option maxRecDepth 100000 in
set_option maxHeartbeats 8000000 in
theorem refFlushTQ_any (Q : Nat → Prop) (a a' q : Option Addr) (n c n' c' l d : Nat) (ws ts : List Int) (D : Int) (bs : List (List (Int × Int))) (th : Int) (w : World) (P1 : SlP Q w a n ws) (P2 : SlP Q w a' n' ts) (PB : BlP Q w q l bs) (hQQ : ∀ b, w.heap.size ≤ b → Q b) (hh : hasB ws ts D bs th = true) :
    Calls Tryz.prog 25 #[.agg #[.slice a n c, .slice a' n' c', .int .i64 D, .slice q l d], .int .i64 th] w (RefTQ Q (okL (flushTE ws ts D bs th) (flushTW ws bs th)) (okL (flushTE ws ts D bs th) ts) (okZ (flushTE ws ts D bs th) D) (okL (flushTE ws ts D bs th) (flushTB bs th)) (flushTE ws ts D bs th) w) := by
  have S1 := P1.sl
  have S2 := P2.sl
  have S := PB.bl
  have Hl := Lib.hid S.1
  obtain ⟨hm, h0, h1⟩ := hasB_parts hh
  obtain ⟨j, rfl⟩ := Int.eq_ofNat_of_zero_le h0
  have hjl : j < l := by rw [← Hl.out]; omega
  have hl8 : l ≤ 8 := by rw [← Hl.out]; exact (mayT_parts hm).2.1.2
  have i1 : (0 : Int) ≤ j := by omega
  have i2 : (j : Int) < l := by omega
  obtain ⟨ps, hps⟩ : ∃ ps, bs.getD j [] = ps := ⟨_, rfl⟩
  have hD8 : ps.length ≤ 8 := by have h2 := (mayT_parts hm).2.2.1.2; have h3 := ((mayT_parts hm).2.2.2 j (by omega)).1; rw [hps] at h3; omega
  have HE := Lib.hid (show flushTE ws ts D bs j = if ps = [] then 8 else usableZ ws ts (firstP ps).1 by rw [flushTE, if_pos hh, bufOf, Int.toNat_natCast, hps])
  have HTW := Lib.hid (show flushTW ws bs j = ws.set (firstP ps).1.toNat (firstP ps).2 by rw [flushTW, bufOf, Int.toNat_natCast, hps])
  have HTB := Lib.hid (show flushTB bs j = bs.set j (restP ps) by rw [flushTB, bufOf, Int.toNat_natCast, hps])
  have HM := Lib.hid (mayT_parts hm).1
  have HPS := Lib.hid hps
  have BQ := blW_und (Q' := fun b => b < w.heap.size ∧ Q b) (fun b q h => ⟨h, q⟩) PB
  obtain ⟨W, hW⟩ : ∃ W, W = (w.alloc (Obj.cells #[.slice a n c, .slice a' n' c', .int .i64 D, .slice q l d] 46)).alloc (Obj.cells #[.slice none 0 0, .slice none 0 0, .int .i64 0, .slice none 0 0] 46) := ⟨_, rfl⟩
  have b0 : Below w.heap.size w W := by rw [hW]; go_grown
  have X : Var4 W w.heap.size (.slice a n c) (.slice a' n' c') (.int .i64 D) (.slice q l d) := by rw [hW]; exact var4_A _ (var4_new _ rfl)
  have R : Var4 W (w.heap.size + 1) (.slice none 0 0) (.slice none 0 0) (.int .i64 0) (.slice none 0 0) := by rw [hW]; exact var4_new _ (by simp)
  have T1 := slB b0 S1
  have T2 := slPB b0 (slW_und (Q' := fun b => b < w.heap.size ∧ Q b) (fun b q h => ⟨h, q⟩) P2)
  replace BQ := blPB b0 BQ
  have hz := var4_lt R
  obtain ⟨b, o, y, yc, rfl, k0, hcap, hp⟩ := blP_at BQ hjl
  rw [hps] at k0 hp hcap
  obtain ⟨m, hmm⟩ : ∃ m, ps.length = m := ⟨_, rfl⟩
  rw [hmm] at k0 hp hcap hD8
  have HPL := Lib.hid hmm
  have HBQ := Lib.hid BQ
  have HX := Lib.hid X
  have HRR := Lib.hid R
  have HB := Lib.hid b0
  have HW := Lib.hid hW
  have HP := Lib.hid hp
  clear hps hmm hcap BQ S b0 hW hp hh hm h0 h1
  go_enter Tryz.func25, Tryz.ntmps25
  go_upto_region 1 with fail
  rw [← HW.out]
  obtain ⟨⟨x0, x1, x2, x3⟩, -⟩ := X
  obtain ⟨⟨r0, r1, r2, r3⟩, f0, f1, f2, f3⟩ := R
  by_cases hne : ps = []
  · have HES := Lib.hid (show flushTE ws ts D bs j = 8 by rw [HE.out, if_pos hne])
    obtain rfl : 0 = m := by rw [← HPL.out, hne]; rfl
    have HZ := Lib.hid (var4_set HRR.out (.slice none 0 0) (.slice none 0 0) (.int .i64 0) (.slice none 0 0))
    clear hne
    go_wp2
    refine bp_cell_tmp ⟨w.heap.size + 1, 0, none⟩ rfl rfl rfl (load_tso' _ _ _ _ _ _ HZ.out.1.1 HZ.out.1.2.1 HZ.out.1.2.2.1 HZ.out.1.2.2.2) ?_
    rw [HES.out]
    exact refTQ_no (by decide) (below_set4 (g := w.heap.size + 1) HB.out (by omega) _ _ _ _)
  · have hm0 : 0 < m := by rw [← HPL.out]; exact List.length_pos_iff.2 hne
    have q0 : ((m : Int) == 0) = false := by simp; omega
    obtain ⟨pb, po, rfl, _, PR⟩ := HP.out.2.resolve_left (by omega)
    have c0 := (PR 0 (by rw [HPL.out]; exact hm0)).1
    have c1 := (PR 0 (by rw [HPL.out]; exact hm0)).2
    obtain ⟨fp, hfp⟩ : ∃ z, firstP ps = z := ⟨_, rfl⟩
    have hfp' : ps.getD 0 (0, 0) = fp := hfp
    rw [hfp'] at c0 c1
    rw [hfp] at HE HTW
    obtain ⟨x, v⟩ := fp
    rw [Nat.zero_mul, Nat.add_zero] at c0 c1
    dsimp only at c0 c1 HE HTW
    have HNE := Lib.hid hne
    clear hfp hfp' PR hne
    obtain ⟨ev, hev⟩ : ∃ z, usableZ ws ts x = z := ⟨_, rfl⟩
    have HEV := Lib.hid hev
    have HES := Lib.hid (show flushTE ws ts D bs j = ev by rw [HE.out, if_neg HNE.out]; exact hev)
    clear hev
    go_upto_region 4 with fail
    go_cut [7, 8] (fun s7 s8 wx => FlushCutQ Q w.heap.size W (storeW ws ts x v) (storeT ws ts x) ev s7 s8 wx)
    case first =>
      have hB0 : Below W.heap.size W W.drew := (Below.refl _ _).drew
      have zA0 : (W.alloc (Obj.cells #[.slice none 0 0, .slice none 0 0] 43)).drew.cell? ⟨W.heap.size, 0, none⟩ = some (.slice none 0 0) := cell_new (w := W) _ _ _ rfl rfl
      have zA1 : (W.alloc (Obj.cells #[.slice none 0 0, .slice none 0 0] 43)).drew.cell? ⟨W.heap.size, 1, none⟩ = some (.slice none 0 0) := cell_new (w := W) _ _ _ rfl rfl
      have zA2 : (W.alloc (Obj.cells #[.slice none 0 0, .slice none 0 0] 43)).drew.frozen? ⟨W.heap.size, 0, none⟩ = false := frozen_new (w := W) _ _ rfl
      have zA3 : (W.alloc (Obj.cells #[.slice none 0 0, .slice none 0 0] 43)).drew.frozen? ⟨W.heap.size, 1, none⟩ = false := frozen_new (w := W) _ _ rfl
      have hBA : Below W.heap.size W (W.alloc (Obj.cells #[.slice none 0 0, .slice none 0 0] 43)).drew := ((Below.refl _ _).alloc (Nat.le_refl _) _).drew
      have x0a := cellA (Obj.cells #[.slice none 0 0, .slice none 0 0] 43) x0
      have x1a := cellA (Obj.cells #[.slice none 0 0, .slice none 0 0] 43) x1
      have c0a := cellA (Obj.cells #[.slice none 0 0, .slice none 0 0] 43) c0
      have c1a := cellA (Obj.cells #[.slice none 0 0, .slice none 0 0] 43) c1
      go_region_held3 (fun w' => (w'.cell? ⟨w.heap.size, 0, none⟩ = some (.slice a n c) ∧ w'.cell? ⟨w.heap.size, 1, none⟩ = some (.slice a' n' c')) ∧ w'.cell? ⟨pb, po, none⟩ = some (.int .i64 x) ∧ w'.cell? ⟨pb, po + 1, none⟩ = some (.int .i64 v))
        (first | exact ⟨⟨x0, x1⟩, c0, c1⟩ | exact ⟨⟨x0a, x1a⟩, c0a, c1a⟩ | (exact ⟨⟨cellB (by assumption) x0, cellB (by assumption) x1⟩, cellB (by assumption) c0, cellB (by assumption) c1⟩) | (exact ⟨⟨cellA _ (cellB (by assumption) x0), cellA _ (cellB (by assumption) x1)⟩, cellA _ (cellB (by assumption) c0), cellA _ (cellB (by assumption) c1)⟩) | (exact ⟨⟨set2_old (by assumption) x0, set2_old (by assumption) x1⟩, set2_old (by assumption) c0, set2_old (by assumption) c1⟩))
        ((go_at_call 46; refine (refStoreFQ_any Q w.heap.size a a' n c n' c' ws ts x v _ (slB (by assumption) T1) (slPB (by assumption) T2) HM.out).mono ?_; rw [HEV.out]; rintro e wx ⟨p, m1, d1, p', m2, d2, rfl, u1, u2, hbx⟩; have hbx' := below_from (by assumption) hbx; (try (have Y0 := cellB hbx zA0; have Y1 := cellB hbx zA1; have Y2 := frozenB hbx zA0 zA2; have Y3 := frozenB hbx zA1 zA3))))
      all_goals
        go_wp2_with fail
        go_meet
        first
          | exact flushCutQ_new hbx' u1 u2
          | exact flushCutQ_set (by omega) hbx' Y0 Y1 (slP_mono (fun b h => h.imp id (fun h => by simp at h; omega)) u1) (slP_mono (fun b h => h.imp id (fun h => by simp at h; omega)) u2)
    case rest =>
      obtain ⟨g, a2, n2, c2, a3, n3, c3, rfl, rfl, hgg, m0, m1, u1, u2, hbx⟩ := hcut
      have HBX := Lib.hid (below_from HB.out hbx)
      have hWc : W.heap.size ≤ wc.heap.size := hbx.size
      have RX := var4_B hbx HRR.out
      have XX := var4_B hbx HX.out
      have BX := blPB hbx HBQ.out
      clear x0 x1 x2 x3 r0 r1 r2 r3 f0 f1 f2 f3 T1 T2 k0 c0 c1
      by_cases he : ev = 0
      · subst he
        have HTS := Lib.hid (show storeW ws ts x v = flushTW ws bs j by rw [storeW, if_pos HEV.out, HTW.out])
        have HTT := Lib.hid (show storeT ws ts x = ts by rw [storeT, if_pos HEV.out])
        have hgW : w.heap.size + 1 < g := by omega
        obtain ⟨⟨x0, x1, x2, x3⟩, h0, h1, h2, h3⟩ := id XX
        have HXX := Lib.hid XX
        have HRX := Lib.hid RX
        have HBX2 := Lib.hid (blP_mono (Q' := fun b => Q b ∧ b ≠ w.heap.size ∧ b ≠ w.heap.size + 1) (fun b h => ⟨h.2, by omega, by omega⟩) BX)
        clear XX RX BX
        go_wp2_with fail
        refine (refDropT_any a a' (some ⟨b, o, none⟩) n c n' c' l d D bs j _ (fun b => Q b ∧ b ≠ w.heap.size ∧ b ≠ w.heap.size + 1) HBX2.out hjl hl8 (by rw [HPS.out, HPL.out]; exact hD8) (fun b h => ⟨hQQ b (by omega), by omega, by omega⟩)).mono ?_
        rintro e w3 ⟨r5, f5, rfl, u5, hb3⟩
        rw [HPS.out] at u5
        obtain ⟨Z1, hZ1⟩ : ∃ Z, Z = (((w3.setCell ⟨w.heap.size, 0, none⟩ (.slice a n c)).setCell ⟨w.heap.size, 1, none⟩ (.slice a' n' c')).setCell ⟨w.heap.size, 2, none⟩ (.int .i64 D)).setCell ⟨w.heap.size, 3, none⟩ (.slice r5 l f5) := ⟨_, rfl⟩
        have X3 := var4_B hb3 HXX.out
        have R3 := var4_B hb3 HRX.out
        have X4 : Var4 Z1 w.heap.size (.slice a n c) (.slice a' n' c') (.int .i64 D) (.slice r5 l f5) := by rw [hZ1]; exact var4_set X3 _ _ _ _
        have R4 : Var4 Z1 (w.heap.size + 1) (.slice none 0 0) (.slice none 0 0) (.int .i64 0) (.slice none 0 0) := by rw [hZ1]; exact var4_other (var4_other (var4_other (var4_other R3 (by omega) _) (by omega) _) (by omega) _) (by omega) _
        have k1 : ∀ (b o : Nat) (u : Value), b ≠ w.heap.size → w3.cell? ⟨b, o, none⟩ = some u → Z1.cell? ⟨b, o, none⟩ = some u := by
          intro b o u hb hu
          rw [hZ1]
          exact keep_set (Q := fun b => b ≠ w.heap.size) (fun _ h => h) _ _ _ hb (keep_set (Q := fun b => b ≠ w.heap.size) (fun _ h => h) _ _ _ hb (keep_set (Q := fun b => b ≠ w.heap.size) (fun _ h => h) _ _ _ hb (keep_set (Q := fun b => b ≠ w.heap.size) (fun _ h => h) _ _ _ hb hu)))
        have m0' := k1 _ _ _ (by omega) (cellB hb3 m0)
        have m1' := k1 _ _ _ (by omega) (cellB hb3 m1)
        have B1 : Below w.heap.size w Z1 := by rw [hZ1]; exact below_set4 (below_from HBX.out hb3) (Nat.le_refl _) _ _ _ _
        obtain ⟨Z2, hZ2⟩ : ∃ Z, Z = (Z1.setCell ⟨w.heap.size, 0, none⟩ (.slice a2 n2 c2)).setCell ⟨w.heap.size, 1, none⟩ (.slice a3 n3 c3) := ⟨_, rfl⟩
        have X5 : Var4 Z2 w.heap.size (.slice a2 n2 c2) (.slice a3 n3 c3) (.int .i64 D) (.slice r5 l f5) := by rw [hZ2]; exact var4_set01 X4 _ _
        have R5 : Var4 Z2 (w.heap.size + 1) (.slice none 0 0) (.slice none 0 0) (.int .i64 0) (.slice none 0 0) := by rw [hZ2]; exact var4_other (var4_other R4 (by omega) _) (by omega) _
        have B2 : Below w.heap.size w Z2 := by rw [hZ2]; exact (B1.setCell (p := ⟨w.heap.size, 0, none⟩) (Nat.le_refl _) _).setCell (p := ⟨w.heap.size, 1, none⟩) (Nat.le_refl _) _
        have k2 : ∀ (b o : Nat) (u : Value), b ≠ w.heap.size → w3.cell? ⟨b, o, none⟩ = some u → Z2.cell? ⟨b, o, none⟩ = some u := by
          intro b o u hb hu
          rw [hZ2]
          exact keep_set (Q := fun b => b ≠ w.heap.size) (fun _ h => h) _ _ _ hb (keep_set (Q := fun b => b ≠ w.heap.size) (fun _ h => h) _ _ _ hb (k1 _ _ _ hb hu))
        have H6 := Lib.hid (var4_set R5 (.slice a2 n2 c2) (.slice a3 n3 c3) (.int .i64 D) (.slice r5 l f5))
        have HZ1 := Lib.hid hZ1
        have HZ2 := Lib.hid hZ2
        have HB2 := Lib.hid B2
        have kq : ∀ (b o : Nat) (u : Value), (b ≠ w.heap.size ∧ b ≠ w.heap.size + 1) → w3.cell? ⟨b, o, none⟩ = some u → ((((Z2.setCell ⟨w.heap.size + 1, 0, none⟩ (.slice a2 n2 c2)).setCell ⟨w.heap.size + 1, 1, none⟩ (.slice a3 n3 c3)).setCell ⟨w.heap.size + 1, 2, none⟩ (.int .i64 D)).setCell ⟨w.heap.size + 1, 3, none⟩ (.slice r5 l f5)).cell? ⟨b, o, none⟩ = some u := fun b o u hq hu =>
          keep_set (Q := fun b => b ≠ w.heap.size + 1) (fun _ h => h) _ _ _ hq.2 (keep_set (Q := fun b => b ≠ w.heap.size + 1) (fun _ h => h) _ _ _ hq.2 (keep_set (Q := fun b => b ≠ w.heap.size + 1) (fun _ h => h) _ _ _ hq.2 (keep_set (Q := fun b => b ≠ w.heap.size + 1) (fun _ h => h) _ _ _ hq.2 (k2 _ _ _ hq.1 hu))))
        have V1 := Lib.hid (slP_mono (fun b h => h.1) (slP_keep (fun b o u hq hu => kq b o u hq.2 hu) (slPB hb3 (slP_mono (Q' := fun b => Q b ∧ b ≠ w.heap.size ∧ b ≠ w.heap.size + 1) (fun b h => ⟨h.elim (fun h => h.2) (fun h => hQQ b (by omega)), by omega, by omega⟩) u1))))
        have V2 := Lib.hid (slP_mono (fun b h => h.1) (slP_keep (fun b o u hq hu => kq b o u hq.2 hu) (slPB hb3 (slP_mono (Q' := fun b => Q b ∧ b ≠ w.heap.size ∧ b ≠ w.heap.size + 1) (fun b h => ⟨h.elim (fun h => h.2) (fun h => hQQ b (by omega)), by omega, by omega⟩) u2))))
        have V3 := Lib.hid (blP_mono (fun b h => h.1) (blP_keep (fun b o u hq hu => kq b o u hq.2 hu) u5))
        obtain ⟨⟨y0, y1, y2, y3⟩, y4, y5, y6, y7⟩ := X3
        clear kq k1 k2 B1 B2 hZ1 hZ2 u1 u2 u5 hb3 R3 R4 m0 m1 x0 x1 x2 x3 h0 h1 h2 h3 hbx
        go_upto_region 8 with fail
        rw [← HZ1.out]
        clear y0 y1 y2 y3 y4 y5 y6 y7
        obtain ⟨⟨y0, y1, y2, y3⟩, y4, y5, y6, y7⟩ := X4
        go_upto_region 9 with fail
        rw [← HZ2.out]
        clear y0 y1 y2 y3 y4 y5 y6 y7 m0' m1'
        obtain ⟨⟨y0, y1, y2, y3⟩, -⟩ := X5
        obtain ⟨⟨s0, s1, s2, s3⟩, t0, t1, t2, t3⟩ := R5
        go_wp2
        refine bp_cell_tmp ⟨w.heap.size + 1, 0, none⟩ rfl rfl rfl (load_tso' _ _ _ _ _ _ H6.out.1.1 H6.out.1.2.1 H6.out.1.2.2.1 H6.out.1.2.2.2) ?_
        have hbf := below_set4 (g := w.heap.size + 1) HB2.out (by omega) (.slice a2 n2 c2) (.slice a3 n3 c3) (.int .i64 D) (.slice r5 l f5)
        refine refTQ_yes HES.out ?_ ?_ ?_ hbf
        · rw [← HTS.out]; exact V1.out
        · have := V2.out; rw [HTT.out] at this; exact this
        · rw [HTB.out]; exact V3.out
      · have q1 : (ev != 0) = true := by simpa using he
        have HEN := Lib.hid he
        have HZ := Lib.hid (var4_set RX (.slice none 0 0) (.slice none 0 0) (.int .i64 0) (.slice none 0 0))
        obtain ⟨⟨s0, s1, s2, s3⟩, t0, t1, t2, t3⟩ := RX
        clear he XX BX u1 u2 m0 m1 hbx
        go_wp2
        refine bp_cell_tmp ⟨w.heap.size + 1, 0, none⟩ rfl rfl rfl (load_tso' _ _ _ _ _ _ HZ.out.1.1 HZ.out.1.2.1 HZ.out.1.2.2.1 HZ.out.1.2.2.2) ?_
        rw [HES.out]
        exact refTQ_no HEN.out (below_set4 (g := w.heap.size + 1) HBX.out (by omega) _ _ _ _)
end Go.Proofs.YtiebaeaomgpicaaGreat
