/- Contracts of the document's own answers of layer 3 (package respiteref03): Drop, Flush. -/
import Derived.Test.YtbcbagoogdfciaaRefW
namespace Go.Proofs.Ytbcbagoogdfciaa
open Go.ChangeShapes Go.WideShapes Go.ChangeAt Go.RowKit

theorem blP_lt {Q : Nat → Prop} {w : World} {a : Option Addr} {n : Nat} {bs : List (List (Int × Int))} (h : BlP Q w a n bs) : BlP (fun b => Q b ∧ b < w.heap.size) w a n bs := by
  refine ⟨h.1, ?_⟩
  by_cases h0 : n = 0
  · exact .inl h0
  · obtain ⟨b, o, e, hq, r⟩ := h.2.resolve_left h0
    obtain ⟨q, c, h1, _⟩ := r 0 (by have := h.1; omega)
    refine .inr ⟨b, o, e, ⟨hq, cell_lt h1⟩, fun i hi => ?_⟩
    obtain ⟨q', c', k1, k2, k3⟩ := r i hi
    refine ⟨q', c', k1, k2, k3.1, ?_⟩
    by_cases hz : (bs.getD i []).length = 0
    · exact .inl hz
    · obtain ⟨b2, o2, e2, hq2, r2⟩ := k3.2.resolve_left hz
      exact .inr ⟨b2, o2, e2, ⟨hq2, cell_lt (r2 0 (by omega)).1⟩, r2⟩

set_option maxRecDepth 100000 in
set_option maxHeartbeats 8000000 in
theorem refDropT_any (a a' q : Option Addr) (n c n' c' l d : Nat) (D : Int) (bs : List (List (Int × Int))) (j : Nat) (w : World) (Q : Nat → Prop) (S : BlP Q w q l bs) (hjl : j < l) (hl8 : l ≤ 8) (hb8 : (bs.getD j []).length ≤ 8) (hQ : ∀ b, w.heap.size ≤ b → Q b) :
    Calls Try.prog 42 #[.agg #[.slice a n c, .slice a' n' c', .int .i64 D, .slice q l d], .int .i64 j] w (fun e w' => ∃ r f, e = .returned (.agg #[.slice a n c, .slice a' n' c', .int .i64 D, .slice r l f]) ∧ BlP Q w' r l (bs.set j (restP (bs.getD j []))) ∧ Below w.heap.size w w') := by
  have Hl := Lib.hid S.1
  have i1 : (0 : Int) ≤ j := by omega
  have i2 : (j : Int) < l := by omega
  have BQ := blP_mono (Q' := fun b => Q b ∧ b ≠ w.heap.size ∧ b ≠ w.heap.size + 1) (fun b h => ⟨h.1, by omega, by omega⟩) (blP_lt S)
  obtain ⟨W, hW⟩ : ∃ W, W = (w.alloc (Obj.cells #[.slice a n c, .slice a' n' c', .int .i64 D, .slice q l d] 27)).alloc (Obj.cells #[.slice none 0 0, .slice none 0 0, .int .i64 0, .slice none 0 0] 27) := ⟨_, rfl⟩
  have b0 : Below w.heap.size w W := by rw [hW]; go_grown
  have X : Var4 W w.heap.size (.slice a n c) (.slice a' n' c') (.int .i64 D) (.slice q l d) := by rw [hW]; exact var4_A _ (var4_new _ rfl)
  have R : Var4 W (w.heap.size + 1) (.slice none 0 0) (.slice none 0 0) (.int .i64 0) (.slice none 0 0) := by rw [hW]; exact var4_new _ (by simp)
  replace BQ := blPB b0 BQ
  have hz := var4_lt R
  obtain ⟨b, o, y, yc, rfl, k0, hcap, hp⟩ := blP_at BQ hjl
  obtain ⟨ps, hps⟩ : ∃ ps, bs.getD j [] = ps := ⟨_, rfl⟩
  rw [hps] at k0 hp hcap hb8
  have HPS := Lib.hid hps
  obtain ⟨m, hm⟩ : ∃ m, ps.length = m := ⟨_, rfl⟩
  rw [hm] at k0 hp hcap hb8
  have HQ := Lib.hid hQ
  have HBQ := Lib.hid BQ
  have HX := Lib.hid X
  have HRR := Lib.hid R
  have HB := Lib.hid b0
  have HW := Lib.hid hW
  have HP := Lib.hid hp
  clear hps hm hcap hQ BQ S b0 hW hp
  go_enter Try.func42, Try.ntmps42
  go_upto_region 1 with fail
  rw [← HW.out]
  obtain ⟨⟨x0, x1, x2, x3⟩, g0, g1, g2, g3⟩ := X
  clear R
  have hB0 : Below W.heap.size W W.drew := (Below.refl _ _).drew
  go_region_with (first | (go_at_call 54; refine (refRest_any y m yc ps _ (plB (by assumption) HP.out.pl) (by omega)).mono ?_; rintro e wx ⟨r, rc, rfl, hrc, u0, hbx⟩; have x3' := cellB hbx x3; have hbx' := below_from (by assumption) hbx; have g3' := frozenB hbx x3 g3; have hzx : W.heap.size ≤ wx.heap.size := hbx.size) | (go_at_call 40; refine (refWithT_any (some ⟨b, o, none⟩) l d bs j r (restP ps).length rc (restP ps) _ (fun b => Q b ∧ b ≠ w.heap.size ∧ b ≠ w.heap.size + 1) (blPB hbx' HBQ.out) hl8 (plQ_F (F := W.heap.size) (fun z h1 h2 => ⟨HQ.out z (by omega), by omega, by omega⟩) u0) hrc (fun z h => ⟨HQ.out z (by omega), by omega, by omega⟩)).mono ?_; rintro e wy ⟨r5, f5, rfl, u5, hby⟩; have x3'' := cellB hby x3'; have g3'' := frozenB hby x3' g3'; have hby' := below_from hbx' hby))
  all_goals
    have X1 := var4_set3 (var4_B hby (var4_B hbx' HX.out)) (.slice r5 l f5)
    have R1 := var4_other (o := 3) (var4_B hby (var4_B hbx' HRR.out)) (show w.heap.size ≠ w.heap.size + 1 by omega) (.slice r5 l f5)
    have hbf1 : Below w.heap.size w (wy.setCell ⟨w.heap.size, 3, none⟩ (.slice r5 l f5)) := (below_from HB.out hby').setCell (Nat.le_refl _) _
    have HF1 := Lib.hid hbf1
    have U5 := Lib.hid (blP_keep (keep_set (p := ⟨w.heap.size, 3, none⟩) (x := .slice r5 l f5) (fun b h => h.2.1)) u5)
    have H4 := Lib.hid (var4_set R1 (.slice a n c) (.slice a' n' c') (.int .i64 D) (.slice r5 l f5))
    obtain ⟨⟨z0, z1, z2, z3⟩, -⟩ := X1
    obtain ⟨⟨s0, s1, s2, s3⟩, t0, t1, t2, t3⟩ := R1
    clear hbf1 u0 u5 hby hby' hbx hbx' hB0 x0 x1 x2 x3 x3' x3'' g0 g1 g2 g3 g3' g3'' hrc
    go_wp2
    refine bp_cell ⟨w.heap.size + 1, 0, none⟩ rfl rfl rfl (load_tso' _ _ _ _ _ _ H4.out.1.1 H4.out.1.2.1 H4.out.1.2.2.1 H4.out.1.2.2.2) ?_
    have hbf := below_set4 (g := w.heap.size + 1) HF1.out (by omega) (.slice a n c) (.slice a' n' c') (.int .i64 D) (.slice r5 l f5)
    refine ⟨_, _, rfl, ?_, hbf⟩
    rw [HPS.out, ← withBs_all Hl.out]
    exact blP_mono (fun b h => h.1) (blP_keep (keep_set (p := ⟨w.heap.size + 1, 3, none⟩) (fun b h => h.2.2)) (blP_keep (keep_set (p := ⟨w.heap.size + 1, 2, none⟩) (fun b h => h.2.2)) (blP_keep (keep_set (p := ⟨w.heap.size + 1, 1, none⟩) (fun b h => h.2.2)) (blP_keep (keep_set (p := ⟨w.heap.size + 1, 0, none⟩) (fun b h => h.2.2)) U5.out))))
end Go.Proofs.Ytbcbagoogdfciaa
