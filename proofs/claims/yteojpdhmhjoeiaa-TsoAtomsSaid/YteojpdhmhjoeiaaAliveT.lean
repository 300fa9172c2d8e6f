/- Contracts of layer 3's own small functions: alive. -/
import Derived.Test.YteojpdhmhjoeiaaLawT
import Derived.Test.YteojpdhmhjoeiaaMathO
namespace Go.Proofs.Yteojpdhmhjoeiaa
open Go.ChangeShapes Go.WideShapes Go.ChangeAt Go.RowKit

theorem keep_set4 {F g : Nat} {w : World} {x y z u : Value} (hg : g < F) : ∀ (b o : Nat) (v : Value), F ≤ b → w.cell? ⟨b, o, none⟩ = some v → ((((w.setCell ⟨g, 0, none⟩ x).setCell ⟨g, 1, none⟩ y).setCell ⟨g, 2, none⟩ z).setCell ⟨g, 3, none⟩ u).cell? ⟨b, o, none⟩ = some v := by
  intro b o v hq hv
  have ne : ∀ j, (⟨g, j, none⟩ : Addr) ≠ ⟨b, o, none⟩ := fun j e => by have h := congrArg Addr.block e; dsimp only at h; omega
  rw [World.cell?_setCell_other _ _ _ _ (ne _), World.cell?_setCell_other _ _ _ _ (ne _), World.cell?_setCell_other _ _ _ _ (ne _), World.cell?_setCell_other _ _ _ _ (ne _)]
  exact hv

theorem sl_one {w : World} {b : Nat} {z : Int} (h : w.cell? ⟨b, 0, none⟩ = some (.int .i64 z)) : Sl w (some ⟨b, 0, none⟩) 1 [z] := by
  refine ⟨rfl, .inr ⟨b, 0, rfl, fun i hi => ?_⟩⟩
  have : i = 0 := by simpa using hi
  subst this
  exact h

set_option maxRecDepth 100000 in
set_option maxHeartbeats 8000000 in
theorem alive3_any (w : World) : Calls Try.prog 11 #[] w fun e w' => e = .returned (.bool true) ∧ Below w.heap.size w w' := by
  have hmk : (newTE [4] [1] 2 1 = 0 ∧ newTW [4] [1] 2 1 = [4] ∧ newTT [4] [1] 2 1 = [1] ∧ newTD [4] [1] 2 1 = 1 ∧ newTB [4] [1] 2 1 = [[], []]) := by decide
  have hst : storeTE [4] [1] 1 [[], []] 0 0 = 0 ∧ storeTW [4] 1 0 5 = [4] ∧ storeTB 1 [[], []] 0 0 5 = [[(0, 5)], []] := by decide
  have hl0 : loadTE [4] [1] 1 [[(0, 5)], []] 0 0 = 0 ∧ loadT [4] [1] 1 [[(0, 5)], []] 0 0 = 5 := by decide
  have hl1 : loadTE [4] [1] 1 [[(0, 5)], []] 1 0 = 0 ∧ loadT [4] [1] 1 [[(0, 5)], []] 1 0 = 4 := by decide
  have HMK := Lib.hid hmk
  have HST := Lib.hid hst
  have HL0 := Lib.hid hl0
  have HL1 := Lib.hid hl1
  clear hmk hst hl0 hl1
  go_enter Try.func11, Try.ntmps11
  go_wp2_with fail
  refine (tsoNew_any (some ⟨w.heap.size, 0, none⟩) (some ⟨w.heap.size + 1, 0, none⟩) 1 1 1 1 [4] [1] 2 1 _ (sl_one (cellA _ (cellA _ (cell_new _ _ _ rfl rfl)))) (sl_one (cellA _ (cell_new _ _ _ (by simp) rfl)))).mono ?_
  rintro e w1 ⟨a, n, c, a', n', c', q, l, d, rfl, u1, u2, u3, hb1⟩
  rw [HMK.out.2.1] at u1
  rw [HMK.out.2.2.1] at u2
  rw [HMK.out.2.2.2.2] at u3
  rw [HMK.out.2.2.2.1, HMK.out.1]
  have HB1 := Lib.hid (below_from (by go_grown) hb1 : Below w.heap.size w w1)
  clear hb1
  go_wp2_with fail
  refine (tsoStore_any a a' q n c n' c' l d [4] [1] 1 [[], []] 0 0 5 _ (slA _ u1.sl) (slA _ u2.sl) (blA _ u3.bl) (by decide)).mono ?_
  rintro e w2 ⟨a2, n2, c2, a3, n3, c3, q2, l2, d2, rfl, v1, v2, v3, hb2⟩
  rw [HST.out.1] at v1 v2 v3 ⊢
  rw [okL_pos rfl, HST.out.2.1] at v1
  rw [okL_pos rfl] at v2
  rw [okL_pos rfl, HST.out.2.2] at v3
  rw [okZ_pos rfl]
  have X := var4_B hb2 (var4_new w1.heap.size rfl)
  have hF : ∀ b, (w1.alloc (Obj.cells #[.slice a n c, .slice a' n' c', .int .i64 1, .slice q l d] 27)).heap.size ≤ b → w1.heap.size + 1 ≤ b := fun b h => by simpa using h
  obtain ⟨W, hW⟩ : ∃ W, W = (((w2.setCell ⟨w1.heap.size, 0, none⟩ (.slice a2 n2 c2)).setCell ⟨w1.heap.size, 1, none⟩ (.slice a3 n3 c3)).setCell ⟨w1.heap.size, 2, none⟩ (.int .i64 1)).setCell ⟨w1.heap.size, 3, none⟩ (.slice q2 l2 d2) := ⟨_, rfl⟩
  have T1 : SlP (fun b => w1.heap.size + 1 ≤ b) W a2 n2 [4] := by rw [hW]; exact slP_keep (keep_set4 (Nat.lt_succ_self _)) (slP_slF hF v1)
  have T2 : SlP (fun b => w1.heap.size + 1 ≤ b) W a3 n3 [1] := by rw [hW]; exact slP_keep (keep_set4 (Nat.lt_succ_self _)) (slP_slF hF v2)
  have T : BlP (fun b => w1.heap.size + 1 ≤ b) W q2 l2 [[(0, 5)], []] := by rw [hW]; exact blP_keep (keep_set4 (Nat.lt_succ_self _)) (blP_mono hF v3)
  have Y : Var4 W w1.heap.size (.slice a2 n2 c2) (.slice a3 n3 c3) (.int .i64 1) (.slice q2 l2 d2) := by rw [hW]; exact var4_set X _ _ _ _
  have HB2 := Lib.hid (show Below w.heap.size w W by rw [hW]; exact below_set4 (below_from (HB1.out.alloc HB1.out.size _) hb2) HB1.out.size _ _ _ _)
  obtain ⟨⟨x0, x1, x2, x3⟩, f0, f1, f2, f3⟩ := X
  have HW := Lib.hid hW
  clear hb2 v1 v2 v3 u1 u2 u3 hF hW
  go_upto_region 4 with fail
  rw [← HW.out]
  clear x0 x1 x2 x3 f0 f1 f2 f3
  obtain ⟨⟨y0, y1, y2, y3⟩, -⟩ := Y
  go_wp2_with fail
  refine (tsoLoad_any a2 a3 q2 n2 c2 n3 c3 l2 d2 [4] [1] 1 [[(0, 5)], []] 0 0 _ T1.sl T2.sl T.bl (by decide)).mono ?_
  rintro e w3 ⟨rfl, hb3⟩
  rw [HL0.out.1, HL0.out.2]
  replace T1 := slPB hb3 T1
  replace T2 := slPB hb3 T2
  replace T := blPB hb3 T
  replace y0 := cellB hb3 y0
  replace y1 := cellB hb3 y1
  replace y2 := cellB hb3 y2
  replace y3 := cellB hb3 y3
  have HB3 := Lib.hid (below_from HB2.out hb3)
  clear hb3
  go_wp2_with fail
  refine (tsoLoad_any a2 a3 q2 n2 c2 n3 c3 l2 d2 [4] [1] 1 [[(0, 5)], []] 1 0 _ T1.sl T2.sl T.bl (by decide)).mono ?_
  rintro e w4 ⟨rfl, hb4⟩
  rw [HL1.out.1, HL1.out.2]
  have HB4 := Lib.hid (below_from HB3.out hb4)
  clear hb4 T1 T2 T y0 y1 y2 y3
  go_wp2
  go_ret
  exact ⟨rfl, HB4.out⟩
end Go.Proofs.Yteojpdhmhjoeiaa
