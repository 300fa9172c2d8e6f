/- Contracts of the document's own answers of layer 3 (package respiteref03): New, its buffers in new blocks. -/
import Derived.Test.YtiebaeaomgpicaaGreatMR
namespace Go.Proofs.YtiebaeaomgpicaaGreat
open Go.ChangeShapes Go.WideShapes Go.ChangeAt Go.RowKit

def RefNewF (a a' : Option Addr) (n c n' c' : Nat) (D : Int) (k : Nat) (bs : List (List (Int × Int))) (w : World) (e : Ending) (w' : World) : Prop :=
  ∃ q d, e = .returned (.agg #[.slice a n c, .slice a' n' c', .int .i64 D, .slice q k d]) ∧ BlP (fun b => w.heap.size ≤ b) w' q k bs ∧ Below w.heap.size w w'
theorem bvals_none {Q : Nat → Prop} {w w' : World} {vs : List Value} {bs : List (List (Int × Int))} (h : BVals w vs bs) (h0 : ∀ x ∈ bs, x = []) : BValsQ Q w' vs bs :=
  ⟨h.1, fun i hi => by
    obtain ⟨q, c, h1, h2, _⟩ := h.2 i hi
    have e : bs.getD i [] = [] := by
      rw [List.getD_eq_getElem?_getD, List.getElem?_eq_getElem hi]; exact h0 _ (List.getElem_mem hi)
    rw [e] at h1 h2 ⊢
    exact ⟨q, c, h1, h2, rfl, .inl rfl⟩⟩
set_option maxRecDepth 100000 in
set_option maxHeartbeats 4000000 in
theorem refNewTF_any (a a' : Option Addr) (n c n' c' k : Nat) (D : Int) (w : World) (hk8 : k ≤ 8) :
    Calls Tryz.prog 45 #[.agg #[.slice a n c, .slice a' n' c'], .int .i64 k, .int .i64 D] w (RefNewF a a' n c n' c' D k (List.replicate k []) w) := by
  obtain ⟨i0, hi, hz0, hz1, hz2⟩ := info_parts Tryz.info67
  have HI := Lib.hid (And.intro hi (And.intro hz0 (And.intro hz1 hz2)))
  clear hi hz0 hz1 hz2
  go_enter Tryz.func45, Tryz.ntmps45
  go_upto_region 2 with fail
  obtain ⟨W, hW⟩ : ∃ W, W = ((w.alloc (Obj.cells #[.slice a n c, .slice a' n' c'] 43)).alloc (Obj.cells #[.slice none 0 0, .slice none 0 0, .int .i64 0, .slice none 0 0] 46)).alloc (Obj.cells #[.slice a n c, .slice a' n' c', .int .i64 D, .slice none 0 0] 46) := ⟨_, rfl⟩
  have b0 : Below w.heap.size w W := by rw [hW]; go_grown
  have R0 : Var4 W (w.heap.size + 1) (.slice none 0 0) (.slice none 0 0) (.int .i64 0) (.slice none 0 0) := by rw [hW]; exact var4_A _ (var4_new _ (by simp))
  have X0 : Var4 W (w.heap.size + 1 + 1) (.slice a n c) (.slice a' n' c') (.int .i64 D) (.slice none 0 0) := by rw [hW]; exact var4_new _ (by simp)
  rw [← hW]
  have hWs : w.heap.size + 1 + 1 < W.heap.size := var4_lt X0
  have HB0 := Lib.hid b0
  have HR0 := Lib.hid R0
  have HX0 := Lib.hid X0
  clear hW b0 R0 X0
  go_wp2_with fail
  go_loopw [8] (fun i wr => ∃ (j : Nat) (v : Value) (vs : List Value), j ≤ k ∧ i = .int .i64 j ∧ Hid (wr.ownsRow (w.heap.size + 1 + 1 + 1) 67 1 v j vs) ∧ Hid (BVals w vs (List.replicate j [])) ∧ Hid (Var4 wr (w.heap.size + 1 + 1) (.slice a n c) (.slice a' n' c') (.int .i64 D) v) ∧ Hid (Var4 wr (w.heap.size + 1) (.slice none 0 0) (.slice none 0 0) (.int .i64 0) (.slice none 0 0)) ∧ Below w.heap.size w wr) (fun i _ => k - (intOf i).toNat)
  case atStart => exact ⟨0, _, [], by omega, rfl, World.ownsRow_nil _ _ _ _, bvals_nil w, HX0.out, HR0.out, HB0.out⟩
  case round =>
    obtain ⟨j, v, vs, hj, rfl, ho, hv, hx, hr, hb⟩ := hrel
    by_cases hlt : j < k
    · obtain ⟨va, vc, rfl⟩ := own_shapeT ho.out
      have HB := Lib.hid hb
      have hsx := var4_lt hx.out
      obtain ⟨⟨x0, x1, x2, x3⟩, y0, y1, y2, y3⟩ := id hx.out
      clear hb
      go_wp2_with (at_builtin; refine wpList_append_own_at _ rfl _ _ 44 rfl (w.heap.size + 1 + 1 + 1) 67 i0 (.slice none 0 0) 1 24 Tryz.underlying44 HI.out.1 HI.out.2.1 HI.out.2.2.1 HI.out.2.2.2 rfl (by decide) _ _ _ rfl (ho.out.alloc _) ⟨wr.heap.size, 0, none⟩ 1 1 [.slice none 0 0] rfl rfl ?c1 ?c2 ?c3 ?c4 ?c5 ?_)
      case c1 => exact cell_one_new _ _ _
      case c2 => intro x hx; simp at hx; subst hx; rfl
      case c3 => unfold maxLen; omega
      case c4 => omega
      case c5 => simp; omega
      intro v' w1 hown hgrow _ _
      obtain ⟨v2, c2, rfl⟩ := own_shapeT hown
      have hB : Below (w.heap.size + 1 + 1 + 1) wr w1 := mine_below ((Below.refl _ _).alloc (by omega) _) (by simp; omega) hgrow ho.out
      have X1 := var4_low hB (Nat.lt_succ_self _) hx.out
      obtain ⟨⟨z0, z1, z2, z3⟩, f0, f1, f2, f3⟩ := id X1
      have HX1 := Lib.hid X1
      have HOW := Lib.hid hown
      have HBB := Lib.hid hB
      clear X1 hown hgrow hB x0 x1 x2 x3 y0 y1 y2 y3
      go_wp2_with fail
      go_roundw
      case rel =>
        refine ⟨j + 1, _, _, by omega, by go_num, ownsRow_setCell_below HOW.out (by simp) _, ?_, var4_set3 HX1.out _, var4_other (var4_low HBB.out (by omega) hr.out) (by omega) _, ((HB.out.trans (HBB.out.mono (by omega))).setCell (by simp; omega) _)⟩
        rw [List.replicate_succ']
        exact bvals_snoc hv.out capOk_nil (pl_nil w)
      case measure => simp [intOf]; omega
    · obtain rfl : j = k := by omega
      obtain ⟨va, vc, rfl⟩ := own_shapeT ho.out
      have HB := Lib.hid hb
      have HF := Lib.hid (var4_set hr.out (.slice a n c) (.slice a' n' c') (.int .i64 D) (.slice va j vc))
      obtain ⟨⟨x0, x1, x2, x3⟩, -⟩ := id hx.out
      obtain ⟨⟨r0, r1, r2, r3⟩, f0, f1, f2, f3⟩ := id hr.out
      clear hb
      go_wp2
      refine bp_cell ⟨w.heap.size + 1, 0, none⟩ rfl rfl rfl (load_tso' _ _ _ _ _ _ HF.out.1.1 HF.out.1.2.1 HF.out.1.2.2.1 HF.out.1.2.2.2) ?_
      have hbf := below_set4 (g := w.heap.size + 1) HB.out (by omega) (.slice a n c) (.slice a' n' c') (.int .i64 D) (.slice va j vc)
      obtain ⟨z1, z2, e, -, hbl⟩ := ownsRow_blQ (Q := fun b => w.heap.size ≤ b) (ownsRow_setCell_below (ownsRow_setCell_below (ownsRow_setCell_below (ownsRow_setCell_below ho.out (a := ⟨w.heap.size + 1, 0, none⟩) (by simp) (.slice a n c)) (a := ⟨w.heap.size + 1, 1, none⟩) (by simp) (.slice a' n' c')) (a := ⟨w.heap.size + 1, 2, none⟩) (by simp) (.int .i64 D)) (a := ⟨w.heap.size + 1, 3, none⟩) (by simp) (.slice va j vc)) (bvals_none hv.out (fun x hx => (List.mem_replicate.1 hx).2)) (fun b h => by omega)
      cases e
      exact ⟨_, _, rfl, hbl, hbf⟩
end Go.Proofs.YtiebaeaomgpicaaGreat
