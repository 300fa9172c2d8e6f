/- Package tso's Locked: its last statement but one, whose order is open. -/
import Derived.Test.YtiebaeaomgpicaaGreatM8
namespace Go.Proofs.YtiebaeaomgpicaaGreat
open Go.ChangeShapes Go.WideShapes Go.ChangeAt Go.RowKit

attribute [local go_sem] store_func
attribute [local go_sem ↓] Go.wp_at_zero Go.wp_at_succ
noncomputable def lockCode9 : Code := ((Tryz.f36.body.bind (findRegion 9)).getD .skip)

set_option maxRecDepth 100000 in
set_option maxHeartbeats 12000000 in
theorem lock_reg9 (a a' : Option Addr) (b o n c n' c' l d : Nat) (ws ts us : List Int) (D : Int) (bs : List (List (Int × Int))) (j gx go F : Nat) (x y z lv nv : Int) (v0 v1 v6 v7 v8 v9 v10 v11 v12 v13 v14 v18 v19 v20 v21 v22 v23 v24 v25 v26 v27 v28 v29 v30 v31 v32 v33 v34 v35 v36 v37 v38 v39 v40 v41 v42 v43 v44 v45 v46 v47 v48 v49 v50 v51 v52 v53 v54 v55 v56 v57 v58 v59 v60 v61 v62 v63 v64 v65 v66 v67 v68 v69 v70 v71 v72 v73 v74 v75 : Value) (W2 : World) (Q : Exit → Act → World → Prop)
    (HX : Hid (Var4 W2 gx (.slice a n c) (.slice a' n' c') (.int .i64 D) (.slice (some ⟨b, o, none⟩) l d))) (T1 : Sl W2 a n ws) (T2 : Sl W2 a' n' ts) (T : Bl W2 (some ⟨b, o, none⟩) l bs)
    (HM : Hid (mayT ws ts D bs = true)) (HWX : Hid ((Lit.int .i64 x).wf = true)) (HU : Hid (usableZ ws ts x = 0)) (HUS : Hid (ws.set x.toNat nv = us)) (HNV : Hid (lockV j lv y z = nv))
    (HC : Hid (∀ (word a b : Int) (w : World), Calls Tryz.prog F #[.int .i64 word, .int .i64 a, .int .i64 b] w (FunPost (lockV j word a b) w)))
    (HFF : Hid (F = 94 ∨ F = 95 ∨ F = 96)) (KF : Hid (W2.cell? ⟨go, j, none⟩ = some (.func (.func F) #[] #[]))) (i3 : (0 : Int) ≤ j) (i4 : (j : Int) < 3)
    (hend : ∀ listed a1 w1, LockInv9 a a' (some ⟨b, o, none⟩) n c n' c' l d ws ts us D bs j go F x y z lv nv ⟨#[v0, v1, .int .i64 (j : Int), .int .i64 x, .int .i64 y, .int .i64 z, v6, v7, v8, v9, v10, v11, v12, v13, v14, .pointer (some ⟨gx, 0, none⟩), .pointer (some ⟨go, 0, none⟩), .int .i64 lv, v18, v19, v20, v21, v22, v23, v24, v25, v26, v27, v28, v29, v30, v31, v32, v33, v34, v35, v36, v37, v38, v39, v40, v41, v42, v43, v44, v45, v46, v47, v48, v49, v50, v51, v52, v53, v54, v55, v56, v57, v58, v59, v60, v61, v62, v63, v64, v65, v66, v67, v68, v69, v70, v71, v72, v73, v74, v75], []⟩ W2 listed a1 w1 → (∀ i, Up listed i) → Q .normal a1 w1) :
    Code.wp Tryz.prog lockCode9 Q ⟨#[v0, v1, .int .i64 (j : Int), .int .i64 x, .int .i64 y, .int .i64 z, v6, v7, v8, v9, v10, v11, v12, v13, v14, .pointer (some ⟨gx, 0, none⟩), .pointer (some ⟨go, 0, none⟩), .int .i64 lv, v18, v19, v20, v21, v22, v23, v24, v25, v26, v27, v28, v29, v30, v31, v32, v33, v34, v35, v36, v37, v38, v39, v40, v41, v42, v43, v44, v45, v46, v47, v48, v49, v50, v51, v52, v53, v54, v55, v56, v57, v58, v59, v60, v61, v62, v63, v64, v65, v66, v67, v68, v69, v70, v71, v72, v73, v74, v75], []⟩ W2 := by
  conv => arg 2; whnf
  refine wp_region_inv (LockInv9 a a' (some ⟨b, o, none⟩) n c n' c' l d ws ts us D bs j go F x y z lv nv) (by kernel_rfl) (by kernel_rfl) ?_ ?_ hend
  · intro listed hl
    exact .mk v58 v59 v60 v61 v62 v63 v64 v65 v66 v67 v68 v69 v70 v57 v71 v72 v19 v18 none 0 0 none 0 0 0 0 none 0 0 none 0 0 0 .nilFunc .nilFunc .nilFunc .nilFunc (by simp only [Act.put, List.setIfInBounds_toArray, List.set_cons_zero, List.set_cons_succ]) (Below.refl _ _).drew (fun h => absurd h (hl 0 (by decide))) (fun h => absurd h (hl 1 (by decide))) (fun h => absurd h (hl 2 (by decide))) (fun h => absurd h (hl 3 (by decide))) (fun h => absurd h (hl 4 (by decide))) (fun h => absurd h (hl 5 (by decide))) (fun h => absurd h (hl 6 (by decide))) (fun h => absurd h (hl 7 (by decide))) (fun h => absurd h (hl 8 (by decide))) (fun h => absurd h (hl 9 (by decide))) (fun h => absurd h (hl 10 (by decide))) (fun h => absurd h (hl 11 (by decide))) (fun h => absurd h (hl 12 (by decide))) (fun h => absurd h (hl 13 (by decide))) (fun h => absurd h (hl 13 (by decide))) (fun h => absurd h (hl 14 (by decide))) (fun h => absurd h (hl 14 (by decide))) (fun h => absurd h (hl 15 (by decide))) (fun h => absurd h (hl 16 (by decide))) (fun h => absurd h (hl 17 (by decide))) (fun h => absurd h (hl 18 (by decide)))
  · show StepsL _ _ _ _ _ _ _
    refine StepsL.cons (k := 0) rfl (fun listed a1 w1 hI hn hw K hK => ?_) ?_
    · cases hI with | mk p58 p59 p60 p61 p62 p63 p64 p65 p66 p67 p68 p69 p70 p57 p71 p72 p19 p18 p m e1 p' m' e2 g l2 p3 m3 e3 p4 m4 e4 v x0 x1 x2 x3 ea hb hf0 hC hf2 hf3 hf4 hf5 hf6 hf7 hf8 hf9 hf10 hf11 hS hf13 hW13 hf14 hW14 hf15 hA hT hf18 =>
        obtain ⟨⟨k0, k1, k2, k3⟩, -⟩ := var4_B hb HX.out
        have Hhf0 := Lib.hid hf0
        have HhC := Lib.hid hC
        have Hhf2 := Lib.hid hf2
        have Hhf3 := Lib.hid hf3
        have Hhf4 := Lib.hid hf4
        have Hhf5 := Lib.hid hf5
        have Hhf6 := Lib.hid hf6
        have Hhf7 := Lib.hid hf7
        have Hhf8 := Lib.hid hf8
        have Hhf9 := Lib.hid hf9
        have Hhf10 := Lib.hid hf10
        have Hhf11 := Lib.hid hf11
        have HhS := Lib.hid hS
        have Hhf13 := Lib.hid hf13
        have HhW13 := Lib.hid hW13
        have Hhf14 := Lib.hid hf14
        have HhW14 := Lib.hid hW14
        have Hhf15 := Lib.hid hf15
        have HhA := Lib.hid hA
        have HhT := Lib.hid hT
        have Hhf18 := Lib.hid hf18
        have Hhb := Lib.hid hb
        have Hhw := Lib.hid hw
        clear hf0 hC hf2 hf3 hf4 hf5 hf6 hf7 hf8 hf9 hf10 hf11 hS hf13 hW13 hf14 hW14 hf15 hA hT hf18 hb hw
        rw [ea]
        clear ea
        simp only [Act.put, List.setIfInBounds_toArray, List.set_cons_zero, List.set_cons_succ]
        go_simp
        have hf0 := Hhf0.out
        have hC := HhC.out
        have hf2 := Hhf2.out
        have hf3 := Hhf3.out
        have hf4 := Hhf4.out
        have hf5 := Hhf5.out
        have hf6 := Hhf6.out
        have hf7 := Hhf7.out
        have hf8 := Hhf8.out
        have hf9 := Hhf9.out
        have hf10 := Hhf10.out
        have hf11 := Hhf11.out
        have hS := HhS.out
        have hf13 := Hhf13.out
        have hW13 := HhW13.out
        have hf14 := Hhf14.out
        have hW14 := HhW14.out
        have hf15 := Hhf15.out
        have hA := HhA.out
        have hT := HhT.out
        have hf18 := Hhf18.out
        have hb := Hhb.out
        have hw := Hhw.out
        refine hK.out _ _ ?_
        exact .mk (.agg #[.slice a n c, .slice a' n' c', .int .i64 D, .slice (some ⟨b, o, none⟩) l d]) p59 p60 p61 p62 p63 p64 p65 p66 p67 p68 p69 p70 p57 p71 p72 p19 p18 p m e1 p' m' e2 g l2 p3 m3 e3 p4 m4 e4 v x0 x1 x2 x3 (by simp only [Act.put, List.setIfInBounds_toArray, List.set_cons_zero, List.set_cons_succ]) (hb) (fun _ => rfl) (fun h => ⟨(hC (up_back h (by decide))).1, slP_mono (fun b hq => ⟨hq.1, fun hu => hq.2 (up_back hu (by decide))⟩) (hC (up_back h (by decide))).2.1, slP_mono (fun b hq => ⟨hq.1, fun hu => hq.2 (up_back hu (by decide))⟩) (hC (up_back h (by decide))).2.2.1, blP_mono (fun b hq => ⟨hq.1, fun hu => hq.2 (up_back hu (by decide))⟩) (hC (up_back h (by decide))).2.2.2⟩) (fun h => hf2 (up_back h (by decide))) (fun h => hf3 (up_back h (by decide))) (fun h => hf4 (up_back h (by decide))) (fun h => hf5 (up_back h (by decide))) (fun h => hf6 (up_back h (by decide))) (fun h => hf7 (up_back h (by decide))) (fun h => hf8 (up_back h (by decide))) (fun h => hf9 (up_back h (by decide))) (fun h => hf10 (up_back h (by decide))) (fun h => hf11 (up_back h (by decide))) (fun h => ⟨up_old (hS (up_back h (by decide))).1, (hS (up_back h (by decide))).2.1, slP_mono (fun b hq => ⟨hq.1, fun hu => hq.2 (up_back hu (by decide))⟩) (hS (up_back h (by decide))).2.2.1, slP_mono (fun b hq => ⟨hq.1, fun hu => hq.2 (up_back hu (by decide))⟩) (hS (up_back h (by decide))).2.2.2⟩) (fun h => hf13 (up_back h (by decide))) (fun h => ⟨up_old (hW13 (up_back h (by decide))).1, up_old (hW13 (up_back h (by decide))).2⟩) (fun h => hf14 (up_back h (by decide))) (fun h => ⟨up_old (hW14 (up_back h (by decide))).1, up_old (hW14 (up_back h (by decide))).2⟩) (fun h => hf15 (up_back h (by decide))) (fun h => hA (up_back h (by decide))) (fun h => ⟨up_old (hT (up_back h (by decide))).1, up_old (hT (up_back h (by decide))).2.1, (hT (up_back h (by decide))).2.2⟩) (fun h => hf18 (up_back h (by decide)))
    refine StepsL.cons (k := 1) rfl (fun listed a1 w1 hI hn hw K hK => ?_) ?_
    · cases hI with | mk p58 p59 p60 p61 p62 p63 p64 p65 p66 p67 p68 p69 p70 p57 p71 p72 p19 p18 p m e1 p' m' e2 g l2 p3 m3 e3 p4 m4 e4 v x0 x1 x2 x3 ea hb hf0 hC hf2 hf3 hf4 hf5 hf6 hf7 hf8 hf9 hf10 hf11 hS hf13 hW13 hf14 hW14 hf15 hA hT hf18 =>
        have e_f0 := hf0 (hw 0 (by decide))
        subst e_f0
        have Hhf0 := Lib.hid hf0
        have HhC := Lib.hid hC
        have Hhf2 := Lib.hid hf2
        have Hhf3 := Lib.hid hf3
        have Hhf4 := Lib.hid hf4
        have Hhf5 := Lib.hid hf5
        have Hhf6 := Lib.hid hf6
        have Hhf7 := Lib.hid hf7
        have Hhf8 := Lib.hid hf8
        have Hhf9 := Lib.hid hf9
        have Hhf10 := Lib.hid hf10
        have Hhf11 := Lib.hid hf11
        have HhS := Lib.hid hS
        have Hhf13 := Lib.hid hf13
        have HhW13 := Lib.hid hW13
        have Hhf14 := Lib.hid hf14
        have HhW14 := Lib.hid hW14
        have Hhf15 := Lib.hid hf15
        have HhA := Lib.hid hA
        have HhT := Lib.hid hT
        have Hhf18 := Lib.hid hf18
        have Hhb := Lib.hid hb
        have Hhw := Lib.hid hw
        clear hf0 hC hf2 hf3 hf4 hf5 hf6 hf7 hf8 hf9 hf10 hf11 hS hf13 hW13 hf14 hW14 hf15 hA hT hf18 hb hw
        rw [ea]
        clear ea
        simp only [Act.put, List.setIfInBounds_toArray, List.set_cons_zero, List.set_cons_succ]
        go_simp
        go_at_call 58
        refine (copiedT_any a a' (some ⟨b, o, none⟩) n c n' c' l d ws ts D bs _ (slB Hhb.out T1) (slB Hhb.out T2) (blB Hhb.out T) HM.out).mono ?_
        rintro e w2 ⟨p, m, e1, p', m', e2, g, l2, rfl, u1, u2, O, hb2⟩
        have hf0 := Hhf0.out
        have hC := HhC.out
        have hf2 := Hhf2.out
        have hf3 := Hhf3.out
        have hf4 := Hhf4.out
        have hf5 := Hhf5.out
        have hf6 := Hhf6.out
        have hf7 := Hhf7.out
        have hf8 := Hhf8.out
        have hf9 := Hhf9.out
        have hf10 := Hhf10.out
        have hf11 := Hhf11.out
        have hS := HhS.out
        have hf13 := Hhf13.out
        have hW13 := HhW13.out
        have hf14 := Hhf14.out
        have hW14 := HhW14.out
        have hf15 := Hhf15.out
        have hA := HhA.out
        have hT := HhT.out
        have hf18 := Hhf18.out
        have hb := Hhb.out
        have hw := Hhw.out
        have hQ : ∀ b, w1.heap.size ≤ b → W2.heap.size ≤ b ∧ (Up (listed.setIfInBounds 1 true) 16 → b ≠ v) := fun b h1 => ⟨Nat.le_trans hb.size h1, fun h2 => by have := var4_lt (hA (up_back h2 (by decide))).2.2; omega⟩
        refine hK.out _ _ ?_
        exact .mk (.agg #[.slice a n c, .slice a' n' c', .int .i64 D, .slice (some ⟨b, o, none⟩) l d]) (.agg #[.slice p m e1, .slice p' m' e2, .int .i64 D, .slice (some ⟨g, 0, none⟩) l2 l2]) p60 p61 p62 p63 p64 p65 p66 p67 p68 p69 p70 p57 p71 p72 p19 p18 p m e1 p' m' e2 g l2 p3 m3 e3 p4 m4 e4 v x0 x1 x2 x3 (by simp only [Act.put, List.setIfInBounds_toArray, List.set_cons_zero, List.set_cons_succ]) (below_from hb hb2) (fun _ => rfl) (fun _ => ⟨rfl, slP_mono (fun b h => hQ b h.1) u1, slP_mono (fun b h => hQ b h.1) u2, blP_mono hQ (bown_bl O)⟩) (fun h => hf2 (up_back h (by decide))) (fun h => hf3 (up_back h (by decide))) (fun h => hf4 (up_back h (by decide))) (fun h => hf5 (up_back h (by decide))) (fun h => hf6 (up_back h (by decide))) (fun h => hf7 (up_back h (by decide))) (fun h => hf8 (up_back h (by decide))) (fun h => hf9 (up_back h (by decide))) (fun h => hf10 (up_back h (by decide))) (fun h => hf11 (up_back h (by decide))) (fun h => absurd (hS (up_back h (by decide))).1 hn) (fun h => absurd (hW13 (up_back h (by decide))).2 hn) (fun h => ⟨up_old (hW13 (up_back h (by decide))).1, up_old (hW13 (up_back h (by decide))).2⟩) (fun h => absurd (hW14 (up_back h (by decide))).2 hn) (fun h => ⟨up_old (hW14 (up_back h (by decide))).1, up_old (hW14 (up_back h (by decide))).2⟩) (fun h => hf15 (up_back h (by decide))) (fun h => ⟨(hA (up_back h (by decide))).1, (hA (up_back h (by decide))).2.1, var4_B hb2 (hA (up_back h (by decide))).2.2⟩) (fun h => absurd (hS (hT (up_back h (by decide))).2.1).1 hn) (fun h => hf18 (up_back h (by decide)))
    refine StepsL.cons (k := 2) rfl (fun listed a1 w1 hI hn hw K hK => ?_) ?_
    · cases hI with | mk p58 p59 p60 p61 p62 p63 p64 p65 p66 p67 p68 p69 p70 p57 p71 p72 p19 p18 p m e1 p' m' e2 g l2 p3 m3 e3 p4 m4 e4 v x0 x1 x2 x3 ea hb hf0 hC hf2 hf3 hf4 hf5 hf6 hf7 hf8 hf9 hf10 hf11 hS hf13 hW13 hf14 hW14 hf15 hA hT hf18 =>
        have Hhf0 := Lib.hid hf0
        have HhC := Lib.hid hC
        have Hhf2 := Lib.hid hf2
        have Hhf3 := Lib.hid hf3
        have Hhf4 := Lib.hid hf4
        have Hhf5 := Lib.hid hf5
        have Hhf6 := Lib.hid hf6
        have Hhf7 := Lib.hid hf7
        have Hhf8 := Lib.hid hf8
        have Hhf9 := Lib.hid hf9
        have Hhf10 := Lib.hid hf10
        have Hhf11 := Lib.hid hf11
        have HhS := Lib.hid hS
        have Hhf13 := Lib.hid hf13
        have HhW13 := Lib.hid hW13
        have Hhf14 := Lib.hid hf14
        have HhW14 := Lib.hid hW14
        have Hhf15 := Lib.hid hf15
        have HhA := Lib.hid hA
        have HhT := Lib.hid hT
        have Hhf18 := Lib.hid hf18
        have Hhb := Lib.hid hb
        have Hhw := Lib.hid hw
        clear hf0 hC hf2 hf3 hf4 hf5 hf6 hf7 hf8 hf9 hf10 hf11 hS hf13 hW13 hf14 hW14 hf15 hA hT hf18 hb hw
        rw [ea]
        clear ea
        simp only [Act.put, List.setIfInBounds_toArray, List.set_cons_zero, List.set_cons_succ]
        go_simp
        have hf0 := Hhf0.out
        have hC := HhC.out
        have hf2 := Hhf2.out
        have hf3 := Hhf3.out
        have hf4 := Hhf4.out
        have hf5 := Hhf5.out
        have hf6 := Hhf6.out
        have hf7 := Hhf7.out
        have hf8 := Hhf8.out
        have hf9 := Hhf9.out
        have hf10 := Hhf10.out
        have hf11 := Hhf11.out
        have hS := HhS.out
        have hf13 := Hhf13.out
        have hW13 := HhW13.out
        have hf14 := Hhf14.out
        have hW14 := HhW14.out
        have hf15 := Hhf15.out
        have hA := HhA.out
        have hT := HhT.out
        have hf18 := Hhf18.out
        have hb := Hhb.out
        have hw := Hhw.out
        refine hK.out _ _ ?_
        exact .mk p58 p59 (.int .i64 x) p61 p62 p63 p64 p65 p66 p67 p68 p69 p70 p57 p71 p72 p19 p18 p m e1 p' m' e2 g l2 p3 m3 e3 p4 m4 e4 v x0 x1 x2 x3 (by simp only [Act.put, List.setIfInBounds_toArray, List.set_cons_zero, List.set_cons_succ]) (hb) (fun h => hf0 (up_back h (by decide))) (fun h => ⟨(hC (up_back h (by decide))).1, slP_mono (fun b hq => ⟨hq.1, fun hu => hq.2 (up_back hu (by decide))⟩) (hC (up_back h (by decide))).2.1, slP_mono (fun b hq => ⟨hq.1, fun hu => hq.2 (up_back hu (by decide))⟩) (hC (up_back h (by decide))).2.2.1, blP_mono (fun b hq => ⟨hq.1, fun hu => hq.2 (up_back hu (by decide))⟩) (hC (up_back h (by decide))).2.2.2⟩) (fun _ => rfl) (fun h => hf3 (up_back h (by decide))) (fun h => hf4 (up_back h (by decide))) (fun h => hf5 (up_back h (by decide))) (fun h => hf6 (up_back h (by decide))) (fun h => hf7 (up_back h (by decide))) (fun h => hf8 (up_back h (by decide))) (fun h => hf9 (up_back h (by decide))) (fun h => hf10 (up_back h (by decide))) (fun h => hf11 (up_back h (by decide))) (fun h => ⟨up_old (hS (up_back h (by decide))).1, (hS (up_back h (by decide))).2.1, slP_mono (fun b hq => ⟨hq.1, fun hu => hq.2 (up_back hu (by decide))⟩) (hS (up_back h (by decide))).2.2.1, slP_mono (fun b hq => ⟨hq.1, fun hu => hq.2 (up_back hu (by decide))⟩) (hS (up_back h (by decide))).2.2.2⟩) (fun h => hf13 (up_back h (by decide))) (fun h => ⟨up_old (hW13 (up_back h (by decide))).1, up_old (hW13 (up_back h (by decide))).2⟩) (fun h => hf14 (up_back h (by decide))) (fun h => ⟨up_old (hW14 (up_back h (by decide))).1, up_old (hW14 (up_back h (by decide))).2⟩) (fun h => hf15 (up_back h (by decide))) (fun h => hA (up_back h (by decide))) (fun h => ⟨up_old (hT (up_back h (by decide))).1, up_old (hT (up_back h (by decide))).2.1, (hT (up_back h (by decide))).2.2⟩) (fun h => hf18 (up_back h (by decide)))
    refine StepsL.cons (k := 3) rfl (fun listed a1 w1 hI hn hw K hK => ?_) ?_
    · cases hI with | mk p58 p59 p60 p61 p62 p63 p64 p65 p66 p67 p68 p69 p70 p57 p71 p72 p19 p18 p m e1 p' m' e2 g l2 p3 m3 e3 p4 m4 e4 v x0 x1 x2 x3 ea hb hf0 hC hf2 hf3 hf4 hf5 hf6 hf7 hf8 hf9 hf10 hf11 hS hf13 hW13 hf14 hW14 hf15 hA hT hf18 =>
        have Hhf0 := Lib.hid hf0
        have HhC := Lib.hid hC
        have Hhf2 := Lib.hid hf2
        have Hhf3 := Lib.hid hf3
        have Hhf4 := Lib.hid hf4
        have Hhf5 := Lib.hid hf5
        have Hhf6 := Lib.hid hf6
        have Hhf7 := Lib.hid hf7
        have Hhf8 := Lib.hid hf8
        have Hhf9 := Lib.hid hf9
        have Hhf10 := Lib.hid hf10
        have Hhf11 := Lib.hid hf11
        have HhS := Lib.hid hS
        have Hhf13 := Lib.hid hf13
        have HhW13 := Lib.hid hW13
        have Hhf14 := Lib.hid hf14
        have HhW14 := Lib.hid hW14
        have Hhf15 := Lib.hid hf15
        have HhA := Lib.hid hA
        have HhT := Lib.hid hT
        have Hhf18 := Lib.hid hf18
        have Hhb := Lib.hid hb
        have Hhw := Lib.hid hw
        clear hf0 hC hf2 hf3 hf4 hf5 hf6 hf7 hf8 hf9 hf10 hf11 hS hf13 hW13 hf14 hW14 hf15 hA hT hf18 hb hw
        rw [ea]
        clear ea
        simp only [Act.put, List.setIfInBounds_toArray, List.set_cons_zero, List.set_cons_succ]
        go_simp
        have hf0 := Hhf0.out
        have hC := HhC.out
        have hf2 := Hhf2.out
        have hf3 := Hhf3.out
        have hf4 := Hhf4.out
        have hf5 := Hhf5.out
        have hf6 := Hhf6.out
        have hf7 := Hhf7.out
        have hf8 := Hhf8.out
        have hf9 := Hhf9.out
        have hf10 := Hhf10.out
        have hf11 := Hhf11.out
        have hS := HhS.out
        have hf13 := Hhf13.out
        have hW13 := HhW13.out
        have hf14 := Hhf14.out
        have hW14 := HhW14.out
        have hf15 := Hhf15.out
        have hA := HhA.out
        have hT := HhT.out
        have hf18 := Hhf18.out
        have hb := Hhb.out
        have hw := Hhw.out
        refine hK.out _ _ ?_
        exact .mk p58 p59 p60 (.int .i64 (j : Int)) p62 p63 p64 p65 p66 p67 p68 p69 p70 p57 p71 p72 p19 p18 p m e1 p' m' e2 g l2 p3 m3 e3 p4 m4 e4 v x0 x1 x2 x3 (by simp only [Act.put, List.setIfInBounds_toArray, List.set_cons_zero, List.set_cons_succ]) (hb) (fun h => hf0 (up_back h (by decide))) (fun h => ⟨(hC (up_back h (by decide))).1, slP_mono (fun b hq => ⟨hq.1, fun hu => hq.2 (up_back hu (by decide))⟩) (hC (up_back h (by decide))).2.1, slP_mono (fun b hq => ⟨hq.1, fun hu => hq.2 (up_back hu (by decide))⟩) (hC (up_back h (by decide))).2.2.1, blP_mono (fun b hq => ⟨hq.1, fun hu => hq.2 (up_back hu (by decide))⟩) (hC (up_back h (by decide))).2.2.2⟩) (fun h => hf2 (up_back h (by decide))) (fun _ => rfl) (fun h => hf4 (up_back h (by decide))) (fun h => hf5 (up_back h (by decide))) (fun h => hf6 (up_back h (by decide))) (fun h => hf7 (up_back h (by decide))) (fun h => hf8 (up_back h (by decide))) (fun h => hf9 (up_back h (by decide))) (fun h => hf10 (up_back h (by decide))) (fun h => hf11 (up_back h (by decide))) (fun h => ⟨up_old (hS (up_back h (by decide))).1, (hS (up_back h (by decide))).2.1, slP_mono (fun b hq => ⟨hq.1, fun hu => hq.2 (up_back hu (by decide))⟩) (hS (up_back h (by decide))).2.2.1, slP_mono (fun b hq => ⟨hq.1, fun hu => hq.2 (up_back hu (by decide))⟩) (hS (up_back h (by decide))).2.2.2⟩) (fun h => hf13 (up_back h (by decide))) (fun h => ⟨up_old (hW13 (up_back h (by decide))).1, up_old (hW13 (up_back h (by decide))).2⟩) (fun h => hf14 (up_back h (by decide))) (fun h => ⟨up_old (hW14 (up_back h (by decide))).1, up_old (hW14 (up_back h (by decide))).2⟩) (fun h => hf15 (up_back h (by decide))) (fun h => hA (up_back h (by decide))) (fun h => ⟨up_old (hT (up_back h (by decide))).1, up_old (hT (up_back h (by decide))).2.1, (hT (up_back h (by decide))).2.2⟩) (fun h => hf18 (up_back h (by decide)))
    refine StepsL.cons (k := 4) rfl (fun listed a1 w1 hI hn hw K hK => ?_) ?_
    · cases hI with | mk p58 p59 p60 p61 p62 p63 p64 p65 p66 p67 p68 p69 p70 p57 p71 p72 p19 p18 p m e1 p' m' e2 g l2 p3 m3 e3 p4 m4 e4 v x0 x1 x2 x3 ea hb hf0 hC hf2 hf3 hf4 hf5 hf6 hf7 hf8 hf9 hf10 hf11 hS hf13 hW13 hf14 hW14 hf15 hA hT hf18 =>
        have e_f3 := hf3 (hw 3 (by decide))
        subst e_f3
        have Hhf0 := Lib.hid hf0
        have HhC := Lib.hid hC
        have Hhf2 := Lib.hid hf2
        have Hhf3 := Lib.hid hf3
        have Hhf4 := Lib.hid hf4
        have Hhf5 := Lib.hid hf5
        have Hhf6 := Lib.hid hf6
        have Hhf7 := Lib.hid hf7
        have Hhf8 := Lib.hid hf8
        have Hhf9 := Lib.hid hf9
        have Hhf10 := Lib.hid hf10
        have Hhf11 := Lib.hid hf11
        have HhS := Lib.hid hS
        have Hhf13 := Lib.hid hf13
        have HhW13 := Lib.hid hW13
        have Hhf14 := Lib.hid hf14
        have HhW14 := Lib.hid hW14
        have Hhf15 := Lib.hid hf15
        have HhA := Lib.hid hA
        have HhT := Lib.hid hT
        have Hhf18 := Lib.hid hf18
        have Hhb := Lib.hid hb
        have Hhw := Lib.hid hw
        clear hf0 hC hf2 hf3 hf4 hf5 hf6 hf7 hf8 hf9 hf10 hf11 hS hf13 hW13 hf14 hW14 hf15 hA hT hf18 hb hw
        rw [ea]
        clear ea
        simp only [Act.put, List.setIfInBounds_toArray, List.set_cons_zero, List.set_cons_succ]
        go_simp
        have hf0 := Hhf0.out
        have hC := HhC.out
        have hf2 := Hhf2.out
        have hf3 := Hhf3.out
        have hf4 := Hhf4.out
        have hf5 := Hhf5.out
        have hf6 := Hhf6.out
        have hf7 := Hhf7.out
        have hf8 := Hhf8.out
        have hf9 := Hhf9.out
        have hf10 := Hhf10.out
        have hf11 := Hhf11.out
        have hS := HhS.out
        have hf13 := Hhf13.out
        have hW13 := HhW13.out
        have hf14 := Hhf14.out
        have hW14 := HhW14.out
        have hf15 := Hhf15.out
        have hA := HhA.out
        have hT := HhT.out
        have hf18 := Hhf18.out
        have hb := Hhb.out
        have hw := Hhw.out
        refine hK.out _ _ ?_
        exact .mk p58 p59 p60 (.int .i64 (j : Int)) (.pointer (some ⟨go, j, none⟩)) p63 p64 p65 p66 p67 p68 p69 p70 p57 p71 p72 p19 p18 p m e1 p' m' e2 g l2 p3 m3 e3 p4 m4 e4 v x0 x1 x2 x3 (by simp only [Act.put, List.setIfInBounds_toArray, List.set_cons_zero, List.set_cons_succ]) (hb) (fun h => hf0 (up_back h (by decide))) (fun h => ⟨(hC (up_back h (by decide))).1, slP_mono (fun b hq => ⟨hq.1, fun hu => hq.2 (up_back hu (by decide))⟩) (hC (up_back h (by decide))).2.1, slP_mono (fun b hq => ⟨hq.1, fun hu => hq.2 (up_back hu (by decide))⟩) (hC (up_back h (by decide))).2.2.1, blP_mono (fun b hq => ⟨hq.1, fun hu => hq.2 (up_back hu (by decide))⟩) (hC (up_back h (by decide))).2.2.2⟩) (fun h => hf2 (up_back h (by decide))) (fun _ => rfl) (fun _ => rfl) (fun h => hf5 (up_back h (by decide))) (fun h => hf6 (up_back h (by decide))) (fun h => hf7 (up_back h (by decide))) (fun h => hf8 (up_back h (by decide))) (fun h => hf9 (up_back h (by decide))) (fun h => hf10 (up_back h (by decide))) (fun h => hf11 (up_back h (by decide))) (fun h => ⟨up_old (hS (up_back h (by decide))).1, (hS (up_back h (by decide))).2.1, slP_mono (fun b hq => ⟨hq.1, fun hu => hq.2 (up_back hu (by decide))⟩) (hS (up_back h (by decide))).2.2.1, slP_mono (fun b hq => ⟨hq.1, fun hu => hq.2 (up_back hu (by decide))⟩) (hS (up_back h (by decide))).2.2.2⟩) (fun h => hf13 (up_back h (by decide))) (fun h => ⟨up_old (hW13 (up_back h (by decide))).1, up_old (hW13 (up_back h (by decide))).2⟩) (fun h => hf14 (up_back h (by decide))) (fun h => ⟨up_old (hW14 (up_back h (by decide))).1, up_old (hW14 (up_back h (by decide))).2⟩) (fun h => hf15 (up_back h (by decide))) (fun h => hA (up_back h (by decide))) (fun h => ⟨up_old (hT (up_back h (by decide))).1, up_old (hT (up_back h (by decide))).2.1, (hT (up_back h (by decide))).2.2⟩) (fun h => hf18 (up_back h (by decide)))
    refine StepsL.cons (k := 5) rfl (fun listed a1 w1 hI hn hw K hK => ?_) ?_
    · cases hI with | mk p58 p59 p60 p61 p62 p63 p64 p65 p66 p67 p68 p69 p70 p57 p71 p72 p19 p18 p m e1 p' m' e2 g l2 p3 m3 e3 p4 m4 e4 v x0 x1 x2 x3 ea hb hf0 hC hf2 hf3 hf4 hf5 hf6 hf7 hf8 hf9 hf10 hf11 hS hf13 hW13 hf14 hW14 hf15 hA hT hf18 =>
        have e_f4 := hf4 (hw 4 (by decide))
        subst e_f4
        have Hhf0 := Lib.hid hf0
        have HhC := Lib.hid hC
        have Hhf2 := Lib.hid hf2
        have Hhf3 := Lib.hid hf3
        have Hhf4 := Lib.hid hf4
        have Hhf5 := Lib.hid hf5
        have Hhf6 := Lib.hid hf6
        have Hhf7 := Lib.hid hf7
        have Hhf8 := Lib.hid hf8
        have Hhf9 := Lib.hid hf9
        have Hhf10 := Lib.hid hf10
        have Hhf11 := Lib.hid hf11
        have HhS := Lib.hid hS
        have Hhf13 := Lib.hid hf13
        have HhW13 := Lib.hid hW13
        have Hhf14 := Lib.hid hf14
        have HhW14 := Lib.hid hW14
        have Hhf15 := Lib.hid hf15
        have HhA := Lib.hid hA
        have HhT := Lib.hid hT
        have Hhf18 := Lib.hid hf18
        have Hhb := Lib.hid hb
        have Hhw := Lib.hid hw
        clear hf0 hC hf2 hf3 hf4 hf5 hf6 hf7 hf8 hf9 hf10 hf11 hS hf13 hW13 hf14 hW14 hf15 hA hT hf18 hb hw
        rw [ea]
        clear ea
        simp only [Act.put, List.setIfInBounds_toArray, List.set_cons_zero, List.set_cons_succ]
        go_simp
        have hf0 := Hhf0.out
        have hC := HhC.out
        have hf2 := Hhf2.out
        have hf3 := Hhf3.out
        have hf4 := Hhf4.out
        have hf5 := Hhf5.out
        have hf6 := Hhf6.out
        have hf7 := Hhf7.out
        have hf8 := Hhf8.out
        have hf9 := Hhf9.out
        have hf10 := Hhf10.out
        have hf11 := Hhf11.out
        have hS := HhS.out
        have hf13 := Hhf13.out
        have hW13 := HhW13.out
        have hf14 := Hhf14.out
        have hW14 := HhW14.out
        have hf15 := Hhf15.out
        have hA := HhA.out
        have hT := HhT.out
        have hf18 := Hhf18.out
        have hb := Hhb.out
        have hw := Hhw.out
        refine hK.out _ _ ?_
        exact .mk p58 p59 p60 p61 (.pointer (some ⟨go, j, none⟩)) (.pointer (some ⟨go, j, none⟩)) p64 p65 p66 p67 p68 p69 p70 p57 p71 p72 p19 p18 p m e1 p' m' e2 g l2 p3 m3 e3 p4 m4 e4 v x0 x1 x2 x3 (by simp only [Act.put, List.setIfInBounds_toArray, List.set_cons_zero, List.set_cons_succ]) (hb) (fun h => hf0 (up_back h (by decide))) (fun h => ⟨(hC (up_back h (by decide))).1, slP_mono (fun b hq => ⟨hq.1, fun hu => hq.2 (up_back hu (by decide))⟩) (hC (up_back h (by decide))).2.1, slP_mono (fun b hq => ⟨hq.1, fun hu => hq.2 (up_back hu (by decide))⟩) (hC (up_back h (by decide))).2.2.1, blP_mono (fun b hq => ⟨hq.1, fun hu => hq.2 (up_back hu (by decide))⟩) (hC (up_back h (by decide))).2.2.2⟩) (fun h => hf2 (up_back h (by decide))) (fun h => hf3 (up_back h (by decide))) (fun _ => rfl) (fun _ => rfl) (fun h => hf6 (up_back h (by decide))) (fun h => hf7 (up_back h (by decide))) (fun h => hf8 (up_back h (by decide))) (fun h => hf9 (up_back h (by decide))) (fun h => hf10 (up_back h (by decide))) (fun h => hf11 (up_back h (by decide))) (fun h => ⟨up_old (hS (up_back h (by decide))).1, (hS (up_back h (by decide))).2.1, slP_mono (fun b hq => ⟨hq.1, fun hu => hq.2 (up_back hu (by decide))⟩) (hS (up_back h (by decide))).2.2.1, slP_mono (fun b hq => ⟨hq.1, fun hu => hq.2 (up_back hu (by decide))⟩) (hS (up_back h (by decide))).2.2.2⟩) (fun h => hf13 (up_back h (by decide))) (fun h => ⟨up_old (hW13 (up_back h (by decide))).1, up_old (hW13 (up_back h (by decide))).2⟩) (fun h => hf14 (up_back h (by decide))) (fun h => ⟨up_old (hW14 (up_back h (by decide))).1, up_old (hW14 (up_back h (by decide))).2⟩) (fun h => hf15 (up_back h (by decide))) (fun h => hA (up_back h (by decide))) (fun h => ⟨up_old (hT (up_back h (by decide))).1, up_old (hT (up_back h (by decide))).2.1, (hT (up_back h (by decide))).2.2⟩) (fun h => hf18 (up_back h (by decide)))
    refine StepsL.cons (k := 6) rfl (fun listed a1 w1 hI hn hw K hK => ?_) ?_
    · cases hI with | mk p58 p59 p60 p61 p62 p63 p64 p65 p66 p67 p68 p69 p70 p57 p71 p72 p19 p18 p m e1 p' m' e2 g l2 p3 m3 e3 p4 m4 e4 v x0 x1 x2 x3 ea hb hf0 hC hf2 hf3 hf4 hf5 hf6 hf7 hf8 hf9 hf10 hf11 hS hf13 hW13 hf14 hW14 hf15 hA hT hf18 =>
        have e_f5 := hf5 (hw 5 (by decide))
        subst e_f5
        have kf := cellB hb KF.out
        have Hhf0 := Lib.hid hf0
        have HhC := Lib.hid hC
        have Hhf2 := Lib.hid hf2
        have Hhf3 := Lib.hid hf3
        have Hhf4 := Lib.hid hf4
        have Hhf5 := Lib.hid hf5
        have Hhf6 := Lib.hid hf6
        have Hhf7 := Lib.hid hf7
        have Hhf8 := Lib.hid hf8
        have Hhf9 := Lib.hid hf9
        have Hhf10 := Lib.hid hf10
        have Hhf11 := Lib.hid hf11
        have HhS := Lib.hid hS
        have Hhf13 := Lib.hid hf13
        have HhW13 := Lib.hid hW13
        have Hhf14 := Lib.hid hf14
        have HhW14 := Lib.hid hW14
        have Hhf15 := Lib.hid hf15
        have HhA := Lib.hid hA
        have HhT := Lib.hid hT
        have Hhf18 := Lib.hid hf18
        have Hhb := Lib.hid hb
        have Hhw := Lib.hid hw
        clear hf0 hC hf2 hf3 hf4 hf5 hf6 hf7 hf8 hf9 hf10 hf11 hS hf13 hW13 hf14 hW14 hf15 hA hT hf18 hb hw
        rw [ea]
        clear ea
        simp only [Act.put, List.setIfInBounds_toArray, List.set_cons_zero, List.set_cons_succ]
        go_simp
        have hf0 := Hhf0.out
        have hC := HhC.out
        have hf2 := Hhf2.out
        have hf3 := Hhf3.out
        have hf4 := Hhf4.out
        have hf5 := Hhf5.out
        have hf6 := Hhf6.out
        have hf7 := Hhf7.out
        have hf8 := Hhf8.out
        have hf9 := Hhf9.out
        have hf10 := Hhf10.out
        have hf11 := Hhf11.out
        have hS := HhS.out
        have hf13 := Hhf13.out
        have hW13 := HhW13.out
        have hf14 := Hhf14.out
        have hW14 := HhW14.out
        have hf15 := Hhf15.out
        have hA := HhA.out
        have hT := HhT.out
        have hf18 := Hhf18.out
        have hb := Hhb.out
        have hw := Hhw.out
        refine hK.out _ _ ?_
        exact .mk p58 p59 p60 p61 p62 (.pointer (some ⟨go, j, none⟩)) (.func (.func F) #[] #[]) p65 p66 p67 p68 p69 p70 p57 p71 p72 p19 p18 p m e1 p' m' e2 g l2 p3 m3 e3 p4 m4 e4 v x0 x1 x2 x3 (by simp only [Act.put, List.setIfInBounds_toArray, List.set_cons_zero, List.set_cons_succ]) (hb) (fun h => hf0 (up_back h (by decide))) (fun h => ⟨(hC (up_back h (by decide))).1, slP_mono (fun b hq => ⟨hq.1, fun hu => hq.2 (up_back hu (by decide))⟩) (hC (up_back h (by decide))).2.1, slP_mono (fun b hq => ⟨hq.1, fun hu => hq.2 (up_back hu (by decide))⟩) (hC (up_back h (by decide))).2.2.1, blP_mono (fun b hq => ⟨hq.1, fun hu => hq.2 (up_back hu (by decide))⟩) (hC (up_back h (by decide))).2.2.2⟩) (fun h => hf2 (up_back h (by decide))) (fun h => hf3 (up_back h (by decide))) (fun h => hf4 (up_back h (by decide))) (fun _ => rfl) (fun _ => rfl) (fun h => hf7 (up_back h (by decide))) (fun h => hf8 (up_back h (by decide))) (fun h => hf9 (up_back h (by decide))) (fun h => hf10 (up_back h (by decide))) (fun h => hf11 (up_back h (by decide))) (fun h => ⟨up_old (hS (up_back h (by decide))).1, (hS (up_back h (by decide))).2.1, slP_mono (fun b hq => ⟨hq.1, fun hu => hq.2 (up_back hu (by decide))⟩) (hS (up_back h (by decide))).2.2.1, slP_mono (fun b hq => ⟨hq.1, fun hu => hq.2 (up_back hu (by decide))⟩) (hS (up_back h (by decide))).2.2.2⟩) (fun h => hf13 (up_back h (by decide))) (fun h => ⟨up_old (hW13 (up_back h (by decide))).1, up_old (hW13 (up_back h (by decide))).2⟩) (fun h => hf14 (up_back h (by decide))) (fun h => ⟨up_old (hW14 (up_back h (by decide))).1, up_old (hW14 (up_back h (by decide))).2⟩) (fun h => hf15 (up_back h (by decide))) (fun h => hA (up_back h (by decide))) (fun h => ⟨up_old (hT (up_back h (by decide))).1, up_old (hT (up_back h (by decide))).2.1, (hT (up_back h (by decide))).2.2⟩) (fun h => hf18 (up_back h (by decide)))
    refine StepsL.cons (k := 7) rfl (fun listed a1 w1 hI hn hw K hK => ?_) ?_
    · cases hI with | mk p58 p59 p60 p61 p62 p63 p64 p65 p66 p67 p68 p69 p70 p57 p71 p72 p19 p18 p m e1 p' m' e2 g l2 p3 m3 e3 p4 m4 e4 v x0 x1 x2 x3 ea hb hf0 hC hf2 hf3 hf4 hf5 hf6 hf7 hf8 hf9 hf10 hf11 hS hf13 hW13 hf14 hW14 hf15 hA hT hf18 =>
        have Hhf0 := Lib.hid hf0
        have HhC := Lib.hid hC
        have Hhf2 := Lib.hid hf2
        have Hhf3 := Lib.hid hf3
        have Hhf4 := Lib.hid hf4
        have Hhf5 := Lib.hid hf5
        have Hhf6 := Lib.hid hf6
        have Hhf7 := Lib.hid hf7
        have Hhf8 := Lib.hid hf8
        have Hhf9 := Lib.hid hf9
        have Hhf10 := Lib.hid hf10
        have Hhf11 := Lib.hid hf11
        have HhS := Lib.hid hS
        have Hhf13 := Lib.hid hf13
        have HhW13 := Lib.hid hW13
        have Hhf14 := Lib.hid hf14
        have HhW14 := Lib.hid hW14
        have Hhf15 := Lib.hid hf15
        have HhA := Lib.hid hA
        have HhT := Lib.hid hT
        have Hhf18 := Lib.hid hf18
        have Hhb := Lib.hid hb
        have Hhw := Lib.hid hw
        clear hf0 hC hf2 hf3 hf4 hf5 hf6 hf7 hf8 hf9 hf10 hf11 hS hf13 hW13 hf14 hW14 hf15 hA hT hf18 hb hw
        rw [ea]
        clear ea
        simp only [Act.put, List.setIfInBounds_toArray, List.set_cons_zero, List.set_cons_succ]
        go_simp
        have hf0 := Hhf0.out
        have hC := HhC.out
        have hf2 := Hhf2.out
        have hf3 := Hhf3.out
        have hf4 := Hhf4.out
        have hf5 := Hhf5.out
        have hf6 := Hhf6.out
        have hf7 := Hhf7.out
        have hf8 := Hhf8.out
        have hf9 := Hhf9.out
        have hf10 := Hhf10.out
        have hf11 := Hhf11.out
        have hS := HhS.out
        have hf13 := Hhf13.out
        have hW13 := HhW13.out
        have hf14 := Hhf14.out
        have hW14 := HhW14.out
        have hf15 := Hhf15.out
        have hA := HhA.out
        have hT := HhT.out
        have hf18 := Hhf18.out
        have hb := Hhb.out
        have hw := Hhw.out
        refine hK.out _ _ ?_
        exact .mk p58 p59 p60 p61 p62 p63 p64 (.int .i64 lv) p66 p67 p68 p69 p70 p57 p71 p72 p19 p18 p m e1 p' m' e2 g l2 p3 m3 e3 p4 m4 e4 v x0 x1 x2 x3 (by simp only [Act.put, List.setIfInBounds_toArray, List.set_cons_zero, List.set_cons_succ]) (hb) (fun h => hf0 (up_back h (by decide))) (fun h => ⟨(hC (up_back h (by decide))).1, slP_mono (fun b hq => ⟨hq.1, fun hu => hq.2 (up_back hu (by decide))⟩) (hC (up_back h (by decide))).2.1, slP_mono (fun b hq => ⟨hq.1, fun hu => hq.2 (up_back hu (by decide))⟩) (hC (up_back h (by decide))).2.2.1, blP_mono (fun b hq => ⟨hq.1, fun hu => hq.2 (up_back hu (by decide))⟩) (hC (up_back h (by decide))).2.2.2⟩) (fun h => hf2 (up_back h (by decide))) (fun h => hf3 (up_back h (by decide))) (fun h => hf4 (up_back h (by decide))) (fun h => hf5 (up_back h (by decide))) (fun h => hf6 (up_back h (by decide))) (fun _ => rfl) (fun h => hf8 (up_back h (by decide))) (fun h => hf9 (up_back h (by decide))) (fun h => hf10 (up_back h (by decide))) (fun h => hf11 (up_back h (by decide))) (fun h => ⟨up_old (hS (up_back h (by decide))).1, (hS (up_back h (by decide))).2.1, slP_mono (fun b hq => ⟨hq.1, fun hu => hq.2 (up_back hu (by decide))⟩) (hS (up_back h (by decide))).2.2.1, slP_mono (fun b hq => ⟨hq.1, fun hu => hq.2 (up_back hu (by decide))⟩) (hS (up_back h (by decide))).2.2.2⟩) (fun h => hf13 (up_back h (by decide))) (fun h => ⟨up_old (hW13 (up_back h (by decide))).1, up_old (hW13 (up_back h (by decide))).2⟩) (fun h => hf14 (up_back h (by decide))) (fun h => ⟨up_old (hW14 (up_back h (by decide))).1, up_old (hW14 (up_back h (by decide))).2⟩) (fun h => hf15 (up_back h (by decide))) (fun h => hA (up_back h (by decide))) (fun h => ⟨up_old (hT (up_back h (by decide))).1, up_old (hT (up_back h (by decide))).2.1, (hT (up_back h (by decide))).2.2⟩) (fun h => hf18 (up_back h (by decide)))
    refine StepsL.cons (k := 8) rfl (fun listed a1 w1 hI hn hw K hK => ?_) ?_
    · cases hI with | mk p58 p59 p60 p61 p62 p63 p64 p65 p66 p67 p68 p69 p70 p57 p71 p72 p19 p18 p m e1 p' m' e2 g l2 p3 m3 e3 p4 m4 e4 v x0 x1 x2 x3 ea hb hf0 hC hf2 hf3 hf4 hf5 hf6 hf7 hf8 hf9 hf10 hf11 hS hf13 hW13 hf14 hW14 hf15 hA hT hf18 =>
        have Hhf0 := Lib.hid hf0
        have HhC := Lib.hid hC
        have Hhf2 := Lib.hid hf2
        have Hhf3 := Lib.hid hf3
        have Hhf4 := Lib.hid hf4
        have Hhf5 := Lib.hid hf5
        have Hhf6 := Lib.hid hf6
        have Hhf7 := Lib.hid hf7
        have Hhf8 := Lib.hid hf8
        have Hhf9 := Lib.hid hf9
        have Hhf10 := Lib.hid hf10
        have Hhf11 := Lib.hid hf11
        have HhS := Lib.hid hS
        have Hhf13 := Lib.hid hf13
        have HhW13 := Lib.hid hW13
        have Hhf14 := Lib.hid hf14
        have HhW14 := Lib.hid hW14
        have Hhf15 := Lib.hid hf15
        have HhA := Lib.hid hA
        have HhT := Lib.hid hT
        have Hhf18 := Lib.hid hf18
        have Hhb := Lib.hid hb
        have Hhw := Lib.hid hw
        clear hf0 hC hf2 hf3 hf4 hf5 hf6 hf7 hf8 hf9 hf10 hf11 hS hf13 hW13 hf14 hW14 hf15 hA hT hf18 hb hw
        rw [ea]
        clear ea
        simp only [Act.put, List.setIfInBounds_toArray, List.set_cons_zero, List.set_cons_succ]
        go_simp
        have hf0 := Hhf0.out
        have hC := HhC.out
        have hf2 := Hhf2.out
        have hf3 := Hhf3.out
        have hf4 := Hhf4.out
        have hf5 := Hhf5.out
        have hf6 := Hhf6.out
        have hf7 := Hhf7.out
        have hf8 := Hhf8.out
        have hf9 := Hhf9.out
        have hf10 := Hhf10.out
        have hf11 := Hhf11.out
        have hS := HhS.out
        have hf13 := Hhf13.out
        have hW13 := HhW13.out
        have hf14 := Hhf14.out
        have hW14 := HhW14.out
        have hf15 := Hhf15.out
        have hA := HhA.out
        have hT := HhT.out
        have hf18 := Hhf18.out
        have hb := Hhb.out
        have hw := Hhw.out
        refine hK.out _ _ ?_
        exact .mk p58 p59 p60 p61 p62 p63 p64 p65 (.int .i64 y) p67 p68 p69 p70 p57 p71 p72 p19 p18 p m e1 p' m' e2 g l2 p3 m3 e3 p4 m4 e4 v x0 x1 x2 x3 (by simp only [Act.put, List.setIfInBounds_toArray, List.set_cons_zero, List.set_cons_succ]) (hb) (fun h => hf0 (up_back h (by decide))) (fun h => ⟨(hC (up_back h (by decide))).1, slP_mono (fun b hq => ⟨hq.1, fun hu => hq.2 (up_back hu (by decide))⟩) (hC (up_back h (by decide))).2.1, slP_mono (fun b hq => ⟨hq.1, fun hu => hq.2 (up_back hu (by decide))⟩) (hC (up_back h (by decide))).2.2.1, blP_mono (fun b hq => ⟨hq.1, fun hu => hq.2 (up_back hu (by decide))⟩) (hC (up_back h (by decide))).2.2.2⟩) (fun h => hf2 (up_back h (by decide))) (fun h => hf3 (up_back h (by decide))) (fun h => hf4 (up_back h (by decide))) (fun h => hf5 (up_back h (by decide))) (fun h => hf6 (up_back h (by decide))) (fun h => hf7 (up_back h (by decide))) (fun _ => rfl) (fun h => hf9 (up_back h (by decide))) (fun h => hf10 (up_back h (by decide))) (fun h => hf11 (up_back h (by decide))) (fun h => ⟨up_old (hS (up_back h (by decide))).1, (hS (up_back h (by decide))).2.1, slP_mono (fun b hq => ⟨hq.1, fun hu => hq.2 (up_back hu (by decide))⟩) (hS (up_back h (by decide))).2.2.1, slP_mono (fun b hq => ⟨hq.1, fun hu => hq.2 (up_back hu (by decide))⟩) (hS (up_back h (by decide))).2.2.2⟩) (fun h => hf13 (up_back h (by decide))) (fun h => ⟨up_old (hW13 (up_back h (by decide))).1, up_old (hW13 (up_back h (by decide))).2⟩) (fun h => hf14 (up_back h (by decide))) (fun h => ⟨up_old (hW14 (up_back h (by decide))).1, up_old (hW14 (up_back h (by decide))).2⟩) (fun h => hf15 (up_back h (by decide))) (fun h => hA (up_back h (by decide))) (fun h => ⟨up_old (hT (up_back h (by decide))).1, up_old (hT (up_back h (by decide))).2.1, (hT (up_back h (by decide))).2.2⟩) (fun h => hf18 (up_back h (by decide)))
    refine StepsL.cons (k := 9) rfl (fun listed a1 w1 hI hn hw K hK => ?_) ?_
    · cases hI with | mk p58 p59 p60 p61 p62 p63 p64 p65 p66 p67 p68 p69 p70 p57 p71 p72 p19 p18 p m e1 p' m' e2 g l2 p3 m3 e3 p4 m4 e4 v x0 x1 x2 x3 ea hb hf0 hC hf2 hf3 hf4 hf5 hf6 hf7 hf8 hf9 hf10 hf11 hS hf13 hW13 hf14 hW14 hf15 hA hT hf18 =>
        have Hhf0 := Lib.hid hf0
        have HhC := Lib.hid hC
        have Hhf2 := Lib.hid hf2
        have Hhf3 := Lib.hid hf3
        have Hhf4 := Lib.hid hf4
        have Hhf5 := Lib.hid hf5
        have Hhf6 := Lib.hid hf6
        have Hhf7 := Lib.hid hf7
        have Hhf8 := Lib.hid hf8
        have Hhf9 := Lib.hid hf9
        have Hhf10 := Lib.hid hf10
        have Hhf11 := Lib.hid hf11
        have HhS := Lib.hid hS
        have Hhf13 := Lib.hid hf13
        have HhW13 := Lib.hid hW13
        have Hhf14 := Lib.hid hf14
        have HhW14 := Lib.hid hW14
        have Hhf15 := Lib.hid hf15
        have HhA := Lib.hid hA
        have HhT := Lib.hid hT
        have Hhf18 := Lib.hid hf18
        have Hhb := Lib.hid hb
        have Hhw := Lib.hid hw
        clear hf0 hC hf2 hf3 hf4 hf5 hf6 hf7 hf8 hf9 hf10 hf11 hS hf13 hW13 hf14 hW14 hf15 hA hT hf18 hb hw
        rw [ea]
        clear ea
        simp only [Act.put, List.setIfInBounds_toArray, List.set_cons_zero, List.set_cons_succ]
        go_simp
        have hf0 := Hhf0.out
        have hC := HhC.out
        have hf2 := Hhf2.out
        have hf3 := Hhf3.out
        have hf4 := Hhf4.out
        have hf5 := Hhf5.out
        have hf6 := Hhf6.out
        have hf7 := Hhf7.out
        have hf8 := Hhf8.out
        have hf9 := Hhf9.out
        have hf10 := Hhf10.out
        have hf11 := Hhf11.out
        have hS := HhS.out
        have hf13 := Hhf13.out
        have hW13 := HhW13.out
        have hf14 := Hhf14.out
        have hW14 := HhW14.out
        have hf15 := Hhf15.out
        have hA := HhA.out
        have hT := HhT.out
        have hf18 := Hhf18.out
        have hb := Hhb.out
        have hw := Hhw.out
        refine hK.out _ _ ?_
        exact .mk p58 p59 p60 p61 p62 p63 p64 p65 p66 (.int .i64 z) p68 p69 p70 p57 p71 p72 p19 p18 p m e1 p' m' e2 g l2 p3 m3 e3 p4 m4 e4 v x0 x1 x2 x3 (by simp only [Act.put, List.setIfInBounds_toArray, List.set_cons_zero, List.set_cons_succ]) (hb) (fun h => hf0 (up_back h (by decide))) (fun h => ⟨(hC (up_back h (by decide))).1, slP_mono (fun b hq => ⟨hq.1, fun hu => hq.2 (up_back hu (by decide))⟩) (hC (up_back h (by decide))).2.1, slP_mono (fun b hq => ⟨hq.1, fun hu => hq.2 (up_back hu (by decide))⟩) (hC (up_back h (by decide))).2.2.1, blP_mono (fun b hq => ⟨hq.1, fun hu => hq.2 (up_back hu (by decide))⟩) (hC (up_back h (by decide))).2.2.2⟩) (fun h => hf2 (up_back h (by decide))) (fun h => hf3 (up_back h (by decide))) (fun h => hf4 (up_back h (by decide))) (fun h => hf5 (up_back h (by decide))) (fun h => hf6 (up_back h (by decide))) (fun h => hf7 (up_back h (by decide))) (fun h => hf8 (up_back h (by decide))) (fun _ => rfl) (fun h => hf10 (up_back h (by decide))) (fun h => hf11 (up_back h (by decide))) (fun h => ⟨up_old (hS (up_back h (by decide))).1, (hS (up_back h (by decide))).2.1, slP_mono (fun b hq => ⟨hq.1, fun hu => hq.2 (up_back hu (by decide))⟩) (hS (up_back h (by decide))).2.2.1, slP_mono (fun b hq => ⟨hq.1, fun hu => hq.2 (up_back hu (by decide))⟩) (hS (up_back h (by decide))).2.2.2⟩) (fun h => hf13 (up_back h (by decide))) (fun h => ⟨up_old (hW13 (up_back h (by decide))).1, up_old (hW13 (up_back h (by decide))).2⟩) (fun h => hf14 (up_back h (by decide))) (fun h => ⟨up_old (hW14 (up_back h (by decide))).1, up_old (hW14 (up_back h (by decide))).2⟩) (fun h => hf15 (up_back h (by decide))) (fun h => hA (up_back h (by decide))) (fun h => ⟨up_old (hT (up_back h (by decide))).1, up_old (hT (up_back h (by decide))).2.1, (hT (up_back h (by decide))).2.2⟩) (fun h => hf18 (up_back h (by decide)))
    refine StepsL.cons (k := 10) rfl (fun listed a1 w1 hI hn hw K hK => ?_) ?_
    · cases hI with | mk p58 p59 p60 p61 p62 p63 p64 p65 p66 p67 p68 p69 p70 p57 p71 p72 p19 p18 p m e1 p' m' e2 g l2 p3 m3 e3 p4 m4 e4 v x0 x1 x2 x3 ea hb hf0 hC hf2 hf3 hf4 hf5 hf6 hf7 hf8 hf9 hf10 hf11 hS hf13 hW13 hf14 hW14 hf15 hA hT hf18 =>
        rcases HFF.out with eF | eF | eF
        all_goals
          have e_f6 := hf6 (hw 6 (by decide))
          have e_f7 := hf7 (hw 7 (by decide))
          have e_f8 := hf8 (hw 8 (by decide))
          have e_f9 := hf9 (hw 9 (by decide))
          subst e_f6 e_f7 e_f8 e_f9
          have Hhf0 := Lib.hid hf0
          have HhC := Lib.hid hC
          have Hhf2 := Lib.hid hf2
          have Hhf3 := Lib.hid hf3
          have Hhf4 := Lib.hid hf4
          have Hhf5 := Lib.hid hf5
          have Hhf6 := Lib.hid hf6
          have Hhf7 := Lib.hid hf7
          have Hhf8 := Lib.hid hf8
          have Hhf9 := Lib.hid hf9
          have Hhf10 := Lib.hid hf10
          have Hhf11 := Lib.hid hf11
          have HhS := Lib.hid hS
          have Hhf13 := Lib.hid hf13
          have HhW13 := Lib.hid hW13
          have Hhf14 := Lib.hid hf14
          have HhW14 := Lib.hid hW14
          have Hhf15 := Lib.hid hf15
          have HhA := Lib.hid hA
          have HhT := Lib.hid hT
          have Hhf18 := Lib.hid hf18
          have Hhb := Lib.hid hb
          have Hhw := Lib.hid hw
          clear hf0 hC hf2 hf3 hf4 hf5 hf6 hf7 hf8 hf9 hf10 hf11 hS hf13 hW13 hf14 hW14 hf15 hA hT hf18 hb hw
          rw [ea]
          clear ea
          simp only [Act.put, List.setIfInBounds_toArray, List.set_cons_zero, List.set_cons_succ]
          go_simp
          have hc0 := HC.out
          rw [eF] at hc0
          refine (hc0 _ _ _ _).mono ?_
          rintro e w2 ⟨rfl, hb2⟩
          rw [HNV.out]
          have hf0 := Hhf0.out
          have hC := HhC.out
          have hf2 := Hhf2.out
          have hf3 := Hhf3.out
          have hf4 := Hhf4.out
          have hf5 := Hhf5.out
          have hf6 := Hhf6.out
          have hf7 := Hhf7.out
          have hf8 := Hhf8.out
          have hf9 := Hhf9.out
          have hf10 := Hhf10.out
          have hf11 := Hhf11.out
          have hS := HhS.out
          have hf13 := Hhf13.out
          have hW13 := HhW13.out
          have hf14 := Hhf14.out
          have hW14 := HhW14.out
          have hf15 := Hhf15.out
          have hA := HhA.out
          have hT := HhT.out
          have hf18 := Hhf18.out
          have hb := Hhb.out
          have hw := Hhw.out
          refine hK.out _ _ ?_
          exact .mk p58 p59 p60 p61 p62 p63 (.func (.func F) #[] #[]) (.int .i64 lv) (.int .i64 y) (.int .i64 z) (.int .i64 nv) p69 p70 p57 p71 p72 p19 p18 p m e1 p' m' e2 g l2 p3 m3 e3 p4 m4 e4 v x0 x1 x2 x3 (by simp only [Act.put, List.setIfInBounds_toArray, List.set_cons_zero, List.set_cons_succ, eF]) (below_from hb hb2) (fun h => hf0 (up_back h (by decide))) (fun h => ⟨(hC (up_back h (by decide))).1, slPB hb2 (slP_mono (fun b hq => ⟨hq.1, fun hu => hq.2 (up_back hu (by decide))⟩) (hC (up_back h (by decide))).2.1), slPB hb2 (slP_mono (fun b hq => ⟨hq.1, fun hu => hq.2 (up_back hu (by decide))⟩) (hC (up_back h (by decide))).2.2.1), blPB hb2 (blP_mono (fun b hq => ⟨hq.1, fun hu => hq.2 (up_back hu (by decide))⟩) (hC (up_back h (by decide))).2.2.2)⟩) (fun h => hf2 (up_back h (by decide))) (fun h => hf3 (up_back h (by decide))) (fun h => hf4 (up_back h (by decide))) (fun h => hf5 (up_back h (by decide))) (fun _ => rfl) (fun _ => rfl) (fun _ => rfl) (fun _ => rfl) (fun _ => rfl) (fun h => hf11 (up_back h (by decide))) (fun h => ⟨up_old (hS (up_back h (by decide))).1, (hS (up_back h (by decide))).2.1, slPB hb2 (slP_mono (fun b hq => ⟨hq.1, fun hu => hq.2 (up_back hu (by decide))⟩) (hS (up_back h (by decide))).2.2.1), slPB hb2 (slP_mono (fun b hq => ⟨hq.1, fun hu => hq.2 (up_back hu (by decide))⟩) (hS (up_back h (by decide))).2.2.2)⟩) (fun h => hf13 (up_back h (by decide))) (fun h => ⟨up_old (hW13 (up_back h (by decide))).1, up_old (hW13 (up_back h (by decide))).2⟩) (fun h => hf14 (up_back h (by decide))) (fun h => ⟨up_old (hW14 (up_back h (by decide))).1, up_old (hW14 (up_back h (by decide))).2⟩) (fun h => hf15 (up_back h (by decide))) (fun h => ⟨(hA (up_back h (by decide))).1, (hA (up_back h (by decide))).2.1, var4_B hb2 (hA (up_back h (by decide))).2.2⟩) (fun h => ⟨up_old (hT (up_back h (by decide))).1, up_old (hT (up_back h (by decide))).2.1, (hT (up_back h (by decide))).2.2⟩) (fun h => hf18 (up_back h (by decide)))
    refine StepsL.cons (k := 11) rfl (fun listed a1 w1 hI hn hw K hK => ?_) ?_
    · cases hI with | mk p58 p59 p60 p61 p62 p63 p64 p65 p66 p67 p68 p69 p70 p57 p71 p72 p19 p18 p m e1 p' m' e2 g l2 p3 m3 e3 p4 m4 e4 v x0 x1 x2 x3 ea hb hf0 hC hf2 hf3 hf4 hf5 hf6 hf7 hf8 hf9 hf10 hf11 hS hf13 hW13 hf14 hW14 hf15 hA hT hf18 =>
        have e_f2 := hf2 (hw 2 (by decide))
        have e_f10 := hf10 (hw 10 (by decide))
        subst e_f2 e_f10
        have Hhf0 := Lib.hid hf0
        have HhC := Lib.hid hC
        have Hhf2 := Lib.hid hf2
        have Hhf3 := Lib.hid hf3
        have Hhf4 := Lib.hid hf4
        have Hhf5 := Lib.hid hf5
        have Hhf6 := Lib.hid hf6
        have Hhf7 := Lib.hid hf7
        have Hhf8 := Lib.hid hf8
        have Hhf9 := Lib.hid hf9
        have Hhf10 := Lib.hid hf10
        have Hhf11 := Lib.hid hf11
        have HhS := Lib.hid hS
        have Hhf13 := Lib.hid hf13
        have HhW13 := Lib.hid hW13
        have Hhf14 := Lib.hid hf14
        have HhW14 := Lib.hid hW14
        have Hhf15 := Lib.hid hf15
        have HhA := Lib.hid hA
        have HhT := Lib.hid hT
        have Hhf18 := Lib.hid hf18
        have Hhb := Lib.hid hb
        have Hhw := Lib.hid hw
        clear hf0 hC hf2 hf3 hf4 hf5 hf6 hf7 hf8 hf9 hf10 hf11 hS hf13 hW13 hf14 hW14 hf15 hA hT hf18 hb hw
        rw [ea]
        clear ea
        simp only [Act.put, List.setIfInBounds_toArray, List.set_cons_zero, List.set_cons_succ]
        go_simp
        have hf0 := Hhf0.out
        have hC := HhC.out
        have hf2 := Hhf2.out
        have hf3 := Hhf3.out
        have hf4 := Hhf4.out
        have hf5 := Hhf5.out
        have hf6 := Hhf6.out
        have hf7 := Hhf7.out
        have hf8 := Hhf8.out
        have hf9 := Hhf9.out
        have hf10 := Hhf10.out
        have hf11 := Hhf11.out
        have hS := HhS.out
        have hf13 := Hhf13.out
        have hW13 := HhW13.out
        have hf14 := Hhf14.out
        have hW14 := HhW14.out
        have hf15 := Hhf15.out
        have hA := HhA.out
        have hT := HhT.out
        have hf18 := Hhf18.out
        have hb := Hhb.out
        have hw := Hhw.out
        refine hK.out _ _ ?_
        exact .mk p58 p59 (.int .i64 x) p61 p62 p63 p64 p65 p66 p67 (.int .i64 nv) (.agg #[.int .i64 x, .int .i64 nv]) p70 p57 p71 p72 p19 p18 p m e1 p' m' e2 g l2 p3 m3 e3 p4 m4 e4 v x0 x1 x2 x3 (by simp only [Act.put, List.setIfInBounds_toArray, List.set_cons_zero, List.set_cons_succ]) (hb) (fun h => hf0 (up_back h (by decide))) (fun h => ⟨(hC (up_back h (by decide))).1, slP_mono (fun b hq => ⟨hq.1, fun hu => hq.2 (up_back hu (by decide))⟩) (hC (up_back h (by decide))).2.1, slP_mono (fun b hq => ⟨hq.1, fun hu => hq.2 (up_back hu (by decide))⟩) (hC (up_back h (by decide))).2.2.1, blP_mono (fun b hq => ⟨hq.1, fun hu => hq.2 (up_back hu (by decide))⟩) (hC (up_back h (by decide))).2.2.2⟩) (fun _ => rfl) (fun h => hf3 (up_back h (by decide))) (fun h => hf4 (up_back h (by decide))) (fun h => hf5 (up_back h (by decide))) (fun h => hf6 (up_back h (by decide))) (fun h => hf7 (up_back h (by decide))) (fun h => hf8 (up_back h (by decide))) (fun h => hf9 (up_back h (by decide))) (fun _ => rfl) (fun _ => rfl) (fun h => ⟨up_old (hS (up_back h (by decide))).1, (hS (up_back h (by decide))).2.1, slP_mono (fun b hq => ⟨hq.1, fun hu => hq.2 (up_back hu (by decide))⟩) (hS (up_back h (by decide))).2.2.1, slP_mono (fun b hq => ⟨hq.1, fun hu => hq.2 (up_back hu (by decide))⟩) (hS (up_back h (by decide))).2.2.2⟩) (fun h => hf13 (up_back h (by decide))) (fun h => ⟨up_old (hW13 (up_back h (by decide))).1, up_old (hW13 (up_back h (by decide))).2⟩) (fun h => hf14 (up_back h (by decide))) (fun h => ⟨up_old (hW14 (up_back h (by decide))).1, up_old (hW14 (up_back h (by decide))).2⟩) (fun h => hf15 (up_back h (by decide))) (fun h => hA (up_back h (by decide))) (fun h => ⟨up_old (hT (up_back h (by decide))).1, up_old (hT (up_back h (by decide))).2.1, (hT (up_back h (by decide))).2.2⟩) (fun h => hf18 (up_back h (by decide)))
    refine StepsL.cons (k := 12) rfl (fun listed a1 w1 hI hn hw K hK => ?_) ?_
    · cases hI with | mk p58 p59 p60 p61 p62 p63 p64 p65 p66 p67 p68 p69 p70 p57 p71 p72 p19 p18 p m e1 p' m' e2 g l2 p3 m3 e3 p4 m4 e4 v x0 x1 x2 x3 ea hb hf0 hC hf2 hf3 hf4 hf5 hf6 hf7 hf8 hf9 hf10 hf11 hS hf13 hW13 hf14 hW14 hf15 hA hT hf18 =>
        have e_f11 := hf11 (hw 11 (by decide))
        subst e_f11
        obtain ⟨e_C, c1, c2, c3⟩ := hC (hw 1 (by decide))
        subst e_C
        have Hhf0 := Lib.hid hf0
        have HhC := Lib.hid hC
        have Hhf2 := Lib.hid hf2
        have Hhf3 := Lib.hid hf3
        have Hhf4 := Lib.hid hf4
        have Hhf5 := Lib.hid hf5
        have Hhf6 := Lib.hid hf6
        have Hhf7 := Lib.hid hf7
        have Hhf8 := Lib.hid hf8
        have Hhf9 := Lib.hid hf9
        have Hhf10 := Lib.hid hf10
        have Hhf11 := Lib.hid hf11
        have HhS := Lib.hid hS
        have Hhf13 := Lib.hid hf13
        have HhW13 := Lib.hid hW13
        have Hhf14 := Lib.hid hf14
        have HhW14 := Lib.hid hW14
        have Hhf15 := Lib.hid hf15
        have HhA := Lib.hid hA
        have HhT := Lib.hid hT
        have Hhf18 := Lib.hid hf18
        have Hhb := Lib.hid hb
        have Hhw := Lib.hid hw
        clear hf0 hC hf2 hf3 hf4 hf5 hf6 hf7 hf8 hf9 hf10 hf11 hS hf13 hW13 hf14 hW14 hf15 hA hT hf18 hb hw
        rw [ea]
        clear ea
        simp only [Act.put, List.setIfInBounds_toArray, List.set_cons_zero, List.set_cons_succ]
        go_simp
        go_at_call 60
        refine (storedT_ok p p' (some ⟨g, 0, none⟩) m e1 m' e2 l2 l2 ws ts D x nv _ c1.sl c2.sl HWX.out HU.out).mono ?_
        rintro e w2 ⟨p3, m3, e3, p4, m4, e4, rfl, u1, u2, hb2⟩
        rw [HUS.out] at u1
        have hf0 := Hhf0.out
        have hC := HhC.out
        have hf2 := Hhf2.out
        have hf3 := Hhf3.out
        have hf4 := Hhf4.out
        have hf5 := Hhf5.out
        have hf6 := Hhf6.out
        have hf7 := Hhf7.out
        have hf8 := Hhf8.out
        have hf9 := Hhf9.out
        have hf10 := Hhf10.out
        have hf11 := Hhf11.out
        have hS := HhS.out
        have hf13 := Hhf13.out
        have hW13 := HhW13.out
        have hf14 := Hhf14.out
        have hW14 := HhW14.out
        have hf15 := Hhf15.out
        have hA := HhA.out
        have hT := HhT.out
        have hf18 := Hhf18.out
        have hb := Hhb.out
        have hw := Hhw.out
        have hQ : ∀ b, w1.heap.size ≤ b → W2.heap.size ≤ b ∧ (Up (listed.setIfInBounds 12 true) 16 → b ≠ v) := fun b h1 => ⟨Nat.le_trans hb.size h1, fun h2 => by have := var4_lt (hA (up_back h2 (by decide))).2.2; omega⟩
        refine hK.out _ _ ?_
        exact .mk p58 (.agg #[.slice p m e1, .slice p' m' e2, .int .i64 D, .slice (some ⟨g, 0, none⟩) l2 l2]) p60 p61 p62 p63 p64 p65 p66 p67 p68 (.agg #[.int .i64 x, .int .i64 nv]) (.tuple #[.agg #[.slice p3 m3 e3, .slice p4 m4 e4, .int .i64 D, .slice (some ⟨g, 0, none⟩) l2 l2], .int .i64 0]) p57 p71 p72 p19 p18 p m e1 p' m' e2 g l2 p3 m3 e3 p4 m4 e4 v x0 x1 x2 x3 (by simp only [Act.put, List.setIfInBounds_toArray, List.set_cons_zero, List.set_cons_succ]) (below_from hb hb2) (fun h => hf0 (up_back h (by decide))) (fun h => ⟨(hC (up_back h (by decide))).1, slPB hb2 (slP_mono (fun b hq => ⟨hq.1, fun hu => hq.2 (up_back hu (by decide))⟩) (hC (up_back h (by decide))).2.1), slPB hb2 (slP_mono (fun b hq => ⟨hq.1, fun hu => hq.2 (up_back hu (by decide))⟩) (hC (up_back h (by decide))).2.2.1), blPB hb2 (blP_mono (fun b hq => ⟨hq.1, fun hu => hq.2 (up_back hu (by decide))⟩) (hC (up_back h (by decide))).2.2.2)⟩) (fun h => hf2 (up_back h (by decide))) (fun h => hf3 (up_back h (by decide))) (fun h => hf4 (up_back h (by decide))) (fun h => hf5 (up_back h (by decide))) (fun h => hf6 (up_back h (by decide))) (fun h => hf7 (up_back h (by decide))) (fun h => hf8 (up_back h (by decide))) (fun h => hf9 (up_back h (by decide))) (fun h => hf10 (up_back h (by decide))) (fun _ => rfl) (fun _ => ⟨up_old (hw 1 (by decide)), rfl, slP_slF hQ u1, slP_slF hQ u2⟩) (fun h => absurd (hW13 (up_back h (by decide))).1 hn) (fun h => ⟨up_old (hW13 (up_back h (by decide))).1, up_old (hW13 (up_back h (by decide))).2⟩) (fun h => absurd (hW14 (up_back h (by decide))).1 hn) (fun h => ⟨up_old (hW14 (up_back h (by decide))).1, up_old (hW14 (up_back h (by decide))).2⟩) (fun h => hf15 (up_back h (by decide))) (fun h => ⟨(hA (up_back h (by decide))).1, (hA (up_back h (by decide))).2.1, var4_B hb2 (hA (up_back h (by decide))).2.2⟩) (fun h => absurd (hT (up_back h (by decide))).2.1 hn) (fun h => hf18 (up_back h (by decide)))
    refine StepsL.cons (k := 13) rfl (fun listed a1 w1 hI hn hw K hK => ?_) ?_
    · cases hI with | mk p58 p59 p60 p61 p62 p63 p64 p65 p66 p67 p68 p69 p70 p57 p71 p72 p19 p18 p m e1 p' m' e2 g l2 p3 m3 e3 p4 m4 e4 v x0 x1 x2 x3 ea hb hf0 hC hf2 hf3 hf4 hf5 hf6 hf7 hf8 hf9 hf10 hf11 hS hf13 hW13 hf14 hW14 hf15 hA hT hf18 =>
        obtain ⟨s0, e_S, s1, s2⟩ := hS (hw 12 (by decide))
        subst e_S
        have Hhf0 := Lib.hid hf0
        have HhC := Lib.hid hC
        have Hhf2 := Lib.hid hf2
        have Hhf3 := Lib.hid hf3
        have Hhf4 := Lib.hid hf4
        have Hhf5 := Lib.hid hf5
        have Hhf6 := Lib.hid hf6
        have Hhf7 := Lib.hid hf7
        have Hhf8 := Lib.hid hf8
        have Hhf9 := Lib.hid hf9
        have Hhf10 := Lib.hid hf10
        have Hhf11 := Lib.hid hf11
        have HhS := Lib.hid hS
        have Hhf13 := Lib.hid hf13
        have HhW13 := Lib.hid hW13
        have Hhf14 := Lib.hid hf14
        have HhW14 := Lib.hid hW14
        have Hhf15 := Lib.hid hf15
        have HhA := Lib.hid hA
        have HhT := Lib.hid hT
        have Hhf18 := Lib.hid hf18
        have Hhb := Lib.hid hb
        have Hhw := Lib.hid hw
        clear hf0 hC hf2 hf3 hf4 hf5 hf6 hf7 hf8 hf9 hf10 hf11 hS hf13 hW13 hf14 hW14 hf15 hA hT hf18 hb hw
        rw [ea]
        clear ea
        simp only [Act.put, List.setIfInBounds_toArray, List.set_cons_zero, List.set_cons_succ]
        go_simp
        have hf0 := Hhf0.out
        have hC := HhC.out
        have hf2 := Hhf2.out
        have hf3 := Hhf3.out
        have hf4 := Hhf4.out
        have hf5 := Hhf5.out
        have hf6 := Hhf6.out
        have hf7 := Hhf7.out
        have hf8 := Hhf8.out
        have hf9 := Hhf9.out
        have hf10 := Hhf10.out
        have hf11 := Hhf11.out
        have hS := HhS.out
        have hf13 := Hhf13.out
        have hW13 := HhW13.out
        have hf14 := Hhf14.out
        have hW14 := HhW14.out
        have hf15 := Hhf15.out
        have hA := HhA.out
        have hT := HhT.out
        have hf18 := Hhf18.out
        have hb := Hhb.out
        have hw := Hhw.out
        refine hK.out _ _ ?_
        exact .mk p58 p59 p60 p61 p62 p63 p64 p65 p66 p67 p68 p69 (.tuple #[.agg #[.slice p3 m3 e3, .slice p4 m4 e4, .int .i64 D, .slice (some ⟨g, 0, none⟩) l2 l2], .int .i64 0]) (.tuple #[.agg #[.slice p3 m3 e3, .slice p4 m4 e4, .int .i64 D, .slice (some ⟨g, 0, none⟩) l2 l2], .int .i64 0]) p71 p72 p19 p18 p m e1 p' m' e2 g l2 p3 m3 e3 p4 m4 e4 v x0 x1 x2 x3 (by simp only [Act.put, List.setIfInBounds_toArray, List.set_cons_zero, List.set_cons_succ]) (hb) (fun h => hf0 (up_back h (by decide))) (fun h => ⟨(hC (up_back h (by decide))).1, slP_mono (fun b hq => ⟨hq.1, fun hu => hq.2 (up_back hu (by decide))⟩) (hC (up_back h (by decide))).2.1, slP_mono (fun b hq => ⟨hq.1, fun hu => hq.2 (up_back hu (by decide))⟩) (hC (up_back h (by decide))).2.2.1, blP_mono (fun b hq => ⟨hq.1, fun hu => hq.2 (up_back hu (by decide))⟩) (hC (up_back h (by decide))).2.2.2⟩) (fun h => hf2 (up_back h (by decide))) (fun h => hf3 (up_back h (by decide))) (fun h => hf4 (up_back h (by decide))) (fun h => hf5 (up_back h (by decide))) (fun h => hf6 (up_back h (by decide))) (fun h => hf7 (up_back h (by decide))) (fun h => hf8 (up_back h (by decide))) (fun h => hf9 (up_back h (by decide))) (fun h => hf10 (up_back h (by decide))) (fun h => hf11 (up_back h (by decide))) (fun h => ⟨up_old s0, rfl, slP_mono (fun b hq => ⟨hq.1, fun hu => hq.2 (up_back hu (by decide))⟩) s1, slP_mono (fun b hq => ⟨hq.1, fun hu => hq.2 (up_back hu (by decide))⟩) s2⟩) (fun _ => rfl) (fun _ => ⟨up_old (hw 12 (by decide)), up_old s0⟩) (fun h => hf14 (up_back h (by decide))) (fun h => ⟨up_old (hW14 (up_back h (by decide))).1, up_old (hW14 (up_back h (by decide))).2⟩) (fun h => hf15 (up_back h (by decide))) (fun h => hA (up_back h (by decide))) (fun h => ⟨up_old (hT (up_back h (by decide))).1, up_old (hT (up_back h (by decide))).2.1, (hT (up_back h (by decide))).2.2⟩) (fun h => hf18 (up_back h (by decide)))
    refine StepsL.cons (k := 14) rfl (fun listed a1 w1 hI hn hw K hK => ?_) ?_
    · cases hI with | mk p58 p59 p60 p61 p62 p63 p64 p65 p66 p67 p68 p69 p70 p57 p71 p72 p19 p18 p m e1 p' m' e2 g l2 p3 m3 e3 p4 m4 e4 v x0 x1 x2 x3 ea hb hf0 hC hf2 hf3 hf4 hf5 hf6 hf7 hf8 hf9 hf10 hf11 hS hf13 hW13 hf14 hW14 hf15 hA hT hf18 =>
        have e_f13 := hf13 (hw 13 (by decide))
        subst e_f13
        have Hhf0 := Lib.hid hf0
        have HhC := Lib.hid hC
        have Hhf2 := Lib.hid hf2
        have Hhf3 := Lib.hid hf3
        have Hhf4 := Lib.hid hf4
        have Hhf5 := Lib.hid hf5
        have Hhf6 := Lib.hid hf6
        have Hhf7 := Lib.hid hf7
        have Hhf8 := Lib.hid hf8
        have Hhf9 := Lib.hid hf9
        have Hhf10 := Lib.hid hf10
        have Hhf11 := Lib.hid hf11
        have HhS := Lib.hid hS
        have Hhf13 := Lib.hid hf13
        have HhW13 := Lib.hid hW13
        have Hhf14 := Lib.hid hf14
        have HhW14 := Lib.hid hW14
        have Hhf15 := Lib.hid hf15
        have HhA := Lib.hid hA
        have HhT := Lib.hid hT
        have Hhf18 := Lib.hid hf18
        have Hhb := Lib.hid hb
        have Hhw := Lib.hid hw
        clear hf0 hC hf2 hf3 hf4 hf5 hf6 hf7 hf8 hf9 hf10 hf11 hS hf13 hW13 hf14 hW14 hf15 hA hT hf18 hb hw
        rw [ea]
        clear ea
        simp only [Act.put, List.setIfInBounds_toArray, List.set_cons_zero, List.set_cons_succ]
        go_simp
        have hf0 := Hhf0.out
        have hC := HhC.out
        have hf2 := Hhf2.out
        have hf3 := Hhf3.out
        have hf4 := Hhf4.out
        have hf5 := Hhf5.out
        have hf6 := Hhf6.out
        have hf7 := Hhf7.out
        have hf8 := Hhf8.out
        have hf9 := Hhf9.out
        have hf10 := Hhf10.out
        have hf11 := Hhf11.out
        have hS := HhS.out
        have hf13 := Hhf13.out
        have hW13 := HhW13.out
        have hf14 := Hhf14.out
        have hW14 := HhW14.out
        have hf15 := Hhf15.out
        have hA := HhA.out
        have hT := HhT.out
        have hf18 := Hhf18.out
        have hb := Hhb.out
        have hw := Hhw.out
        refine hK.out _ _ ?_
        exact .mk p58 p59 p60 p61 p62 p63 p64 p65 p66 p67 p68 p69 p70 (.tuple #[.agg #[.slice p3 m3 e3, .slice p4 m4 e4, .int .i64 D, .slice (some ⟨g, 0, none⟩) l2 l2], .int .i64 0]) (.agg #[.slice p3 m3 e3, .slice p4 m4 e4, .int .i64 D, .slice (some ⟨g, 0, none⟩) l2 l2]) p72 p19 p18 p m e1 p' m' e2 g l2 p3 m3 e3 p4 m4 e4 v x0 x1 x2 x3 (by simp only [Act.put, List.setIfInBounds_toArray, List.set_cons_zero, List.set_cons_succ]) (hb) (fun h => hf0 (up_back h (by decide))) (fun h => ⟨(hC (up_back h (by decide))).1, slP_mono (fun b hq => ⟨hq.1, fun hu => hq.2 (up_back hu (by decide))⟩) (hC (up_back h (by decide))).2.1, slP_mono (fun b hq => ⟨hq.1, fun hu => hq.2 (up_back hu (by decide))⟩) (hC (up_back h (by decide))).2.2.1, blP_mono (fun b hq => ⟨hq.1, fun hu => hq.2 (up_back hu (by decide))⟩) (hC (up_back h (by decide))).2.2.2⟩) (fun h => hf2 (up_back h (by decide))) (fun h => hf3 (up_back h (by decide))) (fun h => hf4 (up_back h (by decide))) (fun h => hf5 (up_back h (by decide))) (fun h => hf6 (up_back h (by decide))) (fun h => hf7 (up_back h (by decide))) (fun h => hf8 (up_back h (by decide))) (fun h => hf9 (up_back h (by decide))) (fun h => hf10 (up_back h (by decide))) (fun h => hf11 (up_back h (by decide))) (fun h => ⟨up_old (hS (up_back h (by decide))).1, (hS (up_back h (by decide))).2.1, slP_mono (fun b hq => ⟨hq.1, fun hu => hq.2 (up_back hu (by decide))⟩) (hS (up_back h (by decide))).2.2.1, slP_mono (fun b hq => ⟨hq.1, fun hu => hq.2 (up_back hu (by decide))⟩) (hS (up_back h (by decide))).2.2.2⟩) (fun _ => rfl) (fun h => ⟨up_old (hW13 (up_back h (by decide))).1, up_old (hW13 (up_back h (by decide))).2⟩) (fun _ => rfl) (fun _ => ⟨up_old (hW13 (hw 13 (by decide))).1, up_old (hW13 (hw 13 (by decide))).2⟩) (fun h => hf15 (up_back h (by decide))) (fun h => hA (up_back h (by decide))) (fun h => ⟨up_old (hT (up_back h (by decide))).1, up_old (hT (up_back h (by decide))).2.1, (hT (up_back h (by decide))).2.2⟩) (fun h => hf18 (up_back h (by decide)))
    refine StepsL.cons (k := 15) rfl (fun listed a1 w1 hI hn hw K hK => ?_) ?_
    · cases hI with | mk p58 p59 p60 p61 p62 p63 p64 p65 p66 p67 p68 p69 p70 p57 p71 p72 p19 p18 p m e1 p' m' e2 g l2 p3 m3 e3 p4 m4 e4 v x0 x1 x2 x3 ea hb hf0 hC hf2 hf3 hf4 hf5 hf6 hf7 hf8 hf9 hf10 hf11 hS hf13 hW13 hf14 hW14 hf15 hA hT hf18 =>
        have e_f13 := hf13 (hw 13 (by decide))
        subst e_f13
        have Hhf0 := Lib.hid hf0
        have HhC := Lib.hid hC
        have Hhf2 := Lib.hid hf2
        have Hhf3 := Lib.hid hf3
        have Hhf4 := Lib.hid hf4
        have Hhf5 := Lib.hid hf5
        have Hhf6 := Lib.hid hf6
        have Hhf7 := Lib.hid hf7
        have Hhf8 := Lib.hid hf8
        have Hhf9 := Lib.hid hf9
        have Hhf10 := Lib.hid hf10
        have Hhf11 := Lib.hid hf11
        have HhS := Lib.hid hS
        have Hhf13 := Lib.hid hf13
        have HhW13 := Lib.hid hW13
        have Hhf14 := Lib.hid hf14
        have HhW14 := Lib.hid hW14
        have Hhf15 := Lib.hid hf15
        have HhA := Lib.hid hA
        have HhT := Lib.hid hT
        have Hhf18 := Lib.hid hf18
        have Hhb := Lib.hid hb
        have Hhw := Lib.hid hw
        clear hf0 hC hf2 hf3 hf4 hf5 hf6 hf7 hf8 hf9 hf10 hf11 hS hf13 hW13 hf14 hW14 hf15 hA hT hf18 hb hw
        rw [ea]
        clear ea
        simp only [Act.put, List.setIfInBounds_toArray, List.set_cons_zero, List.set_cons_succ]
        go_simp
        have hf0 := Hhf0.out
        have hC := HhC.out
        have hf2 := Hhf2.out
        have hf3 := Hhf3.out
        have hf4 := Hhf4.out
        have hf5 := Hhf5.out
        have hf6 := Hhf6.out
        have hf7 := Hhf7.out
        have hf8 := Hhf8.out
        have hf9 := Hhf9.out
        have hf10 := Hhf10.out
        have hf11 := Hhf11.out
        have hS := HhS.out
        have hf13 := Hhf13.out
        have hW13 := HhW13.out
        have hf14 := Hhf14.out
        have hW14 := HhW14.out
        have hf15 := Hhf15.out
        have hA := HhA.out
        have hT := HhT.out
        have hf18 := Hhf18.out
        have hb := Hhb.out
        have hw := Hhw.out
        refine hK.out _ _ ?_
        exact .mk p58 p59 p60 p61 p62 p63 p64 p65 p66 p67 p68 p69 p70 (.tuple #[.agg #[.slice p3 m3 e3, .slice p4 m4 e4, .int .i64 D, .slice (some ⟨g, 0, none⟩) l2 l2], .int .i64 0]) p71 (.int .i64 0) p19 p18 p m e1 p' m' e2 g l2 p3 m3 e3 p4 m4 e4 v x0 x1 x2 x3 (by simp only [Act.put, List.setIfInBounds_toArray, List.set_cons_zero, List.set_cons_succ]) (hb) (fun h => hf0 (up_back h (by decide))) (fun h => ⟨(hC (up_back h (by decide))).1, slP_mono (fun b hq => ⟨hq.1, fun hu => hq.2 (up_back hu (by decide))⟩) (hC (up_back h (by decide))).2.1, slP_mono (fun b hq => ⟨hq.1, fun hu => hq.2 (up_back hu (by decide))⟩) (hC (up_back h (by decide))).2.2.1, blP_mono (fun b hq => ⟨hq.1, fun hu => hq.2 (up_back hu (by decide))⟩) (hC (up_back h (by decide))).2.2.2⟩) (fun h => hf2 (up_back h (by decide))) (fun h => hf3 (up_back h (by decide))) (fun h => hf4 (up_back h (by decide))) (fun h => hf5 (up_back h (by decide))) (fun h => hf6 (up_back h (by decide))) (fun h => hf7 (up_back h (by decide))) (fun h => hf8 (up_back h (by decide))) (fun h => hf9 (up_back h (by decide))) (fun h => hf10 (up_back h (by decide))) (fun h => hf11 (up_back h (by decide))) (fun h => ⟨up_old (hS (up_back h (by decide))).1, (hS (up_back h (by decide))).2.1, slP_mono (fun b hq => ⟨hq.1, fun hu => hq.2 (up_back hu (by decide))⟩) (hS (up_back h (by decide))).2.2.1, slP_mono (fun b hq => ⟨hq.1, fun hu => hq.2 (up_back hu (by decide))⟩) (hS (up_back h (by decide))).2.2.2⟩) (fun _ => rfl) (fun h => ⟨up_old (hW13 (up_back h (by decide))).1, up_old (hW13 (up_back h (by decide))).2⟩) (fun h => hf14 (up_back h (by decide))) (fun h => ⟨up_old (hW14 (up_back h (by decide))).1, up_old (hW14 (up_back h (by decide))).2⟩) (fun _ => rfl) (fun h => hA (up_back h (by decide))) (fun h => ⟨up_old (hT (up_back h (by decide))).1, up_old (hT (up_back h (by decide))).2.1, (hT (up_back h (by decide))).2.2⟩) (fun h => hf18 (up_back h (by decide)))
    refine StepsL.cons (k := 16) rfl (fun listed a1 w1 hI hn hw K hK => ?_) ?_
    · cases hI with | mk p58 p59 p60 p61 p62 p63 p64 p65 p66 p67 p68 p69 p70 p57 p71 p72 p19 p18 p m e1 p' m' e2 g l2 p3 m3 e3 p4 m4 e4 v x0 x1 x2 x3 ea hb hf0 hC hf2 hf3 hf4 hf5 hf6 hf7 hf8 hf9 hf10 hf11 hS hf13 hW13 hf14 hW14 hf15 hA hT hf18 =>
        have Hhf0 := Lib.hid hf0
        have HhC := Lib.hid hC
        have Hhf2 := Lib.hid hf2
        have Hhf3 := Lib.hid hf3
        have Hhf4 := Lib.hid hf4
        have Hhf5 := Lib.hid hf5
        have Hhf6 := Lib.hid hf6
        have Hhf7 := Lib.hid hf7
        have Hhf8 := Lib.hid hf8
        have Hhf9 := Lib.hid hf9
        have Hhf10 := Lib.hid hf10
        have Hhf11 := Lib.hid hf11
        have HhS := Lib.hid hS
        have Hhf13 := Lib.hid hf13
        have HhW13 := Lib.hid hW13
        have Hhf14 := Lib.hid hf14
        have HhW14 := Lib.hid hW14
        have Hhf15 := Lib.hid hf15
        have HhA := Lib.hid hA
        have HhT := Lib.hid hT
        have Hhf18 := Lib.hid hf18
        have Hhb := Lib.hid hb
        have Hhw := Lib.hid hw
        clear hf0 hC hf2 hf3 hf4 hf5 hf6 hf7 hf8 hf9 hf10 hf11 hS hf13 hW13 hf14 hW14 hf15 hA hT hf18 hb hw
        rw [ea]
        clear ea
        simp only [Act.put, List.setIfInBounds_toArray, List.set_cons_zero, List.set_cons_succ]
        go_simp
        have hf0 := Hhf0.out
        have hC := HhC.out
        have hf2 := Hhf2.out
        have hf3 := Hhf3.out
        have hf4 := Hhf4.out
        have hf5 := Hhf5.out
        have hf6 := Hhf6.out
        have hf7 := Hhf7.out
        have hf8 := Hhf8.out
        have hf9 := Hhf9.out
        have hf10 := Hhf10.out
        have hf11 := Hhf11.out
        have hS := HhS.out
        have hf13 := Hhf13.out
        have hW13 := HhW13.out
        have hf14 := Hhf14.out
        have hW14 := HhW14.out
        have hf15 := Hhf15.out
        have hA := HhA.out
        have hT := HhT.out
        have hf18 := Hhf18.out
        have hb := Hhb.out
        have hw := Hhw.out
        refine hK.out _ _ ?_
        exact .mk p58 p59 p60 p61 p62 p63 p64 p65 p66 p67 p68 p69 p70 p57 p71 p72 (.pointer (some ⟨w1.heap.size, 0, none⟩)) p18 p m e1 p' m' e2 g l2 p3 m3 e3 p4 m4 e4 w1.heap.size _ _ _ _ (by simp only [Act.put, List.setIfInBounds_toArray, List.set_cons_zero, List.set_cons_succ]) (hb.alloc hb.size _) (fun h => hf0 (up_back h (by decide))) (fun h => ⟨(hC (up_back h (by decide))).1, slPA _ (slP_mono (fun b hq => ⟨hq.1.1, fun _ => Nat.ne_of_lt hq.2⟩) (slP_und (hC (up_back h (by decide))).2.1)), slPA _ (slP_mono (fun b hq => ⟨hq.1.1, fun _ => Nat.ne_of_lt hq.2⟩) (slP_und (hC (up_back h (by decide))).2.2.1)), blPA _ (blP_mono (fun b hq => ⟨hq.1.1, fun _ => Nat.ne_of_lt hq.2⟩) (blP_und (hC (up_back h (by decide))).2.2.2))⟩) (fun h => hf2 (up_back h (by decide))) (fun h => hf3 (up_back h (by decide))) (fun h => hf4 (up_back h (by decide))) (fun h => hf5 (up_back h (by decide))) (fun h => hf6 (up_back h (by decide))) (fun h => hf7 (up_back h (by decide))) (fun h => hf8 (up_back h (by decide))) (fun h => hf9 (up_back h (by decide))) (fun h => hf10 (up_back h (by decide))) (fun h => hf11 (up_back h (by decide))) (fun h => ⟨up_old (hS (up_back h (by decide))).1, (hS (up_back h (by decide))).2.1, slPA _ (slP_mono (fun b hq => ⟨hq.1.1, fun _ => Nat.ne_of_lt hq.2⟩) (slP_und (hS (up_back h (by decide))).2.2.1)), slPA _ (slP_mono (fun b hq => ⟨hq.1.1, fun _ => Nat.ne_of_lt hq.2⟩) (slP_und (hS (up_back h (by decide))).2.2.2))⟩) (fun h => hf13 (up_back h (by decide))) (fun h => ⟨up_old (hW13 (up_back h (by decide))).1, up_old (hW13 (up_back h (by decide))).2⟩) (fun h => hf14 (up_back h (by decide))) (fun h => ⟨up_old (hW14 (up_back h (by decide))).1, up_old (hW14 (up_back h (by decide))).2⟩) (fun h => hf15 (up_back h (by decide))) (fun _ => ⟨rfl, hb.size, var4_new _ rfl⟩) (fun h => absurd (hT (up_back h (by decide))).1 hn) (fun h => hf18 (up_back h (by decide)))
    refine StepsL.cons (k := 17) rfl (fun listed a1 w1 hI hn hw K hK => ?_) ?_
    · cases hI with | mk p58 p59 p60 p61 p62 p63 p64 p65 p66 p67 p68 p69 p70 p57 p71 p72 p19 p18 p m e1 p' m' e2 g l2 p3 m3 e3 p4 m4 e4 v x0 x1 x2 x3 ea hb hf0 hC hf2 hf3 hf4 hf5 hf6 hf7 hf8 hf9 hf10 hf11 hS hf13 hW13 hf14 hW14 hf15 hA hT hf18 =>
        have e_f14 := hf14 (hw 14 (by decide))
        subst e_f14
        obtain ⟨e_A, a4, X⟩ := hA (hw 16 (by decide))
        subst e_A
        obtain ⟨⟨z0, z1, z2, z3⟩, f0, f1, f2, f3⟩ := id X
        have Hhf0 := Lib.hid hf0
        have HhC := Lib.hid hC
        have Hhf2 := Lib.hid hf2
        have Hhf3 := Lib.hid hf3
        have Hhf4 := Lib.hid hf4
        have Hhf5 := Lib.hid hf5
        have Hhf6 := Lib.hid hf6
        have Hhf7 := Lib.hid hf7
        have Hhf8 := Lib.hid hf8
        have Hhf9 := Lib.hid hf9
        have Hhf10 := Lib.hid hf10
        have Hhf11 := Lib.hid hf11
        have HhS := Lib.hid hS
        have Hhf13 := Lib.hid hf13
        have HhW13 := Lib.hid hW13
        have Hhf14 := Lib.hid hf14
        have HhW14 := Lib.hid hW14
        have Hhf15 := Lib.hid hf15
        have HhA := Lib.hid hA
        have HhT := Lib.hid hT
        have Hhf18 := Lib.hid hf18
        have Hhb := Lib.hid hb
        have Hhw := Lib.hid hw
        clear hf0 hC hf2 hf3 hf4 hf5 hf6 hf7 hf8 hf9 hf10 hf11 hS hf13 hW13 hf14 hW14 hf15 hA hT hf18 hb hw
        rw [ea]
        clear ea
        simp only [Act.put, List.setIfInBounds_toArray, List.set_cons_zero, List.set_cons_succ]
        go_simp
        have hf0 := Hhf0.out
        have hC := HhC.out
        have hf2 := Hhf2.out
        have hf3 := Hhf3.out
        have hf4 := Hhf4.out
        have hf5 := Hhf5.out
        have hf6 := Hhf6.out
        have hf7 := Hhf7.out
        have hf8 := Hhf8.out
        have hf9 := Hhf9.out
        have hf10 := Hhf10.out
        have hf11 := Hhf11.out
        have hS := HhS.out
        have hf13 := Hhf13.out
        have hW13 := HhW13.out
        have hf14 := Hhf14.out
        have hW14 := HhW14.out
        have hf15 := Hhf15.out
        have hA := HhA.out
        have hT := HhT.out
        have hf18 := Hhf18.out
        have hb := Hhb.out
        have hw := Hhw.out
        refine hK.out _ _ ?_
        exact .mk p58 p59 p60 p61 p62 p63 p64 p65 p66 p67 p68 p69 p70 p57 (.agg #[.slice p3 m3 e3, .slice p4 m4 e4, .int .i64 D, .slice (some ⟨g, 0, none⟩) l2 l2]) p72 (.pointer (some ⟨v, 0, none⟩)) p18 p m e1 p' m' e2 g l2 p3 m3 e3 p4 m4 e4 v _ _ _ _ (by simp only [Act.put, List.setIfInBounds_toArray, List.set_cons_zero, List.set_cons_succ]) (below_set4 hb a4 _ _ _ _) (fun h => hf0 (up_back h (by decide))) (fun h => ⟨(hC (up_back h (by decide))).1, slP_set4 (up_old (hw 16 (by decide))) (slP_mono (fun b hq => ⟨hq.1, fun hu => hq.2 (up_back hu (by decide))⟩) (hC (up_back h (by decide))).2.1), slP_set4 (up_old (hw 16 (by decide))) (slP_mono (fun b hq => ⟨hq.1, fun hu => hq.2 (up_back hu (by decide))⟩) (hC (up_back h (by decide))).2.2.1), blP_set4 (up_old (hw 16 (by decide))) (blP_mono (fun b hq => ⟨hq.1, fun hu => hq.2 (up_back hu (by decide))⟩) (hC (up_back h (by decide))).2.2.2)⟩) (fun h => hf2 (up_back h (by decide))) (fun h => hf3 (up_back h (by decide))) (fun h => hf4 (up_back h (by decide))) (fun h => hf5 (up_back h (by decide))) (fun h => hf6 (up_back h (by decide))) (fun h => hf7 (up_back h (by decide))) (fun h => hf8 (up_back h (by decide))) (fun h => hf9 (up_back h (by decide))) (fun h => hf10 (up_back h (by decide))) (fun h => hf11 (up_back h (by decide))) (fun h => ⟨up_old (hS (up_back h (by decide))).1, (hS (up_back h (by decide))).2.1, slP_set4 (up_old (hw 16 (by decide))) (slP_mono (fun b hq => ⟨hq.1, fun hu => hq.2 (up_back hu (by decide))⟩) (hS (up_back h (by decide))).2.2.1), slP_set4 (up_old (hw 16 (by decide))) (slP_mono (fun b hq => ⟨hq.1, fun hu => hq.2 (up_back hu (by decide))⟩) (hS (up_back h (by decide))).2.2.2)⟩) (fun h => hf13 (up_back h (by decide))) (fun h => ⟨up_old (hW13 (up_back h (by decide))).1, up_old (hW13 (up_back h (by decide))).2⟩) (fun _ => rfl) (fun h => ⟨up_old (hW14 (up_back h (by decide))).1, up_old (hW14 (up_back h (by decide))).2⟩) (fun h => hf15 (up_back h (by decide))) (fun _ => ⟨rfl, a4, var4_set X _ _ _ _⟩) (fun _ => ⟨up_old (hw 16 (by decide)), up_old (hW14 (hw 14 (by decide))).1, rfl, rfl, rfl, rfl⟩) (fun h => hf18 (up_back h (by decide)))
    refine StepsL.cons (k := 18) rfl (fun listed a1 w1 hI hn hw K hK => ?_) ?_
    · cases hI with | mk p58 p59 p60 p61 p62 p63 p64 p65 p66 p67 p68 p69 p70 p57 p71 p72 p19 p18 p m e1 p' m' e2 g l2 p3 m3 e3 p4 m4 e4 v x0 x1 x2 x3 ea hb hf0 hC hf2 hf3 hf4 hf5 hf6 hf7 hf8 hf9 hf10 hf11 hS hf13 hW13 hf14 hW14 hf15 hA hT hf18 =>
        have e_f15 := hf15 (hw 15 (by decide))
        subst e_f15
        have Hhf0 := Lib.hid hf0
        have HhC := Lib.hid hC
        have Hhf2 := Lib.hid hf2
        have Hhf3 := Lib.hid hf3
        have Hhf4 := Lib.hid hf4
        have Hhf5 := Lib.hid hf5
        have Hhf6 := Lib.hid hf6
        have Hhf7 := Lib.hid hf7
        have Hhf8 := Lib.hid hf8
        have Hhf9 := Lib.hid hf9
        have Hhf10 := Lib.hid hf10
        have Hhf11 := Lib.hid hf11
        have HhS := Lib.hid hS
        have Hhf13 := Lib.hid hf13
        have HhW13 := Lib.hid hW13
        have Hhf14 := Lib.hid hf14
        have HhW14 := Lib.hid hW14
        have Hhf15 := Lib.hid hf15
        have HhA := Lib.hid hA
        have HhT := Lib.hid hT
        have Hhf18 := Lib.hid hf18
        have Hhb := Lib.hid hb
        have Hhw := Lib.hid hw
        clear hf0 hC hf2 hf3 hf4 hf5 hf6 hf7 hf8 hf9 hf10 hf11 hS hf13 hW13 hf14 hW14 hf15 hA hT hf18 hb hw
        rw [ea]
        clear ea
        simp only [Act.put, List.setIfInBounds_toArray, List.set_cons_zero, List.set_cons_succ]
        go_simp
        have hf0 := Hhf0.out
        have hC := HhC.out
        have hf2 := Hhf2.out
        have hf3 := Hhf3.out
        have hf4 := Hhf4.out
        have hf5 := Hhf5.out
        have hf6 := Hhf6.out
        have hf7 := Hhf7.out
        have hf8 := Hhf8.out
        have hf9 := Hhf9.out
        have hf10 := Hhf10.out
        have hf11 := Hhf11.out
        have hS := HhS.out
        have hf13 := Hhf13.out
        have hW13 := HhW13.out
        have hf14 := Hhf14.out
        have hW14 := HhW14.out
        have hf15 := Hhf15.out
        have hA := HhA.out
        have hT := HhT.out
        have hf18 := Hhf18.out
        have hb := Hhb.out
        have hw := Hhw.out
        refine hK.out _ _ ?_
        exact .mk p58 p59 p60 p61 p62 p63 p64 p65 p66 p67 p68 p69 p70 p57 p71 (.int .i64 0) p19 (.int .i64 0) p m e1 p' m' e2 g l2 p3 m3 e3 p4 m4 e4 v x0 x1 x2 x3 (by simp only [Act.put, List.setIfInBounds_toArray, List.set_cons_zero, List.set_cons_succ]) (hb) (fun h => hf0 (up_back h (by decide))) (fun h => ⟨(hC (up_back h (by decide))).1, slP_mono (fun b hq => ⟨hq.1, fun hu => hq.2 (up_back hu (by decide))⟩) (hC (up_back h (by decide))).2.1, slP_mono (fun b hq => ⟨hq.1, fun hu => hq.2 (up_back hu (by decide))⟩) (hC (up_back h (by decide))).2.2.1, blP_mono (fun b hq => ⟨hq.1, fun hu => hq.2 (up_back hu (by decide))⟩) (hC (up_back h (by decide))).2.2.2⟩) (fun h => hf2 (up_back h (by decide))) (fun h => hf3 (up_back h (by decide))) (fun h => hf4 (up_back h (by decide))) (fun h => hf5 (up_back h (by decide))) (fun h => hf6 (up_back h (by decide))) (fun h => hf7 (up_back h (by decide))) (fun h => hf8 (up_back h (by decide))) (fun h => hf9 (up_back h (by decide))) (fun h => hf10 (up_back h (by decide))) (fun h => hf11 (up_back h (by decide))) (fun h => ⟨up_old (hS (up_back h (by decide))).1, (hS (up_back h (by decide))).2.1, slP_mono (fun b hq => ⟨hq.1, fun hu => hq.2 (up_back hu (by decide))⟩) (hS (up_back h (by decide))).2.2.1, slP_mono (fun b hq => ⟨hq.1, fun hu => hq.2 (up_back hu (by decide))⟩) (hS (up_back h (by decide))).2.2.2⟩) (fun h => hf13 (up_back h (by decide))) (fun h => ⟨up_old (hW13 (up_back h (by decide))).1, up_old (hW13 (up_back h (by decide))).2⟩) (fun h => hf14 (up_back h (by decide))) (fun h => ⟨up_old (hW14 (up_back h (by decide))).1, up_old (hW14 (up_back h (by decide))).2⟩) (fun _ => rfl) (fun h => hA (up_back h (by decide))) (fun h => ⟨up_old (hT (up_back h (by decide))).1, up_old (hT (up_back h (by decide))).2.1, (hT (up_back h (by decide))).2.2⟩) (fun _ => rfl)
    exact StepsL.nil
end Go.Proofs.YtiebaeaomgpicaaGreat
