/- The contract of package tso's Locked. -/
import Derived.Test.YtiebaeaomgpicaaGreatTsoR
import Derived.Test.YtiebaeaomgpicaaGreatMR
namespace Go.Proofs.YtiebaeaomgpicaaGreat
open Go.ChangeShapes Go.WideShapes Go.ChangeAt Go.RowKit

attribute [local go_sem] store_func
attribute [local go_sem ↓] Go.wp_at_zero Go.wp_at_succ

/-- which function stands for a kind -/
theorem ops_at {w : World} {go : Nat} {k : Int} (hk : kindB k = true) (Y : Var3 w go (.func (.func 94) #[] #[]) (.func (.func 95) #[] #[]) (.func (.func 96) #[] #[])) :
    ∃ j F : Nat, k = (j : Int) ∧ j < 3 ∧ w.cell? ⟨go, j, none⟩ = some (.func (.func F) #[] #[]) ∧ (F = 94 ∨ F = 95 ∨ F = 96) ∧ ∀ (word a b : Int) (w : World), Calls Tryz.prog F #[.int .i64 word, .int .i64 a, .int .i64 b] w (FunPost (lockV k word a b) w) := by
  have hk2 : 0 ≤ k ∧ k ≤ 2 := by simpa [kindB] using hk
  obtain ⟨⟨y0, y1, y2⟩, -⟩ := Y
  rcases (show k = 0 ∨ k = 1 ∨ k = 2 by omega) with rfl | rfl | rfl
  · exact ⟨0, _, rfl, by omega, y0, .inl rfl, opCas_any⟩
  · exact ⟨1, _, rfl, by omega, y1, .inr (.inl rfl), opXchg_any⟩
  · exact ⟨2, _, rfl, by omega, y2, .inr (.inr rfl), opAdd_any⟩

/-- a machine in new rows, a word and an error -/
def LockF (ws ts : List Int) (D : Int) (bs : List (List (Int × Int))) (v x : Int) (w : World) (e : Ending) (w' : World) : Prop :=
  ∃ a n c a' n' c' q l d, e = .returned (.tuple #[.agg #[.slice a n c, .slice a' n' c', .int .i64 D, .slice q l d], .int .i64 v, .int .i64 x]) ∧ SlP (fun b => w.heap.size ≤ b) w' a n ws ∧ SlP (fun b => w.heap.size ≤ b) w' a' n' ts ∧ BlP (fun b => w.heap.size ≤ b) w' q l bs ∧ Below w.heap.size w w'
theorem lockF_no {A B : List Int} {z u E : Int} {C : List (List (Int × Int))} (he : E ≠ 0) {w w' : World} (hb : Below w.heap.size w w') : LockF (okL E A) (okL E B) (okZ E z) (okL E C) (okZ E u) E w (.returned (.tuple #[.agg #[.slice none 0 0, .slice none 0 0, .int .i64 0, .slice none 0 0], .int .i64 0, .int .i64 E])) w' := by
  rw [okL_neg he, okL_neg he, okZ_neg he, okL_neg he, okZ_neg he]
  exact ⟨_, _, _, _, _, _, _, _, _, rfl, slP_nil _ _, slP_nil _ _, blP_nil _ _, hb⟩
theorem lockF_yes {A B : List Int} {z u E : Int} {C : List (List (Int × Int))} (he : E = 0) {w w' : World} {a a' q : Option Addr} {n c n' c' l d : Nat} (s1 : SlP (fun b => w.heap.size ≤ b) w' a n A) (s2 : SlP (fun b => w.heap.size ≤ b) w' a' n' B) (s3 : BlP (fun b => w.heap.size ≤ b) w' q l C) (hb : Below w.heap.size w w') :
    LockF (okL E A) (okL E B) (okZ E z) (okL E C) (okZ E u) E w (.returned (.tuple #[.agg #[.slice a n c, .slice a' n' c', .int .i64 z, .slice q l d], .int .i64 u, .int .i64 0])) w' := by
  subst he
  exact ⟨_, _, _, _, _, _, _, _, _, rfl, s1, s2, s3, hb⟩

set_option maxRecDepth 100000 in
set_option maxHeartbeats 12000000 in
theorem tsoLockedF_any (a a' q : Option Addr) (n c n' c' l d : Nat) (ws ts : List Int) (D : Int) (bs : List (List (Int × Int))) (th k x y z : Int) (w : World) (S1 : Sl w a n ws) (S2 : Sl w a' n' ts) (S : Bl w q l bs) (hx : (Lit.int .i64 x).wf = true) :
    Calls Tryz.prog 36 #[.agg #[.slice a n c, .slice a' n' c', .int .i64 D, .slice q l d], .int .i64 th, .int .i64 k, .int .i64 x, .int .i64 y, .int .i64 z] w (LockF (okL (lockTE ws ts D bs th k x) (lockTW ws ts k x y z)) (okL (lockTE ws ts D bs th k x) ts) (okZ (lockTE ws ts D bs th k x) D) (okL (lockTE ws ts D bs th k x) bs) (okZ (lockTE ws ts D bs th k x) (loadZ ws ts x)) (lockTE ws ts D bs th k x) w) := by
  have HWX := Lib.hid hx
  have Hl := Lib.hid S.1
  clear hx
  obtain ⟨W, hW⟩ : ∃ W, W = (w.alloc (Obj.cells #[.slice a n c, .slice a' n' c', .int .i64 D, .slice q l d] 46)).alloc (Obj.cells #[.slice none 0 0, .slice none 0 0, .int .i64 0, .slice none 0 0] 46) := ⟨_, rfl⟩
  have hbW : Below w.heap.size w W := by rw [hW]; go_grown
  have X0 : Var4 W w.heap.size (.slice a n c) (.slice a' n' c') (.int .i64 D) (.slice q l d) := by rw [hW]; exact var4_A _ (var4_new _ rfl)
  have R0 : Var4 W (w.heap.size + 1) (.slice none 0 0) (.slice none 0 0) (.int .i64 0) (.slice none 0 0) := by rw [hW]; exact var4_new _ (by simp)
  have T1 := slB hbW S1
  have T2 := slB hbW S2
  have T := blB hbW S
  have hzR := var4_lt R0
  have HBW := Lib.hid hbW
  have HR0 := Lib.hid R0
  have HX0 := Lib.hid X0
  have HT := Lib.hid (And.intro T1 (And.intro T2 T))
  have HW := Lib.hid hW
  clear hW hbW X0 R0 T1 T2 T S1 S2 S
  go_enter Tryz.func36, Tryz.ntmps36
  go_upto_region 1 with fail
  rw [← HW.out]
  go_cut [15, 16] (fun s15 s16 wx => LockCut W (.slice a n c) (.slice a' n' c') (.int .i64 D) (.slice q l d) s15 s16 wx)
  case first =>
    refine wp_region_inv (LockInv (.slice a n c) (.slice a' n' c') (.int .i64 D) (.slice q l d)) (by kernel_rfl) (by kernel_rfl) ?_ ?_ ?_
    · intro listed hl
      exact .mk _ _ _ _ _ 0 0 .nilFunc .nilFunc .nilFunc .nilFunc .nilFunc .nilFunc .nilFunc rfl (Below.refl _ _).drew (fun h => absurd h (hl 0 (by decide))) (fun h => absurd h (hl 1 (by decide))) (fun h => absurd h (hl 2 (by decide))) (fun h => absurd h (hl 3 (by decide))) (fun h => absurd h (hl 4 (by decide))) (fun h => absurd h (hl 5 (by decide))) (fun h => absurd h (hl 6 (by decide)))
    · show StepsL _ _ _ _ _ _ _
      refine StepsL.cons (k := 0) rfl (fun listed a1 w1 hI hn hw K hK => ?_) ?_
      · cases hI with | mk p20 p21 p22 p15 p16 gx go x0 x1 x2 x3 y0 y1 y2 ea hb hf0 hf1 hf2 hX hO hSX hSO =>
          obtain ⟨⟨k0, k1, k2, k3⟩, -⟩ := var4_B hb HX0.out
          have Hhf0 := Lib.hid hf0
          have Hhf1 := Lib.hid hf1
          have Hhf2 := Lib.hid hf2
          have HhX := Lib.hid hX
          have HhO := Lib.hid hO
          have HhSX := Lib.hid hSX
          have HhSO := Lib.hid hSO
          have Hhb := Lib.hid hb
          have Hhw := Lib.hid hw
          clear hf0 hf1 hf2 hX hO hSX hSO hb hw
          rw [ea]
          clear ea
          simp only [Act.put, List.setIfInBounds_toArray, List.set_cons_zero, List.set_cons_succ]
          go_simp
          have hf0 := Hhf0.out
          have hf1 := Hhf1.out
          have hf2 := Hhf2.out
          have hX := HhX.out
          have hO := HhO.out
          have hSX := HhSX.out
          have hSO := HhSO.out
          have hb := Hhb.out
          have hw := Hhw.out
          refine hK.out _ _ ?_
          exact .mk (.agg #[.slice a n c, .slice a' n' c', .int .i64 D, .slice q l d]) p21 p22 p15 p16 gx go x0 x1 x2 x3 y0 y1 y2 (by simp only [Act.put, List.setIfInBounds_toArray, List.set_cons_zero, List.set_cons_succ]) (hb) (fun _ => rfl) (fun h => hf1 (up_back h (by decide))) (fun h => hf2 (up_back h (by decide))) (fun h => hX (up_back h (by decide))) (fun h => ⟨(hO (up_back h (by decide))).1, (hO (up_back h (by decide))).2.1, (hO (up_back h (by decide))).2.2.1, fun hu => (hO (up_back h (by decide))).2.2.2 (up_back hu (by decide))⟩) (fun h => ⟨up_old (hSX (up_back h (by decide))).1, (hSX (up_back h (by decide))).2⟩) (fun h => ⟨up_old (hSO (up_back h (by decide))).1, (hSO (up_back h (by decide))).2⟩)
      refine StepsL.cons (k := 1) rfl (fun listed a1 w1 hI hn hw K hK => ?_) ?_
      · cases hI with | mk p20 p21 p22 p15 p16 gx go x0 x1 x2 x3 y0 y1 y2 ea hb hf0 hf1 hf2 hX hO hSX hSO =>
          have e_f0 := hf0 (hw 0 (by decide))
          subst e_f0
          have Hhf0 := Lib.hid hf0
          have Hhf1 := Lib.hid hf1
          have Hhf2 := Lib.hid hf2
          have HhX := Lib.hid hX
          have HhO := Lib.hid hO
          have HhSX := Lib.hid hSX
          have HhSO := Lib.hid hSO
          have Hhb := Lib.hid hb
          have Hhw := Lib.hid hw
          clear hf0 hf1 hf2 hX hO hSX hSO hb hw
          rw [ea]
          clear ea
          simp only [Act.put, List.setIfInBounds_toArray, List.set_cons_zero, List.set_cons_succ]
          go_simp
          have hf0 := Hhf0.out
          have hf1 := Hhf1.out
          have hf2 := Hhf2.out
          have hX := HhX.out
          have hO := HhO.out
          have hSX := HhSX.out
          have hSO := HhSO.out
          have hb := Hhb.out
          have hw := Hhw.out
          refine hK.out _ _ ?_
          exact .mk (.agg #[.slice a n c, .slice a' n' c', .int .i64 D, .slice q l d]) (.agg #[.slice a n c, .slice a' n' c', .int .i64 D, .slice q l d]) p22 p15 p16 gx go x0 x1 x2 x3 y0 y1 y2 (by simp only [Act.put, List.setIfInBounds_toArray, List.set_cons_zero, List.set_cons_succ]) (hb) (fun _ => rfl) (fun _ => rfl) (fun h => hf2 (up_back h (by decide))) (fun h => hX (up_back h (by decide))) (fun h => ⟨(hO (up_back h (by decide))).1, (hO (up_back h (by decide))).2.1, (hO (up_back h (by decide))).2.2.1, fun hu => (hO (up_back h (by decide))).2.2.2 (up_back hu (by decide))⟩) (fun h => ⟨up_old (hSX (up_back h (by decide))).1, (hSX (up_back h (by decide))).2⟩) (fun h => ⟨up_old (hSO (up_back h (by decide))).1, (hSO (up_back h (by decide))).2⟩)
      refine StepsL.cons (k := 2) rfl (fun listed a1 w1 hI hn hw K hK => ?_) ?_
      · cases hI with | mk p20 p21 p22 p15 p16 gx go x0 x1 x2 x3 y0 y1 y2 ea hb hf0 hf1 hf2 hX hO hSX hSO =>
          have Hhf0 := Lib.hid hf0
          have Hhf1 := Lib.hid hf1
          have Hhf2 := Lib.hid hf2
          have HhX := Lib.hid hX
          have HhO := Lib.hid hO
          have HhSX := Lib.hid hSX
          have HhSO := Lib.hid hSO
          have Hhb := Lib.hid hb
          have Hhw := Lib.hid hw
          clear hf0 hf1 hf2 hX hO hSX hSO hb hw
          rw [ea]
          clear ea
          simp only [Act.put, List.setIfInBounds_toArray, List.set_cons_zero, List.set_cons_succ]
          go_simp
          go_at_call 65
          refine (ops_any _).mono ?_
          rintro e w2 ⟨rfl, hb2⟩
          have hf0 := Hhf0.out
          have hf1 := Hhf1.out
          have hf2 := Hhf2.out
          have hX := HhX.out
          have hO := HhO.out
          have hSX := HhSX.out
          have hSO := HhSO.out
          have hb := Hhb.out
          have hw := Hhw.out
          refine hK.out _ _ ?_
          exact .mk p20 p21 (.agg #[.func (.func 94) #[] #[], .func (.func 95) #[] #[], .func (.func 96) #[] #[]]) p15 p16 gx go x0 x1 x2 x3 y0 y1 y2 (by simp only [Act.put, List.setIfInBounds_toArray, List.set_cons_zero, List.set_cons_succ]) (below_from hb hb2) (fun h => hf0 (up_back h (by decide))) (fun h => hf1 (up_back h (by decide))) (fun _ => rfl) (fun h => ⟨(hX (up_back h (by decide))).1, (hX (up_back h (by decide))).2.1, var4_B hb2 (hX (up_back h (by decide))).2.2⟩) (fun h => ⟨(hO (up_back h (by decide))).1, (hO (up_back h (by decide))).2.1, var3_B hb2 (hO (up_back h (by decide))).2.2.1, fun hu => (hO (up_back h (by decide))).2.2.2 (up_back hu (by decide))⟩) (fun h => ⟨up_old (hSX (up_back h (by decide))).1, (hSX (up_back h (by decide))).2⟩) (fun h => ⟨up_old (hSO (up_back h (by decide))).1, (hSO (up_back h (by decide))).2⟩)
      refine StepsL.cons (k := 3) rfl (fun listed a1 w1 hI hn hw K hK => ?_) ?_
      · cases hI with | mk p20 p21 p22 p15 p16 gx go x0 x1 x2 x3 y0 y1 y2 ea hb hf0 hf1 hf2 hX hO hSX hSO =>
          have Hhf0 := Lib.hid hf0
          have Hhf1 := Lib.hid hf1
          have Hhf2 := Lib.hid hf2
          have HhX := Lib.hid hX
          have HhO := Lib.hid hO
          have HhSX := Lib.hid hSX
          have HhSO := Lib.hid hSO
          have Hhb := Lib.hid hb
          have Hhw := Lib.hid hw
          clear hf0 hf1 hf2 hX hO hSX hSO hb hw
          rw [ea]
          clear ea
          simp only [Act.put, List.setIfInBounds_toArray, List.set_cons_zero, List.set_cons_succ]
          go_simp
          have hf0 := Hhf0.out
          have hf1 := Hhf1.out
          have hf2 := Hhf2.out
          have hX := HhX.out
          have hO := HhO.out
          have hSX := HhSX.out
          have hSO := HhSO.out
          have hb := Hhb.out
          have hw := Hhw.out
          refine hK.out _ _ ?_
          exact .mk p20 p21 p22 (.pointer (some ⟨w1.heap.size, 0, none⟩)) p16 w1.heap.size go _ _ _ _ y0 y1 y2 (by simp only [Act.put, List.setIfInBounds_toArray, List.set_cons_zero, List.set_cons_succ]) (hb.alloc hb.size _) (fun h => hf0 (up_back h (by decide))) (fun h => hf1 (up_back h (by decide))) (fun h => hf2 (up_back h (by decide))) (fun _ => ⟨rfl, hb.size, var4_new _ rfl⟩) (fun h => ⟨(hO (up_back h (by decide))).1, (hO (up_back h (by decide))).2.1, var3_A _ (hO (up_back h (by decide))).2.2.1, fun _ => by have := var3_lt (hO (up_back h (by decide))).2.2.1; omega⟩) (fun h => absurd (hSX (up_back h (by decide))).1 hn) (fun h => ⟨up_old (hSO (up_back h (by decide))).1, (hSO (up_back h (by decide))).2⟩)
      refine StepsL.cons (k := 4) rfl (fun listed a1 w1 hI hn hw K hK => ?_) ?_
      · cases hI with | mk p20 p21 p22 p15 p16 gx go x0 x1 x2 x3 y0 y1 y2 ea hb hf0 hf1 hf2 hX hO hSX hSO =>
          have Hhf0 := Lib.hid hf0
          have Hhf1 := Lib.hid hf1
          have Hhf2 := Lib.hid hf2
          have HhX := Lib.hid hX
          have HhO := Lib.hid hO
          have HhSX := Lib.hid hSX
          have HhSO := Lib.hid hSO
          have Hhb := Lib.hid hb
          have Hhw := Lib.hid hw
          clear hf0 hf1 hf2 hX hO hSX hSO hb hw
          rw [ea]
          clear ea
          simp only [Act.put, List.setIfInBounds_toArray, List.set_cons_zero, List.set_cons_succ]
          go_simp
          have hf0 := Hhf0.out
          have hf1 := Hhf1.out
          have hf2 := Hhf2.out
          have hX := HhX.out
          have hO := HhO.out
          have hSX := HhSX.out
          have hSO := HhSO.out
          have hb := Hhb.out
          have hw := Hhw.out
          refine hK.out _ _ ?_
          exact .mk p20 p21 p22 p15 (.pointer (some ⟨w1.heap.size, 0, none⟩)) gx w1.heap.size x0 x1 x2 x3 _ _ _ (by simp only [Act.put, List.setIfInBounds_toArray, List.set_cons_zero, List.set_cons_succ]) (hb.alloc hb.size _) (fun h => hf0 (up_back h (by decide))) (fun h => hf1 (up_back h (by decide))) (fun h => hf2 (up_back h (by decide))) (fun h => ⟨(hX (up_back h (by decide))).1, (hX (up_back h (by decide))).2.1, var4_A _ (hX (up_back h (by decide))).2.2⟩) (fun _ => ⟨rfl, hb.size, var3_new _ rfl, fun h => by have := var4_lt (hX (up_back h (by decide))).2.2; omega⟩) (fun h => ⟨up_old (hSX (up_back h (by decide))).1, (hSX (up_back h (by decide))).2⟩) (fun h => absurd (hSO (up_back h (by decide))).1 hn)
      refine StepsL.cons (k := 5) rfl (fun listed a1 w1 hI hn hw K hK => ?_) ?_
      · cases hI with | mk p20 p21 p22 p15 p16 gx go x0 x1 x2 x3 y0 y1 y2 ea hb hf0 hf1 hf2 hX hO hSX hSO =>
          have e_f1 := hf1 (hw 1 (by decide))
          subst e_f1
          obtain ⟨e_X, a4, X⟩ := hX (hw 3 (by decide))
          subst e_X
          obtain ⟨⟨z0, z1, z2, z3⟩, f0, f1, f2, f3⟩ := id X
          have Hhf0 := Lib.hid hf0
          have Hhf1 := Lib.hid hf1
          have Hhf2 := Lib.hid hf2
          have HhX := Lib.hid hX
          have HhO := Lib.hid hO
          have HhSX := Lib.hid hSX
          have HhSO := Lib.hid hSO
          have Hhb := Lib.hid hb
          have Hhw := Lib.hid hw
          clear hf0 hf1 hf2 hX hO hSX hSO hb hw
          rw [ea]
          clear ea
          simp only [Act.put, List.setIfInBounds_toArray, List.set_cons_zero, List.set_cons_succ]
          go_simp
          have hf0 := Hhf0.out
          have hf1 := Hhf1.out
          have hf2 := Hhf2.out
          have hX := HhX.out
          have hO := HhO.out
          have hSX := HhSX.out
          have hSO := HhSO.out
          have hb := Hhb.out
          have hw := Hhw.out
          refine hK.out _ _ ?_
          exact .mk p20 (.agg #[.slice a n c, .slice a' n' c', .int .i64 D, .slice q l d]) p22 (.pointer (some ⟨gx, 0, none⟩)) p16 gx go _ _ _ _ y0 y1 y2 (by simp only [Act.put, List.setIfInBounds_toArray, List.set_cons_zero, List.set_cons_succ]) (below_set4 hb a4 _ _ _ _) (fun h => hf0 (up_back h (by decide))) (fun _ => rfl) (fun h => hf2 (up_back h (by decide))) (fun _ => ⟨rfl, a4, var4_set X _ _ _ _⟩) (fun h => ⟨(hO (up_back h (by decide))).1, (hO (up_back h (by decide))).2.1, var3_set4 (hO (up_back h (by decide))).2.2.1 ((hO (up_back h (by decide))).2.2.2 (hw 3 (by decide))), fun _ => (hO (up_back h (by decide))).2.2.2 (hw 3 (by decide))⟩) (fun _ => ⟨up_old (hw 3 (by decide)), rfl, rfl, rfl, rfl⟩) (fun h => ⟨up_old (hSO (up_back h (by decide))).1, (hSO (up_back h (by decide))).2⟩)
      refine StepsL.cons (k := 6) rfl (fun listed a1 w1 hI hn hw K hK => ?_) ?_
      · cases hI with | mk p20 p21 p22 p15 p16 gx go x0 x1 x2 x3 y0 y1 y2 ea hb hf0 hf1 hf2 hX hO hSX hSO =>
          have e_f2 := hf2 (hw 2 (by decide))
          subst e_f2
          obtain ⟨e_O, a4, X, hne⟩ := hO (hw 4 (by decide))
          subst e_O
          obtain ⟨⟨z0, z1, z2⟩, f0, f1, f2⟩ := id X
          have Hhf0 := Lib.hid hf0
          have Hhf1 := Lib.hid hf1
          have Hhf2 := Lib.hid hf2
          have HhX := Lib.hid hX
          have HhO := Lib.hid hO
          have HhSX := Lib.hid hSX
          have HhSO := Lib.hid hSO
          have Hhb := Lib.hid hb
          have Hhw := Lib.hid hw
          clear hf0 hf1 hf2 hX hO hSX hSO hb hw
          rw [ea]
          clear ea
          simp only [Act.put, List.setIfInBounds_toArray, List.set_cons_zero, List.set_cons_succ]
          go_simp
          have hf0 := Hhf0.out
          have hf1 := Hhf1.out
          have hf2 := Hhf2.out
          have hX := HhX.out
          have hO := HhO.out
          have hSX := HhSX.out
          have hSO := HhSO.out
          have hb := Hhb.out
          have hw := Hhw.out
          refine hK.out _ _ ?_
          exact .mk p20 p21 (.agg #[.func (.func 94) #[] #[], .func (.func 95) #[] #[], .func (.func 96) #[] #[]]) p15 (.pointer (some ⟨go, 0, none⟩)) gx go x0 x1 x2 x3 _ _ _ (by simp only [Act.put, List.setIfInBounds_toArray, List.set_cons_zero, List.set_cons_succ]) (below_set3 hb a4 _ _ _) (fun h => hf0 (up_back h (by decide))) (fun h => hf1 (up_back h (by decide))) (fun _ => rfl) (fun h => ⟨(hX (up_back h (by decide))).1, (hX (up_back h (by decide))).2.1, var4_set3' (hX (up_back h (by decide))).2.2 (Ne.symm (hne (up_back h (by decide))))⟩) (fun _ => ⟨rfl, a4, var3_set X _ _ _, fun hu => hne (up_back hu (by decide))⟩) (fun h => ⟨up_old (hSX (up_back h (by decide))).1, (hSX (up_back h (by decide))).2⟩) (fun _ => ⟨up_old (hw 4 (by decide)), rfl, rfl, rfl⟩)
      exact StepsL.nil
    · intro listed a1 w1 hI hu
      cases hI with | mk p20 p21 p22 p15 p16 gx go x0 x1 x2 x3 y0 y1 y2 ea hb hf0 hf1 hf2 hX hO hSX hSO =>
        obtain ⟨e15, e3, X⟩ := hX (hu 3)
        obtain ⟨e16, e4, Y, -⟩ := hO (hu 4)
        obtain ⟨-, ex0, ex1, ex2, ex3⟩ := hSX (hu 5)
        obtain ⟨-, ey0, ey1, ey2⟩ := hSO (hu 6)
        subst e15 e16 ex0 ex1 ex2 ex3 ey0 ey1 ey2
        have HC := Lib.hid (show LockCut W (.slice a n c) (.slice a' n' c') (.int .i64 D) (.slice q l d) (.pointer (some ⟨gx, 0, none⟩)) (.pointer (some ⟨go, 0, none⟩)) w1 from ⟨gx, go, rfl, rfl, X, Y, e3, e4, hb⟩)
        clear hf0 hf1 hf2 hX hO hSX hSO hb X Y
        rw [ea]
        clear ea
        simp only [Act.put, List.setIfInBounds_toArray, List.set_cons_zero, List.set_cons_succ]
        go_wp2_with fail
        go_meet
        exact HC.out
  case rest =>
    obtain ⟨gx, go, rfl, rfl, X, Y, hgx, hgo, hbc⟩ := hcut
    obtain ⟨T1, T2, T⟩ := HT.out
    replace T1 := slB hbc T1
    replace T2 := slB hbc T2
    replace T := blB hbc T
    have R := var4_B hbc HR0.out
    have HB := Lib.hid (below_from HBW.out hbc)
    have hzc := hbc.size
    clear hbc HT HR0 HBW HX0 HW
    obtain ⟨⟨k0, k1, k2, k3⟩, -⟩ := id X
    go_wp2_with fail
    refine (tsoHas_any a a' q n c n' c' l d ws ts D th bs _ T1 T2 T).mono ?_
    rintro e w1 ⟨rfl, hb⟩
    replace T1 := slB hb T1
    replace T2 := slB hb T2
    replace T := blB hb T
    replace R := var4_B hb R
    replace X := var4_B hb X
    replace Y := var3_B hb Y
    have HB1 := Lib.hid (below_from HB.out hb)
    have hz1 := hb.size
    clear hb HB k0 k1 k2 k3
    by_cases hhk : hasB ws ts D bs th = true ∧ kindB k = true
    · obtain ⟨hh, hk⟩ := hhk
      obtain ⟨hm, h0, h1⟩ := hasB_parts hh
      have HH := Lib.hid (show (mayT ws ts D bs && thB bs th) = true from hh)
      have HE := Lib.hid (show lockTE ws ts D bs th k x = if bufOf bs th = [] then usableZ ws ts x else 9 by rw [lockTE, if_pos ⟨hh, hk⟩])
      obtain ⟨j, F, rfl, hj3, hf, hff, hc⟩ := ops_at hk Y
      have HFF := Lib.hid hff
      have HF := Lib.hid hf
      have HC := Lib.hid hc
      have HM := Lib.hid hm
      obtain ⟨t, rfl⟩ := Int.eq_ofNat_of_zero_le h0
      have htl : t < l := by rw [← Hl.out]; omega
      obtain ⟨b, o, p, pc, rfl, g0, hcap, hp⟩ := bl_at T htl
      obtain ⟨ps, hps⟩ : ∃ ps, bs.getD t [] = ps := ⟨_, rfl⟩
      rw [hps] at g0
      have HPS := Lib.hid (show bufOf bs (t : Int) = ps by rw [bufOf, Int.toNat_natCast, hps])
      rw [HPS.out] at HE
      obtain ⟨m, hmm⟩ : ∃ m, ps.length = m := ⟨_, rfl⟩
      rw [hmm] at g0
      have HPL := Lib.hid hmm
      rw [HH.out]
      have i1 : ¬ (j : Int) < 0 := by omega
      have i2 : ¬ (3 : Int) ≤ j := by omega
      have i3 : (0 : Int) ≤ j := by omega
      have i4 : (j : Int) < 3 := by omega
      have i5 : (0 : Int) ≤ t := by omega
      have i6 : (t : Int) < l := by omega
      obtain ⟨⟨k0, k1, k2, k3⟩, -⟩ := id X
      clear hh hk hm h0 h1 hf hff hc hcap hp hps hmm
      by_cases hne : ps = []
      · obtain rfl : 0 = m := by rw [← HPL.out, hne]; rfl
        have HNE := Lib.hid hne
        clear hne
        go_wp2_with fail
        refine (Load_any a a' n c n' c' ws ts x _ T1 T2 HWX.out).mono ?_
        rintro e w2 ⟨rfl, hb⟩
        obtain ⟨ev, hev⟩ : ∃ z, usableZ ws ts x = z := ⟨_, rfl⟩
        obtain ⟨lv, hlv⟩ : ∃ z, loadZ ws ts x = z := ⟨_, rfl⟩
        have HEV := Lib.hid hev
        have HLV := Lib.hid hlv
        have HES := Lib.hid (show lockTE ws ts D bs t j x = ev by rw [HE.out, if_pos HNE.out, hev])
        rw [hev, hlv]
        have HB2 := Lib.hid (below_from HB1.out hb)
        replace R := var4_B hb R
        by_cases he : ev = 0
        · subst he
          have HX := Lib.hid (var4_B hb X)
          have HU := HEV
          have KF := Lib.hid (cellB hb HF.out)
          replace T1 := slB hb T1
          replace T2 := slB hb T2
          replace T := blB hb T
          have HR := Lib.hid R
          have hz2 := hb.size
          obtain ⟨nv, hnv⟩ : ∃ nv, lockV j lv y z = nv := ⟨_, rfl⟩
          have HNV := Lib.hid hnv
          obtain ⟨us, hus⟩ : ∃ us, ws.set x.toNat nv = us := ⟨_, rfl⟩
          have HUS := Lib.hid hus
          have HLW := Lib.hid (show us = lockTW ws ts j x y z by rw [lockTW, HLV.out, hnv, hus])
          clear hb hev hlv hnv hus k0 k1 k2 k3 g0 X Y R HF hzR
          obtain ⟨W2, hW2⟩ : ∃ W2 : World, W2 = w2 := ⟨_, rfl⟩
          subst hW2
          go_upto_region 9 with fail
          go_cut [18, 19] (fun s18 s19 wx => LockCut9 W2 us ts D bs s18 s19 wx)
          case first =>
            refine lock_reg9 a a' b o n c n' c' l d ws ts us D bs j gx go F x y z lv nv _ _ _ _ _ _ _ _ _ _ _ _ _ _ _ _ _ _ _ _ _ _ _ _ _ _ _ _ _ _ _ _ _ _ _ _ _ _ _ _ _ _ _ _ _ _ _ _ _ _ _ _ _ _ _ _ _ _ _ _ _ _ _ _ _ _ _ _ _ W2 _ HX T1 T2 T HM HWX HU HUS HNV HC HFF KF i3 i4 ?_
            · intro listed a1 w3 hI hu
              cases hI with | mk p58 p59 p60 p61 p62 p63 p64 p65 p66 p67 p68 p69 p70 p57 p71 p72 p19 p18 p m e1 p' m' e2 g l2 p3 m3 e3 p4 m4 e4 v x0 x1 x2 x3 ea hb hf0 hC hf2 hf3 hf4 hf5 hf6 hf7 hf8 hf9 hf10 hf11 hS hf13 hW13 hf14 hW14 hf15 hA hT hf18 =>
              have e18 := hf18 (hu 18)
              obtain ⟨e19, a4, X⟩ := hA (hu 16)
              obtain ⟨-, -, ex0, ex1, ex2, ex3⟩ := hT (hu 17)
              obtain ⟨-, -, s1, s2⟩ := hS (hu 12)
              obtain ⟨-, -, -, c3⟩ := hC (hu 1)
              subst e18 e19 ex0 ex1 ex2 ex3
              have HZ := Lib.hid (show LockCut9 W2 us ts D bs (.int .i64 0) (.pointer (some ⟨v, 0, none⟩)) w3 from ⟨v, _, _, _, _, _, _, _, _, _, rfl, rfl, a4, X, slP_mono (fun _ h => h.1) s1, slP_mono (fun _ h => h.1) s2, blP_mono (fun _ h => h.1) c3, hb⟩)
              clear hf0 hC hf2 hf3 hf4 hf5 hf6 hf7 hf8 hf9 hf10 hf11 hS hf13 hW13 hf14 hW14 hf15 hA hT hf18 hb X s1 s2 c3 hu
              rw [ea]
              clear ea
              simp only [Act.put, List.setIfInBounds_toArray, List.set_cons_zero, List.set_cons_succ]
              go_wp2_with fail
              go_meet
              exact HZ.out
          case rest =>
            obtain ⟨v, a2, n2, c2, a3, n3, c3, q2, l2, d2, rfl, rfl, hv, X, s1, s2, s3, hbc⟩ := hcut
            have R := var4_B hbc HR.out
            have hzR := var4_lt HR.out
            have HB3 := Lib.hid (below_from HB2.out hbc)
            obtain ⟨⟨k0, k1, k2, k3⟩, -⟩ := id X
            have H4 := Lib.hid (var4_set R (.slice a2 n2 c2) (.slice a3 n3 c3) (.int .i64 D) (.slice q2 l2 d2))
            obtain ⟨⟨r0, r1, r2, r3⟩, f0, f1, f2, f3⟩ := R
            have HV1 := Lib.hid (slP_mono (fun b (hb : W2.heap.size ≤ b) => Nat.le_trans HB2.out.size hb) (slP_keep (fun _ _ _ hq hv => cell_set4 (g := w.heap.size + 1) (x := .slice a2 n2 c2) (y := .slice a3 n3 c3) (z := .int .i64 D) (u := .slice q2 l2 d2) hv (by omega)) s1))
            have HV2 := Lib.hid (slP_mono (fun b (hb : W2.heap.size ≤ b) => Nat.le_trans HB2.out.size hb) (slP_keep (fun _ _ _ hq hv => cell_set4 (g := w.heap.size + 1) (x := .slice a2 n2 c2) (y := .slice a3 n3 c3) (z := .int .i64 D) (u := .slice q2 l2 d2) hv (by omega)) s2))
            have HV3 := Lib.hid (blP_mono (fun b (hb : W2.heap.size ≤ b) => Nat.le_trans HB2.out.size hb) (blP_keep (fun _ _ _ hq hv => cell_set4 (g := w.heap.size + 1) (x := .slice a2 n2 c2) (y := .slice a3 n3 c3) (z := .int .i64 D) (u := .slice q2 l2 d2) hv (by omega)) s3))
            clear s1 s2 s3 hbc T1 T2 T
            go_wp2
            refine bp_cell_tmp2 ⟨w.heap.size + 1, 0, none⟩ rfl rfl rfl (load_tso' _ _ _ _ _ _ H4.out.1.1 H4.out.1.2.1 H4.out.1.2.2.1 H4.out.1.2.2.2) ?_
            rw [← HLW.out, HLV.out, HES.out]
            exact lockF_yes rfl HV1.out HV2.out HV3.out (below_set4 HB3.out (by omega) _ _ _ _)
        · have q1 : (ev != 0) = true := by simpa using he
          have HEN := Lib.hid he
          have HZ := Lib.hid (var4_set R (.slice none 0 0) (.slice none 0 0) (.int .i64 0) (.slice none 0 0))
          obtain ⟨⟨r0, r1, r2, r3⟩, f0, f1, f2, f3⟩ := R
          clear he hb hev hlv X Y T1 T2 T k0 k1 k2 k3 g0
          go_wp2
          refine bp_cell_tmp2 ⟨w.heap.size + 1, 0, none⟩ rfl rfl rfl (load_tso' _ _ _ _ _ _ HZ.out.1.1 HZ.out.1.2.1 HZ.out.1.2.2.1 HZ.out.1.2.2.2) ?_
          rw [HES.out]
          exact lockF_no HEN.out (below_set4 (g := w.heap.size + 1) HB2.out (by omega) _ _ _ _)
      · have HES := Lib.hid (show lockTE ws ts D bs t j x = 9 by rw [HE.out, if_neg hne])
        have hm0 : 0 < m := by rw [← HPL.out]; exact List.length_pos_iff.2 hne
        have HZ := Lib.hid (var4_set R (.slice none 0 0) (.slice none 0 0) (.int .i64 0) (.slice none 0 0))
        obtain ⟨⟨r0, r1, r2, r3⟩, f0, f1, f2, f3⟩ := R
        clear hne X Y T1 T2 T
        go_wp2
        refine bp_cell_tmp2 ⟨w.heap.size + 1, 0, none⟩ rfl rfl rfl (load_tso' _ _ _ _ _ _ HZ.out.1.1 HZ.out.1.2.1 HZ.out.1.2.2.1 HZ.out.1.2.2.2) ?_
        rw [HES.out]
        exact lockF_no (by decide) (below_set4 (g := w.heap.size + 1) HB1.out (by omega) _ _ _ _)
    · have HES := Lib.hid (show lockTE ws ts D bs th k x = 1 by rw [lockTE, if_neg hhk])
      have HZ := Lib.hid (var4_set R (.slice none 0 0) (.slice none 0 0) (.int .i64 0) (.slice none 0 0))
      obtain ⟨⟨r0, r1, r2, r3⟩, f0, f1, f2, f3⟩ := R
      have hcase : (mayT ws ts D bs && thB bs th) = false ∨ ((mayT ws ts D bs && thB bs th) = true ∧ k < 0) ∨ ((mayT ws ts D bs && thB bs th) = true ∧ ¬ k < 0 ∧ 3 ≤ k) := by
        cases hm : (mayT ws ts D bs && thB bs th) with
        | false => exact .inl rfl
        | true =>
          right
          by_cases u1 : k < 0
          · exact .inl ⟨rfl, u1⟩
          · refine .inr ⟨rfl, u1, ?_⟩
            by_cases u2 : 3 ≤ k
            · exact u2
            · exact absurd ⟨hm, by simp [kindB]; omega⟩ hhk
      clear hhk X Y T1 T2 T
      rcases hcase with hm | ⟨hm, u1⟩ | ⟨hm, u1, u2⟩
      all_goals
        rw [hm]
        clear hm
        go_wp2
        refine bp_cell_tmp2 ⟨w.heap.size + 1, 0, none⟩ rfl rfl rfl (load_tso' _ _ _ _ _ _ HZ.out.1.1 HZ.out.1.2.1 HZ.out.1.2.2.1 HZ.out.1.2.2.2) ?_
        rw [HES.out]
        exact lockF_no (by decide) (below_set4 (g := w.heap.size + 1) HB1.out (by omega) _ _ _ _)
theorem tsoLocked_any (a a' q : Option Addr) (n c n' c' l d : Nat) (ws ts : List Int) (D : Int) (bs : List (List (Int × Int))) (th k x y z : Int) (w : World) (S1 : Sl w a n ws) (S2 : Sl w a' n' ts) (S : Bl w q l bs) (hx : (Lit.int .i64 x).wf = true) :
    Calls Tryz.prog 36 #[.agg #[.slice a n c, .slice a' n' c', .int .i64 D, .slice q l d], .int .i64 th, .int .i64 k, .int .i64 x, .int .i64 y, .int .i64 z] w (RefLP (okL (lockTE ws ts D bs th k x) (lockTW ws ts k x y z)) (okL (lockTE ws ts D bs th k x) ts) (okZ (lockTE ws ts D bs th k x) D) (okL (lockTE ws ts D bs th k x) bs) (okZ (lockTE ws ts D bs th k x) (loadZ ws ts x)) (lockTE ws ts D bs th k x) w) :=
  (tsoLockedF_any a a' q n c n' c' l d ws ts D bs th k x y z w S1 S2 S hx).mono fun _ _ ⟨_, _, _, _, _, _, _, _, _, e, s1, s2, s3, hb⟩ => ⟨_, _, _, _, _, _, _, _, _, e, s1.sl, s2.sl, s3.bl, hb⟩
end Go.Proofs.YtiebaeaomgpicaaGreat
