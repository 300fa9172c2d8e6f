/- Contracts of package tso: New, Right, Load. -/
import Derived.Test.YteojpdhmhjoeiaaTsoD
import Derived.Test.YteojpdhmhjoeiaaNewB
namespace Go.Proofs.Yteojpdhmhjoeiaa
open Go.ChangeShapes Go.WideShapes Go.ChangeAt Go.RowKit

theorem frozen_pair {w w' : World} {a : Addr} {v : Value} (hb : Below w.heap.size w w') (h : w.cell? a = some v) (f : w.frozen? a = false) : w'.cell? a = some v ∧ w'.frozen? a = false := ⟨cellB hb h, frozenB hb h f⟩
/-- rows made from F on, stored into the call's own result -/
theorem tsoPost_mk {F g : Nat} {Q : Nat → Prop} {ws ts : List Int} {D : Int} {bs : List (List (Int × Int))} {x : Int} {w W : World} {p p' q : Option Addr} {n n' l d d' e : Nat} {y0 y1 y2 y3 : Value}
    (hg : g < F) (hw : w.heap.size ≤ g) (hQ : ∀ b, Q b → F ≤ b) (u1 : SlP Q W p n ws) (u2 : SlP Q W p' n' ts) (u3 : BlP (fun b => F ≤ b) W q l bs) (hb : Below w.heap.size w W) :
    TsoPost ws ts D bs x w (.returned (.tuple #[.agg #[.slice p n d, .slice p' n' d', .int .i64 D, .slice q l e], .int .i64 x])) ((((W.setCell ⟨g, 0, none⟩ y0).setCell ⟨g, 1, none⟩ y1).setCell ⟨g, 2, none⟩ y2).setCell ⟨g, 3, none⟩ y3) := by
  have hk : ∀ (b o : Nat) (v : Value), F ≤ b → W.cell? ⟨b, o, none⟩ = some v → ((((W.setCell ⟨g, 0, none⟩ y0).setCell ⟨g, 1, none⟩ y1).setCell ⟨g, 2, none⟩ y2).setCell ⟨g, 3, none⟩ y3).cell? ⟨b, o, none⟩ = some v := by
    intro b o v hq hv
    have ne : ∀ j, (⟨g, j, none⟩ : Addr) ≠ ⟨b, o, none⟩ := fun j e => by have h := congrArg Addr.block e; dsimp only at h; omega
    rw [World.cell?_setCell_other _ _ _ _ (ne _), World.cell?_setCell_other _ _ _ _ (ne _), World.cell?_setCell_other _ _ _ _ (ne _), World.cell?_setCell_other _ _ _ _ (ne _)]
    exact hv
  refine ⟨_, _, _, _, _, _, _, _, _, rfl, ?_, ?_, ?_, below_set4 hb hw _ _ _ _⟩
  · exact slF_P (fun b hb => by omega) (slP_keep hk (slP_mono hQ u1))
  · exact slF_P (fun b hb => by omega) (slP_keep hk (slP_mono hQ u2))
  · exact blP_mono (fun b hb => by omega) (blP_keep hk u3)

theorem field_tso (w : World) (x y z u : Value) : (Instr.field 56 (.agg #[x, y, z, u]) 0).run Try.prog w = .ok (.agg #[x, y, z, u]) w := by
  simp [go_sem, Instr.field, asAgg]

def NewCut (w1 : World) (a a' : Option Addr) (n c n' c' : Nat) (D : Int) (k : Nat) (s8 : Value) (wx : World) : Prop :=
  ∃ g b, s8 = .pointer (some ⟨g, 0, none⟩) ∧ wx.cell? ⟨g, 0, none⟩ = some (.slice a n c) ∧ wx.cell? ⟨g, 1, none⟩ = some (.slice a' n' c') ∧ wx.cell? ⟨g, 2, none⟩ = some (.int .i64 D) ∧ wx.cell? ⟨g, 3, none⟩ = some (.slice (some ⟨b, 0, none⟩) k k) ∧ Bl wx (some ⟨b, 0, none⟩) k (List.replicate k []) ∧ Below w1.heap.size w1 wx
theorem bl_fresh {w : World} {b k : Nat} (h : w.heap[b]? = some (.cells (Nb k) 54)) : Bl w (some ⟨b, 0, none⟩) k (List.replicate k []) := by
  refine ⟨by simp, .inr ⟨b, 0, rfl, fun i hi => ?_⟩⟩
  rw [List.length_replicate] at hi
  have e : (List.replicate k ([] : List (Int × Int))).getD i [] = [] := by simp [List.getD_eq_getElem?_getD, hi]
  rw [e]
  refine ⟨none, 0, ?_, capOk_nil, pl_nil _⟩
  rw [Nat.zero_add]
  simp only [World.cell?, h]
  simpa using Nb_get k i hi

set_option maxRecDepth 100000 in
set_option maxHeartbeats 4000000 in
theorem tsoNew_any (a a' : Option Addr) (n c n' c' : Nat) (ws ts : List Int) (k D : Int) (w : World) (S1 : Sl w a n ws) (S2 : Sl w a' n' ts) :
    Calls Try.prog 26 #[.agg #[.slice a n c, .slice a' n' c'], .int .i64 k, .int .i64 D] w (TsoPost (newTW ws ts k D) (newTT ws ts k D) (newTD ws ts k D) (newTB ws ts k D) (newTE ws ts k D) w) := by
  cases hm : mayB ws ts with
  | false =>
    have he : newTE ws ts k D = 1 := by rw [newTE, if_neg (by rw [hm]; decide)]
    obtain ⟨e1, e2, e3, e4⟩ := newT_no (ws := ws) (ts := ts) (n := k) (D := D) (by rw [he]; decide)
    rw [e1, e2, e3, e4, he]
    have HM := Lib.hid hm
    clear e1 e2 e3 e4 he hm
    go_enter Try.func26, Try.ntmps26
    go_wp2_with fail
    refine (Right_any a a' n c n' c' ws ts _ (slA _ (slA _ S1)) (slA _ (slA _ S2))).mono ?_
    rintro e w1 ⟨rfl, hb⟩
    rw [HM.out]
    have hb1 : Below w.heap.size w w1 := below_from (by go_grown) hb
    have r0 : w1.cell? ⟨w.heap.size + 1, 0, none⟩ = some (.slice none 0 0) := cellB hb (by simp)
    have r1 : w1.cell? ⟨w.heap.size + 1, 1, none⟩ = some (.slice none 0 0) := cellB hb (by simp)
    have r2 : w1.cell? ⟨w.heap.size + 1, 2, none⟩ = some (.int .i64 0) := cellB hb (by simp)
    have r3 : w1.cell? ⟨w.heap.size + 1, 3, none⟩ = some (.slice none 0 0) := cellB hb (by simp)
    have ff : ∀ i, w1.frozen? ⟨w.heap.size + 1, i, none⟩ = false := by intro i; rw [hb.frozen (p := ⟨w.heap.size + 1, i, none⟩) (by simp)]; exact free_row (heap_new _ _ _ (by simp))
    have f0 := ff 0
    have f1 := ff 1
    have f2 := ff 2
    have f3 := ff 3
    have HR := Lib.hid (set4 (w := w1) (g := w.heap.size + 1) (.slice none 0 0) (.slice none 0 0) (.int .i64 0) (.slice none 0 0) (by rw [r0]; rfl) (by rw [r1]; rfl) (by rw [r2]; rfl) (by rw [r3]; rfl))
    have HB := Lib.hid hb1
    clear hb hb1 ff
    go_wp2
    refine bp_cell_tmp ⟨w.heap.size + 1, 0, none⟩ rfl rfl rfl (load_tso' _ _ _ _ _ _ HR.out.1 HR.out.2.1 HR.out.2.2.1 HR.out.2.2.2) ?_
    exact tsoPost_nil (below_set4 (g := w.heap.size + 1) HB.out (by omega) _ _ _ _)
  | true =>
    cases hs : sizesB k D with
    | false =>
      have he : newTE ws ts k D = 2 := by rw [newTE, if_pos hm, if_neg (by rw [hs]; decide)]
      obtain ⟨e1, e2, e3, e4⟩ := newT_no (ws := ws) (ts := ts) (n := k) (D := D) (by rw [he]; decide)
      rw [e1, e2, e3, e4, he]
      have HM := Lib.hid hm
      have hs' : ¬ (1 ≤ k ∧ k ≤ 8 ∧ 0 ≤ D ∧ D ≤ 8) := by simpa [sizesB] using hs
      clear e1 e2 e3 e4 he hm hs
      go_enter Try.func26, Try.ntmps26
      go_wp2_with fail
      refine (Right_any a a' n c n' c' ws ts _ (slA _ (slA _ S1)) (slA _ (slA _ S2))).mono ?_
      rintro e w1 ⟨rfl, hb⟩
      rw [HM.out]
      have hb1 : Below w.heap.size w w1 := below_from (by go_grown) hb
      have r0 : w1.cell? ⟨w.heap.size + 1, 0, none⟩ = some (.slice none 0 0) := cellB hb (by simp)
      have r1 : w1.cell? ⟨w.heap.size + 1, 1, none⟩ = some (.slice none 0 0) := cellB hb (by simp)
      have r2 : w1.cell? ⟨w.heap.size + 1, 2, none⟩ = some (.int .i64 0) := cellB hb (by simp)
      have r3 : w1.cell? ⟨w.heap.size + 1, 3, none⟩ = some (.slice none 0 0) := cellB hb (by simp)
      have ff : ∀ i, w1.frozen? ⟨w.heap.size + 1, i, none⟩ = false := by intro i; rw [hb.frozen (p := ⟨w.heap.size + 1, i, none⟩) (by simp)]; exact free_row (heap_new _ _ _ (by simp))
      have f0 := ff 0
      have f1 := ff 1
      have f2 := ff 2
      have f3 := ff 3
      have HR := Lib.hid (set4 (w := w1) (g := w.heap.size + 1) (.slice none 0 0) (.slice none 0 0) (.int .i64 0) (.slice none 0 0) (by rw [r0]; rfl) (by rw [r1]; rfl) (by rw [r2]; rfl) (by rw [r3]; rfl))
      have HB := Lib.hid hb1
      clear hb hb1 ff
      by_cases d0 : k < 1
      · clear hs'
        go_wp2
        refine bp_cell_tmp ⟨w.heap.size + 1, 0, none⟩ rfl rfl rfl (load_tso' _ _ _ _ _ _ HR.out.1 HR.out.2.1 HR.out.2.2.1 HR.out.2.2.2) ?_
        exact tsoPost_nil (below_set4 (g := w.heap.size + 1) HB.out (by omega) _ _ _ _)
      · by_cases d1 : 8 < k
        · clear hs'
          go_wp2
          refine bp_cell_tmp ⟨w.heap.size + 1, 0, none⟩ rfl rfl rfl (load_tso' _ _ _ _ _ _ HR.out.1 HR.out.2.1 HR.out.2.2.1 HR.out.2.2.2) ?_
          exact tsoPost_nil (below_set4 (g := w.heap.size + 1) HB.out (by omega) _ _ _ _)
        · by_cases d2 : D < 0
          · clear hs'
            go_wp2
            refine bp_cell_tmp ⟨w.heap.size + 1, 0, none⟩ rfl rfl rfl (load_tso' _ _ _ _ _ _ HR.out.1 HR.out.2.1 HR.out.2.2.1 HR.out.2.2.2) ?_
            exact tsoPost_nil (below_set4 (g := w.heap.size + 1) HB.out (by omega) _ _ _ _)
          · have d3 : 8 < D := by omega
            clear hs'
            go_wp2
            refine bp_cell_tmp ⟨w.heap.size + 1, 0, none⟩ rfl rfl rfl (load_tso' _ _ _ _ _ _ HR.out.1 HR.out.2.1 HR.out.2.2.1 HR.out.2.2.2) ?_
            exact tsoPost_nil (below_set4 (g := w.heap.size + 1) HB.out (by omega) _ _ _ _)
    | true =>
      have hs' : 1 ≤ k ∧ k ≤ 8 ∧ 0 ≤ D ∧ D ≤ 8 := by simpa [sizesB] using hs
      obtain ⟨s1, s2, s3, s4⟩ := hs'
      obtain ⟨j, rfl⟩ := Int.eq_ofNat_of_zero_le (show 0 ≤ k by omega)
      have hj : j ≤ 8 := by omega
      obtain ⟨e0, e1, e2, e3, e4⟩ := newT_ok hm hs
      rw [e0, e1, e2, e3, e4, Int.toNat_natCast]
      have HM := Lib.hid hm
      have HV := Lib.hid (may_replicate hm hs)
      have HL := Lib.hid (show (List.replicate j ([] : List (Int × Int))).length = j by simp)
      clear e0 e1 e2 e3 e4 hm hs
      have t0 : decide ((j : Int) < 1) = false := by simp; omega
      have t1 : decide (8 < (j : Int)) = false := by simp; omega
      go_enter Try.func26, Try.ntmps26
      go_wp2_with fail
      refine (Right_any a a' n c n' c' ws ts _ (slA _ (slA _ S1)) (slA _ (slA _ S2))).mono ?_
      rintro e w1 ⟨rfl, hb⟩
      rw [HM.out]
      have hb1 : Below w.heap.size w w1 := below_from (by go_grown) hb
      have k0 : w1.cell? ⟨w.heap.size, 0, none⟩ = some (.slice a n c) := cellB hb (cellA _ (by simp))
      have k1 : w1.cell? ⟨w.heap.size, 1, none⟩ = some (.slice a' n' c') := cellB hb (cellA _ (by simp))
      have r0 : w1.cell? ⟨w.heap.size + 1, 0, none⟩ = some (.slice none 0 0) := cellB hb (by simp)
      have r1 : w1.cell? ⟨w.heap.size + 1, 1, none⟩ = some (.slice none 0 0) := cellB hb (by simp)
      have r2 : w1.cell? ⟨w.heap.size + 1, 2, none⟩ = some (.int .i64 0) := cellB hb (by simp)
      have r3 : w1.cell? ⟨w.heap.size + 1, 3, none⟩ = some (.slice none 0 0) := cellB hb (by simp)
      have ff : ∀ i, w1.frozen? ⟨w.heap.size + 1, i, none⟩ = false := by intro i; rw [hb.frozen (p := ⟨w.heap.size + 1, i, none⟩) (by simp)]; exact free_row (heap_new _ _ _ (by simp))
      have f0 := ff 0
      have f1 := ff 1
      have f2 := ff 2
      have f3 := ff 3
      have T1 := slB hb1 S1
      have T2 := slB hb1 S2
      have HB := Lib.hid hb1
      clear hb hb1 ff S1 S2
      go_upto_region 5 with fail
      go_cut [8] (fun s8 wx => NewCut w1 a a' n c n' c' D j s8 wx)
      case first =>
        have hmk := make_bufs j (by omega)
        have xa0 := cellA (Obj.cells #[.slice none 0 0, .slice none 0 0, .int .i64 0, .slice none 0 0] 56) k0
        have xb0 := cellA (Obj.cells (Nb j) 54) k0
        have xc0 := cellA (Obj.cells (Nb j) 54) (cellA (Obj.cells #[.slice none 0 0, .slice none 0 0, .int .i64 0, .slice none 0 0] 56) k0)
        have xd0 := cellA (Obj.cells #[.slice none 0 0, .slice none 0 0, .int .i64 0, .slice none 0 0] 56) (cellA (Obj.cells (Nb j) 54) k0)
        have xa1 := cellA (Obj.cells #[.slice none 0 0, .slice none 0 0, .int .i64 0, .slice none 0 0] 56) k1
        have xb1 := cellA (Obj.cells (Nb j) 54) k1
        have xc1 := cellA (Obj.cells (Nb j) 54) (cellA (Obj.cells #[.slice none 0 0, .slice none 0 0, .int .i64 0, .slice none 0 0] 56) k1)
        have xd1 := cellA (Obj.cells #[.slice none 0 0, .slice none 0 0, .int .i64 0, .slice none 0 0] 56) (cellA (Obj.cells (Nb j) 54) k1)
        go_region
        all_goals
          go_wp2_with fail
          go_meet
          first
            | exact ⟨w1.heap.size + 1, w1.heap.size, rfl, cell_new (w := w1.alloc (Obj.cells (Nb j) 54)) _ _ _ (by simp) rfl, cell_new (w := w1.alloc (Obj.cells (Nb j) 54)) _ _ _ (by simp) rfl, cell_new (w := w1.alloc (Obj.cells (Nb j) 54)) _ _ _ (by simp) rfl, cell_new (w := w1.alloc (Obj.cells (Nb j) 54)) _ _ _ (by simp) rfl, bl_fresh ((heap_old _ _ _ (by simp)).trans (heap_new w1 _ _ rfl)), by go_grown⟩
            | exact ⟨w1.heap.size, w1.heap.size + 1, rfl, cellA (Obj.cells (Nb j) 54) (cell_new (w := w1) _ _ _ rfl rfl), cellA (Obj.cells (Nb j) 54) (cell_new (w := w1) _ _ _ rfl rfl), cellA (Obj.cells (Nb j) 54) (cell_new (w := w1) _ _ _ rfl rfl), cellA (Obj.cells (Nb j) 54) (cell_new (w := w1) _ _ _ rfl rfl), bl_fresh (heap_new _ _ _ (by simp)), by go_grown⟩
      case rest =>
        obtain ⟨g, b, rfl, c0, c1, c2, c3, hbl, hbx⟩ := hcut
        replace r0 := frozen_pair hbx r0 f0
        replace r1 := frozen_pair hbx r1 f1
        replace r2 := frozen_pair hbx r2 f2
        replace r3 := frozen_pair hbx r3 f3
        clear f0 f1 f2 f3 k0 k1
        replace T1 := slB hbx T1
        replace T2 := slB hbx T2
        have HBX := Lib.hid (below_from HB.out hbx)
        have HR := Lib.hid (And.intro r0 (And.intro r1 (And.intro r2 r3)))
        clear hbx r0 r1 r2 r3 HM HB
        go_wp2_with fail
        refine (copiedT_any a a' (some ⟨b, 0, none⟩) n c n' c' j j ws ts D (List.replicate j []) _ T1 T2 hbl HV.out).mono ?_
        rintro e w3 ⟨p, m, d1, p', m', d2, y, l, rfl, u1, u2, O, hb3⟩
        have r0 := frozen_pair hb3 HR.out.1.1 HR.out.1.2
        have r1 := frozen_pair hb3 HR.out.2.1.1 HR.out.2.1.2
        have r2 := frozen_pair hb3 HR.out.2.2.1.1 HR.out.2.2.1.2
        have r3 := frozen_pair hb3 HR.out.2.2.2.1 HR.out.2.2.2.2
        have hlt : w.heap.size + 1 < wc.heap.size := cell_lt HR.out.1.1
        have HB3 := Lib.hid (below_from HBX.out hb3)
        have U1 := Lib.hid u1
        have U2 := Lib.hid u2
        have HO := Lib.hid (bown_bl O)
        have H4 := Lib.hid (set4 (w := w3) (g := w.heap.size + 1) (.slice p m d1) (.slice p' m' d2) (.int .i64 D) (.slice (some ⟨y, 0, none⟩) l l) (by rw [r0.1]; rfl) (by rw [r1.1]; rfl) (by rw [r2.1]; rfl) (by rw [r3.1]; rfl))
        obtain ⟨r0, f0⟩ := r0
        obtain ⟨r1, f1⟩ := r1
        obtain ⟨r2, f2⟩ := r2
        obtain ⟨r3, f3⟩ := r3
        clear hb3 u1 u2 O HBX HR T1 T2 hbl c0 c1 c2 c3
        have hfd := field_tso w3 (.slice p m d1) (.slice p' m' d2) (.int .i64 D) (.slice (some ⟨y, 0, none⟩) l l)
        go_wp2
        refine bp_cell_tmp ⟨w.heap.size + 1, 0, none⟩ rfl rfl rfl (load_tso' _ _ _ _ _ _ H4.out.1 H4.out.2.1 H4.out.2.2.1 H4.out.2.2.2) ?_
        exact tsoPost_mk (g := w.heap.size + 1) hlt (by omega) (fun _ h => h.1) U1.out U2.out HO.out HB3.out
end Go.Proofs.Yteojpdhmhjoeiaa
