/- TsoE, TsoF, TsoG, LawT, TsoH, TsoI, put together. -/
import Derived.Test.YtiebaeaomgpicaaGreatM5
import Derived.Test.YtiebaeaomgpicaaGreatM6
import Derived.Deep.RegionLaw
import Derived.Deep.RegionLawGrows
import Derived.Maps.AppendAt
import Derived.Test.YtiebaeaomgpicaaGreatM1
/- Contracts of package tso: New, Right, Load. -/
namespace Go.Proofs.YtiebaeaomgpicaaGreat
open Go.ChangeShapes Go.WideShapes Go.ChangeAt Go.RowKit

theorem frozen_pair {w w' : World} {a : Addr} {v : Value} (hb : Below w.heap.size w w') (h : w.cell? a = some v) (f : w.frozen? a = false) : w'.cell? a = some v ∧ w'.frozen? a = false := ⟨cellB hb h, frozenB hb h f⟩
/-- rows made from F on, stored into the call's own result -/
theorem tsoPost_mk {F g : Nat} {Q : Nat → Prop} {ws ts : List Int} {D : Int} {bs : List (List (Int × Int))} {x : Int} {w W : World} {p p' q : Option Addr} {n n' l d d' e : Nat} {y0 y1 y2 y3 : Value}
    (hg : g < F) (hw : w.heap.size ≤ g) (hQ : ∀ b, Q b → F ≤ b) (u1 : SlP Q W p n ws) (u2 : SlP Q W p' n' ts) (u3 : BlP (fun b => F ≤ b) W q l bs) (hb : Below w.heap.size w W) :
    TsoPost ws ts D bs x w (.returned (.tuple #[.agg #[.slice p n d, .slice p' n' d', .int .i64 D, .slice q l e], .int .i64 x])) ((((W.setCell ⟨g, 0, none⟩ y0).setCell ⟨g, 1, none⟩ y1).setCell ⟨g, 2, none⟩ y2).setCell ⟨g, 3, none⟩ y3) := by
  have hk : ∀ (b o : Nat) (v : Value), F ≤ b → W.cell? ⟨b, o, none⟩ = some v → ((((W.setCell ⟨g, 0, none⟩ y0).setCell ⟨g, 1, none⟩ y1).setCell ⟨g, 2, none⟩ y2).setCell ⟨g, 3, none⟩ y3).cell? ⟨b, o, none⟩ = some v := by
    intro b o v hq hv
    have ne : ∀ j, (⟨g, j, none⟩ : Addr) ≠ ⟨b, o, none⟩ := fun j e => by have h := congrArg Addr.block e; dsimp only at h; omega
    rw [World.cell?_setCell_other _ _ _ _ (ne _), World.cell?_setCell_other _ _ _ _ (ne _), World.cell?_setCell_other _ _ _ _ (ne _), World.cell?_setCell_other _ _ _ _ (ne _)]
    exact hv
  refine ⟨_, _, _, _, _, _, _, _, _, rfl, ?_, ?_, ?_, below_set4 hb hw _ _ _ _⟩
  · exact slF_P (fun b hb => by omega) (slP_keep hk (slP_mono hQ u1))
  · exact slF_P (fun b hb => by omega) (slP_keep hk (slP_mono hQ u2))
  · exact blP_mono (fun b hb => by omega) (blP_keep hk u3)

theorem field_tso (w : World) (x y z u : Value) : (Instr.field 103 (.agg #[x, y, z, u]) 0).run Tryz.prog w = .ok (.agg #[x, y, z, u]) w := by
  simp [go_sem, Instr.field, asAgg]

def NewCut (w1 : World) (a a' : Option Addr) (n c n' c' : Nat) (D : Int) (k : Nat) (s8 : Value) (wx : World) : Prop :=
  ∃ g b, s8 = .pointer (some ⟨g, 0, none⟩) ∧ wx.cell? ⟨g, 0, none⟩ = some (.slice a n c) ∧ wx.cell? ⟨g, 1, none⟩ = some (.slice a' n' c') ∧ wx.cell? ⟨g, 2, none⟩ = some (.int .i64 D) ∧ wx.cell? ⟨g, 3, none⟩ = some (.slice (some ⟨b, 0, none⟩) k k) ∧ Bl wx (some ⟨b, 0, none⟩) k (List.replicate k []) ∧ Below w1.heap.size w1 wx
theorem bl_fresh {w : World} {b k : Nat} (h : w.heap[b]? = some (.cells (Nb k) 67)) : Bl w (some ⟨b, 0, none⟩) k (List.replicate k []) := by
  refine ⟨by simp, .inr ⟨b, 0, rfl, fun i hi => ?_⟩⟩
  rw [List.length_replicate] at hi
  have e : (List.replicate k ([] : List (Int × Int))).getD i [] = [] := by simp [List.getD_eq_getElem?_getD, hi]
  rw [e]
  refine ⟨none, 0, ?_, capOk_nil, pl_nil _⟩
  rw [Nat.zero_add]
  simp only [World.cell?, h]
  simpa using Nb_get k i hi

set_option maxRecDepth 100000 in
set_option maxHeartbeats 4000000 in
theorem tsoNew_any (a a' : Option Addr) (n c n' c' : Nat) (ws ts : List Int) (k D : Int) (w : World) (S1 : Sl w a n ws) (S2 : Sl w a' n' ts) :
    Calls Tryz.prog 39 #[.agg #[.slice a n c, .slice a' n' c'], .int .i64 k, .int .i64 D] w (TsoPost (newTW ws ts k D) (newTT ws ts k D) (newTD ws ts k D) (newTB ws ts k D) (newTE ws ts k D) w) := by
  cases hm : mayB ws ts with
  | false =>
    have he : newTE ws ts k D = 1 := by rw [newTE, if_neg (by rw [hm]; decide)]
    obtain ⟨e1, e2, e3, e4⟩ := newT_no (ws := ws) (ts := ts) (n := k) (D := D) (by rw [he]; decide)
    rw [e1, e2, e3, e4, he]
    have HM := Lib.hid hm
    clear e1 e2 e3 e4 he hm
    go_enter Tryz.func39, Tryz.ntmps39
    go_wp2_with fail
    refine (Right_any a a' n c n' c' ws ts _ (slA _ (slA _ S1)) (slA _ (slA _ S2))).mono ?_
    rintro e w1 ⟨rfl, hb⟩
    rw [HM.out]
    have hb1 : Below w.heap.size w w1 := below_from (by go_grown) hb
    have r0 : w1.cell? ⟨w.heap.size + 1, 0, none⟩ = some (.slice none 0 0) := cellB hb (by simp)
    have r1 : w1.cell? ⟨w.heap.size + 1, 1, none⟩ = some (.slice none 0 0) := cellB hb (by simp)
    have r2 : w1.cell? ⟨w.heap.size + 1, 2, none⟩ = some (.int .i64 0) := cellB hb (by simp)
    have r3 : w1.cell? ⟨w.heap.size + 1, 3, none⟩ = some (.slice none 0 0) := cellB hb (by simp)
    have ff : ∀ i, w1.frozen? ⟨w.heap.size + 1, i, none⟩ = false := by intro i; rw [hb.frozen (p := ⟨w.heap.size + 1, i, none⟩) (by simp)]; exact free_row (heap_new _ _ _ (by simp))
    have f0 := ff 0
    have f1 := ff 1
    have f2 := ff 2
    have f3 := ff 3
    have HR := Lib.hid (set4 (w := w1) (g := w.heap.size + 1) (.slice none 0 0) (.slice none 0 0) (.int .i64 0) (.slice none 0 0) (by rw [r0]; rfl) (by rw [r1]; rfl) (by rw [r2]; rfl) (by rw [r3]; rfl))
    have HB := Lib.hid hb1
    clear hb hb1 ff
    go_wp2
    refine bp_cell_tmp ⟨w.heap.size + 1, 0, none⟩ rfl rfl rfl (load_tso' _ _ _ _ _ _ HR.out.1 HR.out.2.1 HR.out.2.2.1 HR.out.2.2.2) ?_
    exact tsoPost_nil (below_set4 (g := w.heap.size + 1) HB.out (by omega) _ _ _ _)
  | true =>
    cases hs : sizesB k D with
    | false =>
      have he : newTE ws ts k D = 2 := by rw [newTE, if_pos hm, if_neg (by rw [hs]; decide)]
      obtain ⟨e1, e2, e3, e4⟩ := newT_no (ws := ws) (ts := ts) (n := k) (D := D) (by rw [he]; decide)
      rw [e1, e2, e3, e4, he]
      have HM := Lib.hid hm
      have hs' : ¬ (1 ≤ k ∧ k ≤ 8 ∧ 0 ≤ D ∧ D ≤ 8) := by simpa [sizesB] using hs
      clear e1 e2 e3 e4 he hm hs
      go_enter Tryz.func39, Tryz.ntmps39
      go_wp2_with fail
      refine (Right_any a a' n c n' c' ws ts _ (slA _ (slA _ S1)) (slA _ (slA _ S2))).mono ?_
      rintro e w1 ⟨rfl, hb⟩
      rw [HM.out]
      have hb1 : Below w.heap.size w w1 := below_from (by go_grown) hb
      have r0 : w1.cell? ⟨w.heap.size + 1, 0, none⟩ = some (.slice none 0 0) := cellB hb (by simp)
      have r1 : w1.cell? ⟨w.heap.size + 1, 1, none⟩ = some (.slice none 0 0) := cellB hb (by simp)
      have r2 : w1.cell? ⟨w.heap.size + 1, 2, none⟩ = some (.int .i64 0) := cellB hb (by simp)
      have r3 : w1.cell? ⟨w.heap.size + 1, 3, none⟩ = some (.slice none 0 0) := cellB hb (by simp)
      have ff : ∀ i, w1.frozen? ⟨w.heap.size + 1, i, none⟩ = false := by intro i; rw [hb.frozen (p := ⟨w.heap.size + 1, i, none⟩) (by simp)]; exact free_row (heap_new _ _ _ (by simp))
      have f0 := ff 0
      have f1 := ff 1
      have f2 := ff 2
      have f3 := ff 3
      have HR := Lib.hid (set4 (w := w1) (g := w.heap.size + 1) (.slice none 0 0) (.slice none 0 0) (.int .i64 0) (.slice none 0 0) (by rw [r0]; rfl) (by rw [r1]; rfl) (by rw [r2]; rfl) (by rw [r3]; rfl))
      have HB := Lib.hid hb1
      clear hb hb1 ff
      by_cases d0 : k < 1
      · clear hs'
        go_wp2
        refine bp_cell_tmp ⟨w.heap.size + 1, 0, none⟩ rfl rfl rfl (load_tso' _ _ _ _ _ _ HR.out.1 HR.out.2.1 HR.out.2.2.1 HR.out.2.2.2) ?_
        exact tsoPost_nil (below_set4 (g := w.heap.size + 1) HB.out (by omega) _ _ _ _)
      · by_cases d1 : 8 < k
        · clear hs'
          go_wp2
          refine bp_cell_tmp ⟨w.heap.size + 1, 0, none⟩ rfl rfl rfl (load_tso' _ _ _ _ _ _ HR.out.1 HR.out.2.1 HR.out.2.2.1 HR.out.2.2.2) ?_
          exact tsoPost_nil (below_set4 (g := w.heap.size + 1) HB.out (by omega) _ _ _ _)
        · by_cases d2 : D < 0
          · clear hs'
            go_wp2
            refine bp_cell_tmp ⟨w.heap.size + 1, 0, none⟩ rfl rfl rfl (load_tso' _ _ _ _ _ _ HR.out.1 HR.out.2.1 HR.out.2.2.1 HR.out.2.2.2) ?_
            exact tsoPost_nil (below_set4 (g := w.heap.size + 1) HB.out (by omega) _ _ _ _)
          · have d3 : 8 < D := by omega
            clear hs'
            go_wp2
            refine bp_cell_tmp ⟨w.heap.size + 1, 0, none⟩ rfl rfl rfl (load_tso' _ _ _ _ _ _ HR.out.1 HR.out.2.1 HR.out.2.2.1 HR.out.2.2.2) ?_
            exact tsoPost_nil (below_set4 (g := w.heap.size + 1) HB.out (by omega) _ _ _ _)
    | true =>
      have hs' : 1 ≤ k ∧ k ≤ 8 ∧ 0 ≤ D ∧ D ≤ 8 := by simpa [sizesB] using hs
      obtain ⟨s1, s2, s3, s4⟩ := hs'
      obtain ⟨j, rfl⟩ := Int.eq_ofNat_of_zero_le (show 0 ≤ k by omega)
      have hj : j ≤ 8 := by omega
      obtain ⟨e0, e1, e2, e3, e4⟩ := newT_ok hm hs
      rw [e0, e1, e2, e3, e4, Int.toNat_natCast]
      have HM := Lib.hid hm
      have HV := Lib.hid (may_replicate hm hs)
      have HL := Lib.hid (show (List.replicate j ([] : List (Int × Int))).length = j by simp)
      clear e0 e1 e2 e3 e4 hm hs
      have t0 : decide ((j : Int) < 1) = false := by simp; omega
      have t1 : decide (8 < (j : Int)) = false := by simp; omega
      go_enter Tryz.func39, Tryz.ntmps39
      go_wp2_with fail
      refine (Right_any a a' n c n' c' ws ts _ (slA _ (slA _ S1)) (slA _ (slA _ S2))).mono ?_
      rintro e w1 ⟨rfl, hb⟩
      rw [HM.out]
      have hb1 : Below w.heap.size w w1 := below_from (by go_grown) hb
      have k0 : w1.cell? ⟨w.heap.size, 0, none⟩ = some (.slice a n c) := cellB hb (cellA _ (by simp))
      have k1 : w1.cell? ⟨w.heap.size, 1, none⟩ = some (.slice a' n' c') := cellB hb (cellA _ (by simp))
      have r0 : w1.cell? ⟨w.heap.size + 1, 0, none⟩ = some (.slice none 0 0) := cellB hb (by simp)
      have r1 : w1.cell? ⟨w.heap.size + 1, 1, none⟩ = some (.slice none 0 0) := cellB hb (by simp)
      have r2 : w1.cell? ⟨w.heap.size + 1, 2, none⟩ = some (.int .i64 0) := cellB hb (by simp)
      have r3 : w1.cell? ⟨w.heap.size + 1, 3, none⟩ = some (.slice none 0 0) := cellB hb (by simp)
      have ff : ∀ i, w1.frozen? ⟨w.heap.size + 1, i, none⟩ = false := by intro i; rw [hb.frozen (p := ⟨w.heap.size + 1, i, none⟩) (by simp)]; exact free_row (heap_new _ _ _ (by simp))
      have f0 := ff 0
      have f1 := ff 1
      have f2 := ff 2
      have f3 := ff 3
      have T1 := slB hb1 S1
      have T2 := slB hb1 S2
      have HB := Lib.hid hb1
      clear hb hb1 ff S1 S2
      go_upto_region 5 with fail
      go_cut [8] (fun s8 wx => NewCut w1 a a' n c n' c' D j s8 wx)
      case first =>
        have hmk := make_bufs j (by omega)
        have xa0 := cellA (Obj.cells #[.slice none 0 0, .slice none 0 0, .int .i64 0, .slice none 0 0] 103) k0
        have xb0 := cellA (Obj.cells (Nb j) 67) k0
        have xc0 := cellA (Obj.cells (Nb j) 67) (cellA (Obj.cells #[.slice none 0 0, .slice none 0 0, .int .i64 0, .slice none 0 0] 103) k0)
        have xd0 := cellA (Obj.cells #[.slice none 0 0, .slice none 0 0, .int .i64 0, .slice none 0 0] 103) (cellA (Obj.cells (Nb j) 67) k0)
        have xa1 := cellA (Obj.cells #[.slice none 0 0, .slice none 0 0, .int .i64 0, .slice none 0 0] 103) k1
        have xb1 := cellA (Obj.cells (Nb j) 67) k1
        have xc1 := cellA (Obj.cells (Nb j) 67) (cellA (Obj.cells #[.slice none 0 0, .slice none 0 0, .int .i64 0, .slice none 0 0] 103) k1)
        have xd1 := cellA (Obj.cells #[.slice none 0 0, .slice none 0 0, .int .i64 0, .slice none 0 0] 103) (cellA (Obj.cells (Nb j) 67) k1)
        go_region
        all_goals
          go_wp2_with fail
          go_meet
          first
            | exact ⟨w1.heap.size + 1, w1.heap.size, rfl, cell_new (w := w1.alloc (Obj.cells (Nb j) 67)) _ _ _ (by simp) rfl, cell_new (w := w1.alloc (Obj.cells (Nb j) 67)) _ _ _ (by simp) rfl, cell_new (w := w1.alloc (Obj.cells (Nb j) 67)) _ _ _ (by simp) rfl, cell_new (w := w1.alloc (Obj.cells (Nb j) 67)) _ _ _ (by simp) rfl, bl_fresh ((heap_old _ _ _ (by simp)).trans (heap_new w1 _ _ rfl)), by go_grown⟩
            | exact ⟨w1.heap.size, w1.heap.size + 1, rfl, cellA (Obj.cells (Nb j) 67) (cell_new (w := w1) _ _ _ rfl rfl), cellA (Obj.cells (Nb j) 67) (cell_new (w := w1) _ _ _ rfl rfl), cellA (Obj.cells (Nb j) 67) (cell_new (w := w1) _ _ _ rfl rfl), cellA (Obj.cells (Nb j) 67) (cell_new (w := w1) _ _ _ rfl rfl), bl_fresh (heap_new _ _ _ (by simp)), by go_grown⟩
      case rest =>
        obtain ⟨g, b, rfl, c0, c1, c2, c3, hbl, hbx⟩ := hcut
        replace r0 := frozen_pair hbx r0 f0
        replace r1 := frozen_pair hbx r1 f1
        replace r2 := frozen_pair hbx r2 f2
        replace r3 := frozen_pair hbx r3 f3
        clear f0 f1 f2 f3 k0 k1
        replace T1 := slB hbx T1
        replace T2 := slB hbx T2
        have HBX := Lib.hid (below_from HB.out hbx)
        have HR := Lib.hid (And.intro r0 (And.intro r1 (And.intro r2 r3)))
        clear hbx r0 r1 r2 r3 HM HB
        go_wp2_with fail
        refine (copiedT_any a a' (some ⟨b, 0, none⟩) n c n' c' j j ws ts D (List.replicate j []) _ T1 T2 hbl HV.out).mono ?_
        rintro e w3 ⟨p, m, d1, p', m', d2, y, l, rfl, u1, u2, O, hb3⟩
        have r0 := frozen_pair hb3 HR.out.1.1 HR.out.1.2
        have r1 := frozen_pair hb3 HR.out.2.1.1 HR.out.2.1.2
        have r2 := frozen_pair hb3 HR.out.2.2.1.1 HR.out.2.2.1.2
        have r3 := frozen_pair hb3 HR.out.2.2.2.1 HR.out.2.2.2.2
        have hlt : w.heap.size + 1 < wc.heap.size := cell_lt HR.out.1.1
        have HB3 := Lib.hid (below_from HBX.out hb3)
        have U1 := Lib.hid u1
        have U2 := Lib.hid u2
        have HO := Lib.hid (bown_bl O)
        have H4 := Lib.hid (set4 (w := w3) (g := w.heap.size + 1) (.slice p m d1) (.slice p' m' d2) (.int .i64 D) (.slice (some ⟨y, 0, none⟩) l l) (by rw [r0.1]; rfl) (by rw [r1.1]; rfl) (by rw [r2.1]; rfl) (by rw [r3.1]; rfl))
        obtain ⟨r0, f0⟩ := r0
        obtain ⟨r1, f1⟩ := r1
        obtain ⟨r2, f2⟩ := r2
        obtain ⟨r3, f3⟩ := r3
        clear hb3 u1 u2 O HBX HR T1 T2 hbl c0 c1 c2 c3
        have hfd := field_tso w3 (.slice p m d1) (.slice p' m' d2) (.int .i64 D) (.slice (some ⟨y, 0, none⟩) l l)
        go_wp2
        refine bp_cell_tmp ⟨w.heap.size + 1, 0, none⟩ rfl rfl rfl (load_tso' _ _ _ _ _ _ H4.out.1 H4.out.2.1 H4.out.2.2.1 H4.out.2.2.2) ?_
        exact tsoPost_mk (g := w.heap.size + 1) hlt (by omega) (fun _ h => h.1) U1.out U2.out HO.out HB3.out
end Go.Proofs.YtiebaeaomgpicaaGreat
/- The contract of package tso's Load. -/
namespace Go.Proofs.YtiebaeaomgpicaaGreat
open Go.ChangeShapes Go.WideShapes Go.ChangeAt Go.RowKit

def LoadPost (v x : Int) (w : World) (e : Ending) (w' : World) : Prop := e = .returned (.tuple #[.int .i64 v, .int .i64 x]) ∧ Below w.heap.size w w'
theorem loadPost_mk {v x z y : Int} {w w' : World} (h1 : v = z) (h2 : x = y) (hb : Below w.heap.size w w') : LoadPost v x w (.returned (.tuple #[.int .i64 z, .int .i64 y])) w' := by subst h1; subst h2; exact ⟨rfl, hb⟩

set_option maxHeartbeats 4000000 in
theorem tsoLoad_any (a a' q : Option Addr) (n c n' c' l d : Nat) (ws ts : List Int) (D : Int) (bs : List (List (Int × Int))) (th x : Int) (w : World) (S1 : Sl w a n ws) (S2 : Sl w a' n' ts) (S : Bl w q l bs) (hx : (Lit.int .i64 x).wf = true) :
    Calls Tryz.prog 34 #[.agg #[.slice a n c, .slice a' n' c', .int .i64 D, .slice q l d], .int .i64 th, .int .i64 x] w (LoadPost (loadT ws ts D bs th x) (loadTE ws ts D bs th x) w) := by
  have HX := Lib.hid hx
  have Hl := Lib.hid S.1
  clear hx
  cases hh : hasB ws ts D bs th with
  | false =>
    have HE := Lib.hid (show loadTE ws ts D bs th x = 1 by rw [loadTE, if_neg (by rw [hh]; decide)])
    have HV := Lib.hid (show loadT ws ts D bs th x = 0 by rw [loadT, HE.out, if_neg (by decide)])
    rw [HE.out, HV.out]
    have HH := Lib.hid (show (mayT ws ts D bs && thB bs th) = false from hh)
    clear hh HE HV
    go_enter Tryz.func34, Tryz.ntmps34
    go_wp2_with fail
    refine (tsoHas_any a a' q n c n' c' l d ws ts D th bs _ (slA _ (slA _ S1)) (slA _ (slA _ S2)) (blA _ (blA _ S))).mono ?_
    rintro e w1 ⟨rfl, hb⟩
    rw [HH.out]
    have HB := Lib.hid (below_from (by go_grown) hb : Below w.heap.size w w1)
    clear hb
    go_wp2
    go_ret2
    exact loadPost_mk rfl rfl HB.out
  | true =>
    obtain ⟨hm, h0, h1⟩ := hasB_parts hh
    obtain ⟨j, rfl⟩ := Int.eq_ofNat_of_zero_le h0
    have hjl : j < l := by rw [← Hl.out]; omega
    have i1 : (0 : Int) ≤ j := by omega
    have i2 : (j : Int) < l := by omega
    have HH := Lib.hid (show (mayT ws ts D bs && thB bs j) = true from hh)
    have HE := Lib.hid (show loadTE ws ts D bs j x = usableZ ws ts x by rw [loadTE, if_pos hh])
    have HV := Lib.hid (show loadT ws ts D bs j x = if usableZ ws ts x = 0 then (newest (bs.getD j []) x).getD (loadZ ws ts x) else 0 by rw [loadT, HE.out, bufOf, Int.toNat_natCast])
    have H8 : (bs.getD j []).length ≤ 8 := by have := (mayT_parts hm).2.2.2 j (by omega); have := (mayT_parts hm).2.2.1; omega
    have HS8 := Lib.hid H8
    clear hh hm h0 h1 H8
    go_enter Tryz.func34, Tryz.ntmps34
    go_wp2_with fail
    refine (tsoHas_any a a' q n c n' c' l d ws ts D j bs _ (slA _ (slA _ S1)) (slA _ (slA _ S2)) (blA _ (blA _ S))).mono ?_
    rintro e w1 ⟨rfl, hb⟩
    rw [HH.out]
    have hb1 : Below w.heap.size w w1 := below_from (by go_grown) hb
    have k0 : w1.cell? ⟨w.heap.size + 1, 0, none⟩ = some (.slice a n c) := cellB hb (by simp)
    have k1 : w1.cell? ⟨w.heap.size + 1, 1, none⟩ = some (.slice a' n' c') := cellB hb (by simp)
    have k3 : w1.cell? ⟨w.heap.size + 1, 3, none⟩ = some (.slice q l d) := cellB hb (by simp)
    have T1 := slB hb1 S1
    have T2 := slB hb1 S2
    have T := blB hb1 S
    have HB := Lib.hid hb1
    clear hb hb1 S1 S2 S
    go_wp2_with fail
    refine (Load_any a a' n c n' c' ws ts x _ T1 T2 HX.out).mono ?_
    rintro e w2 ⟨rfl, hb⟩
    obtain ⟨ev, hev⟩ : ∃ z, usableZ ws ts x = z := ⟨_, rfl⟩
    obtain ⟨lv, hlv⟩ : ∃ z, loadZ ws ts x = z := ⟨_, rfl⟩
    have HEV := Lib.hid hev
    have HLV := Lib.hid hlv
    rw [hev, hlv]
    have HB2 := Lib.hid (below_from HB.out hb)
    by_cases he : ev = 0
    · subst he
      replace k3 := cellB hb k3
      replace T := blB hb T
      obtain ⟨b, o, y, yc, rfl, g0, hcap, hp⟩ := bl_at T hjl
      obtain ⟨ps, hps⟩ : ∃ ps, bs.getD j [] = ps := ⟨_, rfl⟩
      have h8 := HS8.out
      rw [hps] at g0 hp hcap h8
      have HPS := Lib.hid hps
      obtain ⟨m, hm⟩ : ∃ m, ps.length = m := ⟨_, rfl⟩
      rw [hm] at g0 hp hcap h8
      clear hb hlv hev hps hm hcap k0 k1 T1 T2 T HB HS8
      go_wp2_with fail
      refine (Newest_any y m yc ps x _ hp (by omega)).mono ?_
      rintro e w3 ⟨rfl, hb⟩
      have HB3 := Lib.hid (below_from HB2.out hb)
      cases hnw : newest ps x with
      | some v =>
        have HN := Lib.hid (And.intro (show newestV ps x = v by rw [newestV, hnw]; rfl) (show newestB ps x = true by rw [newestB, hnw]; rfl))
        have HW := Lib.hid hnw
        rw [HN.out.1, HN.out.2]
        clear hnw hb hp
        go_wp2
        go_ret2
        exact loadPost_mk (by rw [HV.out, HEV.out, if_pos rfl, HPS.out, HW.out]; rfl) (by rw [HE.out, HEV.out]) HB3.out
      | none =>
        have HN := Lib.hid (And.intro (show newestV ps x = 0 by rw [newestV, hnw]; rfl) (show newestB ps x = false by rw [newestB, hnw]; rfl))
        have HW := Lib.hid hnw
        rw [HN.out.1, HN.out.2]
        clear hnw hb hp
        go_wp2
        go_ret2
        exact loadPost_mk (by rw [HV.out, HEV.out, if_pos rfl, HPS.out, HW.out, HLV.out]; rfl) (by rw [HE.out, HEV.out]) HB3.out
    · have q1 : (ev != 0) = true := by simpa using he
      have HEN := Lib.hid he
      clear hb hlv hev he k0 k1 k3 T1 T2 T HB HS8
      go_wp2
      go_ret2
      exact loadPost_mk (by rw [HV.out, HEV.out, if_neg HEN.out]) (by rw [HE.out, HEV.out]) HB2.out
end Go.Proofs.YtiebaeaomgpicaaGreat
/- The contract of package tso's Store. -/
namespace Go.Proofs.YtiebaeaomgpicaaGreat
open Go.ChangeShapes Go.WideShapes Go.ChangeAt Go.RowKit

theorem tsoPost_no {A B : List Int} {z E : Int} {C : List (List (Int × Int))} (he : E ≠ 0) {w w' : World} (hb : Below w.heap.size w w') : TsoPost (okL E A) (okL E B) (okZ E z) (okL E C) E w (.returned (.tuple #[.agg #[.slice none 0 0, .slice none 0 0, .int .i64 0, .slice none 0 0], .int .i64 E])) w' := by
  rw [okL_neg he, okL_neg he, okZ_neg he, okL_neg he]; exact tsoPost_nil hb
theorem tsoPost_yes {A B : List Int} {z E : Int} {C : List (List (Int × Int))} (he : E = 0) {w w' : World} {e : Ending} (h : TsoPost A B z C 0 w e w') : TsoPost (okL E A) (okL E B) (okZ E z) (okL E C) E w e w' := by
  rw [okL_pos he, okL_pos he, okZ_pos he, okL_pos he, he]; exact h
/-- the four cells of a variable, none of them frozen -/
def Var4 (w : World) (g : Nat) (x y z u : Value) : Prop := (w.cell? ⟨g, 0, none⟩ = some x ∧ w.cell? ⟨g, 1, none⟩ = some y ∧ w.cell? ⟨g, 2, none⟩ = some z ∧ w.cell? ⟨g, 3, none⟩ = some u) ∧ w.frozen? ⟨g, 0, none⟩ = false ∧ w.frozen? ⟨g, 1, none⟩ = false ∧ w.frozen? ⟨g, 2, none⟩ = false ∧ w.frozen? ⟨g, 3, none⟩ = false
theorem var4_new {w : World} {x y z u : Value} {t : TypeId} (g : Nat) (hg : g = w.heap.size) : Var4 (w.alloc (.cells #[x, y, z, u] t)) g x y z u :=
  ⟨⟨cell_new _ _ _ hg rfl, cell_new _ _ _ hg rfl, cell_new _ _ _ hg rfl, cell_new _ _ _ hg rfl⟩, frozen_new _ _ hg, frozen_new _ _ hg, frozen_new _ _ hg, frozen_new _ _ hg⟩
theorem var4_B {w w' : World} {g : Nat} {x y z u : Value} (hb : Below w.heap.size w w') (h : Var4 w g x y z u) : Var4 w' g x y z u := by
  obtain ⟨⟨a, b, c, d⟩, e, f, i, j⟩ := h
  exact ⟨⟨cellB hb a, cellB hb b, cellB hb c, cellB hb d⟩, frozenB hb a e, frozenB hb b f, frozenB hb c i, frozenB hb d j⟩
theorem var4_A {w : World} {g : Nat} {x y z u : Value} (o : Obj) (h : Var4 w g x y z u) : Var4 (w.alloc o) g x y z u := var4_B ((Below.refl _ _).alloc (Nat.le_refl _) _) h
theorem var4_set {w : World} {g : Nat} {x y z u : Value} (h : Var4 w g x y z u) (x' y' z' u' : Value) : Var4 ((((w.setCell ⟨g, 0, none⟩ x').setCell ⟨g, 1, none⟩ y').setCell ⟨g, 2, none⟩ z').setCell ⟨g, 3, none⟩ u') g x' y' z' u' := by
  obtain ⟨⟨a, b, c, d⟩, e, f, i, j⟩ := h
  refine ⟨set4 x' y' z' u' (by rw [a]; rfl) (by rw [b]; rfl) (by rw [c]; rfl) (by rw [d]; rfl), ?_, ?_, ?_, ?_⟩ <;> (simp only [World.frozen?_setCell]; assumption)
theorem set4_old {W wy : World} {g b o : Nat} {v x y z u : Value} (hb : Below W.heap.size W wy) (hne : b ≠ g) (h : W.cell? ⟨b, o, none⟩ = some v) : ((((wy.setCell ⟨g, 0, none⟩ x).setCell ⟨g, 1, none⟩ y).setCell ⟨g, 2, none⟩ z).setCell ⟨g, 3, none⟩ u).cell? ⟨b, o, none⟩ = some v := by
  have ne : ∀ j, (⟨g, j, none⟩ : Addr) ≠ ⟨b, o, none⟩ := fun j e => hne (congrArg Addr.block e).symm
  rw [World.cell?_setCell_other _ _ _ _ (ne _), World.cell?_setCell_other _ _ _ _ (ne _), World.cell?_setCell_other _ _ _ _ (ne _), World.cell?_setCell_other _ _ _ _ (ne _)]
  exact cellB hb h
theorem var4_low {F : Nat} {w w' : World} {g : Nat} {x y z u : Value} (hb : Below F w w') (hg : g < F) (h : Var4 w g x y z u) : Var4 w' g x y z u := by
  obtain ⟨⟨a, b, c, d⟩, e, f, i, j⟩ := h
  exact ⟨⟨(hb.cell (p := ⟨g, 0, none⟩) hg).trans a, (hb.cell (p := ⟨g, 1, none⟩) hg).trans b, (hb.cell (p := ⟨g, 2, none⟩) hg).trans c, (hb.cell (p := ⟨g, 3, none⟩) hg).trans d⟩, (hb.frozen (p := ⟨g, 0, none⟩) hg).trans e, (hb.frozen (p := ⟨g, 1, none⟩) hg).trans f, (hb.frozen (p := ⟨g, 2, none⟩) hg).trans i, (hb.frozen (p := ⟨g, 3, none⟩) hg).trans j⟩
theorem var4_lt {w : World} {g : Nat} {x y z u : Value} (h : Var4 w g x y z u) : g < w.heap.size := cell_lt h.1.1

set_option maxRecDepth 100000 in
set_option maxHeartbeats 4000000 in
theorem tsoStore_any (a a' q : Option Addr) (n c n' c' l d : Nat) (ws ts : List Int) (D : Int) (bs : List (List (Int × Int))) (th x v : Int) (w : World) (S1 : Sl w a n ws) (S2 : Sl w a' n' ts) (S : Bl w q l bs) (hx : (Lit.int .i64 x).wf = true) :
    Calls Tryz.prog 33 #[.agg #[.slice a n c, .slice a' n' c', .int .i64 D, .slice q l d], .int .i64 th, .int .i64 x, .int .i64 v] w (TsoPost (okL (storeTE ws ts D bs th x) (storeTW ws D x v)) (okL (storeTE ws ts D bs th x) ts) (okZ (storeTE ws ts D bs th x) D) (okL (storeTE ws ts D bs th x) (storeTB D bs th x v)) (storeTE ws ts D bs th x) w) := by
  have HX := Lib.hid hx
  have Hl := Lib.hid S.1
  clear hx
  cases hh : hasB ws ts D bs th with
  | false =>
    have he : storeTE ws ts D bs th x = 1 := by rw [storeTE, if_neg (by rw [hh]; decide)]
    rw [he]
    have HH := Lib.hid (show (mayT ws ts D bs && thB bs th) = false from hh)
    clear hh he
    go_enter Tryz.func33, Tryz.ntmps33
    go_wp2_with fail
    refine (tsoHas_any a a' q n c n' c' l d ws ts D th bs _ (slA _ (slA _ (slA _ S1))) (slA _ (slA _ (slA _ S2))) (blA _ (blA _ (blA _ S)))).mono ?_
    rintro e w1 ⟨rfl, hb⟩
    rw [HH.out]
    have R := var4_B hb (var4_A _ (var4_new (w := w.alloc _) (w.heap.size + 1) (by simp)))
    have HR := Lib.hid (var4_set R (.slice none 0 0) (.slice none 0 0) (.int .i64 0) (.slice none 0 0))
    obtain ⟨⟨r0, r1, r2, r3⟩, f0, f1, f2, f3⟩ := R
    have HB := Lib.hid (below_from (by go_grown) hb : Below w.heap.size w w1)
    clear hb
    go_wp2
    refine bp_cell_tmp ⟨w.heap.size + 1, 0, none⟩ rfl rfl rfl (load_tso' _ _ _ _ _ _ HR.out.1.1 HR.out.1.2.1 HR.out.1.2.2.1 HR.out.1.2.2.2) ?_
    exact tsoPost_no (by decide) (below_set4 (g := w.heap.size + 1) HB.out (by omega) _ _ _ _)
  | true =>
    obtain ⟨hm, h0, h1⟩ := hasB_parts hh
    obtain ⟨j, rfl⟩ := Int.eq_ofNat_of_zero_le h0
    have hjl : j < l := by rw [← Hl.out]; omega
    have i1 : (0 : Int) ≤ j := by omega
    have i2 : (j : Int) < l := by omega
    have HH := Lib.hid (show (mayT ws ts D bs && thB bs j) = true from hh)
    have HE := Lib.hid (show storeTE ws ts D bs j x = if usableZ ws ts x = 0 then (if D = 0 then 0 else if ((bs.getD j []).length : Int) = D then 7 else 0) else usableZ ws ts x by rw [storeTE, if_pos hh, bufOf, Int.toNat_natCast])
    have hD0 : 0 ≤ D := (mayT_parts hm).2.2.1.1
    have hD8 : D ≤ 8 := (mayT_parts hm).2.2.1.2
    have hlD : ((bs.getD j []).length : Int) ≤ D := ((mayT_parts hm).2.2.2 j (by omega)).1
    have HM := Lib.hid hm
    clear hh hm h0 h1
    go_enter Tryz.func33, Tryz.ntmps33
    go_wp2_with fail
    refine (tsoHas_any a a' q n c n' c' l d ws ts D j bs _ (slA _ (slA _ (slA _ S1))) (slA _ (slA _ (slA _ S2))) (blA _ (blA _ (blA _ S)))).mono ?_
    rintro e w1 ⟨rfl, hb⟩
    rw [HH.out]
    have hb1 : Below w.heap.size w w1 := below_from (by go_grown) hb
    have R := var4_B hb (var4_A _ (var4_new (w := w.alloc _) (w.heap.size + 1) (by simp)))
    have X := var4_B hb (var4_new (w := (w.alloc _).alloc _) (w.heap.size + 1 + 1) (by simp))
    have T1 := slB hb1 S1
    have T2 := slB hb1 S2
    have T := blB hb1 S
    have HB := Lib.hid hb1
    obtain ⟨⟨k0, k1, k2, k3⟩, -⟩ := id X
    clear hb hb1 S1 S2 S HH
    go_wp2_with fail
    refine (Load_any a a' n c n' c' ws ts x _ T1 T2 HX.out).mono ?_
    rintro e w2 ⟨rfl, hb⟩
    obtain ⟨ev, hev⟩ : ∃ z, usableZ ws ts x = z := ⟨_, rfl⟩
    obtain ⟨lv, hlv⟩ : ∃ z, loadZ ws ts x = z := ⟨_, rfl⟩
    have HEV := Lib.hid hev
    rw [hev, hlv]
    have HB2 := Lib.hid (below_from HB.out hb)
    replace R := var4_B hb R
    by_cases he : ev = 0
    · subst he
      replace X := var4_B hb X
      replace T1 := slB hb T1
      replace T2 := slB hb T2
      replace T := blB hb T
      have hgw2 := var4_lt R
      have hgx2 := var4_lt X
      obtain ⟨W, hW⟩ : ∃ W, W = w2.alloc (Obj.cells #[.int .i64 x, .int .i64 v] 96) := ⟨_, rfl⟩
      have b2 : Below w2.heap.size w2 W := by rw [hW]; exact (Below.refl _ _).alloc (Nat.le_refl _) _
      replace R := var4_B b2 R
      replace X := var4_B b2 X
      replace T1 := slB b2 T1
      replace T2 := slB b2 T2
      replace T := blB b2 T
      have p0 : W.cell? ⟨w2.heap.size, 0, none⟩ = some (.int .i64 x) := by rw [hW]; exact cell_new _ _ _ rfl rfl
      have p1 : W.cell? ⟨w2.heap.size, 1, none⟩ = some (.int .i64 v) := by rw [hW]; exact cell_new _ _ _ rfl rfl
      have hgw := var4_lt R
      have hgx := var4_lt X
      have hw2 : w.heap.size + 1 < w2.heap.size ∧ w.heap.size + 1 + 1 < w2.heap.size := ⟨hgw2, hgx2⟩
      have HW := Lib.hid hW
      have HB3 := Lib.hid (below_from HB2.out b2)
      have HB3s := Lib.hid HB3.out.size
      have HR := Lib.hid R
      clear hb hlv hev b2 k0 k1 k2 k3 R hW HB HB2
      obtain ⟨⟨k0, k1, k2, k3⟩, -⟩ := X
      go_upto_region 8 with fail
      rw [← HW.out]
      by_cases hd : D = 0
      · subst hd
        have HES := Lib.hid (show storeTE ws ts 0 bs j x = 0 by rw [HE.out, HEV.out, if_pos rfl, if_pos rfl])
        go_wp2_with fail
        have hB0 : Below W.heap.size W W.drew := (Below.refl _ _).drew
        have HE0 := Lib.hid HEV.out
        go_region_held3 (fun w' => (w'.cell? ⟨w.heap.size + 1 + 1, 0, none⟩ = some (.slice a n c) ∧ w'.cell? ⟨w.heap.size + 1 + 1, 1, none⟩ = some (.slice a' n' c') ∧ w'.cell? ⟨w.heap.size + 1 + 1, 2, none⟩ = some (.int .i64 0) ∧ w'.cell? ⟨w.heap.size + 1 + 1, 3, none⟩ = some (.slice q l d)) ∧ w'.cell? ⟨w2.heap.size, 0, none⟩ = some (.int .i64 x) ∧ w'.cell? ⟨w2.heap.size, 1, none⟩ = some (.int .i64 v))
          (first | exact ⟨⟨k0, k1, k2, k3⟩, p0, p1⟩ | (exact ⟨⟨cellB (by assumption) k0, cellB (by assumption) k1, cellB (by assumption) k2, cellB (by assumption) k3⟩, cellB (by assumption) p0, cellB (by assumption) p1⟩) | (exact ⟨⟨set4_old (by assumption) (by omega) k0, set4_old (by assumption) (by omega) k1, set4_old (by assumption) (by omega) k2, set4_old (by assumption) (by omega) k3⟩, set4_old (by assumption) (by omega) p0, set4_old (by assumption) (by omega) p1⟩))
          ((first | (go_at_call 58; refine (copiedT_any a a' q n c n' c' l d ws ts 0 bs _ (slB (by assumption) T1) (slB (by assumption) T2) (blB (by assumption) T) HM.out).mono ?_; rintro e wx ⟨p, m, d1, p', m', d2, y, l2, rfl, u1, u2, O, hbx⟩; have hbx' := below_from (by assumption) hbx) | (go_at_call 60; refine (storedT_ok p p' (some ⟨y, 0, none⟩) m d1 m' d2 l2 l2 ws ts 0 x v _ u1.sl u2.sl HX.out HEV.out).mono ?_; rintro e wy ⟨p3, m3, d3, p4, m4, d4, rfl, u3, u4, hby⟩; have hby' := below_from (by assumption) hby; obtain ⟨⟨r0, r1, r2, r3⟩, f0, f1, f2, f3⟩ := var4_B hby' HR.out)))
        have H4 := Lib.hid (var4_set (var4_B hby' HR.out) (.slice p3 m3 d3) (.slice p4 m4 d4) (.int .i64 0) (.slice (some ⟨y, 0, none⟩) l2 l2))
        have HZ := Lib.hid (tsoPost_yes HES.out (tsoPost_mk (F := W.heap.size) (g := w.heap.size + 1) (ws := storeTW ws 0 x v) (ts := ts) (D := 0) (bs := storeTB 0 bs j x v) (x := 0) (y0 := .slice p3 m3 d3) (y1 := .slice p4 m4 d4) (y2 := .int .i64 0) (y3 := .slice (some ⟨y, 0, none⟩) l2 l2) (d := d3) (d' := d4) (e := l2) hgw (by omega) (Q := fun b => wx.heap.size ≤ b) (fun b h => Nat.le_trans hbx'.size h) (slP_slF (fun _ h => h) u3) (slP_slF (fun _ h => h) u4) (blPB hby (bown_bl O)) (below_from HB3.out hby')))
        clear u1 u2 u3 u4 O hbx hby hbx' hby' hB0 p0 p1 k0 k1 k2 k3 T1 T2 T
        go_wp2
        refine bp_cell_tmp ⟨w.heap.size + 1, 0, none⟩ rfl rfl rfl (load_tso' _ _ _ _ _ _ H4.out.1.1 H4.out.1.2.1 H4.out.1.2.2.1 H4.out.1.2.2.2) ?_
        exact HZ.out
      · have q1 : (D == 0) = false := by simpa using hd
        have HDN := Lib.hid hd
        obtain ⟨b, o, y, yc, rfl, g0, hcap, hp⟩ := bl_at T hjl
        obtain ⟨ps, hps⟩ : ∃ ps, bs.getD j [] = ps := ⟨_, rfl⟩
        rw [hps] at g0 hp hcap hlD
        have HPS := Lib.hid hps
        obtain ⟨m, hm⟩ : ∃ m, ps.length = m := ⟨_, rfl⟩
        rw [hm] at g0 hp hcap hlD
        have HPL := Lib.hid hm
        have HCAP := Lib.hid hcap
        have hm8 : m ≤ 8 := by omega
        have HPE := Lib.hid (show pushE m D = if (m : Int) = D then 7 else 0 by rw [pushE, if_neg (by omega)])
        clear hps hm hcap hd
        go_wp2_with fail
        have hB0 : Below W.heap.size W W.drew := (Below.refl _ _).drew
        go_region_held3 (fun w' => (w'.cell? ⟨w.heap.size + 1 + 1, 2, none⟩ = some (.int .i64 D) ∧ w'.cell? ⟨w.heap.size + 1 + 1, 3, none⟩ = some (.slice (some ⟨b, o, none⟩) l d)) ∧ w'.cell? ⟨b, o + j, none⟩ = some (.slice y m yc) ∧ w'.cell? ⟨w2.heap.size, 0, none⟩ = some (.int .i64 x) ∧ w'.cell? ⟨w2.heap.size, 1, none⟩ = some (.int .i64 v))
          (first | exact ⟨⟨k2, k3⟩, g0, p0, p1⟩ | (exact ⟨⟨cellB (by assumption) k2, cellB (by assumption) k3⟩, cellB (by assumption) g0, cellB (by assumption) p0, cellB (by assumption) p1⟩))
          ((go_at_call 62; refine (Push_any y m yc ps D x v _ (plB (by assumption) hp) HCAP.out).mono ?_; rintro e wx ⟨r, rc, rfl, hrc, u0, hbx⟩; have hbx' := below_from (by assumption) hbx))
        have hsz : W.heap.size ≤ wx.heap.size := hbx'.size
        replace T1 := slB hbx' T1
        replace T2 := slB hbx' T2
        replace T := blB hbx' T
        replace k0 := cellB hbx' k0
        replace k1 := cellB hbx' k1
        replace k2 := cellB hbx' k2
        replace k3 := cellB hbx' k3
        have R := var4_B hbx' HR.out
        have HBX := Lib.hid (below_from HB3.out hbx')
        by_cases hf : (m : Int) = D
        · have HES := Lib.hid (show storeTE ws ts D bs j x = 7 by rw [HE.out, HEV.out, if_pos rfl, if_neg HDN.out, HPS.out, HPL.out, if_pos hf])
          have HP7 := Lib.hid (show pushE m D = 7 by rw [HPE.out, if_pos hf])
          rw [HP7.out]
          have HZ := Lib.hid (var4_set R (.slice none 0 0) (.slice none 0 0) (.int .i64 0) (.slice none 0 0))
          obtain ⟨⟨r0, r1, r2, r3⟩, f0, f1, f2, f3⟩ := R
          clear hf u0 hbx hbx' hB0 k0 k1 k2 k3 T1 T2 T hp g0 p0 p1 hrc HPE
          go_wp2
          refine bp_cell_tmp ⟨w.heap.size + 1, 0, none⟩ rfl rfl rfl (load_tso' _ _ _ _ _ _ HZ.out.1.1 HZ.out.1.2.1 HZ.out.1.2.2.1 HZ.out.1.2.2.2) ?_
          rw [HES.out]
          exact tsoPost_no (by decide) (below_set4 (g := w.heap.size + 1) HBX.out (by omega) _ _ _ _)
        · have HES := Lib.hid (show storeTE ws ts D bs j x = 0 by rw [HE.out, HEV.out, if_pos rfl, if_neg HDN.out, HPS.out, HPL.out, if_neg hf])
          have HP0 := Lib.hid (show pushE m D = 0 by rw [HPE.out, if_neg hf])
          have hL : pushL ps D (x, v) = ps ++ [(x, v)] := by rw [pushL, HPL.out, HP0.out, if_pos rfl]
          rw [HP0.out]
          rw [hL] at u0 hrc ⊢
          have hm1 : (ps ++ [(x, v)]).length = m + 1 := by rw [List.length_append, HPL.out]; rfl
          rw [hm1] at u0 hrc ⊢
          have HTW := Lib.hid (show storeTW ws D x v = ws by rw [storeTW, if_neg HDN.out])
          have HTB := Lib.hid (show storeTB D bs j x v = bs.set j (ps ++ [(x, v)]) by rw [storeTB, if_neg HDN.out, bufOf, Int.toNat_natCast, HPS.out])
          have U0 := Lib.hid u0
          have HRC := Lib.hid hrc
          have HRR := Lib.hid R
          clear hf hL hm1 u0 hrc hbx hbx' hB0 g0 p0 p1 hp HPE R HR HB3
          go_wp2_with fail
          refine (copiedT_any a a' (some ⟨b, o, none⟩) n c n' c' l d ws ts D bs _ T1 T2 T HM.out).mono ?_
          rintro e wz ⟨p, m1, d1, p', m2, d2, g, l2, rfl, u1, u2, O, hbz⟩
          have hgz : wx.heap.size ≤ g := O.2.1
          have hl2 : l2 = l := by rw [← O.1, Hl.out]
          subst hl2
          have O2 := bown_mono (F' := W.heap.size) (by omega) O
          have hp0 : PlQ (fun z => W.heap.size ≤ z ∧ z ≠ g) wz r (m + 1) (ps ++ [(x, v)]) := plQB hbz (plQ_F (fun z h1 h2 => ⟨h1, by omega⟩) U0.out)
          have U1 := Lib.hid u1
          have U2 := Lib.hid u2
          have HO := Lib.hid O2
          have HP := Lib.hid hp0
          have HBZ := Lib.hid hbz
          clear O O2 hp0 hbz u1 u2 T1 T2 T k0 k1 k2 k3
          go_wp2_with fail
          refine (hold_any W.heap.size g l2 p p' m1 d1 m2 d2 D bs j r (m + 1) rc (ps ++ [(x, v)]) _ HO.out hjl HP.out HRC.out).mono ?_
          rintro e wh ⟨rfl, O3, K3, hbh⟩
          have R3 := var4_low hbh (by omega) (var4_B HBZ.out HRR.out)
          have hfd := field_tso wh (.slice p m1 d1) (.slice p' m2 d2) (.int .i64 D) (.slice (some ⟨g, 0, none⟩) l2 l2)
          have H4 := Lib.hid (var4_set R3 (.slice p m1 d1) (.slice p' m2 d2) (.int .i64 D) (.slice (some ⟨g, 0, none⟩) l2 l2))
          have HZ := Lib.hid (tsoPost_yes HES.out (tsoPost_mk (F := W.heap.size) (g := w.heap.size + 1) (ws := storeTW ws D x v) (ts := ts) (D := D) (bs := storeTB D bs j x v) (x := 0) (y0 := .slice p m1 d1) (y1 := .slice p' m2 d2) (y2 := .int .i64 D) (y3 := .slice (some ⟨g, 0, none⟩) l2 l2) (d := d1) (d' := d2) (e := l2) hgw (by omega) (Q := fun b => wx.heap.size ≤ b ∧ b ≠ g) (fun b h => Nat.le_trans hsz h.1) (by rw [HTW.out]; exact slP_keep (fun b o u hq hu => K3 b o u hq.2 hu) U1.out) (slP_keep (fun b o u hq hu => K3 b o u hq.2 hu) U2.out) (by rw [HTB.out]; exact bown_bl O3) ((below_from HBX.out HBZ.out).trans (hbh.mono (by have := HB3s.out; omega)))))
          obtain ⟨⟨r0, r1, r2, r3⟩, f0, f1, f2, f3⟩ := R3
          clear O3 K3 hbh
          go_wp2
          refine bp_cell_tmp ⟨w.heap.size + 1, 0, none⟩ rfl rfl rfl (load_tso' _ _ _ _ _ _ H4.out.1.1 H4.out.1.2.1 H4.out.1.2.2.1 H4.out.1.2.2.2) ?_
          exact HZ.out
    · have q1 : (ev != 0) = true := by simpa using he
      have HR := Lib.hid (var4_set R (.slice none 0 0) (.slice none 0 0) (.int .i64 0) (.slice none 0 0))
      obtain ⟨⟨r0, r1, r2, r3⟩, f0, f1, f2, f3⟩ := R
      have HEN := Lib.hid he
      have HES := Lib.hid (show storeTE ws ts D bs j x = ev by rw [HE.out, HEV.out, if_neg he])
      clear hb hlv hev he k0 k1 k2 k3 X T1 T2 T HB hlD hD0 hD8
      go_wp2
      refine bp_cell_tmp ⟨w.heap.size + 1, 0, none⟩ rfl rfl rfl (load_tso' _ _ _ _ _ _ HR.out.1.1 HR.out.1.2.1 HR.out.1.2.2.1 HR.out.1.2.2.2) ?_
      rw [HES.out]
      exact tsoPost_no HEN.out (below_set4 (g := w.heap.size + 1) HB2.out (by omega) _ _ _ _)
end Go.Proofs.YtiebaeaomgpicaaGreat
/- Contracts of layer 3's own small functions: machine. -/
namespace Go.Proofs.YtiebaeaomgpicaaGreat
open Go.ChangeShapes Go.WideShapes Go.ChangeAt Go.RowKit

/-- append to a row of one's own, as one step of a region that draws -/
theorem step_append_mine {P : Program} {ops : Array Oper} {o : Oper} {a : Act} {w : World} {K : Act → World → Prop} {Q : Exit → Act → World → Prop} {E : Prop}
    (hg : o.guard = none) (s x : Operand) (t : TypeId) (hop : o.op = Op.call { callee := Callee.builtin Builtin.append, args := #[s, x], argTypes := #[t, t] })
    (base : Nat) (e : TypeId) (i : TypeInfo) (z : Value) (size bytes : Nat) (h1 : P.underlying t = some (.slice e)) (h2 : P.info? e = some i) (h3 : i.zero = some z) (h4 : i.size = size) (h5 : i.bytes = bytes) (h6 : z.cells.size = size) (h7 : 0 < size)
    (v : Value) (n : Nat) (xs : List Value) (hs : a.eval s = v) (hown : w.ownsRow base e size v n xs)
    (ad : Addr) (m c : Nat) (news : List Value) (hx : a.eval x = .slice (some ad) m c) (hn : news.length = m * size) (hc : ∀ j u, news[j]? = some u → w.cell? (ad.add j) = some u) (h1c : ∀ u ∈ news, u.oneCell' = true)
    (b1 : n + m ≤ maxLen) (b2 : (n + m) * bytes ≤ 140737488355328) (hbase : base ≤ w.heap.size)
    (hK : ∀ v' w', w'.ownsRow base e size v' (n + m) (xs ++ news) → w.grownBy w' v.ownBlock → K (a.put o.dst v') w') :
    if Region.wanted o (yielded ops a.tmps) = true then Oper.wp P o a w K Q else E := by
  have hw : Region.wanted o (yielded ops a.tmps) = true := by simp [Region.wanted, hg]
  rw [if_pos hw]
  obtain ⟨v', w', hrun, r1, r2, _, _⟩ := run_append_own_at (P := P) w base t o.type e i z size bytes h1 h2 h3 h4 h5 h6 h7 v n xs hown ad m c news hn hc h1c b1 b2 hbase
  unfold Oper.wp
  simp [execOp, hop, resolve, invoke, builtin, hs, hx, hrun, Result.andThen]
  exact hK v' w' r1 r2

theorem own_shapeT {w : World} {B : Nat} {e : TypeId} {v : Value} {n : Nat} {xs : List Value} (h : w.ownsRow B e 1 v n xs) : ∃ a c, v = .slice a n c := by
  rcases h.2 with ⟨rfl, rfl⟩ | ⟨g, cap, cur, rfl, _⟩
  · exact ⟨_, _, rfl⟩
  · exact ⟨_, _, rfl⟩
theorem own_ge {w : World} {B : Nat} {e : TypeId} {v : Value} {n : Nat} {xs : List Value} (h : w.ownsRow B e 1 v n xs) {r : Nat} (hr : v.ownBlock = some r) : B ≤ r := by
  rcases h.2 with ⟨rfl, _⟩ | ⟨g, cap, cur, rfl, hb, _⟩
  · simp [Value.ownBlock] at hr
  · simp [Value.ownBlock] at hr; omega
theorem mine_below {F : Nat} {wr w0 w1 w2 : World} {e : TypeId} {v : Value} {n : Nat} {xs : List Value} (h0 : Below F wr w0) (hs : F ≤ w0.heap.size) (hg : w0.grownBy w1 v.ownBlock) (ho : w2.ownsRow F e 1 v n xs) : Below F wr w1 :=
  h0.grown hg hs (fun _ hr => own_ge ho hr)
theorem var4_set3 {w : World} {g : Nat} {x y z u : Value} (h : Var4 w g x y z u) (u' : Value) : Var4 (w.setCell ⟨g, 3, none⟩ u') g x y z u' := by
  obtain ⟨⟨a, b, c, d⟩, e, f, i, j⟩ := h
  have ne : ∀ k, k ≠ 3 → (⟨g, 3, none⟩ : Addr) ≠ ⟨g, k, none⟩ := fun k hk e => hk (congrArg Addr.off e).symm
  refine ⟨⟨?_, ?_, ?_, World.cell?_setCell_same' _ _ _ (by rw [d]; rfl)⟩, ?_, ?_, ?_, ?_⟩
  · rw [World.cell?_setCell_other _ _ _ _ (ne _ (by decide))]; exact a
  · rw [World.cell?_setCell_other _ _ _ _ (ne _ (by decide))]; exact b
  · rw [World.cell?_setCell_other _ _ _ _ (ne _ (by decide))]; exact c
  all_goals (rw [World.frozen?_setCell]; assumption)
theorem var4_other {w : World} {g g' o : Nat} {x y z u : Value} (h : Var4 w g x y z u) (hne : g' ≠ g) (v : Value) : Var4 (w.setCell ⟨g', o, none⟩ v) g x y z u := by
  obtain ⟨⟨a, b, c, d⟩, e, f, i, j⟩ := h
  have ne : ∀ k, (⟨g', o, none⟩ : Addr) ≠ ⟨g, k, none⟩ := fun k e => hne (congrArg Addr.block e)
  refine ⟨⟨?_, ?_, ?_, ?_⟩, ?_, ?_, ?_, ?_⟩
  · rw [World.cell?_setCell_other _ _ _ _ (ne _)]; exact a
  · rw [World.cell?_setCell_other _ _ _ _ (ne _)]; exact b
  · rw [World.cell?_setCell_other _ _ _ _ (ne _)]; exact c
  · rw [World.cell?_setCell_other _ _ _ _ (ne _)]; exact d
  all_goals (rw [World.frozen?_setCell]; assumption)
def cutB (bs : List (List (Int × Int))) : List (List (Int × Int)) := (bs.take 10).map (fun b => b.take 10)
def MachineP (a a' : Option Addr) (n c n' c' : Nat) (D : Int) (l : Nat) (bs : List (List (Int × Int))) (w : World) (e : Ending) (w' : World) : Prop :=
  ∃ q d, e = .returned (.agg #[.slice a n c, .slice a' n' c', .int .i64 D, .slice q l d]) ∧ Bl w' q l bs ∧ Below w.heap.size w w'
theorem pl_take {w : World} {a : Option Addr} {n : Nat} {ps : List (Int × Int)} (h : Pl w a n ps) (k : Nat) : Pl w a (min n k) (ps.take k) := by
  refine ⟨by rw [List.length_take, h.1]; omega, ?_⟩
  by_cases h0 : min n k = 0
  · exact .inl h0
  · obtain ⟨b, o, e, r⟩ := h.2.resolve_left (by omega)
    refine .inr ⟨b, o, e, fun i hi => ?_⟩
    rw [List.length_take] at hi
    have e2 : (ps.take k).getD i (0, 0) = ps.getD i (0, 0) := by
      simp only [List.getD_eq_getElem?_getD, List.getElem?_take]
      rw [if_pos (by omega)]
    rw [e2]
    exact r i (by omega)
theorem cutB_succ {bs : List (List (Int × Int))} {k : Nat} (hk : k < 10) (hl : k < bs.length) : (cutB bs).take (k + 1) = (cutB bs).take k ++ [(bs.getD k []).take 10] := by
  have h : k < (cutB bs).length := by simp [cutB]; omega
  rw [List.take_succ_eq_append_getElem h]
  congr 1
  simp [cutB, hl]
theorem cutB_length (bs : List (List (Int × Int))) : (cutB bs).length = min bs.length 10 := by simp [cutB]; omega
theorem bvals_kept {w w' : World} {vs : List Value} {bs : List (List (Int × Int))} (hk : ∀ q n b, Pl w q n b → Pl w' q n b) (h : BVals w vs bs) : BVals w' vs bs :=
  ⟨h.1, fun i hi => by obtain ⟨q, c, h1, h2, h3⟩ := h.2 i hi; exact ⟨q, c, h1, h2, hk _ _ _ h3⟩⟩

end Go.Proofs.YtiebaeaomgpicaaGreat
/- The contract of package tso's Flush. -/
namespace Go.Proofs.YtiebaeaomgpicaaGreat
open Go.ChangeShapes Go.WideShapes Go.ChangeAt Go.RowKit

theorem wf_small {x : Int} (h0 : 0 ≤ x) (h1 : x < 1000) : (Lit.int .i64 x).wf = true := WalkArith.wf_i64 (by omega)
theorem own_lt {F g k l l2 j : Nat} {bs : List (List (Int × Int))} {w : World} (O : BOwn F g k l2 bs w) (H : Hid (bs.length = l)) (h : j < l) : j < l2 := by
  have := O.1; rw [H.out] at this; omega
/-- whatever was there reads as it did -/
def KeepOld (W W' : World) : Prop := ∀ (b o : Nat) (u : Value), W.cell? ⟨b, o, none⟩ = some u → W'.cell? ⟨b, o, none⟩ = some u
theorem keepOld_app {W W' : World} (h : KeepOld W W') {b o : Nat} {u : Value} (c : W.cell? ⟨b, o, none⟩ = some u) : W'.cell? ⟨b, o, none⟩ = some u := h _ _ _ c
theorem keepOld_refl (W : World) : KeepOld W W := fun _ _ _ h => h
theorem keepOld_B {W W' W2 : World} (h : KeepOld W W') (hb : Below W'.heap.size W' W2) : KeepOld W W2 := fun _ _ _ c => cellB hb (h _ _ _ c)
theorem keepOld_but {W W' W2 : World} {g : Nat} (h : KeepOld W W') (K : ∀ (b o : Nat) (u : Value), b ≠ g → W'.cell? ⟨b, o, none⟩ = some u → W2.cell? ⟨b, o, none⟩ = some u) (hg : W.heap.size ≤ g) : KeepOld W W2 := fun b o u c => K b o u (by have := cell_lt c; dsimp only at this; omega) (h _ _ _ c)
theorem set4_keep {W wy : World} {g b o : Nat} {v x y z u : Value} (hb : KeepOld W wy) (hne : b ≠ g) (h : W.cell? ⟨b, o, none⟩ = some v) : ((((wy.setCell ⟨g, 0, none⟩ x).setCell ⟨g, 1, none⟩ y).setCell ⟨g, 2, none⟩ z).setCell ⟨g, 3, none⟩ u).cell? ⟨b, o, none⟩ = some v := by
  have ne : ∀ j, (⟨g, j, none⟩ : Addr) ≠ ⟨b, o, none⟩ := fun j e => hne (congrArg Addr.block e).symm
  rw [World.cell?_setCell_other _ _ _ _ (ne _), World.cell?_setCell_other _ _ _ _ (ne _), World.cell?_setCell_other _ _ _ _ (ne _), World.cell?_setCell_other _ _ _ _ (ne _)]
  exact hb _ _ _ h

set_option maxRecDepth 100000 in
set_option maxHeartbeats 8000000 in
theorem tsoFlush_any (a a' q : Option Addr) (n c n' c' l d : Nat) (ws ts : List Int) (D : Int) (bs : List (List (Int × Int))) (th : Int) (w : World) (S1 : Sl w a n ws) (S2 : Sl w a' n' ts) (S : Bl w q l bs) :
    Calls Tryz.prog 32 #[.agg #[.slice a n c, .slice a' n' c', .int .i64 D, .slice q l d], .int .i64 th] w (TsoPost (okL (flushTE ws ts D bs th) (flushTW ws bs th)) (okL (flushTE ws ts D bs th) ts) (okZ (flushTE ws ts D bs th) D) (okL (flushTE ws ts D bs th) (flushTB bs th)) (flushTE ws ts D bs th) w) := by
  have Hl := Lib.hid S.1
  have Hn := Lib.hid S1.1
  cases hh : hasB ws ts D bs th with
  | false =>
    have he : flushTE ws ts D bs th = 1 := by rw [flushTE, if_neg (by rw [hh]; decide)]
    rw [he]
    have HH := Lib.hid (show (mayT ws ts D bs && thB bs th) = false from hh)
    clear hh he
    go_enter Tryz.func32, Tryz.ntmps32
    go_wp2_with fail
    refine (tsoHas_any a a' q n c n' c' l d ws ts D th bs _ (slA _ (slA _ (slA _ S1))) (slA _ (slA _ (slA _ S2))) (blA _ (blA _ (blA _ S)))).mono ?_
    rintro e w1 ⟨rfl, hb⟩
    rw [HH.out]
    have R := var4_B hb (var4_A _ (var4_new (w := w.alloc _) (w.heap.size + 1) (by simp)))
    have HR := Lib.hid (var4_set R (.slice none 0 0) (.slice none 0 0) (.int .i64 0) (.slice none 0 0))
    obtain ⟨⟨r0, r1, r2, r3⟩, f0, f1, f2, f3⟩ := R
    have HB := Lib.hid (below_from (by go_grown) hb : Below w.heap.size w w1)
    clear hb
    go_wp2
    refine bp_cell_tmp ⟨w.heap.size + 1, 0, none⟩ rfl rfl rfl (load_tso' _ _ _ _ _ _ HR.out.1.1 HR.out.1.2.1 HR.out.1.2.2.1 HR.out.1.2.2.2) ?_
    exact tsoPost_no (by decide) (below_set4 (g := w.heap.size + 1) HB.out (by omega) _ _ _ _)
  | true =>
    obtain ⟨hm, h0, h1⟩ := hasB_parts hh
    obtain ⟨j, rfl⟩ := Int.eq_ofNat_of_zero_le h0
    have hjl : j < l := by rw [← Hl.out]; omega
    have i1 : (0 : Int) ≤ j := by omega
    have i2 : (j : Int) < l := by omega
    obtain ⟨ps, hps⟩ : ∃ ps, bs.getD j [] = ps := ⟨_, rfl⟩
    have hpt := (mayT_parts hm).2.2.2 j (by omega)
    rw [hps] at hpt
    have hD8 : ps.length ≤ 8 := by have := (mayT_parts hm).2.2.1.2; have := hpt.1; omega
    have hw160 := (mayB_size (mayT_parts hm).1).2.1
    have HFP : Hid (ps ≠ [] → (Lit.int .i64 (firstP ps).1).wf = true) := fun hne => by
      have hp := hpt.2 0 (List.length_pos_iff.2 hne)
      exact wf_small hp.1 (by show (ps.getD 0 (0, 0)).1 < 1000; omega)
    have HPS := Lib.hid hps
    have HH := Lib.hid (show (mayT ws ts D bs && thB bs j) = true from hh)
    have HE := Lib.hid (show flushTE ws ts D bs j = if ps = [] then 8 else usableZ ws ts (firstP ps).1 by rw [flushTE, if_pos hh, bufOf, Int.toNat_natCast, hps])
    have HTW := Lib.hid (show flushTW ws bs j = ws.set (firstP ps).1.toNat (firstP ps).2 by rw [flushTW, bufOf, Int.toNat_natCast, hps])
    have HTB := Lib.hid (show flushTB bs j = bs.set j (restP ps) by rw [flushTB, bufOf, Int.toNat_natCast, hps])
    have HM := Lib.hid hm
    clear hh hm h0 h1 hps hpt hw160
    go_enter Tryz.func32, Tryz.ntmps32
    go_wp2_with fail
    refine (tsoHas_any a a' q n c n' c' l d ws ts D j bs _ (slA _ (slA _ (slA _ S1))) (slA _ (slA _ (slA _ S2))) (blA _ (blA _ (blA _ S)))).mono ?_
    rintro e w1 ⟨rfl, hb⟩
    rw [HH.out]
    have hb1 : Below w.heap.size w w1 := below_from (by go_grown) hb
    have R := var4_B hb (var4_A _ (var4_new (w := w.alloc _) (w.heap.size + 1) (by simp)))
    have X := var4_B hb (var4_new (w := (w.alloc _).alloc _) (w.heap.size + 1 + 1) (by simp))
    have T1 := slB hb1 S1
    have T2 := slB hb1 S2
    have T := blB hb1 S
    have HB := Lib.hid hb1
    obtain ⟨⟨k0, k1, k2, k3⟩, -⟩ := id X
    have hgw := var4_lt R
    have hgx := var4_lt X
    clear hb hb1 S1 S2 S HH
    obtain ⟨b, o, y, yc, rfl, g0, hcap, hp⟩ := bl_at T hjl
    rw [HPS.out] at g0 hp hcap
    obtain ⟨m, hm⟩ : ∃ m, ps.length = m := ⟨_, rfl⟩
    rw [hm] at g0 hp hcap hD8
    have HCAP := Lib.hid hcap
    have HPL := Lib.hid hm
    clear hcap hm
    go_wp2_with fail
    refine (Pop_any y m yc ps _ hp HCAP.out (by omega)).mono ?_
    rintro e w2 ⟨r, rc, rfl, hrc, u0, hb⟩
    obtain ⟨fp, hfp⟩ : ∃ z, firstP ps = z := ⟨_, rfl⟩
    obtain ⟨rp, hrp⟩ : ∃ z, restP ps = z := ⟨_, rfl⟩
    obtain ⟨rn, hrn⟩ : ∃ z, rp.length = z := ⟨_, rfl⟩
    obtain ⟨pe, hpe⟩ : ∃ z, popE ps = z := ⟨_, rfl⟩
    rw [hfp] at HFP HE HTW
    rw [hrp] at HTB u0 hrc
    rw [hrn] at u0 hrc
    rw [hfp, hrp, hrn, hpe]
    obtain ⟨x, v⟩ := fp
    obtain ⟨W, hW⟩ : ∃ W, W = w2.alloc (Obj.cells #[.int .i64 x, .int .i64 v] 96) := ⟨_, rfl⟩
    have b2 : Below w1.heap.size w1 W := by rw [hW]; exact hb.alloc hb.size _
    replace R := var4_B b2 R
    replace X := var4_B b2 X
    replace T1 := slB b2 T1
    replace T2 := slB b2 T2
    replace T := blB b2 T
    have p0 : W.cell? ⟨w2.heap.size, 0, none⟩ = some (.int .i64 x) := by rw [hW]; exact cell_new _ _ _ rfl rfl
    have p1 : W.cell? ⟨w2.heap.size, 1, none⟩ = some (.int .i64 v) := by rw [hW]; exact cell_new _ _ _ rfl rfl
    have hz2 : w1.heap.size ≤ w2.heap.size := hb.size
    have hzW : w2.heap.size < W.heap.size := cell_lt p0
    have hp0 : PlQ (fun z => w1.heap.size ≤ z ∧ z < W.heap.size) W r rn rp := by rw [hW]; exact plQ_F (F := w1.heap.size) (fun z h1 h2 => ⟨h1, h2⟩) (plF_alloc _ u0)
    have HW := Lib.hid hW
    have HB3 := Lib.hid (below_from HB.out b2)
    have HRR := Lib.hid R
    have HRC := Lib.hid hrc
    have HP0 := Lib.hid hp0
    have HPE := Lib.hid hpe
    clear hb hrc u0 b2 k0 k1 k2 k3 hW HB hp0 g0 hp hpe hrn hrp hfp
    obtain ⟨⟨k0, k1, k2, k3⟩, -⟩ := X
    go_upto_region 5 with fail
    rw [← HW.out]
    by_cases hne : ps = []
    · have HES := Lib.hid (show flushTE ws ts D bs j = 8 by rw [HE.out, if_pos hne])
      have h8 : pe = 8 := by rw [← HPE.out, popE, if_pos hne]
      subst h8
      have HZ := Lib.hid (var4_set R (.slice none 0 0) (.slice none 0 0) (.int .i64 0) (.slice none 0 0))
      obtain ⟨⟨r0, r1, r2, r3⟩, f0, f1, f2, f3⟩ := R
      clear hne k0 k1 k2 k3 T1 T2 T p0 p1 HPE
      go_wp2
      refine bp_cell_tmp ⟨w.heap.size + 1, 0, none⟩ rfl rfl rfl (load_tso' _ _ _ _ _ _ HZ.out.1.1 HZ.out.1.2.1 HZ.out.1.2.2.1 HZ.out.1.2.2.2) ?_
      rw [HES.out]
      exact tsoPost_no (by decide) (below_set4 (g := w.heap.size + 1) HB3.out (by omega) _ _ _ _)
    · have h0 : pe = 0 := by rw [← HPE.out, popE, if_neg hne]
      subst h0
      have HXW := Lib.hid (HFP.out hne)
      by_cases hu : usableZ ws ts x = 0
      · have HES := Lib.hid (show flushTE ws ts D bs j = 0 by rw [HE.out, if_neg hne]; exact hu)
        have HU := Lib.hid hu
        clear hu hne R HPE
        go_wp2_with fail
        have hK0 : KeepOld W W.drew := fun _ _ _ h => h
        have hB0 : Below W.heap.size W W.drew := (Below.refl _ _).drew
        go_region_held3 (fun w' => (w'.cell? ⟨w.heap.size + 1 + 1, 0, none⟩ = some (.slice a n c) ∧ w'.cell? ⟨w.heap.size + 1 + 1, 1, none⟩ = some (.slice a' n' c') ∧ w'.cell? ⟨w.heap.size + 1 + 1, 2, none⟩ = some (.int .i64 D) ∧ w'.cell? ⟨w.heap.size + 1 + 1, 3, none⟩ = some (.slice (some ⟨b, o, none⟩) l d)) ∧ w'.cell? ⟨w2.heap.size, 0, none⟩ = some (.int .i64 x) ∧ w'.cell? ⟨w2.heap.size, 1, none⟩ = some (.int .i64 v))
          (first | exact ⟨⟨k0, k1, k2, k3⟩, p0, p1⟩ | (exact ⟨⟨keepOld_app (by assumption) k0, keepOld_app (by assumption) k1, keepOld_app (by assumption) k2, keepOld_app (by assumption) k3⟩, keepOld_app (by assumption) p0, keepOld_app (by assumption) p1⟩) | (exact ⟨⟨set4_keep (by assumption) (by omega) k0, set4_keep (by assumption) (by omega) k1, set4_keep (by assumption) (by omega) k2, set4_keep (by assumption) (by omega) k3⟩, set4_keep (by assumption) (by omega) p0, set4_keep (by assumption) (by omega) p1⟩))
          ((first | (go_at_call 58; refine (copiedT_any a a' (some ⟨b, o, none⟩) n c n' c' l d ws ts D bs _ (slB (by assumption) T1) (slB (by assumption) T2) (blB (by assumption) T) HM.out).mono ?_; rintro e wz ⟨p, m1, d1, p', m2, d2, g, l2, rfl, u1, u2, O, hbz⟩; have hKz := keepOld_B hK0 hbz; have hgz : W.heap.size ≤ g := O.2.1; have hzz : W.heap.size ≤ wz.heap.size := hbz.size; have hjl2 : j < l2 := own_lt O Hl hjl; have O2 := bown_mono (F := W.heap.size) (F' := w1.heap.size) (by omega) O; have pz := plQ_keep (fun _ _ _ _ h3 => keepOld_app hKz h3) (plQ_mono (Q' := fun z => w1.heap.size ≤ z ∧ z ≠ g) (fun z h => ⟨h.1, by omega⟩) HP0.out)) | (go_at_call 59; refine (hold_any w1.heap.size g l2 p p' m1 d1 m2 d2 D bs j r rn rc rp _ O2 hjl2 pz HRC.out).mono ?_; rintro e wh ⟨rfl, O3, K3, hbh⟩; have hKh := keepOld_but hKz K3 hgz; have v1 := slP_keep (fun b o u hq hu => K3 b o u hq.2 hu) u1; have v2 := slP_keep (fun b o u hq hu => K3 b o u hq.2 hu) u2; have hgh : wz.heap.size ≤ wh.heap.size := hbh.size) | (go_at_call 60; refine (storedT_ok p p' (some ⟨g, 0, none⟩) m1 d1 m2 d2 l2 l2 ws ts D x v _ v1.sl v2.sl HXW.out HU.out).mono ?_; rintro e wy ⟨p3, m3, d3, p4, m4, d4, rfl, u3, u4, hby⟩; have hKy := keepOld_B hKh hby; have R4 := var4_B hby (var4_low hbh (by omega) (var4_B hbz HRR.out)); obtain ⟨⟨r0, r1, r2, r3⟩, f0, f1, f2, f3⟩ := id R4)))
        have hFw : w.heap.size ≤ w1.heap.size := by omega
        have H4 := Lib.hid (var4_set R4 (.slice p3 m3 d3) (.slice p4 m4 d4) (.int .i64 D) (.slice (some ⟨g, 0, none⟩) l2 l2))
        have hBy : Below w.heap.size w wy := ((below_from HB3.out (below_from hB0 hbz)).trans (hbh.mono hFw)).trans (hby.mono (by have := HB3.out.size; omega))
        have HZ := Lib.hid (tsoPost_yes HES.out (tsoPost_mk (F := w1.heap.size) (g := w.heap.size + 1) (ws := flushTW ws bs j) (ts := ts) (D := D) (bs := flushTB bs j) (x := 0) (y0 := .slice p3 m3 d3) (y1 := .slice p4 m4 d4) (y2 := .int .i64 D) (y3 := .slice (some ⟨g, 0, none⟩) l2 l2) (d := d3) (d' := d4) (e := l2) hgw (by omega) (Q := fun b => wh.heap.size ≤ b) (fun b h => by omega) (by rw [HTW.out]; exact slP_slF (fun _ h => h) u3) (slP_slF (fun _ h => h) u4) (by rw [HTB.out]; exact blPB hby (bown_bl O3)) hBy))
        clear u1 u2 u3 u4 v1 v2 O O2 O3 K3 pz hbz hbh hby hKz hKh hKy hK0 hB0 p0 p1 k0 k1 k2 k3 T1 T2 T R4
        go_wp2
        refine bp_cell_tmp ⟨w.heap.size + 1, 0, none⟩ rfl rfl rfl (load_tso' _ _ _ _ _ _ H4.out.1.1 H4.out.1.2.1 H4.out.1.2.2.1 H4.out.1.2.2.2) ?_
        exact HZ.out
      · obtain ⟨ev, hev⟩ : ∃ z, usableZ ws ts x = z := ⟨_, rfl⟩
        have HUN := Lib.hid hu
        have HU := Lib.hid hev
        have HES := Lib.hid (show flushTE ws ts D bs j = ev by rw [HE.out, if_neg hne]; exact hev)
        have HEN := Lib.hid (show ev ≠ 0 by rw [← hev]; exact hu)
        clear hu hne R HPE hev
        go_wp2_with fail
        have hK0 : KeepOld W W.drew := fun _ _ _ h => h
        have hB0 : Below W.heap.size W W.drew := (Below.refl _ _).drew
        go_region_held3 (fun w' => (w'.cell? ⟨w.heap.size + 1 + 1, 0, none⟩ = some (.slice a n c) ∧ w'.cell? ⟨w.heap.size + 1 + 1, 1, none⟩ = some (.slice a' n' c') ∧ w'.cell? ⟨w.heap.size + 1 + 1, 2, none⟩ = some (.int .i64 D) ∧ w'.cell? ⟨w.heap.size + 1 + 1, 3, none⟩ = some (.slice (some ⟨b, o, none⟩) l d)) ∧ w'.cell? ⟨w2.heap.size, 0, none⟩ = some (.int .i64 x) ∧ w'.cell? ⟨w2.heap.size, 1, none⟩ = some (.int .i64 v))
          (first | exact ⟨⟨k0, k1, k2, k3⟩, p0, p1⟩ | (exact ⟨⟨keepOld_app (by assumption) k0, keepOld_app (by assumption) k1, keepOld_app (by assumption) k2, keepOld_app (by assumption) k3⟩, keepOld_app (by assumption) p0, keepOld_app (by assumption) p1⟩) | (exact ⟨⟨set4_keep (by assumption) (by omega) k0, set4_keep (by assumption) (by omega) k1, set4_keep (by assumption) (by omega) k2, set4_keep (by assumption) (by omega) k3⟩, set4_keep (by assumption) (by omega) p0, set4_keep (by assumption) (by omega) p1⟩))
          ((first | (go_at_call 58; refine (copiedT_any a a' (some ⟨b, o, none⟩) n c n' c' l d ws ts D bs _ (slB (by assumption) T1) (slB (by assumption) T2) (blB (by assumption) T) HM.out).mono ?_; rintro e wz ⟨p, m1, d1, p', m2, d2, g, l2, rfl, u1, u2, O, hbz⟩; have hKz := keepOld_B hK0 hbz; have hgz : W.heap.size ≤ g := O.2.1; have hzz : W.heap.size ≤ wz.heap.size := hbz.size; have hjl2 : j < l2 := own_lt O Hl hjl; have O2 := bown_mono (F := W.heap.size) (F' := w1.heap.size) (by omega) O; have pz := plQ_keep (fun _ _ _ _ h3 => keepOld_app hKz h3) (plQ_mono (Q' := fun z => w1.heap.size ≤ z ∧ z ≠ g) (fun z h => ⟨h.1, by omega⟩) HP0.out)) | (go_at_call 59; refine (hold_any w1.heap.size g l2 p p' m1 d1 m2 d2 D bs j r rn rc rp _ O2 hjl2 pz HRC.out).mono ?_; rintro e wh ⟨rfl, O3, K3, hbh⟩; have hKh := keepOld_but hKz K3 hgz; have v1 := slP_keep (fun b o u hq hu => K3 b o u hq.2 hu) u1; have v2 := slP_keep (fun b o u hq hu => K3 b o u hq.2 hu) u2; have hgh : wz.heap.size ≤ wh.heap.size := hbh.size) | (go_at_call 60; refine (storedT_no p p' (some ⟨g, 0, none⟩) m1 d1 m2 d2 l2 l2 ws ts D x v _ v1.sl v2.sl HXW.out HUN.out).mono ?_; rw [HU.out]; rintro e wy ⟨rfl, hby⟩; have hKy := keepOld_B hKh hby; have R4 := var4_B hby (var4_low hbh (by omega) (var4_B hbz HRR.out)); obtain ⟨⟨r0, r1, r2, r3⟩, f0, f1, f2, f3⟩ := id R4)))
        have hFw : w.heap.size ≤ w1.heap.size := by omega
        have H4 := Lib.hid (var4_set R4 (.slice none 0 0) (.slice none 0 0) (.int .i64 0) (.slice none 0 0))
        have HBy := Lib.hid (((below_from HB3.out (below_from hB0 hbz)).trans (hbh.mono hFw)).trans (hby.mono (by have := HB3.out.size; omega)))
        clear u1 u2 v1 v2 O O2 O3 K3 pz hbz hbh hby hKz hKh hKy hK0 hB0 p0 p1 k0 k1 k2 k3 T1 T2 T R4
        go_wp2
        refine bp_cell_tmp ⟨w.heap.size + 1, 0, none⟩ rfl rfl rfl (load_tso' _ _ _ _ _ _ H4.out.1.1 H4.out.1.2.1 H4.out.1.2.2.1 H4.out.1.2.2.2) ?_
        rw [HES.out]
        exact tsoPost_no HEN.out (below_set4 (g := w.heap.size + 1) HBy.out (by omega) _ _ _ _)
end Go.Proofs.YtiebaeaomgpicaaGreat
/- Contracts of package tso: operations, and what each makes of a word. -/
namespace Go.Proofs.YtiebaeaomgpicaaGreat
open Go.ChangeShapes Go.WideShapes Go.ChangeAt Go.RowKit

theorem store_func (a : Addr) (fn : Fn) (xs ys : Array Value) (m : Mode) (P : Program) (w : World) : (store a (.func fn xs ys) m).run P w = stored P w a (.func fn xs ys) m := run_store P w a _ m rfl
attribute [local go_sem] store_func
theorem load_ops (w : World) (b : Nat) (x y z : Value) (k0 : w.cell? ⟨b, 0, none⟩ = some x) (k1 : w.cell? ⟨b, 1, none⟩ = some y) (k2 : w.cell? ⟨b, 2, none⟩ = some z) : (loadVar 117 ⟨b, 0, none⟩).run Tryz.prog w = .ok (.agg #[x, y, z]) w := by
  simp [go_sem, k0, k1, k2]
set_option maxHeartbeats 2000000 in
theorem ops_any (w : World) : Calls Tryz.prog 65 #[] w fun e w' => e = .returned (.agg #[.func (.func 94) #[] #[], .func (.func 95) #[] #[], .func (.func 96) #[] #[]]) ∧ Below w.heap.size w w' := by
  go_enter Tryz.func65, Tryz.ntmps65
  go_wp2
  refine bp_cell ⟨w.heap.size, 0, none⟩ rfl rfl rfl (load_ops _ _ _ _ _ (by simp; rfl) (by simp; rfl) (by simp; rfl)) ?_
  exact ⟨rfl, by go_grown⟩

def FunPost (v : Int) (w : World) (e : Ending) (w' : World) : Prop := e = .returned (.int .i64 v) ∧ Below w.heap.size w w'
theorem funPost_mk {v z : Int} {w w' : World} (h : v = z) (hb : Below w.heap.size w w') : FunPost v w (.returned (.int .i64 z)) w' := by subst h; exact ⟨rfl, hb⟩
theorem opCas_any (word a b : Int) (w : World) : Calls Tryz.prog 94 #[.int .i64 word, .int .i64 a, .int .i64 b] w (FunPost (lockV 0 word a b) w) := by
  by_cases h : word = a
  · have HV := Lib.hid (show lockV 0 word a b = b by rw [lockV, if_pos rfl, if_pos h])
    have q : (word == a) = true := by simpa using h
    clear h
    go_enter Tryz.func94, Tryz.ntmps94
    go_wp2
    go_ret
    exact funPost_mk HV.out (Below.refl _ _)
  · have HV := Lib.hid (show lockV 0 word a b = word by rw [lockV, if_pos rfl, if_neg h])
    have q : (word == a) = false := by simpa using h
    clear h
    go_enter Tryz.func94, Tryz.ntmps94
    go_wp2
    go_ret
    exact funPost_mk HV.out (Below.refl _ _)
theorem opXchg_any (word a b : Int) (w : World) : Calls Tryz.prog 95 #[.int .i64 word, .int .i64 a, .int .i64 b] w (FunPost (lockV 1 word a b) w) := by
  have HV := Lib.hid (show lockV 1 word a b = a by rw [lockV, if_neg (by decide), if_pos rfl])
  go_enter Tryz.func95, Tryz.ntmps95
  go_wp2
  go_ret
  exact funPost_mk HV.out (Below.refl _ _)
theorem opAdd_any (word a b : Int) (w : World) : Calls Tryz.prog 96 #[.int .i64 word, .int .i64 a, .int .i64 b] w (FunPost (lockV 2 word a b) w) := by
  have HV := Lib.hid (show lockV 2 word a b = IntKind.i64.wrap (word + a) by rw [lockV, if_neg (by decide), if_neg (by decide)])
  go_enter Tryz.func96, Tryz.ntmps96
  go_wp2
  go_ret
  exact funPost_mk (HV.out.trans (IntWalk.i64_left _)) (Below.refl _ _)
end Go.Proofs.YtiebaeaomgpicaaGreat
