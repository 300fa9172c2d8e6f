/- The contract of buffer.Fold. -/
import Derived.Test.YtocblckhlpihhaaBufB
import Derived.Deep.RegionHeld3
import Derived.Deep.DeepCutAuto
namespace Go.Proofs.Ytocblckhlpihhaa
open Go.ChangeShapes Go.WideShapes Go.ChangeAt Go.RowKit

/-- a memory, a number and an error -/
def FoldPost (ws ts : List Int) (k x : Int) (w : World) (e : Ending) (w' : World) : Prop :=
  ∃ a n c a' n' c', e = .returned (.tuple #[.agg #[.slice a n c, .slice a' n' c'], .int .i64 k, .int .i64 x]) ∧ SlF w.heap.size w' a n ws ∧ SlF w.heap.size w' a' n' ts ∧ Below w.heap.size w w'
theorem foldPost_nil {ws ts : List Int} {k x : Int} (hw : ws = []) (ht : ts = []) {w w' : World} (hb : Below w.heap.size w w') : FoldPost ws ts k x w (.returned (.tuple #[.agg #[.slice none 0 0, .slice none 0 0], .int .i64 k, .int .i64 x])) w' := by
  subst hw; subst ht; exact ⟨_, _, _, _, _, _, rfl, slF_nil _ _, slF_nil _ _, hb⟩
/-- the memory at work: a variable at block g, its rows not in g, and from F on -/
def MemAt (F g : Nat) (ws ts : List Int) (w : World) : Prop :=
  ∃ p l d p' l' d', w.cell? ⟨g, 0, none⟩ = some (.slice p l d) ∧ w.cell? ⟨g, 1, none⟩ = some (.slice p' l' d') ∧ w.frozen? ⟨g, 0, none⟩ = false ∧ w.frozen? ⟨g, 1, none⟩ = false ∧ SlP (fun b => F ≤ b ∧ b ≠ g) w p l ws ∧ SlP (fun b => F ≤ b ∧ b ≠ g) w p' l' ts
def FoldCut (w w1 : World) (ws ts : List Int) (s7 : Value) (wx : World) : Prop := ∃ g, s7 = .pointer (some ⟨g, 0, none⟩) ∧ w.heap.size + 1 < g ∧ MemAt (w.heap.size + 2) g ws ts wx ∧ Below w1.heap.size w1 wx

theorem slF_P {Q : Nat → Prop} {F : Nat} {w : World} {a : Option Addr} {n : Nat} {zs : List Int} (hQ : ∀ b, Q b → F ≤ b) (h : SlP Q w a n zs) : SlF F w a n zs := ⟨h.1, h.2.imp id fun ⟨b, o, e, hq, r⟩ => ⟨b, o, e, hQ b hq, r⟩⟩
theorem set2_0 {w : World} {g : Nat} (x y : Value) (h : (w.cell? ⟨g, 0, none⟩).isSome = true) : ((w.setCell ⟨g, 0, none⟩ x).setCell ⟨g, 1, none⟩ y).cell? ⟨g, 0, none⟩ = some x := by
  rw [World.cell?_setCell_other]
  · exact World.cell?_setCell_same' _ _ _ h
  · intro h; simp at h
theorem set2_1 {w : World} {g : Nat} (x y : Value) (h : (w.cell? ⟨g, 1, none⟩).isSome = true) : ((w.setCell ⟨g, 0, none⟩ x).setCell ⟨g, 1, none⟩ y).cell? ⟨g, 1, none⟩ = some y := by
  refine World.cell?_setCell_same' _ _ _ ?_
  rw [World.cell?_setCell_other]
  · exact h
  · intro h; simp at h
/-- a row that was there ahead of block g's making, from F on -/
theorem slP_at {F B g : Nat} {w : World} {a : Option Addr} {n : Nat} {zs : List Int} (h : SlF B w a n zs) (hf : F ≤ B) (hg : w.heap.size ≤ g ∨ g < B) : SlP (fun b => F ≤ b ∧ b ≠ g) w a n zs := by
  refine ⟨h.1, ?_⟩
  by_cases h0 : n = 0
  · exact .inl h0
  · obtain ⟨b, o, e, hb, r⟩ := h.2.resolve_left h0
    have := cell_lt (r 0 (by have := h.1; omega))
    dsimp only at this
    exact .inr ⟨b, o, e, ⟨by omega, by omega⟩, r⟩

theorem foldCut_new {w w1 wy : World} {ws ts : List Int} {p p' : Option Addr} {n n' d d' : Nat} (hs1 : w.heap.size + 2 ≤ w1.heap.size) (hb : Below w1.heap.size w1 wy)
    (P1 : SlP (fun b => w.heap.size + 2 ≤ b ∧ b ≠ wy.heap.size) wy p n ws) (P2 : SlP (fun b => w.heap.size + 2 ≤ b ∧ b ≠ wy.heap.size) wy p' n' ts) :
    FoldCut w w1 ws ts (.pointer (some ⟨wy.heap.size, 0, none⟩)) (wy.alloc (.cells #[.slice p n d, .slice p' n' d'] 40)) := by
  have := hb.size
  exact ⟨_, rfl, by omega, ⟨p, n, d, p', n', d', cell_new _ _ _ rfl rfl, cell_new _ _ _ rfl rfl, frozen_new _ _ rfl, frozen_new _ _ rfl, slPA _ P1, slPA _ P2⟩, hb.alloc hb.size _⟩
theorem foldCut_set {w w1 wy : World} {ws ts : List Int} {p p' : Option Addr} {n n' d d' g : Nat} {x y : Value} (hs1 : w.heap.size + 2 ≤ w1.heap.size) (hg : w1.heap.size ≤ g) (hb : Below w1.heap.size w1 wy)
    (Y0 : wy.cell? ⟨g, 0, none⟩ = some x) (Y1 : wy.cell? ⟨g, 1, none⟩ = some y) (Y2 : wy.frozen? ⟨g, 0, none⟩ = false) (Y3 : wy.frozen? ⟨g, 1, none⟩ = false)
    (P1 : SlP (fun b => w.heap.size + 2 ≤ b ∧ b ≠ g) wy p n ws) (P2 : SlP (fun b => w.heap.size + 2 ≤ b ∧ b ≠ g) wy p' n' ts) :
    FoldCut w w1 ws ts (.pointer (some ⟨g, 0, none⟩)) ((wy.setCell ⟨g, 0, none⟩ (.slice p n d)).setCell ⟨g, 1, none⟩ (.slice p' n' d')) :=
  ⟨g, rfl, by omega, ⟨p, n, d, p', n', d', set2_0 _ _ (by rw [Y0]; rfl), set2_1 _ _ (by rw [Y1]; rfl), by rw [World.frozen?_setCell, World.frozen?_setCell]; exact Y2, by rw [World.frozen?_setCell, World.frozen?_setCell]; exact Y3,
    slP_set ⟨g, 1, none⟩ (fun b hb => hb.2) _ (slP_set ⟨g, 0, none⟩ (fun b hb => hb.2) _ P1), slP_set ⟨g, 1, none⟩ (fun b hb => hb.2) _ (slP_set ⟨g, 0, none⟩ (fun b hb => hb.2) _ P2)⟩, (hb.setCell hg _).setCell hg _⟩
theorem frozenB {w w' : World} {a : Addr} {v : Value} (hb : Below w.heap.size w w') (h : w.cell? a = some v) (f : w.frozen? a = false) : w'.frozen? a = false := (hb.frozen (cell_lt h)).trans f

set_option maxRecDepth 100000 in
set_option maxHeartbeats 4000000 in
theorem Fold_good (b1 o1 b2 o2 m c1 c2 : Nat) (q : Option Addr) (n c : Nat) (ws ts : List Int) (ps : List (Int × Int)) (w : World) (hw : ws.length = m) (ht : ts.length = m) (R1 : Row w b1 o1 ws) (R2 : Row w b2 o2 ts) (hm : mayB ws ts = true) (S : Pl w q n ps) (hf : Wfs ps) (hn : n ≤ 9223372036854775807) :
    Calls Try.prog 18 #[.agg #[.slice (some ⟨b1, o1, none⟩) m c1, .slice (some ⟨b2, o2, none⟩) m c2], .slice q n c] w (FoldPost (foldMW ws ts ps) (foldMT ws ts ps) (foldN ws ts ps) (foldE ws ts ps) w) := by
  obtain ⟨z0, z1, z2⟩ := mayB_size hm
  have hm0 : 1 ≤ m := by omega
  have hm1 : m ≤ 160 := by omega
  have Hw := Lib.hid hw
  have Ht := Lib.hid ht
  have Hm := Lib.hid hm
  have Hn := Lib.hid S.1
  have Hf := Lib.hid hf
  have HR1 := Lib.hid R1
  have HR2 := Lib.hid R2
  clear z0 z1 z2 hw ht hm hf R1 R2
  go_enter Try.func18, Try.ntmps18
  go_wp2_with fail
  refine (Right_any (some ⟨b1, o1, none⟩) (some ⟨b2, o2, none⟩) m c1 m c2 ws ts _ (slA _ (slA _ ⟨Hw.out, .inr ⟨b1, o1, rfl, HR1.out⟩⟩)) (slA _ (slA _ ⟨Ht.out, .inr ⟨b2, o2, rfl, HR2.out⟩⟩))).mono ?_
  rintro e w1 ⟨rfl, hb⟩
  rw [Hm.out]
  have hb1 : Below w.heap.size w w1 := below_from (by go_grown) hb
  have k0 : w1.cell? ⟨w.heap.size, 0, none⟩ = some (.slice (some ⟨b1, o1, none⟩) m c1) := cellB hb (cellA _ (by simp))
  have k1 : w1.cell? ⟨w.heap.size, 1, none⟩ = some (.slice (some ⟨b2, o2, none⟩) m c2) := cellB hb (cellA _ (by simp))
  have r0 : w1.cell? ⟨w.heap.size + 1, 0, none⟩ = some (.slice none 0 0) := cellB hb (by simp)
  have r1 : w1.cell? ⟨w.heap.size + 1, 1, none⟩ = some (.slice none 0 0) := cellB hb (by simp)
  have f0 : w1.frozen? ⟨w.heap.size + 1, 0, none⟩ = false := by rw [hb.frozen (p := ⟨w.heap.size + 1, 0, none⟩) (by simp)]; exact free_row (heap_new _ _ _ (by simp))
  have f1 : w1.frozen? ⟨w.heap.size + 1, 1, none⟩ = false := by rw [hb.frozen (p := ⟨w.heap.size + 1, 1, none⟩) (by simp)]; exact free_row (heap_new _ _ _ (by simp))
  have hs1 : w.heap.size + 1 < w1.heap.size := cell_lt r0
  have T1 := rowB hb1 HR1.out
  have T2 := rowB hb1 HR2.out
  have HB1 := Lib.hid hb1
  clear hb hb1 HR1 HR2
  go_upto_region 3 with fail
  go_cut [7] (fun s7 wx => FoldCut w w1 ws ts s7 wx)
  case first =>
    have hB0 : Below w1.heap.size w1 w1.drew := (Below.refl _ _).drew
    have hs2 : w.heap.size + 2 ≤ w1.heap.size := by omega
    have hB0' : Below w1.heap.size w1 (w1.alloc (Obj.cells #[.slice none 0 0, .slice none 0 0] 40)).drew := ((Below.refl _ _).alloc (Nat.le_refl _) _).drew
    have z0 : (w1.alloc (Obj.cells #[.slice none 0 0, .slice none 0 0] 40)).drew.cell? ⟨w1.heap.size, 0, none⟩ = some (.slice none 0 0) := cell_new (w := w1) _ _ _ rfl rfl
    have z1 : (w1.alloc (Obj.cells #[.slice none 0 0, .slice none 0 0] 40)).drew.cell? ⟨w1.heap.size, 1, none⟩ = some (.slice none 0 0) := cell_new (w := w1) _ _ _ rfl rfl
    have z2 : (w1.alloc (Obj.cells #[.slice none 0 0, .slice none 0 0] 40)).drew.frozen? ⟨w1.heap.size, 0, none⟩ = false := frozen_new (w := w1) _ _ rfl
    have z3 : (w1.alloc (Obj.cells #[.slice none 0 0, .slice none 0 0] 40)).drew.frozen? ⟨w1.heap.size, 1, none⟩ = false := frozen_new (w := w1) _ _ rfl
    have k0' : (w1.alloc (Obj.cells #[.slice none 0 0, .slice none 0 0] 40)).cell? ⟨w.heap.size, 0, none⟩ = some (.slice (some ⟨b1, o1, none⟩) m c1) := cellA _ k0
    have k1' : (w1.alloc (Obj.cells #[.slice none 0 0, .slice none 0 0] 40)).cell? ⟨w.heap.size, 1, none⟩ = some (.slice (some ⟨b2, o2, none⟩) m c2) := cellA _ k1
    go_region_with (first | (go_at_call 27; refine (cloneI_any (some ⟨b1, o1, none⟩) m c1 ws _ ⟨Hw.out, .inr ⟨b1, o1, rfl, rowB (by first | assumption | exact Below.alloc (by assumption) (Below.size (by assumption)) _) T1⟩⟩ (by omega) (.inl (by omega))).mono ?_; rintro e wx ⟨p, d, rfl, u1, hbx⟩; have hbx' := below_from (by first | assumption | exact Below.alloc (by assumption) (Below.size (by assumption)) _) hbx; have K0 := cellB hbx' k0; have K1 := cellB hbx' k1; have K0' := cellA (Obj.cells #[.slice none 0 0, .slice none 0 0] 40) K0; have K1' := cellA (Obj.cells #[.slice none 0 0, .slice none 0 0] 40) K1; (try (have Z0 := cellB hbx z0; have Z1 := cellB hbx z1; have Z2 := frozenB hbx z0 z2; have Z3 := frozenB hbx z1 z3)); have Zx0 : (wx.alloc (Obj.cells #[.slice none 0 0, .slice none 0 0] 40)).cell? ⟨wx.heap.size, 0, none⟩ = some (.slice none 0 0) := cell_new _ _ _ rfl rfl; have Zx1 : (wx.alloc (Obj.cells #[.slice none 0 0, .slice none 0 0] 40)).cell? ⟨wx.heap.size, 1, none⟩ = some (.slice none 0 0) := cell_new _ _ _ rfl rfl; have Zx2 : (wx.alloc (Obj.cells #[.slice none 0 0, .slice none 0 0] 40)).frozen? ⟨wx.heap.size, 0, none⟩ = false := frozen_new _ _ rfl; have Zx3 : (wx.alloc (Obj.cells #[.slice none 0 0, .slice none 0 0] 40)).frozen? ⟨wx.heap.size, 1, none⟩ = false := frozen_new _ _ rfl; have HBX := Lib.hid hbx; clear hbx) | (go_at_call 27; refine (cloneI_any (some ⟨b2, o2, none⟩) m c2 ts _ ⟨Ht.out, .inr ⟨b2, o2, rfl, rowB (by first | assumption | exact Below.alloc (by assumption) (Below.size (by assumption)) _) T2⟩⟩ (by omega) (.inl (by omega))).mono ?_; rintro e wy ⟨p', d', rfl, u2, hby⟩; have hby' := below_from (by first | assumption | exact Below.alloc (by assumption) (Below.size (by assumption)) _) hby; (first | (have Y0 := cellB hby Z0; have Y1 := cellB hby Z1; have Y2 := frozenB hby Z0 Z2; have Y3 := frozenB hby Z1 Z3) | (have Y0 := cellB hby Zx0; have Y1 := cellB hby Zx1; have Y2 := frozenB hby Zx0 Zx2; have Y3 := frozenB hby Zx1 Zx3) | skip); have HBY := Lib.hid hby; clear hby))
    all_goals
      go_wp2_with fail
      go_meet
      first
        | exact foldCut_new hs2 (below_from hbx' HBY.out) (slP_at (slF_below HBY.out u1) hs2 (.inl (Nat.le_refl _))) (slP_at u2 (Nat.le_trans hs2 hbx'.size) (.inl (Nat.le_refl _)))
        | exact foldCut_set (g := wx.heap.size) hs2 hbx'.size (below_from hbx' (below_from ((Below.refl _ _).alloc (Nat.le_refl _) _) HBY.out)) Y0 Y1 Y2 Y3 (slPB (below_from ((Below.refl _ _).alloc (Nat.le_refl _) _) HBY.out) (slP_at u1 hs2 (.inl (Nat.le_refl _)))) (slP_at u2 (Nat.le_trans hs2 (Nat.le_trans hbx'.size (by simp))) (.inr (by simp)))
        | exact foldCut_set (g := w1.heap.size) hs2 (Nat.le_refl _) (below_from hbx' HBY.out) Y0 Y1 Y2 Y3 (slPB HBY.out (slP_at u1 (Nat.le_trans hs2 (by simp)) (.inr (by simp)))) (slP_at u2 (Nat.le_trans hs2 hbx'.size) (.inr (by have := HBX.out.size; simp at this; omega)))
  case rest =>
    obtain ⟨g, rfl, hg, M0, hbx⟩ := hcut
    have r0' := cellB hbx r0
    have r1' := cellB hbx r1
    have f0' := frozenB hbx r0 f0
    have f1' := frozenB hbx r1 f1
    have HBX := Lib.hid (below_from HB1.out hbx)
    have hsx : w.heap.size + 1 < wc.heap.size := cell_lt r0'
    clear hbx r0 r1 f0 f1 k0 k1 T1 T2 HB1 hs1
    go_wp2_with fail
    go_loopw [25] (fun i wr => ∃ k : Nat, k ≤ n ∧ i = .int .i64 k ∧ Hid (okTo ws ts ps k) ∧ MemAt (w.heap.size + 2) g (foldW ws (ps.take k)) ts wr ∧ wr.cell? ⟨w.heap.size + 1, 0, none⟩ = some (.slice none 0 0) ∧ wr.cell? ⟨w.heap.size + 1, 1, none⟩ = some (.slice none 0 0) ∧ wr.frozen? ⟨w.heap.size + 1, 0, none⟩ = false ∧ wr.frozen? ⟨w.heap.size + 1, 1, none⟩ = false ∧ Below w.heap.size w wr) (fun i _ => n - (intOf i).toNat)
    case atStart => exact ⟨0, by omega, rfl, by intro j hj; omega, by simpa [foldW] using M0, r0', r1', f0', f1', HBX.out⟩
    case round =>
      obtain ⟨k, hk, rfl, hok, ⟨p, l, d, p', l', d', c0, c1, e0, e1, R1, R2⟩, r0, r1, f0, f1, hb⟩ := hrel
      clear M0 r0' r1' f0' f1' HBX
      have hsr := cell_lt c0
      by_cases hlt : k < n
      · obtain ⟨b, o, rfl, R⟩ := S.2.resolve_left (by omega)
        have x0 := cellB hb (R k (by rw [Hn.out]; exact hlt)).1
        have x1 := cellB hb (R k (by rw [Hn.out]; exact hlt)).2
        have hwf := Hf.out k (by rw [Hn.out]; exact hlt)
        have hkl : k < ps.length := by rw [Hn.out]; exact hlt
        have HST := Lib.hid (fold_store (ws := ws) (ts := ts) hkl hok.out)
        have HBD := Lib.hid (fold_bad (ws := ws) (ts := ts) (ps := ps) (k := k) (e := usableZ ws ts (ps.getD k (0, 0)).1) Hm.out hok.out hkl rfl)
        have HSU := Lib.hid (okTo_succ (ws := ws) (ts := ts) (ps := ps) hok.out)
        have HUS := Lib.hid ((fold_usable (ws := ws) (ts := ts) (ps := ps) (k := k) (by omega) hok.out).2.2 (ps.getD k (0, 0)).1)
        obtain ⟨pk, hpk⟩ : ∃ z, ps.getD k (0, 0) = z := ⟨_, rfl⟩
        rw [hpk] at x0 x1 hwf HST HBD HSU HUS
        obtain ⟨y, v⟩ := pk
        dsimp only at x0 x1 hwf HST HBD HSU HUS
        have HWF := Lib.hid hwf
        have i0 : (0 : Int) ≤ k := by omega
        have i1 : (k : Int) < n := by omega
        have hs0 := cell_lt r0
        dsimp only at hsr hs0
        have HB := Lib.hid hb
        have X0 := cellA (Obj.cells #[.int .i64 y, .int .i64 v] 24) c0
        have X1 := cellA (Obj.cells #[.int .i64 y, .int .i64 v] 24) c1
        clear hpk hwf hb hkl R
        go_wp2_with fail
        refine (Store_any p p' l d l' d' _ ts y v _ (slA _ R1.sl) (slA _ R2.sl) HWF.out).mono ?_
        rintro e w2 ⟨t, m1, u, t', m2, u', rfl, s1, s2, hb2⟩
        rw [HUS.out]
        have HB2 := Lib.hid (below_from (HB.out.alloc HB.out.size _) hb2)
        have hs2 := hb2.size
        rw [World.size_alloc] at s1 s2 hs2
        have G0 := cellA (Obj.cells #[.slice t m1 u, .slice t' m2 u'] 40) (cellB hb2 X0)
        have G1 := cellA (Obj.cells #[.slice t m1 u, .slice t' m2 u'] 40) (cellB hb2 X1)
        have E0 := (frozen_old (k := 0) (Obj.cells #[.slice t m1 u, .slice t' m2 u'] 40) (show g < w2.heap.size by omega)).trans (frozenB hb2 X0 ((frozen_old (k := 0) (Obj.cells #[.int .i64 y, .int .i64 v] 24) hsr).trans e0))
        have E1 := (frozen_old (k := 1) (Obj.cells #[.slice t m1 u, .slice t' m2 u'] 40) (show g < w2.heap.size by omega)).trans (frozenB hb2 X1 ((frozen_old (k := 1) (Obj.cells #[.int .i64 y, .int .i64 v] 24) hsr).trans e1))
        have J0 := cellA (Obj.cells #[.slice t m1 u, .slice t' m2 u'] 40) (cellB hb2 (cellA (Obj.cells #[.int .i64 y, .int .i64 v] 24) r0))
        have J1 := cellA (Obj.cells #[.slice t m1 u, .slice t' m2 u'] 40) (cellB hb2 (cellA (Obj.cells #[.int .i64 y, .int .i64 v] 24) r1))
        have F0 := (frozen_old (k := 0) (Obj.cells #[.slice t m1 u, .slice t' m2 u'] 40) (show w.heap.size + 1 < w2.heap.size by omega)).trans (frozenB hb2 (cellA (Obj.cells #[.int .i64 y, .int .i64 v] 24) r0) ((frozen_old (k := 0) (Obj.cells #[.int .i64 y, .int .i64 v] 24) hs0).trans f0))
        have F1 := (frozen_old (k := 1) (Obj.cells #[.slice t m1 u, .slice t' m2 u'] 40) (show w.heap.size + 1 < w2.heap.size by omega)).trans (frozenB hb2 (cellA (Obj.cells #[.int .i64 y, .int .i64 v] 24) r1) ((frozen_old (k := 1) (Obj.cells #[.int .i64 y, .int .i64 v] 24) hs0).trans f1))
        clear hb2 X0 X1 c0 c1 e0 e1 r0 r1 f0 f1 R1 R2
        by_cases he : usableZ ws ts y = 0
        · have H1 := HST.out he
          rw [he]
          rw [H1.1] at s1
          rw [H1.2.1] at s2
          have HSU' := Lib.hid (HSU.out he)
          have HS1 := Lib.hid s1
          have HS2 := Lib.hid s2
          clear he s1 s2 H1
          go_wp2_with fail
          go_roundw
          case rel =>
            refine ⟨k + 1, by omega, by go_num, HSU'.out, ⟨t, m1, u, t', m2, u', set2_0 _ _ (by rw [G0]; rfl), set2_1 _ _ (by rw [G1]; rfl), by rw [World.frozen?_setCell, World.frozen?_setCell]; exact E0, by rw [World.frozen?_setCell, World.frozen?_setCell]; exact E1, ?_, ?_⟩, ?_, ?_, by rw [World.frozen?_setCell, World.frozen?_setCell]; exact F0, by rw [World.frozen?_setCell, World.frozen?_setCell]; exact F1, ?_⟩
            · exact slP_set _ (fun b hb => hb.2) _ (slP_set _ (fun b hb => hb.2) _ (slPA _ (slP_slF (fun b hb => ⟨by omega, by omega⟩) HS1.out)))
            · exact slP_set _ (fun b hb => hb.2) _ (slP_set _ (fun b hb => hb.2) _ (slPA _ (slP_slF (fun b hb => ⟨by omega, by omega⟩) HS2.out)))
            · rw [World.cell?_setCell_other, World.cell?_setCell_other]
              · exact J0
              · intro h; simp at h <;> omega
              · intro h; simp at h <;> omega
            · rw [World.cell?_setCell_other, World.cell?_setCell_other]
              · exact J1
              · intro h; simp at h <;> omega
              · intro h; simp at h <;> omega
            · exact ((HB2.out.alloc HB2.out.size _).setCell (by dsimp only; omega) _).setCell (by dsimp only; omega) _
          case measure => simp [intOf]; omega
        · have H1 := Lib.hid (HBD.out he)
          obtain ⟨ev, hev⟩ : ∃ z, usableZ ws ts y = z := ⟨_, rfl⟩
          have q1 : (ev != 0) = true := by rw [← hev]; simpa using he
          have H2 := Lib.hid (show foldE ws ts ps = ev by rw [H1.out.1, hev])
          have H3 := Lib.hid H1.out.2.1
          have H4 := Lib.hid H1.out.2.2.1
          have H5 := Lib.hid H1.out.2.2.2
          rw [hev]
          clear he hev s1 s2 H1
          go_wp2
          refine bp_cell_tmp2 ⟨w.heap.size + 1, 0, none⟩ rfl rfl rfl (load_mem _ _ _ _ (set2_0 _ _ (by rw [J0]; rfl)) (set2_1 _ _ (by rw [J1]; rfl))) ?_
          rw [H2.out, H3.out]
          exact foldPost_nil H4.out H5.out (((HB2.out.alloc HB2.out.size _).setCell (by simp) _).setCell (by simp) _)
      · obtain rfl : k = n := by omega
        have HF := Lib.hid (fold_all Hm.out (show okTo ws ts ps ps.length by rw [Hn.out]; exact hok.out))
        have HT := Lib.hid (show ps.take k = ps from List.take_of_length_le (by rw [Hn.out]; omega))
        rw [HT.out] at R1
        have hs0 := cell_lt r0
        have HB := Lib.hid hb
        have HR1 := Lib.hid R1
        have HR2 := Lib.hid R2
        have hq1 : ∀ b, (w.heap.size + 2 ≤ b ∧ b ≠ g) → b ≠ w.heap.size + 1 := fun b hb => by omega
        have hq2 : ∀ b, (w.heap.size + 2 ≤ b ∧ b ≠ g) → w.heap.size ≤ b := fun b hb => by omega
        have HQ := Lib.hid (And.intro hq1 hq2)
        clear hb R1 R2 hq1 hq2
        go_wp2
        refine bp_cell_tmp2 ⟨w.heap.size + 1, 0, none⟩ rfl rfl rfl (load_mem _ _ _ _ (by go_cell_look) (by go_cell_look)) ?_
        rw [HF.out.1, HF.out.2.1, HF.out.2.2.1, HF.out.2.2.2]
        exact ⟨p, l, d, p', l', d', rfl, slF_P HQ.out.2 (slP_set ⟨w.heap.size + 1, 1, none⟩ HQ.out.1 _ (slP_set ⟨w.heap.size + 1, 0, none⟩ HQ.out.1 _ HR1.out)), slF_P HQ.out.2 (slP_set ⟨w.heap.size + 1, 1, none⟩ HQ.out.1 _ (slP_set ⟨w.heap.size + 1, 0, none⟩ HQ.out.1 _ HR2.out)), (HB.out.setCell (by simp) _).setCell (by simp) _⟩
end Go.Proofs.Ytocblckhlpihhaa
