/- Contracts of package tso: holding, stored. -/
import Derived.Test.YteojpdhmhjoeiaaTsoC
namespace Go.Proofs.Yteojpdhmhjoeiaa
open Go.ChangeShapes Go.WideShapes Go.ChangeAt Go.RowKit

def HoldPost (F g m : Nat) (v : Value) (bs : List (List (Int × Int))) (w : World) (e : Ending) (w' : World) : Prop :=
  e = .returned v ∧ BOwn F g m m bs w' ∧ (∀ (b o : Nat) (u : Value), b ≠ g → w.cell? ⟨b, o, none⟩ = some u → w'.cell? ⟨b, o, none⟩ = some u) ∧ Below F w w'
theorem bown_A {F g k l : Nat} {bs : List (List (Int × Int))} {w : World} (o : Obj) (h : BOwn F g k l bs w) : BOwn F g k l bs (w.alloc o) := bown_B ((Below.refl _ _).alloc (Nat.le_refl _) _) h

theorem bown_upd {F g m th : Nat} {bs : List (List (Int × Int))} {w Z : World} {p : Option Addr} {k kc : Nat} {b : List (Int × Int)} (O : BOwn F g m m bs w) (hth : th < m) (hp : PlQ (fun x => F ≤ x ∧ x ≠ g) w p k b) (hc : CapOk p k kc) (hz : g < Z.heap.size)
    (K1 : ∀ (b o : Nat) (u : Value), b ≠ g → w.cell? ⟨b, o, none⟩ = some u → Z.cell? ⟨b, o, none⟩ = some u) (K2 : ∀ i, i ≠ th → ∀ u, w.cell? ⟨g, i, none⟩ = some u → Z.cell? ⟨g, i, none⟩ = some u) (K3 : Z.cell? ⟨g, th, none⟩ = some (.slice p k kc)) (K4 : ∀ i, i < m → Z.frozen? ⟨g, i, none⟩ = false) :
    BOwn F g m m (bs.set th b) Z := by
  obtain ⟨h1, h2, h3, h4, h5, h6⟩ := O
  refine ⟨by rw [List.length_set]; exact h1, h2, hz, fun i hi => ?_, fun i hk hi => by omega, K4⟩
  have hkp : ∀ (x o : Nat) (v : Value), (F ≤ x ∧ x ≠ g) → w.cell? ⟨x, o, none⟩ = some v → Z.cell? ⟨x, o, none⟩ = some v := fun x o v hq hv => K1 x o v hq.2 hv
  by_cases e : i = th
  · subst e
    obtain rfl : b.length = k := hp.1
    have e2 : (bs.set i b).getD i [] = b := by simp [List.getD_eq_getElem?_getD, h1, hth]
    rw [e2]
    exact ⟨p, kc, K3, hc, plQ_keep hkp hp⟩
  · have e2 : (bs.set th b).getD i [] = bs.getD i [] := by simp only [List.getD_eq_getElem?_getD]; rw [List.getElem?_set_ne (fun h => e h.symm)]
    rw [e2]
    exact bcellQ_keep (K2 i e) hkp (h4 i hi)

set_option maxHeartbeats 4000000 in
theorem hold_any (F g m : Nat) (a a' : Option Addr) (n c n' c' : Nat) (D : Int) (bs : List (List (Int × Int))) (th : Nat) (p : Option Addr) (k kc : Nat) (b : List (Int × Int)) (w : World) (O : BOwn F g m m bs w) (hth : th < m) (hp : PlQ (fun x => F ≤ x ∧ x ≠ g) w p k b) (hc : CapOk p k kc) :
    Calls Try.prog 57 #[.agg #[.slice a n c, .slice a' n' c', .int .i64 D, .slice (some ⟨g, 0, none⟩) m m], .int .i64 th, .slice p k kc] w (HoldPost F g m (.agg #[.slice a n c, .slice a' n' c', .int .i64 D, .slice (some ⟨g, 0, none⟩) m m]) (bs.set th b) w) := by
  have i1 : (0 : Int) ≤ th := by omega
  have i2 : (th : Int) < m := by omega
  obtain ⟨W, hW⟩ : ∃ W, W = (w.alloc (Obj.cells #[.slice a n c, .slice a' n' c', .int .i64 D, .slice (some ⟨g, 0, none⟩) m m] 56)).alloc (Obj.cells #[.slice none 0 0, .slice none 0 0, .int .i64 0, .slice none 0 0] 56) := ⟨_, rfl⟩
  have hgw : g < w.heap.size := O.2.2.1
  have hFg : F ≤ g := O.2.1
  have b0 : Below w.heap.size w W := by rw [hW]; go_grown
  have O1 := bown_B b0 O
  have c0 := bown_cell O1 hth
  have c1 := O1.2.2.2.2.2 th hth
  obtain ⟨X, hX⟩ : ∃ X, X = W.setCell ⟨g, th, none⟩ (.slice p k kc) := ⟨_, rfl⟩
  have ne : ∀ {b o : Nat}, b ≠ g → (⟨g, th, none⟩ : Addr) ≠ ⟨b, o, none⟩ := fun h e => h (congrArg Addr.block e).symm
  have keepX : ∀ (b o : Nat) (u : Value), b ≠ g → W.cell? ⟨b, o, none⟩ = some u → X.cell? ⟨b, o, none⟩ = some u := by
    intro b o u hb hu; rw [hX, World.cell?_setCell_other _ _ _ _ (ne hb)]; exact hu
  have k3' : W.cell? ⟨w.heap.size, 3, none⟩ = some (.slice (some ⟨g, 0, none⟩) m m) := by rw [hW]; exact cellA _ (by simp)
  have k0 : X.cell? ⟨w.heap.size, 0, none⟩ = some (.slice a n c) := keepX _ _ _ (by omega) (by rw [hW]; exact cellA _ (by simp))
  have k1 : X.cell? ⟨w.heap.size, 1, none⟩ = some (.slice a' n' c') := keepX _ _ _ (by omega) (by rw [hW]; exact cellA _ (by simp))
  have k2 : X.cell? ⟨w.heap.size, 2, none⟩ = some (.int .i64 D) := keepX _ _ _ (by omega) (by rw [hW]; exact cellA _ (by simp))
  have k3 : X.cell? ⟨w.heap.size, 3, none⟩ = some (.slice (some ⟨g, 0, none⟩) m m) := keepX _ _ _ (by omega) k3'
  have r0 : X.cell? ⟨w.heap.size + 1, 0, none⟩ = some (.slice none 0 0) := keepX _ _ _ (by omega) (by rw [hW]; simp)
  have r1 : X.cell? ⟨w.heap.size + 1, 1, none⟩ = some (.slice none 0 0) := keepX _ _ _ (by omega) (by rw [hW]; simp)
  have r2 : X.cell? ⟨w.heap.size + 1, 2, none⟩ = some (.int .i64 0) := keepX _ _ _ (by omega) (by rw [hW]; simp)
  have r3 : X.cell? ⟨w.heap.size + 1, 3, none⟩ = some (.slice none 0 0) := keepX _ _ _ (by omega) (by rw [hW]; simp)
  have ff : ∀ i, X.frozen? ⟨w.heap.size + 1, i, none⟩ = false := by intro i; rw [hX, World.frozen?_setCell, hW]; exact free_row (heap_new _ _ _ (by simp))
  have f0 := ff 0
  have f1 := ff 1
  have f2 := ff 2
  have f3 := ff 3
  have R4 := set4 (w := X) (g := w.heap.size + 1) (.slice a n c) (.slice a' n' c') (.int .i64 D) (.slice (some ⟨g, 0, none⟩) m m) (by rw [r0]; rfl) (by rw [r1]; rfl) (by rw [r2]; rfl) (by rw [r3]; rfl)
  have HP : Hid (HoldPost F g m (.agg #[.slice a n c, .slice a' n' c', .int .i64 D, .slice (some ⟨g, 0, none⟩) m m]) (bs.set th b) w (.returned (.agg #[.slice a n c, .slice a' n' c', .int .i64 D, .slice (some ⟨g, 0, none⟩) m m])) ((((X.setCell ⟨w.heap.size + 1, 0, none⟩ (.slice a n c)).setCell ⟨w.heap.size + 1, 1, none⟩ (.slice a' n' c')).setCell ⟨w.heap.size + 1, 2, none⟩ (.int .i64 D)).setCell ⟨w.heap.size + 1, 3, none⟩ (.slice (some ⟨g, 0, none⟩) m m))) := by
    have ne2 : ∀ (j b o : Nat), b ≠ w.heap.size + 1 → (⟨w.heap.size + 1, j, none⟩ : Addr) ≠ ⟨b, o, none⟩ := fun j b o h e => h (congrArg Addr.block e).symm
    have keepZ : ∀ (b o : Nat) (u : Value), b ≠ g → w.cell? ⟨b, o, none⟩ = some u → ((((X.setCell ⟨w.heap.size + 1, 0, none⟩ (.slice a n c)).setCell ⟨w.heap.size + 1, 1, none⟩ (.slice a' n' c')).setCell ⟨w.heap.size + 1, 2, none⟩ (.int .i64 D)).setCell ⟨w.heap.size + 1, 3, none⟩ (.slice (some ⟨g, 0, none⟩) m m)).cell? ⟨b, o, none⟩ = some u := by
      intro b o u hb hu
      have hlt : b < w.heap.size := cell_lt hu
      rw [World.cell?_setCell_other _ _ _ _ (ne2 _ _ _ (by omega)), World.cell?_setCell_other _ _ _ _ (ne2 _ _ _ (by omega)), World.cell?_setCell_other _ _ _ _ (ne2 _ _ _ (by omega)), World.cell?_setCell_other _ _ _ _ (ne2 _ _ _ (by omega))]
      exact keepX _ _ _ hb (cellB b0 hu)
    have keepG : ∀ (i : Nat) (u : Value), X.cell? ⟨g, i, none⟩ = some u → ((((X.setCell ⟨w.heap.size + 1, 0, none⟩ (.slice a n c)).setCell ⟨w.heap.size + 1, 1, none⟩ (.slice a' n' c')).setCell ⟨w.heap.size + 1, 2, none⟩ (.int .i64 D)).setCell ⟨w.heap.size + 1, 3, none⟩ (.slice (some ⟨g, 0, none⟩) m m)).cell? ⟨g, i, none⟩ = some u := by
      intro i u hu
      rw [World.cell?_setCell_other _ _ _ _ (ne2 _ _ _ (by omega)), World.cell?_setCell_other _ _ _ _ (ne2 _ _ _ (by omega)), World.cell?_setCell_other _ _ _ _ (ne2 _ _ _ (by omega)), World.cell?_setCell_other _ _ _ _ (ne2 _ _ _ (by omega))]
      exact hu
    have hx : Below F w X := by rw [hX]; exact (b0.mono (by omega)).setCell (by simpa using hFg) _
    have hB : Below F w ((((X.setCell ⟨w.heap.size + 1, 0, none⟩ (.slice a n c)).setCell ⟨w.heap.size + 1, 1, none⟩ (.slice a' n' c')).setCell ⟨w.heap.size + 1, 2, none⟩ (.int .i64 D)).setCell ⟨w.heap.size + 1, 3, none⟩ (.slice (some ⟨g, 0, none⟩) m m)) :=
      (((hx.setCell (by simp; omega) _).setCell (by simp; omega) _).setCell (by simp; omega) _).setCell (by simp; omega) _
    refine ⟨rfl, bown_upd O hth hp hc ?_ keepZ ?_ ?_ ?_, keepZ, hB⟩
    · have := hB.size; omega
    · intro i hi u hu
      refine keepG i u ?_
      rw [hX, World.cell?_setCell_other]
      · exact cellB b0 hu
      · intro e; exact hi (congrArg Addr.off e).symm
    · refine keepG th _ ?_
      rw [hX]; exact World.cell?_setCell_same' _ _ _ c0
    · intro i hi
      rw [World.frozen?_setCell, World.frozen?_setCell, World.frozen?_setCell, World.frozen?_setCell, hX, World.frozen?_setCell]
      exact O1.2.2.2.2.2 i hi
  have HR := Lib.hid R4
  clear ff keepX ne O1 b0 O hp hc R4
  have HW := Lib.hid hW
  clear hW
  obtain ⟨cv, hcv⟩ := Option.isSome_iff_exists.1 c0
  clear c0
  subst hX
  go_enter Try.func57, Try.ntmps57
  go_upto_region 1 with fail
  rw [← HW.out]
  go_wp2
  refine bp_cell ⟨w.heap.size + 1, 0, none⟩ rfl rfl rfl (load_tso _ _ _ _ _ _ HR.out.1 HR.out.2.1 HR.out.2.2.1 HR.out.2.2.2) ?_
  exact HP.out

theorem below_set4 {k g : Nat} {w W : World} (hb : Below k w W) (hg : k ≤ g) (x y z u : Value) : Below k w ((((W.setCell ⟨g, 0, none⟩ x).setCell ⟨g, 1, none⟩ y).setCell ⟨g, 2, none⟩ z).setCell ⟨g, 3, none⟩ u) :=
  (((hb.setCell (p := ⟨g, 0, none⟩) hg _).setCell (p := ⟨g, 1, none⟩) hg _).setCell (p := ⟨g, 2, none⟩) hg _).setCell (p := ⟨g, 3, none⟩) hg _
/-- a machine and an error: the machine reads as the lists, no row lies below F -/
def TsoPost (ws ts : List Int) (D : Int) (bs : List (List (Int × Int))) (x : Int) (w : World) (e : Ending) (w' : World) : Prop :=
  ∃ a n c a' n' c' q l d, e = .returned (.tuple #[.agg #[.slice a n c, .slice a' n' c', .int .i64 D, .slice q l d], .int .i64 x]) ∧ SlF w.heap.size w' a n ws ∧ SlF w.heap.size w' a' n' ts ∧ BlP (fun b => w.heap.size ≤ b) w' q l bs ∧ Below w.heap.size w w'
theorem tsoPost_nil {x : Int} {w w' : World} (hb : Below w.heap.size w w') : TsoPost [] [] 0 [] x w (.returned (.tuple #[.agg #[.slice none 0 0, .slice none 0 0, .int .i64 0, .slice none 0 0], .int .i64 x])) w' :=
  ⟨_, _, _, _, _, _, _, _, _, rfl, slF_nil _ _, slF_nil _ _, blP_nil _ _, hb⟩
/-- a store's: the row of buffers is the one that came in -/
def StoredPost (ws ts : List Int) (D : Int) (q : Option Addr) (l d : Nat) (w : World) (e : Ending) (w' : World) : Prop :=
  ∃ a n c a' n' c', e = .returned (.tuple #[.agg #[.slice a n c, .slice a' n' c', .int .i64 D, .slice q l d], .int .i64 0]) ∧ SlF w.heap.size w' a n ws ∧ SlF w.heap.size w' a' n' ts ∧ Below w.heap.size w w'
def NoPost (x : Int) (w : World) (e : Ending) (w' : World) : Prop := e = .returned (.tuple #[.agg #[.slice none 0 0, .slice none 0 0, .int .i64 0, .slice none 0 0], .int .i64 x]) ∧ Below w.heap.size w w'

set_option maxHeartbeats 4000000 in
theorem storedT_no (a a' q : Option Addr) (n c n' c' l d : Nat) (ws ts : List Int) (D x v : Int) (w : World) (S1 : Sl w a n ws) (S2 : Sl w a' n' ts) (hx : (Lit.int .i64 x).wf = true) (hu : usableZ ws ts x ≠ 0) :
    Calls Try.prog 25 #[.agg #[.slice a n c, .slice a' n' c', .int .i64 D, .slice q l d], .agg #[.int .i64 x, .int .i64 v]] w (NoPost (usableZ ws ts x) w) := by
  obtain ⟨ev, hev⟩ : ∃ z, usableZ ws ts x = z := ⟨_, rfl⟩
  rw [hev] at hu ⊢
  have HE := Lib.hid hev
  have HX := Lib.hid hx
  clear hev hx
  have q1 : (ev != 0) = true := by simpa using hu
  go_enter Try.func25, Try.ntmps25
  go_wp2_with fail
  refine (Store_any a a' n c n' c' ws ts x v _ (slA _ (slA _ (slA _ S1))) (slA _ (slA _ (slA _ S2))) HX.out).mono ?_
  rintro e w1 ⟨p, m, e1, p', m', e2, rfl, u1, u2, hb⟩
  rw [HE.out]
  have hb1 : Below w.heap.size w w1 := below_from (by go_grown) hb
  have r0 : w1.cell? ⟨w.heap.size + 1 + 1, 0, none⟩ = some (.slice none 0 0) := cellB hb (cell_new _ _ _ (by simp) rfl)
  have r1 : w1.cell? ⟨w.heap.size + 1 + 1, 1, none⟩ = some (.slice none 0 0) := cellB hb (cell_new _ _ _ (by simp) rfl)
  have r2 : w1.cell? ⟨w.heap.size + 1 + 1, 2, none⟩ = some (.int .i64 0) := cellB hb (cell_new _ _ _ (by simp) rfl)
  have r3 : w1.cell? ⟨w.heap.size + 1 + 1, 3, none⟩ = some (.slice none 0 0) := cellB hb (cell_new _ _ _ (by simp) rfl)
  have ff : ∀ i, w1.frozen? ⟨w.heap.size + 1 + 1, i, none⟩ = false := by intro i; rw [hb.frozen (p := ⟨w.heap.size + 1 + 1, i, none⟩) (by simp)]; exact free_row (heap_new _ _ _ (by simp))
  have hs : w.heap.size + 1 + 1 < w1.heap.size := cell_lt r0
  obtain ⟨W, hW⟩ : ∃ W, W = w1.alloc (Obj.cells #[.slice p m e1, .slice p' m' e2] 25) := ⟨_, rfl⟩
  have b2 : Below w.heap.size w W := by rw [hW]; exact hb1.alloc hb1.size _
  replace r0 : W.cell? ⟨w.heap.size + 1 + 1, 0, none⟩ = some (.slice none 0 0) := by rw [hW]; exact cellA _ r0
  replace r1 : W.cell? ⟨w.heap.size + 1 + 1, 1, none⟩ = some (.slice none 0 0) := by rw [hW]; exact cellA _ r1
  replace r2 : W.cell? ⟨w.heap.size + 1 + 1, 2, none⟩ = some (.int .i64 0) := by rw [hW]; exact cellA _ r2
  replace r3 : W.cell? ⟨w.heap.size + 1 + 1, 3, none⟩ = some (.slice none 0 0) := by rw [hW]; exact cellA _ r3
  have f0 : W.frozen? ⟨w.heap.size + 1 + 1, 0, none⟩ = false := by rw [hW]; exact (frozen_old _ hs).trans (ff 0)
  have f1 : W.frozen? ⟨w.heap.size + 1 + 1, 1, none⟩ = false := by rw [hW]; exact (frozen_old _ hs).trans (ff 1)
  have f2 : W.frozen? ⟨w.heap.size + 1 + 1, 2, none⟩ = false := by rw [hW]; exact (frozen_old _ hs).trans (ff 2)
  have f3 : W.frozen? ⟨w.heap.size + 1 + 1, 3, none⟩ = false := by rw [hW]; exact (frozen_old _ hs).trans (ff 3)
  have HW := Lib.hid hW
  have HB := Lib.hid b2
  have HR := Lib.hid (set4 (w := W) (g := w.heap.size + 1 + 1) (.slice none 0 0) (.slice none 0 0) (.int .i64 0) (.slice none 0 0) (by rw [r0]; rfl) (by rw [r1]; rfl) (by rw [r2]; rfl) (by rw [r3]; rfl))
  clear hb hb1 hW b2 ff u1 u2 S1 S2 hu
  go_upto_region 2 with fail
  rw [← HW.out]
  go_wp2
  refine bp_cell_tmp ⟨w.heap.size + 1 + 1, 0, none⟩ rfl rfl rfl (load_tso' _ _ _ _ _ _ HR.out.1 HR.out.2.1 HR.out.2.2.1 HR.out.2.2.2) ?_
  exact ⟨rfl, below_set4 (g := w.heap.size + 1 + 1) HB.out (by omega) _ _ _ _⟩

set_option maxHeartbeats 4000000 in
theorem storedT_ok (a a' q : Option Addr) (n c n' c' l d : Nat) (ws ts : List Int) (D x v : Int) (w : World) (S1 : Sl w a n ws) (S2 : Sl w a' n' ts) (hx : (Lit.int .i64 x).wf = true) (hu : usableZ ws ts x = 0) :
    Calls Try.prog 25 #[.agg #[.slice a n c, .slice a' n' c', .int .i64 D, .slice q l d], .agg #[.int .i64 x, .int .i64 v]] w (StoredPost (ws.set x.toNat v) ts D q l d w) := by
  have HE := Lib.hid hu
  have HX := Lib.hid hx
  have H1 := Lib.hid (show storeW ws ts x v = ws.set x.toNat v by rw [storeW, if_pos hu])
  have H2 := Lib.hid (show storeT ws ts x = ts by rw [storeT, if_pos hu])
  clear hx hu
  go_enter Try.func25, Try.ntmps25
  go_wp2_with fail
  refine (Store_any a a' n c n' c' ws ts x v _ (slA _ (slA _ (slA _ S1))) (slA _ (slA _ (slA _ S2))) HX.out).mono ?_
  rintro e w1 ⟨p, m, e1, p', m', e2, rfl, u1, u2, hb⟩
  rw [HE.out]
  rw [H1.out] at u1
  rw [H2.out] at u2
  have hb1 : Below w.heap.size w w1 := below_from (by go_grown) hb
  have k2 : w1.cell? ⟨w.heap.size, 2, none⟩ = some (.int .i64 D) := cellB hb (cellA _ (cellA _ (by simp)))
  have k0 : w1.cell? ⟨w.heap.size, 0, none⟩ = some (.slice a n c) := cellB hb (cellA _ (cellA _ (by simp)))
  have k1 : w1.cell? ⟨w.heap.size, 1, none⟩ = some (.slice a' n' c') := cellB hb (cellA _ (cellA _ (by simp)))
  have k3 : w1.cell? ⟨w.heap.size, 3, none⟩ = some (.slice q l d) := cellB hb (cellA _ (cellA _ (by simp)))
  have fk : ∀ i, w1.frozen? ⟨w.heap.size, i, none⟩ = false := by intro i; rw [hb.frozen (p := ⟨w.heap.size, i, none⟩) (by simp; omega)]; exact free_row ((heap_old _ _ _ (by simp; omega)).trans ((heap_old _ _ _ (by simp)).trans (heap_new _ _ _ rfl)))
  have r0 : w1.cell? ⟨w.heap.size + 1 + 1, 0, none⟩ = some (.slice none 0 0) := cellB hb (cell_new _ _ _ (by simp) rfl)
  have r1 : w1.cell? ⟨w.heap.size + 1 + 1, 1, none⟩ = some (.slice none 0 0) := cellB hb (cell_new _ _ _ (by simp) rfl)
  have r2 : w1.cell? ⟨w.heap.size + 1 + 1, 2, none⟩ = some (.int .i64 0) := cellB hb (cell_new _ _ _ (by simp) rfl)
  have r3 : w1.cell? ⟨w.heap.size + 1 + 1, 3, none⟩ = some (.slice none 0 0) := cellB hb (cell_new _ _ _ (by simp) rfl)
  have ff : ∀ i, w1.frozen? ⟨w.heap.size + 1 + 1, i, none⟩ = false := by intro i; rw [hb.frozen (p := ⟨w.heap.size + 1 + 1, i, none⟩) (by simp)]; exact free_row (heap_new _ _ _ (by simp))
  have hs : w.heap.size + 1 + 1 < w1.heap.size := cell_lt r0
  have hsz : w.heap.size + 3 ≤ w1.heap.size := by omega
  obtain ⟨W, hW⟩ : ∃ W, W = ((w1.alloc (Obj.cells #[.slice p m e1, .slice p' m' e2] 25)).setCell ⟨w.heap.size, 0, none⟩ (.slice p m e1)).setCell ⟨w.heap.size, 1, none⟩ (.slice p' m' e2) := ⟨_, rfl⟩
  have b2 : Below w.heap.size w W := by rw [hW]; exact ((hb1.alloc hb1.size _).setCell (by simp) _).setCell (by simp) _
  have ne : ∀ j i, (⟨w.heap.size, j, none⟩ : Addr) ≠ ⟨w.heap.size + 1 + 1, i, none⟩ := fun j i e => by have h := congrArg Addr.block e; dsimp only at h; omega
  have keep : ∀ (b o : Nat) (u : Value), b ≠ w.heap.size → w1.cell? ⟨b, o, none⟩ = some u → W.cell? ⟨b, o, none⟩ = some u := by
    intro b o u hne hu
    have ne2 : ∀ j, (⟨w.heap.size, j, none⟩ : Addr) ≠ ⟨b, o, none⟩ := fun j e => hne (congrArg Addr.block e).symm
    rw [hW, World.cell?_setCell_other _ _ _ _ (ne2 _), World.cell?_setCell_other _ _ _ _ (ne2 _)]
    exact cellA _ hu
  have a0 := cellA (Obj.cells #[.slice p m e1, .slice p' m' e2] 25) k0
  have a1 := cellA (Obj.cells #[.slice p m e1, .slice p' m' e2] 25) k1
  have a2 := cellA (Obj.cells #[.slice p m e1, .slice p' m' e2] 25) k2
  have a3 := cellA (Obj.cells #[.slice p m e1, .slice p' m' e2] 25) k3
  have g0 := (frozen_old (k := 0) (Obj.cells #[.slice p m e1, .slice p' m' e2] 25) (show w.heap.size < w1.heap.size by omega)).trans (fk 0)
  have g1 := (frozen_old (k := 1) (Obj.cells #[.slice p m e1, .slice p' m' e2] 25) (show w.heap.size < w1.heap.size by omega)).trans (fk 1)
  have K0 : W.cell? ⟨w.heap.size, 0, none⟩ = some (.slice p m e1) := by rw [hW]; exact set2_0 _ _ (by rw [a0]; rfl)
  have K1 : W.cell? ⟨w.heap.size, 1, none⟩ = some (.slice p' m' e2) := by rw [hW]; exact set2_1 _ _ (by rw [a1]; rfl)
  have ne3 : ∀ j i, j ≠ i → (⟨w.heap.size, j, none⟩ : Addr) ≠ ⟨w.heap.size, i, none⟩ := fun j i h e => h (congrArg Addr.off e)
  have K2 : W.cell? ⟨w.heap.size, 2, none⟩ = some (.int .i64 D) := by rw [hW, World.cell?_setCell_other _ _ _ _ (ne3 _ _ (by decide)), World.cell?_setCell_other _ _ _ _ (ne3 _ _ (by decide))]; exact a2
  have K3 : W.cell? ⟨w.heap.size, 3, none⟩ = some (.slice q l d) := by rw [hW, World.cell?_setCell_other _ _ _ _ (ne3 _ _ (by decide)), World.cell?_setCell_other _ _ _ _ (ne3 _ _ (by decide))]; exact a3
  have R0 := keep _ _ _ (by omega) r0
  have R1 := keep _ _ _ (by omega) r1
  have R2 := keep _ _ _ (by omega) r2
  have R3 := keep _ _ _ (by omega) r3
  have fr : ∀ i, W.frozen? ⟨w.heap.size + 1 + 1, i, none⟩ = false := by intro i; rw [hW, World.frozen?_setCell, World.frozen?_setCell]; exact (frozen_old _ hs).trans (ff i)
  have f0 := fr 0
  have f1 := fr 1
  have f2 := fr 2
  have f3 := fr 3
  have HW := Lib.hid hW
  have HB := Lib.hid b2
  have HR := Lib.hid (set4 (w := W) (g := w.heap.size + 1 + 1) (.slice p m e1) (.slice p' m' e2) (.int .i64 D) (.slice q l d) (by rw [R0]; rfl) (by rw [R1]; rfl) (by rw [R2]; rfl) (by rw [R3]; rfl))
  have U1 := Lib.hid (slP_keep (Q := fun b => w.heap.size + 3 ≤ b) (fun b o u hq hu => keep b o u (by omega) hu) (show SlP (fun b => w.heap.size + 3 ≤ b) w1 p m (ws.set x.toNat v) from slP_slF (fun b hb => by simp at hb; omega) u1))
  have U2 := Lib.hid (slP_keep (Q := fun b => w.heap.size + 3 ≤ b) (fun b o u hq hu => keep b o u (by omega) hu) (show SlP (fun b => w.heap.size + 3 ≤ b) w1 p' m' ts from slP_slF (fun b hb => by simp at hb; omega) u2))
  clear hb hb1 hW b2 ff u1 u2 S1 S2 ne ne3 keep fr fk k0 k1 k2 k3 r0 r1 r2 r3
  go_upto_region 5 with fail
  rw [← HW.out]
  clear a0 a1 a2 a3 g0 g1
  go_wp2
  refine bp_cell_tmp ⟨w.heap.size + 1 + 1, 0, none⟩ rfl rfl rfl (load_tso' _ _ _ _ _ _ HR.out.1 HR.out.2.1 HR.out.2.2.1 HR.out.2.2.2) ?_
  have hk : ∀ (b : Nat), w.heap.size + 3 ≤ b → b ≠ w.heap.size + 1 + 1 := fun b h => by omega
  refine ⟨_, _, _, _, _, _, rfl, ?_, ?_, below_set4 (g := w.heap.size + 1 + 1) HB.out (by omega) _ _ _ _⟩
  · exact slF_P (fun b hb => by omega) (slP_set _ hk _ (slP_set _ hk _ (slP_set _ hk _ (slP_set _ hk _ U1.out))))
  · exact slF_P (fun b hb => by omega) (slP_set _ hk _ (slP_set _ hk _ (slP_set _ hk _ (slP_set _ hk _ U2.out))))
end Go.Proofs.Yteojpdhmhjoeiaa
