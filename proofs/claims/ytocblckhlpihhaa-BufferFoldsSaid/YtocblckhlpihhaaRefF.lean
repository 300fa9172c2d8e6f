/- The contract of respiteref02.Fold; Fold at every memory. -/
import Derived.Test.YtocblckhlpihhaaRefC
import Derived.Test.YtocblckhlpihhaaBufC
namespace Go.Proofs.Ytocblckhlpihhaa
open Go.ChangeShapes Go.WideShapes Go.ChangeAt Go.RowKit

/-- a memory, a number and an error, where the memory may lie in what was handed in -/
def FoldRes (ws ts : List Int) (k x : Int) (w : World) (e : Ending) (w' : World) : Prop :=
  ∃ a n c a' n' c', e = .returned (.tuple #[.agg #[.slice a n c, .slice a' n' c'], .int .i64 k, .int .i64 x]) ∧ Sl w' a n ws ∧ Sl w' a' n' ts ∧ Below w.heap.size w w'
theorem foldRes_nil {ws ts : List Int} {k x : Int} (hw : ws = []) (ht : ts = []) {w w' : World} (hb : Below w.heap.size w w') : FoldRes ws ts k x w (.returned (.tuple #[.agg #[.slice none 0 0, .slice none 0 0], .int .i64 k, .int .i64 x])) w' := by
  subst hw; subst ht; exact ⟨_, _, _, _, _, _, rfl, sl_nil _, sl_nil _, hb⟩
/-- rows outside of the call's two variables -/
def RefQ (h : Nat) (b : Nat) : Prop := b ≠ h ∧ b ≠ h + 1

set_option maxRecDepth 100000 in
set_option maxHeartbeats 4000000 in
theorem refFold_any (a a' : Option Addr) (m c1 m' c2 : Nat) (q : Option Addr) (n c : Nat) (ws ts : List Int) (ps : List (Int × Int)) (w : World) (S1 : Sl w a m ws) (S2 : Sl w a' m' ts) (hm : mayB ws ts = true) (S : Pl w q n ps) (hn : n ≤ 9223372036854775807) :
    Calls Try.prog 21 #[.agg #[.slice a m c1, .slice a' m' c2], .slice q n c] w (FoldRes (foldMW ws ts ps) (foldMT ws ts ps) (foldN ws ts ps) (foldE ws ts ps) w) := by
  have Hm := Lib.hid hm
  have Hn := Lib.hid S.1
  have M1 : SlP (RefQ w.heap.size) w a m ws := slP_old (fun b hb => ⟨by omega, by omega⟩) S1
  have M2 : SlP (RefQ w.heap.size) w a' m' ts := slP_old (fun b hb => ⟨by omega, by omega⟩) S2
  have HM1 := Lib.hid M1
  have HM2 := Lib.hid M2
  clear hm M1 M2 S1 S2
  go_enter Try.func21, Try.ntmps21
  go_wp2_with fail
  go_loopw [13] (fun i wr => ∃ k : Nat, k ≤ n ∧ i = .int .i64 k ∧ Hid (okTo ws ts ps k) ∧ (∃ p l d p' l' d', wr.cell? ⟨w.heap.size, 0, none⟩ = some (.slice p l d) ∧ wr.cell? ⟨w.heap.size, 1, none⟩ = some (.slice p' l' d') ∧ SlP (RefQ w.heap.size) wr p l (foldW ws (ps.take k)) ∧ SlP (RefQ w.heap.size) wr p' l' ts) ∧ wr.frozen? ⟨w.heap.size, 0, none⟩ = false ∧ wr.frozen? ⟨w.heap.size, 1, none⟩ = false ∧ wr.cell? ⟨w.heap.size + 1, 0, none⟩ = some (.slice none 0 0) ∧ wr.cell? ⟨w.heap.size + 1, 1, none⟩ = some (.slice none 0 0) ∧ wr.frozen? ⟨w.heap.size + 1, 0, none⟩ = false ∧ wr.frozen? ⟨w.heap.size + 1, 1, none⟩ = false ∧ Below w.heap.size w wr) (fun i _ => n - (intOf i).toNat)
  case atStart => exact ⟨0, by omega, rfl, by intro j hj; omega, ⟨a, m, c1, a', m', c2, cellA _ (by simp), cellA _ (by simp), by simpa [foldW] using slPA _ (slPA _ HM1.out), slPA _ (slPA _ HM2.out)⟩, by rw [frozen_old _ (by simp)]; exact frozen_new _ _ rfl, by rw [frozen_old _ (by simp)]; exact frozen_new _ _ rfl, by simp, by simp, frozen_new _ _ (by simp), frozen_new _ _ (by simp), by go_grown⟩
  case round =>
    obtain ⟨k, hk, rfl, hok, ⟨p, l, d, p', l', d', c0, c3, R1, R2⟩, e0, e1, r0, r1, f0, f1, hb⟩ := hrel
    have hsr := cell_lt c0
    have hs0 := cell_lt r0
    dsimp only at hsr hs0
    by_cases hlt : k < n
    · obtain ⟨b, o, rfl, R⟩ := S.2.resolve_left (by omega)
      have x0 := cellB hb (R k (by rw [Hn.out]; exact hlt)).1
      have x1 := cellB hb (R k (by rw [Hn.out]; exact hlt)).2
      have hkl : k < ps.length := by rw [Hn.out]; exact hlt
      have HST := Lib.hid (fold_store (ws := ws) (ts := ts) hkl hok.out)
      have HBD := Lib.hid (fold_bad (ws := ws) (ts := ts) (ps := ps) (k := k) (e := usableZ ws ts (ps.getD k (0, 0)).1) Hm.out hok.out hkl rfl)
      have HSU := Lib.hid (okTo_succ (ws := ws) (ts := ts) (ps := ps) hok.out)
      have hfu := fold_usable (ws := ws) (ts := ts) (ps := ps) (k := k) (by omega) hok.out
      have HUS := Lib.hid (hfu.2.2 (ps.getD k (0, 0)).1)
      have HMB := Lib.hid (hfu.1.trans Hm.out)
      obtain ⟨pk, hpk⟩ : ∃ z, ps.getD k (0, 0) = z := ⟨_, rfl⟩
      rw [hpk] at x0 x1 HST HBD HSU HUS
      obtain ⟨y, v⟩ := pk
      dsimp only at x0 x1 HST HBD HSU HUS
      have i0 : (0 : Int) ≤ k := by omega
      have i1 : (k : Int) < n := by omega
      have HB := Lib.hid hb
      have X0 := cellA (Obj.cells #[.int .i64 y, .int .i64 v] 24) c0
      have X1 := cellA (Obj.cells #[.int .i64 y, .int .i64 v] 24) c3
      clear hpk hb hkl R hfu
      go_wp2_with fail
      refine (refStoreQ_any (RefQ w.heap.size) p p' l d l' d' _ ts y v _ (slA _ R1.sl) (slPA _ R2) (fun b hb => ⟨by rw [World.size_alloc] at hb; omega, by rw [World.size_alloc] at hb; omega⟩) HMB.out).mono ?_
      rintro e w2 ⟨t, m1, u, t', m2, u', rfl, s1, s2, hb2⟩
      rw [HUS.out]
      have HB2 := Lib.hid (below_from (HB.out.alloc HB.out.size _) hb2)
      have hs2 := hb2.size
      rw [World.size_alloc] at hs2
      have G0 := cellA (Obj.cells #[.slice t m1 u, .slice t' m2 u'] 40) (cellB hb2 X0)
      have G1 := cellA (Obj.cells #[.slice t m1 u, .slice t' m2 u'] 40) (cellB hb2 X1)
      have E0 := (frozen_old (k := 0) (Obj.cells #[.slice t m1 u, .slice t' m2 u'] 40) (show w.heap.size < w2.heap.size by omega)).trans (frozenB hb2 X0 ((frozen_old (k := 0) (Obj.cells #[.int .i64 y, .int .i64 v] 24) hsr).trans e0))
      have E1 := (frozen_old (k := 1) (Obj.cells #[.slice t m1 u, .slice t' m2 u'] 40) (show w.heap.size < w2.heap.size by omega)).trans (frozenB hb2 X1 ((frozen_old (k := 1) (Obj.cells #[.int .i64 y, .int .i64 v] 24) hsr).trans e1))
      have J0 := cellA (Obj.cells #[.slice t m1 u, .slice t' m2 u'] 40) (cellB hb2 (cellA (Obj.cells #[.int .i64 y, .int .i64 v] 24) r0))
      have J1 := cellA (Obj.cells #[.slice t m1 u, .slice t' m2 u'] 40) (cellB hb2 (cellA (Obj.cells #[.int .i64 y, .int .i64 v] 24) r1))
      have F0 := (frozen_old (k := 0) (Obj.cells #[.slice t m1 u, .slice t' m2 u'] 40) (show w.heap.size + 1 < w2.heap.size by omega)).trans (frozenB hb2 (cellA (Obj.cells #[.int .i64 y, .int .i64 v] 24) r0) ((frozen_old (k := 0) (Obj.cells #[.int .i64 y, .int .i64 v] 24) hs0).trans f0))
      have F1 := (frozen_old (k := 1) (Obj.cells #[.slice t m1 u, .slice t' m2 u'] 40) (show w.heap.size + 1 < w2.heap.size by omega)).trans (frozenB hb2 (cellA (Obj.cells #[.int .i64 y, .int .i64 v] 24) r1) ((frozen_old (k := 1) (Obj.cells #[.int .i64 y, .int .i64 v] 24) hs0).trans f1))
      clear hb2 X0 X1 c0 c3 e0 e1 r0 r1 f0 f1 R1 R2
      by_cases he : usableZ ws ts y = 0
      · have H1 := HST.out he
        rw [he]
        rw [H1.1] at s1
        rw [H1.2.1] at s2
        have HSU' := Lib.hid (HSU.out he)
        have HS1 := Lib.hid s1
        have HS2 := Lib.hid s2
        clear he s1 s2 H1
        go_wp2_with fail
        go_roundw
        case rel =>
          refine ⟨k + 1, by omega, by go_num, HSU'.out, ⟨t, m1, u, t', m2, u', set2_0 _ _ (by rw [G0]; rfl), set2_1 _ _ (by rw [G1]; rfl), ?_, ?_⟩, by rw [World.frozen?_setCell, World.frozen?_setCell]; exact E0, by rw [World.frozen?_setCell, World.frozen?_setCell]; exact E1, ?_, ?_, by rw [World.frozen?_setCell, World.frozen?_setCell]; exact F0, by rw [World.frozen?_setCell, World.frozen?_setCell]; exact F1, ?_⟩
          · exact slP_set ⟨w.heap.size, 1, none⟩ (fun b hb => hb.1) _ (slP_set ⟨w.heap.size, 0, none⟩ (fun b hb => hb.1) _ (slPA _ HS1.out))
          · exact slP_set ⟨w.heap.size, 1, none⟩ (fun b hb => hb.1) _ (slP_set ⟨w.heap.size, 0, none⟩ (fun b hb => hb.1) _ (slPA _ HS2.out))
          · rw [World.cell?_setCell_other, World.cell?_setCell_other]
            · exact J0
            · intro h; simp at h <;> omega
            · intro h; simp at h <;> omega
          · rw [World.cell?_setCell_other, World.cell?_setCell_other]
            · exact J1
            · intro h; simp at h <;> omega
            · intro h; simp at h <;> omega
          · exact ((HB2.out.alloc HB2.out.size _).setCell (by simp) _).setCell (by simp) _
        case measure => simp [intOf]; omega
      · have H1 := Lib.hid (HBD.out he)
        obtain ⟨ev, hev⟩ : ∃ z, usableZ ws ts y = z := ⟨_, rfl⟩
        have q1 : (ev != 0) = true := by rw [← hev]; simpa using he
        have H2 := Lib.hid (show foldE ws ts ps = ev by rw [H1.out.1, hev])
        have H3 := Lib.hid H1.out.2.1
        have H4 := Lib.hid H1.out.2.2.1
        have H5 := Lib.hid H1.out.2.2.2
        rw [hev]
        clear he hev s1 s2 H1
        go_wp2
        refine bp_cell_tmp2 ⟨w.heap.size + 1, 0, none⟩ rfl rfl rfl (load_mem _ _ _ _ (set2_0 _ _ (by rw [J0]; rfl)) (set2_1 _ _ (by rw [J1]; rfl))) ?_
        rw [H2.out, H3.out]
        exact foldRes_nil H4.out H5.out (((HB2.out.alloc HB2.out.size _).setCell (by simp) _).setCell (by simp) _)
    · obtain rfl : k = n := by omega
      have HF := Lib.hid (fold_all Hm.out (show okTo ws ts ps ps.length by rw [Hn.out]; exact hok.out))
      have HT := Lib.hid (show ps.take k = ps from List.take_of_length_le (by rw [Hn.out]; omega))
      rw [HT.out] at R1
      have HB := Lib.hid hb
      have HR1 := Lib.hid R1
      have HR2 := Lib.hid R2
      clear hb R1 R2
      go_wp2
      refine bp_cell_tmp2 ⟨w.heap.size + 1, 0, none⟩ rfl rfl rfl (load_mem _ _ _ _ (set2_0 _ _ (by rw [r0]; rfl)) (set2_1 _ _ (by rw [r1]; rfl))) ?_
      rw [HF.out.1, HF.out.2.1, HF.out.2.2.1, HF.out.2.2.2]
      exact ⟨p, l, d, p', l', d', rfl, (slP_set ⟨w.heap.size + 1, 1, none⟩ (fun b hb => hb.2) _ (slP_set ⟨w.heap.size + 1, 0, none⟩ (fun b hb => hb.2) _ HR1.out)).sl, (slP_set ⟨w.heap.size + 1, 1, none⟩ (fun b hb => hb.2) _ (slP_set ⟨w.heap.size + 1, 0, none⟩ (fun b hb => hb.2) _ HR2.out)).sl, (HB.out.setCell (by simp) _).setCell (by simp) _⟩
end Go.Proofs.Ytocblckhlpihhaa
