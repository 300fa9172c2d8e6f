/- The contract of respiteref01.Mark; which words its answer has. -/
import Derived.Test.YtiebaeaomgpicaaGreatRefD
namespace Go.Proofs.YtiebaeaomgpicaaGreat
open Go.ChangeShapes Go.WideShapes Go.ChangeAt Go.RowKit

/-- a memory and an error; where there is none, its words lie where those that were handed in lie -/
def MemResA (a0 : Option Addr) (ws ts : List Int) (x : Int) (w : World) (e : Ending) (w' : World) : Prop :=
  ∃ a n c a' n' c', e = .returned (.tuple #[.agg #[.slice a n c, .slice a' n' c'], .int .i64 x]) ∧ (x = 0 → a = a0) ∧ Sl w' a n ws ∧ Sl w' a' n' ts ∧ Below w.heap.size w w'
set_option maxHeartbeats 4000000 in
theorem refMarkA_loop (b1 o1 b2 o2 n c c' : Nat) (ws ts : List Int) (i k : Nat) (tag : Int) (w : World) (hg : tag = 1 ∨ tag = 2)
    (S1 : Sl w (some ⟨b1, o1, none⟩) n ws) (S2 : Sl w (some ⟨b2, o2, none⟩) n ts) (hn : ws.length = n) (hn' : ts.length = n) (R2 : Row w b2 o2 ts) (hm : mayB ws ts = true) (hk : 1 ≤ k) (hik : i + k ≤ n) (z4 : n ≤ 160) :
    Calls Tryz.prog 44 #[.agg #[.slice (some ⟨b1, o1, none⟩) n c, .slice (some ⟨b2, o2, none⟩) n c'], .int .i64 i, .int .i64 k, .int .i64 tag] w (MemResA (some ⟨b1, o1, none⟩) (markW ws ts i k tag) (markT ws ts i k tag) (markE ws ts i k tag) w) := by
  have Hn' := Lib.hid hn'
  have Hm := Lib.hid hm
  have HT := Lib.hid (fun j (hj : j < ts.length) => mayB_tag hm j (by rw [hn, ← hn']; exact hj))
  have HI : withinB ws.length i k = true := by simp [withinB]; omega
  have HI' := Lib.hid HI
  have S1' := Lib.hid S1
  have S2' := Lib.hid S2
  have HG := Lib.hid hg
  clear hn hn' hm HI S1
  have t0 : decide ((k : Int) < 1) = false := by simp; omega
  have t1 : decide ((i : Int) < 0) = false := by simp
  have t2 : decide (n ≤ i) = false := by simp; omega
  have t3 : decide ((n : Int) - i < k) = false := by simp; omega
  have b0 : (tag = 1 ∧ (tag == 1) = true ∧ (tag == 2) = false) ∨ (tag = 2 ∧ (tag == 1) = false ∧ (tag == 2) = true) := by
    rcases hg with rfl | rfl <;> simp
  clear hg
  rcases b0 with ⟨h1, b1', b2'⟩ | ⟨h1, b1', b2'⟩
  all_goals
    have HF := Lib.hid h1
    clear h1
    go_enter Tryz.func44, Tryz.ntmps44
    go_wp2
    obtain ⟨W, hW⟩ : ∃ W, W = (w.alloc (Obj.cells #[.slice (some ⟨b1, o1, none⟩) n c, .slice (some ⟨b2, o2, none⟩) n c'] 43)).alloc (Obj.cells #[.slice none 0 0, .slice none 0 0] 43) := ⟨_, rfl⟩
    have m0 : W.cell? ⟨w.heap.size, 0, none⟩ = some (.slice (some ⟨b1, o1, none⟩) n c) := by rw [hW]; exact cellA _ (by simp)
    have m1 : W.cell? ⟨w.heap.size, 1, none⟩ = some (.slice (some ⟨b2, o2, none⟩) n c') := by rw [hW]; exact cellA _ (by simp)
    have m2 : W.cell? ⟨w.heap.size + 1, 0, none⟩ = some (.slice none 0 0) := by rw [hW]; simp
    have m3 : W.cell? ⟨w.heap.size + 1, 1, none⟩ = some (.slice none 0 0) := by rw [hW]; simp
    have m4 : W.frozen? ⟨w.heap.size + 1, 0, none⟩ = false := by rw [hW]; exact free_row (heap_new _ _ _ (by simp))
    have m5 : W.frozen? ⟨w.heap.size + 1, 1, none⟩ = false := by rw [hW]; exact free_row (heap_new _ _ _ (by simp))
    have hbW : Below w.heap.size w W := by rw [hW]; go_grown
    have hWs : W.heap.size = w.heap.size + 1 + 1 := by rw [hW]; simp
    rw [← hW]
    have M0 := Lib.hid m0
    have M1 := Lib.hid m1
    have M2 := Lib.hid m2
    have M3 := Lib.hid m3
    have M4 := Lib.hid m4
    have M5 := Lib.hid m5
    have HBW := Lib.hid hbW
    have HWS := Lib.hid hWs
    clear hW m0 m1 m2 m3 m4 m5 hbW hWs
    go_loopw [10, 11] (fun v s wr => ∃ j : Nat, j ≤ k ∧ s = .int .i64 ((i + j : Nat) : Int) ∧ Hid (RMRel ts i tag n W j v wr)) (fun _ s _ => i + k - (intOf s).toNat)
    case atStart => exact ⟨0, by omega, rfl, rfl, ⟨_, _, rfl, slN_below HBW.out (slN_old S2'.out (by rw [HWS.out]; omega))⟩, Below.refl _ _⟩
    case round =>
      obtain ⟨j, hj, rfl, hr⟩ := hrel
      obtain ⟨p, d, rfl, hp⟩ := hr.out.2.1
      have HB := Lib.hid hr.out.2.2
      have HP := Lib.hid hp
      have HR := Lib.hid hr.out.1
      have n0 := cellB HB.out M0.out
      have n1 := cellB HB.out M1.out
      have n2 := cellB HB.out M2.out
      have n3 := cellB HB.out M3.out
      have n4 : wr.frozen? ⟨w.heap.size + 1, 0, none⟩ = false := (HB.out.frozen (cell_lt M2.out)).trans M4.out
      have n5 : wr.frozen? ⟨w.heap.size + 1, 1, none⟩ = false := (HB.out.frozen (cell_lt M3.out)).trans M5.out
      have hbw := HBW.out.trans (HB.out.mono (by rw [HWS.out]; omega))
      clear hp hr
      by_cases hlt : j < k
      · have hij : i + j < n := by omega
        have g1 := cellB hbw (R2 (i + j) (by rw [Hn'.out]; exact hij))
        have HT1 := HT.out (i + j) (by rw [Hn'.out]; exact hij)
        have HST := Lib.hid (mark_stop (k := k) Hm.out HI'.out HG.out hlt HR.out)
        have HGO := Lib.hid (fun (he : refE tag (ts.getD (i + j) 0) = 0) => show scanE (refE tag) ts i (j + 1) = 0 by simp only [scanE]; rw [if_pos HR.out, he])
        generalize ts.getD (i + j) 0 = tv at g1 HT1 HGO HST
        have HV : tv = 0 ∨ tv = 1 ∨ tv = 2 := by omega
        clear HT1
        by_cases hz : refE tag tv = 0
        · have HS1 := Lib.hid (HGO.out hz)
          have HN := Lib.hid (show (setR ts i tag j).length = n by rw [setR_length]; exact Hn'.out)
          rcases HV with rfl | rfl | rfl
          all_goals first
            | (exfalso; revert hz; rw [HF.out]; decide)
            | (clear hz
               go_wp2_with fail
               rw [show ((i : Int) + (j : Int)) = ((i + j : Nat) : Int) by omega]
               refine (With_any p n d _ ((i + j : Nat) : Int) tag _ HP.out.sl (by omega)).mono ?_
               rw [withZ_setR]
               rintro e w5 ⟨p5, d5, rfl, s5, hb5⟩
               have hl5 : (setR ts i tag (j + 1)).length = n := by rw [setR_length]; exact Hn'.out
               rw [hl5] at s5 ⊢
               have HB5 := Lib.hid hb5
               have HS5 := Lib.hid (slN_new (N := W.heap.size - 1) s5 (by have := HB.out.size; have := HWS.out; omega))
               have HBB := Lib.hid (below_from HB.out hb5)
               clear hb5 s5 hl5 n0 n1 n2 n3 n4 n5 g1
               go_wp2
               go_roundw
               case rel => first | exact ⟨j + 1, by omega, by go_num, HS1.out, ⟨_, _, rfl, HS5.out⟩, HBB.out⟩ | ((repeat apply Exists.intro); exact ⟨⟨j + 1, by omega, by go_num, HS1.out, ⟨_, _, rfl, HS5.out⟩, HBB.out⟩, rfl⟩)
               case measure => simp [intOf]; omega)
        · obtain ⟨x1, x2, x3⟩ := HST.out hz
          have X1 := Lib.hid x1
          have X2 := Lib.hid x2
          have X3 := Lib.hid x3
          clear x1 x2 x3
          have HZ := Lib.hid hz
          clear hz
          rcases HV with rfl | rfl | rfl
          all_goals first
            | (exfalso; refine HZ.out ?_; rw [HF.out]; decide)
            | (go_wp2
               refine bp_cell_tmp ⟨w.heap.size + 1, 0, none⟩ rfl rfl rfl (load_mem _ _ _ _ (by go_cell_look) (by go_cell_look)) ?_
               rw [X1.out, X2.out, X3.out, HF.out]
               exact ⟨_, _, _, _, _, _, rfl, fun h => absurd h (by decide), sl_nil _, sl_nil _, by go_grown⟩)
      · obtain rfl : j = k := by omega
        have HDN := Lib.hid (mark_done Hm.out HI'.out HG.out HR.out)
        go_wp2
        refine bp_cell_tmp ⟨w.heap.size + 1, 0, none⟩ rfl rfl rfl (load_mem _ _ _ _ (by go_cell_look) (by go_cell_look)) ?_
        rw [HDN.out.1, HDN.out.2.1, HDN.out.2.2]
        have HP' : SlN (w.heap.size + 1) wr p n (setR ts i tag j) := by have := HP.out; rw [HWS.out] at this; exact this
        have hF : Below w.heap.size w ((wr.setCell ⟨w.heap.size + 1, 0, none⟩ (.slice (some ⟨b1, o1, none⟩) n c)).setCell ⟨w.heap.size + 1, 1, none⟩ (.slice p n d)) := (hbw.setCell (by simp) _).setCell (by simp) _
        exact ⟨_, _, _, _, _, _, rfl, fun _ => rfl, slB hF S1'.out, (slN_set (slN_set HP' _ _) _ _).sl, hF⟩

set_option maxHeartbeats 4000000 in
theorem refMarkA_any (a a' : Option Addr) (n c n' c' : Nat) (ws ts : List Int) (i k tag : Int) (w : World) (hg : tag = 1 ∨ tag = 2) (S1 : Sl w a n ws) (S2 : Sl w a' n' ts) (hi : (Lit.int .i64 i).wf = true) (hm : mayB ws ts = true) :
    Calls Tryz.prog 44 #[.agg #[.slice a n c, .slice a' n' c'], .int .i64 i, .int .i64 k, .int .i64 tag] w (MemResA a (markW ws ts i k tag) (markT ws ts i k tag) (markE ws ts i k tag) w) := by
  have hb0 : -9223372036854775808 ≤ i ∧ i ≤ 9223372036854775807 := by simpa [Lit.wf, IntKind.min, IntKind.max, IntKind.signed, IntKind.bits] using hi
  obtain ⟨hbl, hbh⟩ := hb0
  obtain ⟨z0, z1, z2⟩ := mayB_size hm
  have hn := S1.1
  have hn' := S2.1
  obtain rfl : n' = n := by omega
  obtain ⟨-, b1, o1, rfl, R1⟩ := sl_some S1 (by omega)
  obtain ⟨-, b2, o2, rfl, R2⟩ := sl_some S2 (by omega)
  by_cases hw : withinB n' i k = true
  · simp only [withinB, decide_eq_true_eq] at hw
    obtain ⟨i, rfl⟩ := Int.eq_ofNat_of_zero_le hw.2.1
    obtain ⟨k, rfl⟩ := Int.eq_ofNat_of_zero_le (show 0 ≤ k by omega)
    exact refMarkA_loop b1 o1 b2 o2 n' c c' ws ts i k tag w hg S1 S2 hn hn' R2 hm (by omega) (by omega) (by omega)
  · have z4 : n' ≤ 160 := by omega
    have e : markE ws ts i k tag = 3 := by rw [markE, if_pos ⟨hm, hg⟩, if_neg (by rw [hn]; exact hw)]
    have E := Lib.hid (And.intro e (And.intro (show markW ws ts i k tag = [] by rw [markW, if_neg (by rw [e]; decide)]) (show markT ws ts i k tag = [] by rw [markT, if_neg (by rw [e]; decide)])))
    rw [E.out.1, E.out.2.1, E.out.2.2]
    have hw' : k < 1 ∨ (1 ≤ k ∧ i < 0) ∨ (1 ≤ k ∧ 0 ≤ i ∧ (n' : Int) ≤ i) ∨ (1 ≤ k ∧ 0 ≤ i ∧ i < n' ∧ (n' : Int) - i < k) := by
      simp only [withinB, decide_eq_true_eq] at hw; omega
    clear e hm hw hg z0 z1 z2 hn hn' R1 R2 S1 S2 hi
    rcases hw' with h | ⟨h, h'⟩ | ⟨h, h', h''⟩ | ⟨h, h', h'', h3⟩
    all_goals
      go_enter Tryz.func44, Tryz.ntmps44
      go_wp2
      refine bp_cell_tmp ⟨w.heap.size + 1, 0, none⟩ rfl rfl rfl (load_mem _ _ _ _ (by simp; rfl) (by simp; rfl)) ?_
      exact ⟨_, _, _, _, _, _, rfl, fun h => absurd h (by decide), sl_nil _, sl_nil _, by go_grown⟩
end Go.Proofs.YtiebaeaomgpicaaGreat
