/- Fold at every memory; how the statements' first region is left. -/
import Derived.Test.YtocblckhlpihhaaBufC
import Derived.Test.YtocblckhlpihhaaLawP
namespace Go.Proofs.Ytocblckhlpihhaa
open Go.ChangeShapes Go.WideShapes Go.ChangeAt Go.RowKit

set_option maxHeartbeats 4000000 in
theorem Fold_any (a a' : Option Addr) (m c1 m' c2 : Nat) (q : Option Addr) (n c : Nat) (ws ts : List Int) (ps : List (Int × Int)) (w : World) (S1 : Sl w a m ws) (S2 : Sl w a' m' ts) (S : Pl w q n ps) (hf : Wfs ps) (hn : n ≤ 9223372036854775807) :
    Calls Try.prog 18 #[.agg #[.slice a m c1, .slice a' m' c2], .slice q n c] w (FoldPost (foldMW ws ts ps) (foldMT ws ts ps) (foldN ws ts ps) (foldE ws ts ps) w) := by
  cases hm : mayB ws ts with
  | true =>
    obtain ⟨z0, z1, z2⟩ := mayB_size hm
    have hl1 := S1.1
    have hl2 := S2.1
    obtain rfl : m' = m := by omega
    obtain ⟨-, b1, o1, rfl, R1⟩ := sl_some S1 (by omega)
    obtain ⟨-, b2, o2, rfl, R2⟩ := sl_some S2 (by omega)
    exact Fold_good b1 o1 b2 o2 m' c1 c2 q n c ws ts ps w hl1 hl2 R1 R2 hm S hf hn
  | false =>
    have HF := Lib.hid (fold_not (ps := ps) hm)
    have HM := Lib.hid hm
    rw [HF.out.1, HF.out.2.1]
    clear hm S hf
    go_enter Try.func18, Try.ntmps18
    go_wp2_with fail
    refine (Right_any a a' m c1 m' c2 ws ts _ (slA _ (slA _ S1)) (slA _ (slA _ S2))).mono ?_
    rintro e w1 ⟨rfl, hb⟩
    rw [HM.out]
    have hb1 : Below w.heap.size w w1 := below_from (by go_grown) hb
    have r0 : w1.cell? ⟨w.heap.size + 1, 0, none⟩ = some (.slice none 0 0) := cellB hb (by simp)
    have r1 : w1.cell? ⟨w.heap.size + 1, 1, none⟩ = some (.slice none 0 0) := cellB hb (by simp)
    have f0 : w1.frozen? ⟨w.heap.size + 1, 0, none⟩ = false := by rw [hb.frozen (p := ⟨w.heap.size + 1, 0, none⟩) (by simp)]; exact free_row (heap_new _ _ _ (by simp))
    have f1 : w1.frozen? ⟨w.heap.size + 1, 1, none⟩ = false := by rw [hb.frozen (p := ⟨w.heap.size + 1, 1, none⟩) (by simp)]; exact free_row (heap_new _ _ _ (by simp))
    have HB1 := Lib.hid hb1
    clear hb hb1 S1 S2
    go_wp2
    refine bp_cell_tmp2 ⟨w.heap.size + 1, 0, none⟩ rfl rfl rfl (load_mem _ _ _ _ (set2_0 _ _ (by rw [r0]; rfl)) (set2_1 _ _ (by rw [r1]; rfl))) ?_
    exact foldPost_nil HF.out.2.2.1 HF.out.2.2.2 ((HB1.out.setCell (by simp) _).setCell (by simp) _)

/-- the statements' variable m, behind their first region -/
def LawCut (w : World) (a a' q : Option Addr) (n c n' c' m d : Nat) (s7 s2 : Value) (wx : World) : Prop :=
  ∃ g, s7 = .pointer (some ⟨g, 0, none⟩) ∧ s2 = .slice q m d ∧ w.heap.size ≤ g ∧ wx.cell? ⟨g, 0, none⟩ = some (.slice a n c) ∧ wx.cell? ⟨g, 1, none⟩ = some (.slice a' n' c') ∧ wx.frozen? ⟨g, 0, none⟩ = false ∧ wx.frozen? ⟨g, 1, none⟩ = false ∧ Below w.heap.size w wx
theorem lawCut_new {w w1 : World} {a a' q : Option Addr} {n c n' c' m d : Nat} {s2 : Value} (hs : s2 = .slice q m d) (hb : Below w.heap.size w w1) :
    LawCut w a a' q n c n' c' m d (.pointer (some ⟨w1.heap.size, 0, none⟩)) s2 (w1.alloc (.cells #[.slice a n c, .slice a' n' c'] 40)) :=
  ⟨_, rfl, hs, hb.size, cell_new _ _ _ rfl rfl, cell_new _ _ _ rfl rfl, frozen_new _ _ rfl, frozen_new _ _ rfl, hb.alloc hb.size _⟩
theorem lawCut_set {w w1 : World} {a a' q : Option Addr} {n c n' c' m d g : Nat} {s2 x y : Value} (hs : s2 = .slice q m d) (hg : w.heap.size ≤ g) (hb : Below w.heap.size w w1)
    (Y0 : w1.cell? ⟨g, 0, none⟩ = some x) (Y1 : w1.cell? ⟨g, 1, none⟩ = some y) (Y2 : w1.frozen? ⟨g, 0, none⟩ = false) (Y3 : w1.frozen? ⟨g, 1, none⟩ = false) :
    LawCut w a a' q n c n' c' m d (.pointer (some ⟨g, 0, none⟩)) s2 ((w1.setCell ⟨g, 0, none⟩ (.slice a n c)).setCell ⟨g, 1, none⟩ (.slice a' n' c')) :=
  ⟨g, rfl, hs, hg, set2_0 _ _ (by rw [Y0]; rfl), set2_1 _ _ (by rw [Y1]; rfl), by rw [World.frozen?_setCell, World.frozen?_setCell]; exact Y2, by rw [World.frozen?_setCell, World.frozen?_setCell]; exact Y3, (hb.setCell hg _).setCell hg _⟩
end Go.Proofs.Ytocblckhlpihhaa
