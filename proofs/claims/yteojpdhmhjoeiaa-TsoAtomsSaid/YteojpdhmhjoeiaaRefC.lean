/- Contracts of respiteref01: Store, Mark, New. -/
import Derived.Test.YteojpdhmhjoeiaaRefB
import Derived.Deep.RegionWith
namespace Go.Proofs.Yteojpdhmhjoeiaa
open Go.ChangeShapes Go.WideShapes Go.ChangeAt Go.RowKit

/-- a memory and an error, where the memory may lie in the one that was handed in -/
def MemRes (ws ts : List Int) (x : Int) (w : World) (e : Ending) (w' : World) : Prop :=
  ∃ a n c a' n' c', e = .returned (.tuple #[.agg #[.slice a n c, .slice a' n' c'], .int .i64 x]) ∧ Sl w' a n ws ∧ Sl w' a' n' ts ∧ Below w.heap.size w w'

/-- the same, and of the rows' blocks Q holds -/
def MemResQ (Q : Nat → Prop) (ws ts : List Int) (x : Int) (w : World) (e : Ending) (w' : World) : Prop :=
  ∃ a n c a' n' c', e = .returned (.tuple #[.agg #[.slice a n c, .slice a' n' c'], .int .i64 x]) ∧ SlP Q w' a n ws ∧ SlP Q w' a' n' ts ∧ Below w.heap.size w w'

set_option maxHeartbeats 4000000 in
theorem refStoreQ_any (Q : Nat → Prop) (a a' : Option Addr) (n c n' c' : Nat) (ws ts : List Int) (i v : Int) (w : World) (S1 : Sl w a n ws) (U2 : SlP Q w a' n' ts) (hQ : ∀ b, w.heap.size ≤ b → Q b) (hm : mayB ws ts = true) :
    Calls Try.prog 34 #[.agg #[.slice a n c, .slice a' n' c'], .int .i64 i, .int .i64 v] w (MemResQ Q (storeW ws ts i v) (storeT ws ts i) (usableZ ws ts i) w) := by
  have hzz := mayB_size hm
  have hn1 := S1.1
  have hn2 : n ≤ 1000 := by omega
  have Hm := Lib.hid hm
  have S2 := U2.sl
  have HU := Lib.hid U2
  have HQ := Lib.hid hQ
  clear hm hzz hn1 U2 hQ
  by_cases he : usableZ ws ts i = 0
  · have HE := Lib.hid he
    obtain ⟨-, h0, h1, -⟩ := usable_zero he
    have H1 := Lib.hid (show storeW ws ts i v = withZ ws i v by
      rw [storeW, if_pos he]
      obtain ⟨k, rfl⟩ := Int.eq_ofNat_of_zero_le h0
      rw [Int.toNat_natCast, withZ_set])
    have H2 := Lib.hid (show storeT ws ts i = ts by rw [storeT, if_pos he])
    clear he h0 h1
    rw [H1.out, H2.out, HE.out]
    go_enter Try.func34, Try.ntmps34
    go_wp2_with fail
    refine (refLoad_any _ _ n c n' c' ws ts i _ (slA _ (slA _ S1)) (slA _ (slA _ S2)) Hm.out).mono ?_
    rintro e w1 ⟨rfl, hb⟩
    have hb1 : Below w.heap.size w w1 := below_from (by go_grown) hb
    have k0 : w1.cell? ⟨w.heap.size, 0, none⟩ = some (.slice a n c) := cellB hb (cellA _ (by simp))
    have k1 : w1.cell? ⟨w.heap.size, 1, none⟩ = some (.slice a' n' c') := cellB hb (cellA _ (by simp))
    have r0 : w1.cell? ⟨w.heap.size + 1, 0, none⟩ = some (.slice none 0 0) := cellB hb (by simp)
    have r1 : w1.cell? ⟨w.heap.size + 1, 1, none⟩ = some (.slice none 0 0) := cellB hb (by simp)
    have hs1 : w.heap.size + 1 < w1.heap.size := by have := hb.size; simp at this; omega
    have f0 : w1.frozen? ⟨w.heap.size + 1, 0, none⟩ = false := by rw [hb.frozen (p := ⟨w.heap.size + 1, 0, none⟩) (by simp)]; exact free_row (heap_new _ _ _ (by simp))
    have f1 : w1.frozen? ⟨w.heap.size + 1, 1, none⟩ = false := by rw [hb.frozen (p := ⟨w.heap.size + 1, 1, none⟩) (by simp)]; exact free_row (heap_new _ _ _ (by simp))
    rw [HE.out]
    generalize loadZ ws ts i = lv
    have T1 := Lib.hid (slB hb1 S1)
    have HB1 := Lib.hid hb1
    clear hb hb1 S1 S2
    go_wp2_with fail
    go_region_with (go_at_call 59; refine (With_any a n c ws i v _ (slD T1.out) hn2).mono ?_; rintro e w2 ⟨p, d, rfl, s2, hb2⟩; have k1' : w2.cell? ⟨w.heap.size, 1, none⟩ = some (.slice a' n' c') := cellB hb2 k1; have r0' : w2.cell? ⟨w.heap.size + 1, 0, none⟩ = some (.slice none 0 0) := cellB hb2 r0; have r1' : w2.cell? ⟨w.heap.size + 1, 1, none⟩ = some (.slice none 0 0) := cellB hb2 r1; have f0' : w2.frozen? ⟨w.heap.size + 1, 0, none⟩ = false := (hb2.frozen (cell_lt (w := w1) r0)).trans f0; have f1' : w2.frozen? ⟨w.heap.size + 1, 1, none⟩ = false := (hb2.frozen (cell_lt (w := w1) r1)).trans f1; have HB2 := Lib.hid hb2; clear hb2)
    all_goals
      have hB := below_from (HB1.out.drew) HB2.out
      have hs2 : w.heap.size + 1 < w2.heap.size := by have := HB2.out.size; simp at this; omega
      go_wp2
      refine bp_cell_tmp ⟨w.heap.size + 1, 0, none⟩ rfl rfl rfl (load_mem _ _ _ _ (by go_cell_look) (by go_cell_look)) ?_
      have hF : Below w.heap.size w ((w2.setCell ⟨w.heap.size + 1, 0, none⟩ (.slice p (withZ ws i v).length d)).setCell ⟨w.heap.size + 1, 1, none⟩ (.slice a' n' c')) := (hB.setCell (by simp) _).setCell (by simp) _
      exact ⟨_, _, _, _, _, _, rfl, slP_slF (fun b hb => HQ.out b (Nat.le_trans (Nat.le_of_lt (Nat.lt_of_le_of_lt (Nat.le_add_right _ 1) hs1)) hb)) (slF_set (slF_set s2 _ (by simp; omega) _) _ (by simp; omega) _), slPB hF HU.out, hF⟩
  · have HE := Lib.hid (show (usableZ ws ts i != 0) = true by simpa using he)
    have H1 := Lib.hid (show storeW ws ts i v = [] by rw [storeW, if_neg he])
    have H2 := Lib.hid (show storeT ws ts i = [] by rw [storeT, if_neg he])
    clear he
    rw [H1.out, H2.out]
    obtain ⟨ev, hev⟩ : ∃ ev, usableZ ws ts i = ev := ⟨_, rfl⟩
    have HX := Lib.hid hev
    have HE' := HE.out
    rw [hev] at HE' ⊢
    clear hev HE
    go_enter Try.func34, Try.ntmps34
    go_wp2_with fail
    refine (refLoad_any _ _ n c n' c' ws ts i _ (slA _ (slA _ S1)) (slA _ (slA _ S2)) Hm.out).mono ?_
    rintro e w1 ⟨rfl, hb⟩
    have hb1 : Below w.heap.size w w1 := below_from (by go_grown) hb
    have r0 : w1.cell? ⟨w.heap.size + 1, 0, none⟩ = some (.slice none 0 0) := cellB hb (by simp)
    have r1 : w1.cell? ⟨w.heap.size + 1, 1, none⟩ = some (.slice none 0 0) := cellB hb (by simp)
    have f0 : w1.frozen? ⟨w.heap.size + 1, 0, none⟩ = false := by rw [hb.frozen (p := ⟨w.heap.size + 1, 0, none⟩) (by simp)]; exact free_row (heap_new _ _ _ (by simp))
    have f1 : w1.frozen? ⟨w.heap.size + 1, 1, none⟩ = false := by rw [hb.frozen (p := ⟨w.heap.size + 1, 1, none⟩) (by simp)]; exact free_row (heap_new _ _ _ (by simp))
    rw [HX.out]
    generalize loadZ ws ts i = lv
    clear hb S1 S2
    go_wp2
    refine bp_cell_tmp ⟨w.heap.size + 1, 0, none⟩ rfl rfl rfl (load_mem _ _ _ _ (by go_cell_look) (by go_cell_look)) ?_
    exact ⟨_, _, _, _, _, _, rfl, slP_nil _ _, slP_nil _ _, by go_grown⟩

theorem refStore_any (a a' : Option Addr) (n c n' c' : Nat) (ws ts : List Int) (i v : Int) (w : World) (S1 : Sl w a n ws) (S2 : Sl w a' n' ts) (hm : mayB ws ts = true) :
    Calls Try.prog 34 #[.agg #[.slice a n c, .slice a' n' c'], .int .i64 i, .int .i64 v] w (MemRes (storeW ws ts i v) (storeT ws ts i) (usableZ ws ts i) w) :=
  (refStoreQ_any _ a a' n c n' c' ws ts i v w S1 (slP_of S2) (fun _ _ => trivial) hm).mono fun _ _ ⟨x, y, z, x', y', z', e, s, s', hb⟩ => ⟨x, y, z, x', y', z', e, s.sl, s'.sl, hb⟩
end Go.Proofs.Yteojpdhmhjoeiaa
