/- Contracts of the document's own answers of layer 3 (package respiteref03): Same, of two machines of one size. -/
import Derived.Test.YtiebaeaomgpicaaGreatMR
namespace Go.Proofs.YtiebaeaomgpicaaGreat
open Go.ChangeShapes Go.WideShapes Go.ChangeAt Go.RowKit
def EqBufs (xs ys : List (List (Int × Int))) (k : Nat) : Prop := ∀ i, i < k → xs.getD i [] = ys.getD i []
theorem eqBufs_all {xs ys : List (List (Int × Int))} (hl : xs.length = ys.length) (h : EqBufs xs ys xs.length) : xs = ys := by
  apply List.ext_getElem hl
  intro j h1 h2
  have := h j h1
  simpa [h1, h2] using this
theorem eqBufs_next {xs ys : List (List (Int × Int))} {k : Nat} (h : EqBufs xs ys k) (e : xs.getD k [] = ys.getD k []) : EqBufs xs ys (k + 1) := by
  intro j hj
  by_cases c : j = k
  · subst c; exact e
  · exact h j (by omega)

set_option maxRecDepth 100000 in
set_option maxHeartbeats 4000000 in
theorem refSameG_any (a a' q b b' r : Option Addr) (n c n' c' l d m e m' e' k f : Nat) (ws us ts : List Int) (D : Int) (bs ds : List (List (Int × Int))) (w : World) (S1 : Sl w a n ws) (S2 : Sl w a' n' ts) (S : Bl w q l bs) (T1 : Sl w b m us) (T2 : Sl w b' m' ts) (T : Bl w r k ds) (hkl : k = l) (hn : n ≤ 1000) (hn' : n' ≤ 1000) (hl : l ≤ 1000) :
    Calls Tryz.prog 85 #[.agg #[.slice a n c, .slice a' n' c', .int .i64 D, .slice q l d], .agg #[.slice b m e, .slice b' m' e', .int .i64 D, .slice r k f]] w (BoolPost (decide (ws = us ∧ bs = ds)) w) := by
  subst hkl
  obtain rfl : m' = n' := by rw [← S2.1, T2.1]
  have Hl := Lib.hid S.1
  have HT := Lib.hid T.1
  have qD : (D != D) = false := by simp
  have qk : ((k : Int) != k) = false := by simp
  go_enter Tryz.func85, Tryz.ntmps85
  go_wp2_with fail
  refine (Same_any a a' n c m' c' b b' m e m' e' ws ts us ts _ (slA _ (slA _ S1)) (slA _ (slA _ S2)) (slA _ (slA _ T1)) (slA _ (slA _ T2)) (by omega) (by omega)).mono ?_
  rintro x w1 ⟨rfl, hb⟩
  rw [sameB_refl, Bool.and_true]
  have hb1 : Below w.heap.size w w1 := below_from (by go_grown) hb
  have x2 : w1.cell? ⟨w.heap.size, 2, none⟩ = some (.int .i64 D) := cellB hb (cellA _ (by simp))
  have x3 : w1.cell? ⟨w.heap.size, 3, none⟩ = some (.slice q k d) := cellB hb (cellA _ (by simp))
  have y2 : w1.cell? ⟨w.heap.size + 1, 2, none⟩ = some (.int .i64 D) := cellB hb (by simp)
  have y3 : w1.cell? ⟨w.heap.size + 1, 3, none⟩ = some (.slice r k f) := cellB hb (by simp)
  have HB1 := Lib.hid hb1
  replace S := blB hb1 S
  replace T := blB hb1 T
  clear hb hb1 S1 S2 T1 T2
  by_cases hws : ws = us
  · rw [show sameB ws us = true from decide_eq_true hws]
    have HWS := Lib.hid hws
    clear hws
    go_wp2
    go_loopw [31] (fun s wr => ∃ j : Nat, j ≤ k ∧ s = .int .i64 j ∧ Hid (EqBufs bs ds j) ∧ Below w1.heap.size w1 wr) (fun s _ => k - (intOf s).toNat)
    case atStart => exact ⟨0, by omega, rfl, (fun i hi => by omega), Below.refl _ _⟩
    case round =>
      obtain ⟨j, hj, rfl, hag, hb⟩ := hrel
      have HB := Lib.hid hb
      by_cases hlt : j < k
      · obtain ⟨b1, o1, p, pc, rfl, g0, hcap, hp⟩ := bl_at (blB hb S) hlt
        obtain ⟨b2, o2, p2, pc2, rfl, k0, hcap2, hp2⟩ := bl_at (blB hb T) hlt
        obtain ⟨z, hz⟩ : ∃ z, bs.getD j [] = z := ⟨_, rfl⟩
        obtain ⟨y, hy⟩ : ∃ y, ds.getD j [] = y := ⟨_, rfl⟩
        rw [hz] at g0 hp hcap
        rw [hy] at k0 hp2 hcap2
        obtain ⟨u, hu⟩ : ∃ u, z.length = u := ⟨_, rfl⟩
        obtain ⟨v, hv⟩ : ∃ v, y.length = v := ⟨_, rfl⟩
        rw [hu] at g0 hp hcap
        rw [hv] at k0 hp2 hcap2
        have hc2 : u ≤ 9223372036854775807 := by have := hcap.1; have := hcap.2.1; omega
        have HZ := Lib.hid hz
        have HY := Lib.hid hy
        have x3' := cellB hb x3
        have y3' := cellB hb y3
        have i1 : (0 : Int) ≤ j := by omega
        have i2 : (j : Int) < k := by omega
        obtain ⟨sb, hsb⟩ : ∃ sb, samePB z y = sb := ⟨_, rfl⟩
        have HSB := Lib.hid hsb
        clear hb hz hy hu hv hcap hcap2 hsb
        go_wp2_with fail
        have hB0 : Below wr.heap.size wr wr.drew := (Below.refl _ _).drew
        go_region_held3 (fun w' => w'.cell? ⟨w.heap.size, 3, none⟩ = some (.slice (some ⟨b1, o1, none⟩) k d) ∧ w'.cell? ⟨w.heap.size + 1, 3, none⟩ = some (.slice (some ⟨b2, o2, none⟩) k f) ∧ w'.cell? ⟨b1, o1 + j, none⟩ = some (.slice p u pc) ∧ w'.cell? ⟨b2, o2 + j, none⟩ = some (.slice p2 v pc2))
          (first | exact ⟨x3', y3', g0, k0⟩ | (exact ⟨cellB (by assumption) x3', cellB (by assumption) y3', cellB (by assumption) g0, cellB (by assumption) k0⟩))
          ((go_at_call 104; refine (refSameP_any p p2 u pc v pc2 z y _ (plB (by assumption) hp) (plB (by assumption) hp2) hc2).mono ?_; rw [HSB.out]; rintro x w2 ⟨rfl, hb2⟩; have hb2' := below_from (by assumption) hb2))
        have HB2 := Lib.hid (below_from HB.out hb2')
        clear hb2 hb2' hB0 x3' y3' g0 k0
        cases sb with
        | true =>
          have HAG := Lib.hid (eqBufs_next hag.out (by rw [HZ.out, HY.out]; exact of_decide_eq_true HSB.out))
          go_wp2_with fail
          go_roundw
          case rel => exact ⟨j + 1, by omega, by go_num, HAG.out, HB2.out⟩
          case measure => simp [intOf]; omega
        | false =>
          have HNO := Lib.hid (show decide (ws = us ∧ bs = ds) = false from decide_eq_false (fun h => by
            have h2 := of_decide_eq_false HSB.out
            rw [← HZ.out, ← HY.out, h.2] at h2
            exact h2 rfl))
          go_wp2_with fail
          go_ret
          exact boolPost_mk HNO.out (HB1.out.trans (HB2.out.mono HB1.out.size))
      · obtain rfl : j = k := by omega
        have HYES := Lib.hid (show decide (ws = us ∧ bs = ds) = true from decide_eq_true ⟨HWS.out, eqBufs_all (by rw [Hl.out, HT.out]) (by rw [Hl.out]; exact hag.out)⟩)
        clear hb
        go_wp2
        go_ret
        exact boolPost_mk HYES.out (HB1.out.trans (HB.out.mono HB1.out.size))
  · rw [show sameB ws us = false from decide_eq_false hws]
    have HNO := Lib.hid (show decide (ws = us ∧ bs = ds) = false from decide_eq_false (fun h => hws h.1))
    clear hws
    go_wp2_with fail
    go_ret
    exact boolPost_mk HNO.out HB1.out
end Go.Proofs.YtiebaeaomgpicaaGreat
