/- Contracts of the statements' own helpers of layer 1: mem, alive. -/
import Derived.Test.YtmkpjmcekoenbaaMemD
namespace Go.Proofs.Ytmkpjmcekoenbaa
open Go.ChangeShapes Go.WideShapes Go.ChangeAt Go.RowKit

theorem mem_any (a a' : Option Addr) (n c n' c' : Nat) (w : World) (h1 : n ≤ c) (h2 : n' ≤ c') (_h3 : c ≤ 9223372036854775807) (_h4 : c' ≤ 9223372036854775807) :
    Calls Try.prog 8 #[.slice a n c, .slice a' n' c'] w fun e w' => e = .returned (.agg #[.slice a (min n 170) c, .slice a' (min n' 170) c']) ∧ Below w.heap.size w w' := by
  go_enter Try.func8, Try.ntmps8
  go_wp2
  go_region
  have e1 : (if 170 < (n : Int) then 170 else (n : Int)).toNat = min n 170 := by split <;> omega
  have e2 : (if 170 < (n' : Int) then 170 else (n' : Int)).toNat = min n' 170 := by split <;> omega
  generalize (if 170 < (n : Int) then 170 else (n : Int)) = x at e1 ⊢
  generalize (if 170 < (n' : Int) then 170 else (n' : Int)) = y at e2 ⊢
  rw [e1, e2]
  clear e1 e2
  go_wp2
  refine bp_cell ⟨w.heap.size, 0, none⟩ rfl rfl rfl (load_mem _ _ _ _ (by simp; rfl) (by simp; rfl)) ?_
  exact ⟨rfl, by go_grown⟩

set_option maxHeartbeats 2000000 in
theorem alive_any (w : World) : Calls Try.prog 13 #[] w fun e w' => e = .returned (.bool true) ∧ Below w.heap.size w w' := by
  go_enter Try.func13, Try.ntmps13
  go_wp2_with fail
  refine (New_any 2 w).mono ?_
  rintro e w1 ⟨a, n, c, a', n', c', rfl, s1, s2, hb1⟩
  rw [show newE 2 = 0 from rfl]
  go_wp2_with fail
  refine (Mark_any a a' n c n' c' (newL 2) (newL 2) 1 1 1 _ (slA _ s1.sl) (slA _ s2.sl) (by decide)).mono ?_
  rintro e w2 ⟨p, m, d, p', m', d', rfl, t1, t2, hb2⟩
  have hz2 := hb2.size
  rw [World.size_alloc] at hz2
  obtain ⟨hc2, hf2⟩ := bcell hb2
  have b2 : Below w.heap.size w w2 := (hb1.alloc hb1.size _).trans (hb2.mono (by have := hb1.size; simp; omega))
  rw [show markE (newL 2) (newL 2) 1 1 1 = 0 from by decide]
  go_wp2_with fail
  have u1 := slF_set (slF_set t1 ⟨w1.heap.size, 0, none⟩ (by simp) (.slice p m d)) ⟨w1.heap.size, 1, none⟩ (by simp) (.slice p' m' d')
  have u2 := slF_set (slF_set t2 ⟨w1.heap.size, 0, none⟩ (by simp) (.slice p m d)) ⟨w1.heap.size, 1, none⟩ (by simp) (.slice p' m' d')
  have g0 : w2.cell? ⟨w1.heap.size, 0, none⟩ = some (.slice a n c) := by rw [hc2 _ _ (by simp)]; simp
  have g1 : w2.cell? ⟨w1.heap.size, 1, none⟩ = some (.slice a' n' c') := by rw [hc2 _ _ (by simp)]; simp
  have b3 : Below w.heap.size w ((w2.setCell ⟨w1.heap.size, 0, none⟩ (.slice p m d)).setCell ⟨w1.heap.size, 1, none⟩ (.slice p' m' d')) := (b2.setCell hb1.size _).setCell hb1.size _
  obtain ⟨W, hW⟩ : ∃ W, W = (w2.setCell ⟨w1.heap.size, 0, none⟩ (.slice p m d)).setCell ⟨w1.heap.size, 1, none⟩ (.slice p' m' d') := ⟨_, rfl⟩
  have k0 : W.cell? ⟨w1.heap.size, 0, none⟩ = some (.slice p m d) := by rw [hW]; go_cell_look
  have k1 : W.cell? ⟨w1.heap.size, 1, none⟩ = some (.slice p' m' d') := by rw [hW]; go_cell_look
  have kf0 : W.frozen? ⟨w1.heap.size, 0, none⟩ = false := by rw [hW]; simp; rw [hf2 _ _ (by simp)]; exact free_row (heap_new _ _ _ rfl)
  have kf1 : W.frozen? ⟨w1.heap.size, 1, none⟩ = false := by rw [hW]; simp; rw [hf2 _ _ (by simp)]; exact free_row (heap_new _ _ _ rfl)
  have hWs : w1.heap.size < W.heap.size := by rw [hW]; simp; omega
  rw [← hW] at u1 u2 b3 ⊢
  clear hW g0 g1 b2 hc2 hf2 hz2 t1 t2
  refine (Store_any p p' m d m' d' _ _ 1 5 _ u1.sl u2.sl (by decide)).mono ?_
  rintro e w3 ⟨q, l, f, q', l', f', rfl, v1, v2, hb3⟩
  have hz3 := hb3.size
  have b4 : Below w.heap.size w w3 := below_from b3 hb3
  have j0 : w3.cell? ⟨w1.heap.size, 0, none⟩ = some (.slice p m d) := cellB hb3 k0
  have j1 : w3.cell? ⟨w1.heap.size, 1, none⟩ = some (.slice p' m' d') := cellB hb3 k1
  have f0 : w3.frozen? ⟨w1.heap.size, 0, none⟩ = false := (hb3.frozen (p := ⟨w1.heap.size, 0, none⟩) hWs).trans kf0
  have f1 : w3.frozen? ⟨w1.heap.size, 1, none⟩ = false := (hb3.frozen (p := ⟨w1.heap.size, 1, none⟩) hWs).trans kf1
  rw [show usableZ (markW (newL 2) (newL 2) 1 1 1) (markT (newL 2) (newL 2) 1 1 1) 1 = 0 from by decide]
  have x1 := slF_set (slF_set v1 ⟨w1.heap.size, 0, none⟩ hWs (.slice q l f)) ⟨w1.heap.size, 1, none⟩ hWs (.slice q' l' f')
  have x2 := slF_set (slF_set v2 ⟨w1.heap.size, 0, none⟩ hWs (.slice q l f)) ⟨w1.heap.size, 1, none⟩ hWs (.slice q' l' f')
  have b5 : Below w.heap.size w ((w3.setCell ⟨w1.heap.size, 0, none⟩ (.slice q l f)).setCell ⟨w1.heap.size, 1, none⟩ (.slice q' l' f')) := (b4.setCell hb1.size _).setCell hb1.size _
  go_wp2_with fail
  refine (Load_any q q' l f l' f' _ _ 1 _ x1.sl x2.sl (by decide)).mono ?_
  rintro e w4 ⟨rfl, hb4⟩
  have b6 : Below w.heap.size w w4 := below_from b5 hb4
  rw [show usableZ (storeW (markW (newL 2) (newL 2) 1 1 1) (markT (newL 2) (newL 2) 1 1 1) 1 5) (storeT (markW (newL 2) (newL 2) 1 1 1) (markT (newL 2) (newL 2) 1 1 1) 1) 1 = 0 from by decide, show loadZ (storeW (markW (newL 2) (newL 2) 1 1 1) (markT (newL 2) (newL 2) 1 1 1) 1 5) (storeT (markW (newL 2) (newL 2) 1 1 1) (markT (newL 2) (newL 2) 1 1 1) 1) 1 = 5 from by decide]
  clear j0 j1 f0 f1 x1 x2 b5 v1 v2 b4 k0 k1 kf0 kf1
  go_wp2
  go_ret
  exact ⟨rfl, b6⟩
end Go.Proofs.Ytmkpjmcekoenbaa
