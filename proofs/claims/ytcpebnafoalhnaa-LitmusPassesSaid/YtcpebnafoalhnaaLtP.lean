/- The walk of LitmusPasses. -/
import Derived.Test.YtcpebnafoalhnaaLtB
import Derived.Test.YtcpebnafoalhnaaMT
namespace Go.Proofs.Ytcpebnafoalhnaa
open Go.ChangeShapes Go.WideShapes Go.ChangeAt Go.RowKit
open Gen
theorem rem_p (z : Int) (k : Int) (hk : 0 < k) (hk9 : k ≤ 9) : wrap64 (z.tmod k + k) = z.tmod k + k ∧ 0 ≤ (z.tmod k + k).tmod k ∧ (z.tmod k + k).tmod k < k := by
  have h1 := Int.lt_tmod_of_pos z hk
  have h2 := Int.tmod_lt_of_pos z hk
  refine ⟨IntWalk.wrap64_in _ (by omega), Int.tmod_nonneg k (by omega), Int.tmod_lt_of_pos _ hk⟩
/-- a test of two threads, written out -/
theorem lit_two {w W4 : World} {xs ys : List Mv} {W D : Int} {k m : Nat} (cs1 cs2 : List Value) (h1 : cs1 = xs.flatMap int3) (h2 : cs2 = ys.flatMap int3) (hk : xs.length = k) (hm : ys.length = m) (hk2 : k ≤ 1000) (hm2 : m ≤ 1000)
    (hW : W4 = (((w.alloc (Obj.cells cs1.toArray 28)).alloc (Obj.cells cs2.toArray 28)).alloc (Obj.cells #[.slice (some ⟨w.heap.size, 0, none⟩) k k, .slice (some ⟨w.heap.size + 1, 0, none⟩) m m] 26)).alloc (Obj.cells #[.int .i64 W, .int .i64 D, .slice (some ⟨w.heap.size + 1 + 1, 0, none⟩) 2 2] 24)) :
    VarN W4 (w.heap.size + 1 + 1 + 1) [.int .i64 W, .int .i64 D, .slice (some ⟨w.heap.size + 1 + 1, 0, none⟩) 2 2] ∧ Vs (repSlice repInt3) Any W4 (some ⟨w.heap.size + 1 + 1, 0, none⟩) 2 (xs :: ys :: []) ∧ Below w.heap.size w W4 := by
  subst h1 h2 hk hm
  have V1 : Vs repInt3 Any (w.alloc (Obj.cells (xs.flatMap int3).toArray 28)) (some ⟨w.heap.size, 0, none⟩) xs.length xs := vs_new (r := repInt3) w.heap.size rfl trivial (flat_mv xs)
  have V2 : Vs repInt3 Any ((w.alloc (Obj.cells (xs.flatMap int3).toArray 28)).alloc (Obj.cells (ys.flatMap int3).toArray 28)) (some ⟨w.heap.size + 1, 0, none⟩) ys.length ys := vs_new (r := repInt3) (w.heap.size + 1) (by simp) trivial (flat_mv ys)
  have V3 := vs_new (t := 26) (r := repSlice repInt3) (Q := Any) (w.heap.size + 1 + 1) (by simp) trivial (flat_two (Nat.le_refl _) (by omega) (fun h => by cases h) (vs_A _ V1) (Nat.le_refl _) (by omega) (fun h => by cases h) V2)
  refine ⟨?_, ?_, ?_⟩
  · rw [hW]; exact varN_new [.int .i64 W, .int .i64 D, .slice (some ⟨w.heap.size + 1 + 1, 0, none⟩) 2 2] _ (by simp)
  · rw [hW]; exact vs_A _ V3
  · rw [hW]; go_grown
theorem ints4 (w : World) (x y z u : Int) : Vs repInt Any (w.alloc (Obj.cells #[.int .i64 x, .int .i64 y, .int .i64 z, .int .i64 u] 3)) (some ⟨w.heap.size, 0, none⟩) 4 (x :: y :: z :: u :: []) :=
  vs_new (r := repInt) (cs := [.int .i64 x, .int .i64 y, .int .i64 z, .int .i64 u]) w.heap.size rfl trivial (flat_map1 (.int .i64) (x :: y :: z :: u :: []))
theorem short_two {xs ys : List Mv} (h1 : xs.length ≤ 100) (h2 : ys.length ≤ 100) : ∀ t ∈ xs :: ys :: [], t.length ≤ 100 := by
  intro t ht
  rcases List.mem_cons.1 ht with rfl | ht
  · exact h1
  · rcases List.mem_cons.1 ht with rfl | ht
    · exact h2
    · cases ht

set_option maxRecDepth 100000 in
set_option maxHeartbeats 8000000 in
theorem Passes_walk (z0 z1 z2 : Int) (w : World) : Calls Try.prog 5 #[.int .i64 z0, .int .i64 z1, .int .i64 z2] w (BoolPost true w) := by
  obtain ⟨ra, a0, a8⟩ := rem_p z0 9 (by decide) (by decide)
  obtain ⟨rb, b0, b8⟩ := rem_p z1 9 (by decide) (by decide)
  obtain ⟨rd, d0, d3⟩ := rem_p z2 4 (by decide) (by decide)
  obtain ⟨pa, hpa⟩ : ∃ x, (z0.tmod 9 + 9).tmod 9 = x := ⟨_, rfl⟩
  obtain ⟨pb, hpb⟩ : ∃ x, (z1.tmod 9 + 9).tmod 9 = x := ⟨_, rfl⟩
  obtain ⟨D, hpd⟩ : ∃ x, (z2.tmod 4 + 4).tmod 4 = x := ⟨_, rfl⟩
  rw [hpa] at a0 a8
  rw [hpb] at b0 b8
  rw [hpd] at d0 d3
  obtain ⟨a, ha⟩ : ∃ x, 1 + pa = x := ⟨_, rfl⟩
  obtain ⟨b, hb⟩ : ∃ x, 1 + pb = x := ⟨_, rfl⟩
  have ha9 : 1 ≤ a ∧ a ≤ 9 := by omega
  have hb9 : 1 ≤ b ∧ b ≤ 9 := by omega
  have hD3 : 0 ≤ D ∧ D ≤ 3 := by omega
  obtain ⟨k, rfl⟩ : ∃ k : Nat, D = k := ⟨D.toNat, by omega⟩
  have hk3 : k ≤ 3 := by omega
  have MS := Lib.hid (may_send ha9 hb9 hD3)
  have MC := Lib.hid (may_cross ha9 hb9 hD3)
  have E1 := Lib.hid (show decide (b :: 0 :: a :: b :: [] ∈ rowsL 2 k (sendL a b)) = false from decide_eq_false (send_missed ha9 hb9 hD3))
  have E2 := Lib.hid (show decide (b :: a :: a :: b :: [] ∈ rowsL 2 k (sendL a b)) = true from decide_eq_true (send_got ha9 hb9 k hk3).1)
  have E3 := Lib.hid (show decide (0 :: a :: a :: b :: [] ∈ rowsL 2 k (sendL a b)) = true from decide_eq_true (send_got ha9 hb9 k hk3).2)
  have E4 := Lib.hid (show decide (0 :: 0 :: a :: b :: [] ∈ rowsL 2 k (crossL a b)) = decide (0 < (k : Int)) by
    by_cases hk : k = 0
    · subst hk; rw [decide_eq_false (show ¬ 0 :: 0 :: a :: b :: [] ∈ rowsL 2 ((0 : Nat) : Int) (crossL a b) from cross_none ha9 hb9)]; rfl
    · rw [decide_eq_true (cross_both ha9 hb9 k (by omega) hk3)]; exact (decide_eq_true (by omega)).symm)
  have HS := Lib.hid (short_two (xs := (0, 0, a) :: (0, 1, b) :: []) (ys := (1, 1, 0) :: (1, 0, 0) :: []) (by simp) (by simp))
  have HC := Lib.hid (short_two (xs := (0, 0, a) :: (1, 1, 0) :: []) (ys := (0, 1, b) :: (1, 0, 0) :: []) (by simp) (by simp))
  clear ha9 hb9 hD3 hk3
  go_enter Try.func5, Try.ntmps5
  go_upto_region 2 with fail
  clear ra rb rd hpa hpb hpd ha hb a0 a8 b0 b8 d0 d3
  obtain ⟨L, hL⟩ : ∃ X, X = ((((w.alloc (Obj.cells #[.int .i64 0, .int .i64 0, .int .i64 a, .int .i64 0, .int .i64 1, .int .i64 b] 28)).alloc (Obj.cells #[.int .i64 1, .int .i64 1, .int .i64 0, .int .i64 1, .int .i64 0, .int .i64 0] 28)).alloc (Obj.cells #[.slice (some ⟨w.heap.size, 0, none⟩) 2 2, .slice (some ⟨w.heap.size + 1, 0, none⟩) 2 2] 26)).alloc (Obj.cells #[.int .i64 2, .int .i64 k, .slice (some ⟨w.heap.size + 1 + 1, 0, none⟩) 2 2] 24)) := ⟨_, rfl⟩
  obtain ⟨XL, VL, BL⟩ := lit_two (xs := (0, 0, a) :: (0, 1, b) :: []) (ys := (1, 1, 0) :: (1, 0, 0) :: []) [.int .i64 0, .int .i64 0, .int .i64 a, .int .i64 0, .int .i64 1, .int .i64 b] [.int .i64 1, .int .i64 1, .int .i64 0, .int .i64 1, .int .i64 0, .int .i64 0] rfl rfl rfl rfl (by simp) (by simp) hL
  have HXL := Lib.hid XL
  have HVL := Lib.hid VL
  have HBL := Lib.hid BL
  have HL := Lib.hid hL
  clear hL XL VL BL
  go_upto_region 3 with fail
  rw [← HL.out]
  obtain ⟨G1, hG1⟩ : ∃ X, X = L.alloc (Obj.cells #[.int .i64 b, .int .i64 0, .int .i64 a, .int .i64 b] 3) := ⟨_, rfl⟩
  have q1 : Below L.heap.size L G1 := by rw [hG1]; go_grown
  have c1 := can_any 2 k (some ⟨w.heap.size + 1 + 1, 0, none⟩) 2 (sendL a b) (b :: 0 :: a :: b :: []) (some ⟨L.heap.size, 0, none⟩) 4 4 G1 (vs_B q1 HVL.out) HS.out MS.out (by rw [hG1]; exact ints4 L _ _ _ _) (by decide)
  rw [E1.out] at c1
  have HG1 := Lib.hid hG1
  have HB1 := Lib.hid (below_from HBL.out q1)
  have HC1 := Lib.hid c1
  obtain ⟨x0, -⟩ := HXL.out 0 _ rfl
  obtain ⟨x1, -⟩ := HXL.out 1 _ rfl
  obtain ⟨x2, -⟩ := HXL.out 2 _ rfl
  have HXL1 := Lib.hid (varN_B q1 HXL.out)
  have HVL1 := Lib.hid (vs_B q1 HVL.out)
  clear hG1 q1 c1
  go_wp2_with fail
  rw [← HG1.out]
  refine HC1.out.mono ?_
  rintro e w1 ⟨rfl, hb1⟩
  have HBw1 := Lib.hid (below_from HB1.out hb1)
  have HXLw1 := Lib.hid (varN_B hb1 HXL1.out)
  have HVLw1 := Lib.hid (vs_B hb1 HVL1.out)
  clear hb1 x0 x1 x2
  obtain ⟨G2, hG2⟩ : ∃ X, X = w1.alloc (Obj.cells #[.int .i64 b, .int .i64 a, .int .i64 a, .int .i64 b] 3) := ⟨_, rfl⟩
  have q2 : Below w1.heap.size w1 G2 := by rw [hG2]; go_grown
  have c2 := can_any 2 k (some ⟨w.heap.size + 1 + 1, 0, none⟩) 2 (sendL a b) (b :: a :: a :: b :: []) (some ⟨w1.heap.size, 0, none⟩) 4 4 G2 (vs_B q2 HVLw1.out) HS.out MS.out (by rw [hG2]; exact ints4 w1 _ _ _ _) (by decide)
  rw [E2.out] at c2
  have HG2 := Lib.hid hG2
  have HB2 := Lib.hid (below_from HBw1.out q2)
  have HC2 := Lib.hid c2
  obtain ⟨x0, -⟩ := HXLw1.out 0 _ rfl
  obtain ⟨x1, -⟩ := HXLw1.out 1 _ rfl
  obtain ⟨x2, -⟩ := HXLw1.out 2 _ rfl
  have HXL2 := Lib.hid (varN_B q2 HXLw1.out)
  have HVL2 := Lib.hid (vs_B q2 HVLw1.out)
  clear hG2 q2 c2
  go_wp2_with fail
  rw [← HG2.out]
  refine HC2.out.mono ?_
  rintro e w2 ⟨rfl, hb2⟩
  have HBw2 := Lib.hid (below_from HB2.out hb2)
  have HXLw2 := Lib.hid (varN_B hb2 HXL2.out)
  have HVLw2 := Lib.hid (vs_B hb2 HVL2.out)
  clear hb2 x0 x1 x2
  obtain ⟨G3, hG3⟩ : ∃ X, X = w2.alloc (Obj.cells #[.int .i64 0, .int .i64 a, .int .i64 a, .int .i64 b] 3) := ⟨_, rfl⟩
  have q3 : Below w2.heap.size w2 G3 := by rw [hG3]; go_grown
  have c3 := can_any 2 k (some ⟨w.heap.size + 1 + 1, 0, none⟩) 2 (sendL a b) (0 :: a :: a :: b :: []) (some ⟨w2.heap.size, 0, none⟩) 4 4 G3 (vs_B q3 HVLw2.out) HS.out MS.out (by rw [hG3]; exact ints4 w2 _ _ _ _) (by decide)
  rw [E3.out] at c3
  have HG3 := Lib.hid hG3
  have HB3 := Lib.hid (below_from HBw2.out q3)
  have HC3 := Lib.hid c3
  obtain ⟨x0, -⟩ := HXLw2.out 0 _ rfl
  obtain ⟨x1, -⟩ := HXLw2.out 1 _ rfl
  obtain ⟨x2, -⟩ := HXLw2.out 2 _ rfl
  have HXL3 := Lib.hid (varN_B q3 HXLw2.out)
  have HVL3 := Lib.hid (vs_B q3 HVLw2.out)
  clear hG3 q3 c3
  go_wp2_with fail
  rw [← HG3.out]
  refine HC3.out.mono ?_
  rintro e w3 ⟨rfl, hb3⟩
  have HBw3 := Lib.hid (below_from HB3.out hb3)
  have HXLw3 := Lib.hid (varN_B hb3 HXL3.out)
  have HVLw3 := Lib.hid (vs_B hb3 HVL3.out)
  clear hb3 x0 x1 x2
  obtain ⟨K, hK⟩ : ∃ X, X = ((((w3.alloc (Obj.cells #[.int .i64 0, .int .i64 0, .int .i64 a, .int .i64 1, .int .i64 1, .int .i64 0] 28)).alloc (Obj.cells #[.int .i64 0, .int .i64 1, .int .i64 b, .int .i64 1, .int .i64 0, .int .i64 0] 28)).alloc (Obj.cells #[.slice (some ⟨w3.heap.size, 0, none⟩) 2 2, .slice (some ⟨w3.heap.size + 1, 0, none⟩) 2 2] 26)).alloc (Obj.cells #[.int .i64 2, .int .i64 k, .slice (some ⟨w3.heap.size + 1 + 1, 0, none⟩) 2 2] 24)) := ⟨_, rfl⟩
  obtain ⟨XK, VK, BK⟩ := lit_two (xs := (0, 0, a) :: (1, 1, 0) :: []) (ys := (0, 1, b) :: (1, 0, 0) :: []) [.int .i64 0, .int .i64 0, .int .i64 a, .int .i64 1, .int .i64 1, .int .i64 0] [.int .i64 0, .int .i64 1, .int .i64 b, .int .i64 1, .int .i64 0, .int .i64 0] rfl rfl rfl rfl (by simp) (by simp) hK
  have HXK := Lib.hid XK
  have HVK := Lib.hid VK
  have HBK := Lib.hid (below_from HBw3.out BK)
  have HK := Lib.hid hK
  clear hK XK VK BK
  go_upto_region 7 with fail
  rw [← HK.out]
  obtain ⟨G4, hG4⟩ : ∃ X, X = K.alloc (Obj.cells #[.int .i64 0, .int .i64 0, .int .i64 a, .int .i64 b] 3) := ⟨_, rfl⟩
  have q4 : Below K.heap.size K G4 := by rw [hG4]; go_grown
  have c4 := can_any 2 k (some ⟨w3.heap.size + 1 + 1, 0, none⟩) 2 (crossL a b) (0 :: 0 :: a :: b :: []) (some ⟨K.heap.size, 0, none⟩) 4 4 G4 (vs_B q4 HVK.out) HC.out MC.out (by rw [hG4]; exact ints4 K _ _ _ _) (by decide)
  rw [E4.out] at c4
  have HG4 := Lib.hid hG4
  have HB4 := Lib.hid (below_from HBK.out q4)
  have HC4 := Lib.hid c4
  obtain ⟨x0, -⟩ := HXK.out 0 _ rfl
  obtain ⟨x1, -⟩ := HXK.out 1 _ rfl
  obtain ⟨x2, -⟩ := HXK.out 2 _ rfl
  have HXK4 := Lib.hid (varN_B q4 HXK.out)
  have HVK4 := Lib.hid (vs_B q4 HVK.out)
  clear hG4 q4 c4
  go_wp2_with fail
  rw [← HG4.out]
  refine HC4.out.mono ?_
  rintro e w4 ⟨rfl, hb4⟩
  have HBw4 := Lib.hid (below_from HB4.out hb4)
  have HXKw4 := Lib.hid (varN_B hb4 HXK4.out)
  have HVKw4 := Lib.hid (vs_B hb4 HVK4.out)
  clear hb4 x0 x1 x2
  go_wp2_with fail
  refine (alive4_any w4).mono ?_
  rintro e w5 ⟨rfl, hb5⟩
  have HB5 := Lib.hid (below_from HBw4.out hb5)
  clear hb5
  have q0 : (decide (0 < (k : Int)) == decide (0 < (k : Int))) = true := by simp
  go_wp2
  go_ret
  exact boolPost_mk rfl HB5.out
end Go.Proofs.Ytcpebnafoalhnaa
