/- Contracts of package pool: New. -/
import Derived.Test.YtnkhgofpdgnemaaPlG
namespace Go.Proofs.Ytnkhgofpdgnemaa
open Go.ChangeShapes Go.WideShapes Go.ChangeAt Go.RowKit Gen

theorem plRight_new (s b m : Int) : plRight s b m [] = plFit s b m := by
  cases hf : plFit s b m with
  | false => simp [plRight, hf]
  | true => exact plRight_iff.2 ⟨hf, by constructor <;> simp⟩

set_option maxHeartbeats 4000000 in
theorem plNew_any (s b m : Int) (w : World) : Calls Try.prog 8 #[.int .i64 s, .int .i64 b, .int .i64 m] w (PlPost2 (plNew s b m) w) := by
  have hZ := varN_new [.int .i64 0, .int .i64 0, .int .i64 0, .slice none 0 0] (t := 24) (w := w) w.heap.size rfl
  have hA := varN_new [.int .i64 s, .int .i64 b, .int .i64 m, .slice none 0 0] (t := 24) (w := w.alloc (.cells #[.int .i64 0, .int .i64 0, .int .i64 0, .slice none 0 0] 24)) (w.heap.size + 1) (by simp)
  have HA0 := Lib.hid hA
  have HZ0 := Lib.hid (varN_A (.cells #[.int .i64 s, .int .i64 b, .int .i64 m, .slice none 0 0] 24) hZ)
  have HB0 := Lib.hid (show Below w.heap.size w ((w.alloc (.cells #[.int .i64 0, .int .i64 0, .int .i64 0, .slice none 0 0] 24)).alloc (.cells #[.int .i64 s, .int .i64 b, .int .i64 m, .slice none 0 0] 24)) by go_grown)
  clear hA hZ
  cases hf : plFit s b m with
  | false =>
    have HR := Lib.hid ((plRight_new s b m).trans hf)
    have HT := Lib.hid (show plNew s b m = (pl0, 1) by simp [plNew, hf])
    clear hf
    go_enter Try.func8, Try.ntmps8
    go_wp2_with fail
    refine (plRight_any s b m none 0 0 [] _ (sl_nil _) (by omega)).mono ?_
    rintro e w1 ⟨rfl, hb⟩
    rw [HR.out]
    have HB := Lib.hid (below_from HB0.out hb)
    have HZ := Lib.hid (varN_B hb HZ0.out)
    obtain ⟨x0, f0⟩ := HZ.out 0 _ rfl
    obtain ⟨x1, f1⟩ := HZ.out 1 _ rfl
    obtain ⟨x2, f2⟩ := HZ.out 2 _ rfl
    obtain ⟨x3, f3⟩ := HZ.out 3 _ rfl
    clear hb
    go_wp2
    have HZ2 := varN_all (xs := [.int .i64 0, .int .i64 0, .int .i64 0, .slice none 0 0]) HZ.out rfl
    refine bp_cell_tmp ⟨w.heap.size, 0, none⟩ rfl rfl rfl (plLoad HZ2) ?_
    exact plPost2_0 HT.out (pl_below4 (by omega) HB.out)
  | true =>
    have hm0 : 0 ≤ m := (plFit_iff.1 hf).2.2.1
    have hm16 : m.toNat ≤ 16 := by have := (plFit_iff.1 hf).2.2.2.1; omega
    have HR := Lib.hid ((plRight_new s b m).trans hf)
    have Hf := Lib.hid (show plFit s b (m.toNat : Int) = true by rw [Int.toNat_of_nonneg hm0]; exact hf)
    have HT := Lib.hid (show plNew s b m = (⟨s, b, m, (plBl s b m.toNat).reverse⟩, 0) by simp [plNew, hf])
    have HM := Lib.hid hm0
    clear hf hm0
    go_enter Try.func8, Try.ntmps8
    go_wp2_with fail
    refine (plRight_any s b m none 0 0 [] _ (sl_nil _) (by omega)).mono ?_
    rintro e w1 ⟨rfl, hb⟩
    rw [HR.out]
    have HB := Lib.hid (below_from HB0.out hb)
    have HZ := Lib.hid (varN_B hb HZ0.out)
    have HA := Lib.hid (varN_B hb HA0.out)
    have hsz : w.heap.size + 1 < w1.heap.size := varN_lt HA.out (by simp)
    obtain ⟨z0, -⟩ := HA.out 0 _ rfl
    obtain ⟨z1, -⟩ := HA.out 1 _ rfl
    obtain ⟨z2, -⟩ := HA.out 2 _ rfl
    obtain ⟨z3, -⟩ := HA.out 3 _ rfl
    clear hb
    go_wp2_with fail
    refine (plBlocks_any s b m none 0 0 _).mono ?_
    rintro e w2 ⟨rfl, hw2⟩
    have hb2 : Below w1.heap.size w1 w2 := by rw [hw2]; exact (Below.refl _ _).alloc (Nat.le_refl _) _
    have hX : PlBox s b m.toNat w1.heap.size w2 := by rw [hw2]; exact plBox_new HM.out _ _ rfl
    have hs2 : w1.heap.size ≤ w2.heap.size := hb2.size
    clear hw2 z0 z1 z2 z3
    have HA2 := Lib.hid (varN_B hb2 HA.out)
    have HZ2 := Lib.hid (varN_B hb2 HZ.out)
    have HB2 := Lib.hid hb2
    have HX := Lib.hid hX
    clear hb2 hX
    go_wp2_with fail
    refine (plCollect_any s b m.toNat w1.heap.size w2 Hf.out HX.out).mono ?_
    rintro e w3 ⟨v, rfl, hown, hb3⟩
    rw [plBl_length] at hown
    obtain ⟨q, d, rfl⟩ := pl_own_form hown
    have HO := Lib.hid hown
    have HB3 := Lib.hid (HB2.out.trans (hb3.mono hs2))
    have HA3 := Lib.hid (varN_B hb3 HA2.out)
    have HZ3 := Lib.hid (varN_B hb3 HZ2.out)
    obtain ⟨z3, g3⟩ := HA3.out 3 _ rfl
    obtain ⟨W, hW⟩ : ∃ W, w3.setCell ⟨w.heap.size + 1, 3, none⟩ (.slice q m.toNat d) = W := ⟨_, rfl⟩
    have HO4 := Lib.hid (show W.ownsRow w2.heap.size 3 1 (.slice q m.toNat d) m.toNat ((plBl s b m.toNat).map (Value.int .i64)) by
      rw [← hW]; exact Gen.own_set hown _ (Gen.own_fresh hown (.inr (show w.heap.size + 1 < w2.heap.size by omega))) _)
    have HA4 := Lib.hid (show VarN W (w.heap.size + 1) [.int .i64 s, .int .i64 b, .int .i64 m, .slice q m.toNat d] by
      rw [← hW]; exact varN_set HA3.out 3 (by simp) _)
    have HZ4 := Lib.hid (show VarN W w.heap.size [.int .i64 0, .int .i64 0, .int .i64 0, .slice none 0 0] by
      rw [← hW]; exact varN_other HZ3.out (by omega) _)
    have HB4 := Lib.hid (show Below w.heap.size w W by
      rw [← hW]; exact (HB.out.trans (HB3.out.mono HB.out.size)).setCell (p := ⟨w.heap.size + 1, 3, none⟩) (by simp) _)
    have HW := Lib.hid hW
    have hcd := Lib.hid (pl_own_cap hown)
    clear hown hb3 hW
    obtain ⟨y3, -⟩ := HA4.out 3 _ rfl
    go_wp2_with fail
    rw [HW.out]
    refine (plRev_own (.slice q m.toNat d) m.toNat (plBl s b m.toNat) W w2.heap.size HO4.out (by omega)).mono ?_
    rintro e w5 ⟨rfl, ⟨q', d', e', hs⟩, hb5⟩
    injection e' with e1 e2 e3
    subst e1 e3
    have HA5 := Lib.hid (varN_low hb5 (show w.heap.size + 1 < w2.heap.size by omega) HA4.out)
    have HZ5 := Lib.hid (varN_low hb5 (show w.heap.size < w2.heap.size by omega) HZ4.out)
    have HB5 := Lib.hid (HB4.out.trans (hb5.mono (show w.heap.size ≤ w2.heap.size by omega)))
    have HS := Lib.hid hs
    obtain ⟨z0, -⟩ := HA5.out 0 _ rfl
    obtain ⟨z1, -⟩ := HA5.out 1 _ rfl
    obtain ⟨z2, -⟩ := HA5.out 2 _ rfl
    obtain ⟨z4, -⟩ := HA5.out 3 _ rfl
    obtain ⟨x0, f0⟩ := HZ5.out 0 _ rfl
    obtain ⟨x1, f1⟩ := HZ5.out 1 _ rfl
    obtain ⟨x2, f2⟩ := HZ5.out 2 _ rfl
    obtain ⟨x3, f3⟩ := HZ5.out 3 _ rfl
    clear hs hb5 y3 z3 g3
    go_wp2
    have HZ6 := varN_all (xs := [.int .i64 s, .int .i64 b, .int .i64 m, .slice q m.toNat d]) HZ5.out rfl
    refine bp_cell_tmp ⟨w.heap.size, 0, none⟩ rfl rfl rfl (plLoad HZ6) ?_
    exact plPost2_mk HT.out (by simp [plBl_length]) hcd.out (show w.heap.size ≤ w2.heap.size by omega) (pl_slF4 (show w.heap.size < w2.heap.size by omega) HS.out) (pl_below4 (Nat.le_refl _) HB5.out)
end Go.Proofs.Ytnkhgofpdgnemaa
