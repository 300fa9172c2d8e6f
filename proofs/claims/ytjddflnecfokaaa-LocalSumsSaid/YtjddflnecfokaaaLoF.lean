/- Package local: becomes. -/
import Derived.Test.YtjddflnecfokaaaLoE
namespace Go.Proofs.Ytjddflnecfokaaa
open Go.ChangeShapes Go.WideShapes Go.ChangeAt Go.RowKit
open Gen

set_option maxRecDepth 100000 in
set_option maxHeartbeats 4000000 in
theorem lo_becomes_any (t : Thr) (self : Int) (i : In4) (v : Int) (fa la : Option Addr) (fn fc ln lc : Nat) (w : World) (h : 0 ≤ i.2.1 ∧ i.2.1 ≤ 7) (hp : 0 ≤ t.pc ∧ t.pc ≤ 1000) :
    Calls Try.prog 54 #[.agg #[.int .i64 t.pc, .int .i64 (t.r 0), .int .i64 (t.r 1), .int .i64 (t.r 2), .int .i64 (t.r 3), .int .i64 (t.r 4), .int .i64 (t.r 5), .int .i64 (t.r 6), .int .i64 (t.r 7), .slice fa fn fc, .int .i64 t.st, .int .i64 t.ft, .slice la ln lc, .int .i64 self, .int .i64 i.1, .int .i64 i.2.1, .int .i64 i.2.2.1, .int .i64 i.2.2.2], .int .i64 v] w (ThIs (putT t i.2.1 v) fa la fn fc ln lc 0 w) := by
  obtain ⟨j, hj, hj8⟩ := reg_cases h
  obtain ⟨W, hW⟩ : ∃ W, W = (w.alloc (Obj.cells #[.int .i64 t.pc, .int .i64 (t.r 0), .int .i64 (t.r 1), .int .i64 (t.r 2), .int .i64 (t.r 3), .int .i64 (t.r 4), .int .i64 (t.r 5), .int .i64 (t.r 6), .int .i64 (t.r 7), .slice fa fn fc, .int .i64 t.st, .int .i64 t.ft, .slice la ln lc, .int .i64 self, .int .i64 i.1, .int .i64 i.2.1, .int .i64 i.2.2.1, .int .i64 i.2.2.2] 55)).alloc (Obj.cells #[.int .i64 0, .int .i64 0, .int .i64 0, .int .i64 0, .int .i64 0, .int .i64 0, .int .i64 0, .int .i64 0, .int .i64 0, .slice none 0 0, .int .i64 0, .int .i64 0, .slice none 0 0] 27) := ⟨_, rfl⟩
  have X : VarN W w.heap.size [.int .i64 t.pc, .int .i64 (t.r 0), .int .i64 (t.r 1), .int .i64 (t.r 2), .int .i64 (t.r 3), .int .i64 (t.r 4), .int .i64 (t.r 5), .int .i64 (t.r 6), .int .i64 (t.r 7), .slice fa fn fc, .int .i64 t.st, .int .i64 t.ft, .slice la ln lc, .int .i64 self, .int .i64 i.1, .int .i64 i.2.1, .int .i64 i.2.2.1, .int .i64 i.2.2.2] := by rw [hW]; exact varN_A _ (varN_new [.int .i64 t.pc, .int .i64 (t.r 0), .int .i64 (t.r 1), .int .i64 (t.r 2), .int .i64 (t.r 3), .int .i64 (t.r 4), .int .i64 (t.r 5), .int .i64 (t.r 6), .int .i64 (t.r 7), .slice fa fn fc, .int .i64 t.st, .int .i64 t.ft, .slice la ln lc, .int .i64 self, .int .i64 i.1, .int .i64 i.2.1, .int .i64 i.2.2.1, .int .i64 i.2.2.2] _ rfl)
  have R : VarN W (w.heap.size + 1) [.int .i64 0, .int .i64 0, .int .i64 0, .int .i64 0, .int .i64 0, .int .i64 0, .int .i64 0, .int .i64 0, .int .i64 0, .slice none 0 0, .int .i64 0, .int .i64 0, .slice none 0 0] := by rw [hW]; exact varN_new [.int .i64 0, .int .i64 0, .int .i64 0, .int .i64 0, .int .i64 0, .int .i64 0, .int .i64 0, .int .i64 0, .int .i64 0, .slice none 0 0, .int .i64 0, .int .i64 0, .slice none 0 0] _ (by simp)
  have hB : Below w.heap.size w W := by rw [hW]; go_grown
  obtain ⟨u, hu⟩ : ∃ u : Thr, u = ⟨t.pc, setR t.r i.2.1 v, t.fs, t.st, t.ft, t.lf⟩ := ⟨_, rfl⟩
  obtain ⟨V, hV⟩ : ∃ V, V = W.setCell ⟨w.heap.size, 1 + j, none⟩ (.int .i64 v) := ⟨_, rfl⟩
  have X2 : VarN V w.heap.size [.int .i64 u.pc, .int .i64 (u.r 0), .int .i64 (u.r 1), .int .i64 (u.r 2), .int .i64 (u.r 3), .int .i64 (u.r 4), .int .i64 (u.r 5), .int .i64 (u.r 6), .int .i64 (u.r 7), .slice fa fn fc, .int .i64 u.st, .int .i64 u.ft, .slice la ln lc, .int .i64 self, .int .i64 i.1, .int .i64 i.2.1, .int .i64 i.2.2.1, .int .i64 i.2.2.2] := by
    have h1 := varN_set X (1 + j) (by simp; omega) (.int .i64 v)
    rw [set_reg t.r j hj8 v, ← hV, ← hj] at h1
    rw [hu]; exact h1
  have R2 : VarN V (w.heap.size + 1) [.int .i64 0, .int .i64 0, .int .i64 0, .int .i64 0, .int .i64 0, .int .i64 0, .int .i64 0, .int .i64 0, .int .i64 0, .slice none 0 0, .int .i64 0, .int .i64 0, .slice none 0 0] := by rw [hV]; exact varN_other R (by omega) _
  have hB2 : Below w.heap.size w V := by rw [hV]; exact hB.setCell (p := ⟨w.heap.size, 1 + j, none⟩) (Nat.le_refl _) _
  obtain ⟨kr, fr⟩ := X (1 + j) _ (get_reg t.r j hj8 _ _)
  have ki := (X 15 _ rfl).1
  rw [hj] at ki
  have i1 : (0 : Int) ≤ j := by omega
  have i2 : (j : Int) < 8 := by omega
  have e1 : goT u (t.pc + 1) = putT t i.2.1 v := by rw [hu]; rfl
  have e2 : u.pc = t.pc := by rw [hu]
  have HX2 := Lib.hid X2
  have HR2 := Lib.hid R2
  have HB := Lib.hid hB2
  have HW := Lib.hid hW
  have HV := Lib.hid hV
  have HE := Lib.hid (And.intro e1 e2)
  have HP := Lib.hid hp
  clear hW X R hB hV X2 R2 hB2 hu e1 e2 hj h hp
  go_enter Try.func54, Try.ntmps54
  go_upto_region 1 with fail
  rw [← HW.out]
  go_upto_region 2 with fail
  rw [← HV.out]
  clear kr fr ki
  have k0 := (HX2.out 0 _ rfl).1
  have p1 : 0 ≤ u.pc := by rw [HE.out.2]; exact HP.out.1
  have p2 : u.pc ≤ 1000 := by rw [HE.out.2]; exact HP.out.2
  go_wp2_with (refine wpList_load_mid rfl 55 _ rfl w.heap.size 0 rfl [.int .i64 u.pc, .int .i64 (u.r 0), .int .i64 (u.r 1), .int .i64 (u.r 2), .int .i64 (u.r 3), .int .i64 (u.r 4), .int .i64 (u.r 5), .int .i64 (u.r 6), .int .i64 (u.r 7), .slice fa fn fc, .int .i64 u.st, .int .i64 u.ft, .slice la ln lc, .int .i64 self, .int .i64 i.1, .int .i64 i.2.1, .int .i64 i.2.2.1, .int .i64 i.2.2.2] _ (varN_range HX2.out) Try.underlying55 rfl (by kernel_rfl) ?_)
  refine (lo_goesTo_any u self i (u.pc + 1) fa la fn fc ln lc _).mono ?_
  rintro e w1 ⟨rfl, hb1⟩
  have HB1 := Lib.hid (below_from HB.out hb1)
  have HR3 := Lib.hid (varN_B hb1 HR2.out)
  clear hb1 k0
  obtain ⟨z, hz⟩ : ∃ z, goT u (u.pc + 1) = z := ⟨_, rfl⟩
  rw [hz]
  have hzz : z = putT t i.2.1 v := by rw [← hz, HE.out.2, HE.out.1]
  have HZZ := Lib.hid hzz
  clear hz p1 p2 hzz
  go_wp2_with (refine wpList_store_var rfl 27 _ _ rfl (w.heap.size + 1) #[.int .i64 z.pc, .int .i64 (z.r 0), .int .i64 (z.r 1), .int .i64 (z.r 2), .int .i64 (z.r 3), .int .i64 (z.r 4), .int .i64 (z.r 5), .int .i64 (z.r 6), .int .i64 (z.r 7), .slice fa fn fc, .int .i64 z.st, .int .i64 z.ft, .slice la ln lc] rfl rfl _ HR3.out rfl (by kernel_rfl) (one_thr _ _ _ _ _ _ _) ?_; intro U HU)
  refine bp_cell_tmp ⟨w.heap.size + 1, 0, none⟩ rfl rfl rfl (load_set HU HR3.out rfl) ?_
  rw [← HZZ.out]
  exact ⟨rfl, below_set HU (by omega) HB1.out⟩
set_option maxRecDepth 100000 in
set_option maxHeartbeats 4000000 in
theorem lo_branches_any (t : Thr) (self : Int) (i : In4) (b : Bool) (fa la : Option Addr) (fn fc ln lc : Nat) (w : World) (hp : 0 ≤ t.pc ∧ t.pc ≤ 1000) :
    Calls Try.prog 58 #[.agg #[.int .i64 t.pc, .int .i64 (t.r 0), .int .i64 (t.r 1), .int .i64 (t.r 2), .int .i64 (t.r 3), .int .i64 (t.r 4), .int .i64 (t.r 5), .int .i64 (t.r 6), .int .i64 (t.r 7), .slice fa fn fc, .int .i64 t.st, .int .i64 t.ft, .slice la ln lc, .int .i64 self, .int .i64 i.1, .int .i64 i.2.1, .int .i64 i.2.2.1, .int .i64 i.2.2.2], .bool b] w (ThIs (brT t b i.2.2.1) fa la fn fc ln lc 0 w) := by
  obtain ⟨W, hW⟩ : ∃ W, W = (w.alloc (Obj.cells #[.int .i64 t.pc, .int .i64 (t.r 0), .int .i64 (t.r 1), .int .i64 (t.r 2), .int .i64 (t.r 3), .int .i64 (t.r 4), .int .i64 (t.r 5), .int .i64 (t.r 6), .int .i64 (t.r 7), .slice fa fn fc, .int .i64 t.st, .int .i64 t.ft, .slice la ln lc, .int .i64 self, .int .i64 i.1, .int .i64 i.2.1, .int .i64 i.2.2.1, .int .i64 i.2.2.2] 55)).alloc (Obj.cells #[.int .i64 0, .int .i64 0, .int .i64 0, .int .i64 0, .int .i64 0, .int .i64 0, .int .i64 0, .int .i64 0, .int .i64 0, .slice none 0 0, .int .i64 0, .int .i64 0, .slice none 0 0] 27) := ⟨_, rfl⟩
  have X : VarN W w.heap.size [.int .i64 t.pc, .int .i64 (t.r 0), .int .i64 (t.r 1), .int .i64 (t.r 2), .int .i64 (t.r 3), .int .i64 (t.r 4), .int .i64 (t.r 5), .int .i64 (t.r 6), .int .i64 (t.r 7), .slice fa fn fc, .int .i64 t.st, .int .i64 t.ft, .slice la ln lc, .int .i64 self, .int .i64 i.1, .int .i64 i.2.1, .int .i64 i.2.2.1, .int .i64 i.2.2.2] := by rw [hW]; exact varN_A _ (varN_new [.int .i64 t.pc, .int .i64 (t.r 0), .int .i64 (t.r 1), .int .i64 (t.r 2), .int .i64 (t.r 3), .int .i64 (t.r 4), .int .i64 (t.r 5), .int .i64 (t.r 6), .int .i64 (t.r 7), .slice fa fn fc, .int .i64 t.st, .int .i64 t.ft, .slice la ln lc, .int .i64 self, .int .i64 i.1, .int .i64 i.2.1, .int .i64 i.2.2.1, .int .i64 i.2.2.2] _ rfl)
  have R : VarN W (w.heap.size + 1) [.int .i64 0, .int .i64 0, .int .i64 0, .int .i64 0, .int .i64 0, .int .i64 0, .int .i64 0, .int .i64 0, .int .i64 0, .slice none 0 0, .int .i64 0, .int .i64 0, .slice none 0 0] := by rw [hW]; exact varN_new [.int .i64 0, .int .i64 0, .int .i64 0, .int .i64 0, .int .i64 0, .int .i64 0, .int .i64 0, .int .i64 0, .int .i64 0, .slice none 0 0, .int .i64 0, .int .i64 0, .slice none 0 0] _ (by simp)
  have hB : Below w.heap.size w W := by rw [hW]; go_grown
  have HX := Lib.hid X
  have HR := Lib.hid R
  have HB := Lib.hid hB
  have HW := Lib.hid hW
  have p1 := hp.1
  have p2 := hp.2
  clear hW X R hB hp
  go_enter Try.func58, Try.ntmps58
  go_upto_region 1 with fail
  rw [← HW.out]
  have k0 := (HX.out 0 _ rfl).1
  have k16 := (HX.out 16 _ rfl).1
  cases b with
  | true =>
    go_wp2_with (refine wpList_load_mid rfl 55 _ rfl w.heap.size 0 rfl [.int .i64 t.pc, .int .i64 (t.r 0), .int .i64 (t.r 1), .int .i64 (t.r 2), .int .i64 (t.r 3), .int .i64 (t.r 4), .int .i64 (t.r 5), .int .i64 (t.r 6), .int .i64 (t.r 7), .slice fa fn fc, .int .i64 t.st, .int .i64 t.ft, .slice la ln lc, .int .i64 self, .int .i64 i.1, .int .i64 i.2.1, .int .i64 i.2.2.1, .int .i64 i.2.2.2] _ (varN_range HX.out) Try.underlying55 rfl (by kernel_rfl) ?_)
    refine (lo_goesTo_any t self i i.2.2.1 fa la fn fc ln lc _).mono ?_
    rintro e w1 ⟨rfl, hb1⟩
    have HB1 := Lib.hid (below_from HB.out hb1)
    have HR3 := Lib.hid (varN_B hb1 HR.out)
    clear hb1 k0 k16
    obtain ⟨z, hz⟩ : ∃ z, goT t i.2.2.1 = z := ⟨_, rfl⟩
    rw [hz]
    have hz2 : brT t true i.2.2.1 = z := hz
    have HZZ := Lib.hid hz2
    clear hz hz2
    go_wp2_with (refine wpList_store_var rfl 27 _ _ rfl (w.heap.size + 1) #[.int .i64 z.pc, .int .i64 (z.r 0), .int .i64 (z.r 1), .int .i64 (z.r 2), .int .i64 (z.r 3), .int .i64 (z.r 4), .int .i64 (z.r 5), .int .i64 (z.r 6), .int .i64 (z.r 7), .slice fa fn fc, .int .i64 z.st, .int .i64 z.ft, .slice la ln lc] rfl rfl _ HR3.out rfl (by kernel_rfl) (one_thr _ _ _ _ _ _ _) ?_; intro U HU)
    refine bp_cell_tmp ⟨w.heap.size + 1, 0, none⟩ rfl rfl rfl (load_set HU HR3.out rfl) ?_
    rw [HZZ.out]
    exact ⟨rfl, below_set HU (by omega) HB1.out⟩
  | false =>
    go_wp2_with (refine wpList_load_mid rfl 55 _ rfl w.heap.size 0 rfl [.int .i64 t.pc, .int .i64 (t.r 0), .int .i64 (t.r 1), .int .i64 (t.r 2), .int .i64 (t.r 3), .int .i64 (t.r 4), .int .i64 (t.r 5), .int .i64 (t.r 6), .int .i64 (t.r 7), .slice fa fn fc, .int .i64 t.st, .int .i64 t.ft, .slice la ln lc, .int .i64 self, .int .i64 i.1, .int .i64 i.2.1, .int .i64 i.2.2.1, .int .i64 i.2.2.2] _ (varN_range HX.out) Try.underlying55 rfl (by kernel_rfl) ?_)
    refine (lo_goesTo_any t self i (t.pc + 1) fa la fn fc ln lc _).mono ?_
    rintro e w1 ⟨rfl, hb1⟩
    have HB1 := Lib.hid (below_from HB.out hb1)
    have HR3 := Lib.hid (varN_B hb1 HR.out)
    clear hb1 k0 k16
    obtain ⟨z, hz⟩ : ∃ z, goT t (t.pc + 1) = z := ⟨_, rfl⟩
    rw [hz]
    have hz2 : brT t false i.2.2.1 = z := hz
    have HZZ := Lib.hid hz2
    clear hz hz2
    go_wp2_with (refine wpList_store_var rfl 27 _ _ rfl (w.heap.size + 1) #[.int .i64 z.pc, .int .i64 (z.r 0), .int .i64 (z.r 1), .int .i64 (z.r 2), .int .i64 (z.r 3), .int .i64 (z.r 4), .int .i64 (z.r 5), .int .i64 (z.r 6), .int .i64 (z.r 7), .slice fa fn fc, .int .i64 z.st, .int .i64 z.ft, .slice la ln lc] rfl rfl _ HR3.out rfl (by kernel_rfl) (one_thr _ _ _ _ _ _ _) ?_; intro U HU)
    refine bp_cell_tmp ⟨w.heap.size + 1, 0, none⟩ rfl rfl rfl (load_set HU HR3.out rfl) ?_
    rw [HZZ.out]
    exact ⟨rfl, below_set HU (by omega) HB1.out⟩
end Go.Proofs.Ytjddflnecfokaaa
