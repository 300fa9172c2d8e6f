/- Package local: set, tell, jump, less, call, ret. -/
import Derived.Test.YtjddflnecfokaaaLoF
namespace Go.Proofs.Ytjddflnecfokaaa
open Go.ChangeShapes Go.WideShapes Go.ChangeAt Go.RowKit
open Gen

theorem task_thr {w : World} {g : Nat} {t : Thr} {self : Int} {i : In4} {fa la : Option Addr} {fn fc ln lc : Nat} (h : VarN w g [.int .i64 t.pc, .int .i64 (t.r 0), .int .i64 (t.r 1), .int .i64 (t.r 2), .int .i64 (t.r 3), .int .i64 (t.r 4), .int .i64 (t.r 5), .int .i64 (t.r 6), .int .i64 (t.r 7), .slice fa fn fc, .int .i64 t.st, .int .i64 t.ft, .slice la ln lc, .int .i64 self, .int .i64 i.1, .int .i64 i.2.1, .int .i64 i.2.2.1, .int .i64 i.2.2.2]) : VarN w g [.int .i64 t.pc, .int .i64 (t.r 0), .int .i64 (t.r 1), .int .i64 (t.r 2), .int .i64 (t.r 3), .int .i64 (t.r 4), .int .i64 (t.r 5), .int .i64 (t.r 6), .int .i64 (t.r 7), .slice fa fn fc, .int .i64 t.st, .int .i64 t.ft, .slice la ln lc] := fun j v hj => h j v (by
  rw [← hj]
  have : j < 13 := by have := (List.getElem?_eq_some_iff.1 hj).1; simpa using this
  rcases (show j = 0 ∨ j = 1 ∨ j = 2 ∨ j = 3 ∨ j = 4 ∨ j = 5 ∨ j = 6 ∨ j = 7 ∨ j = 8 ∨ j = 9 ∨ j = 10 ∨ j = 11 ∨ j = 12 by omega) with rfl | rfl | rfl | rfl | rfl | rfl | rfl | rfl | rfl | rfl | rfl | rfl | rfl <;> rfl)
set_option maxRecDepth 100000 in
set_option maxHeartbeats 8000000 in
theorem lo_set_any (t : Thr) (self : Int) (i : In4) (fa la : Option Addr) (fn fc ln lc : Nat) (w : World) (ha : 0 ≤ i.2.1 ∧ i.2.1 ≤ 7) (hp : 0 ≤ t.pc ∧ t.pc ≤ 1000) :
    Calls Try.prog 32 #[.agg #[.int .i64 t.pc, .int .i64 (t.r 0), .int .i64 (t.r 1), .int .i64 (t.r 2), .int .i64 (t.r 3), .int .i64 (t.r 4), .int .i64 (t.r 5), .int .i64 (t.r 6), .int .i64 (t.r 7), .slice fa fn fc, .int .i64 t.st, .int .i64 t.ft, .slice la ln lc, .int .i64 self, .int .i64 i.1, .int .i64 i.2.1, .int .i64 i.2.2.1, .int .i64 i.2.2.2]] w (ThIs (putT t i.2.1 i.2.2.1) fa la fn fc ln lc 0 w) := by
  obtain ⟨z, hz⟩ : ∃ z, putT t i.2.1 i.2.2.1 = z := ⟨_, rfl⟩
  rw [hz]
  obtain ⟨W, hW⟩ : ∃ W, W = (w.alloc (Obj.cells #[.int .i64 t.pc, .int .i64 (t.r 0), .int .i64 (t.r 1), .int .i64 (t.r 2), .int .i64 (t.r 3), .int .i64 (t.r 4), .int .i64 (t.r 5), .int .i64 (t.r 6), .int .i64 (t.r 7), .slice fa fn fc, .int .i64 t.st, .int .i64 t.ft, .slice la ln lc, .int .i64 self, .int .i64 i.1, .int .i64 i.2.1, .int .i64 i.2.2.1, .int .i64 i.2.2.2] 55)).alloc (Obj.cells #[.int .i64 0, .int .i64 0, .int .i64 0, .int .i64 0, .int .i64 0, .int .i64 0, .int .i64 0, .int .i64 0, .int .i64 0, .slice none 0 0, .int .i64 0, .int .i64 0, .slice none 0 0] 27) := ⟨_, rfl⟩
  have X : VarN W w.heap.size [.int .i64 t.pc, .int .i64 (t.r 0), .int .i64 (t.r 1), .int .i64 (t.r 2), .int .i64 (t.r 3), .int .i64 (t.r 4), .int .i64 (t.r 5), .int .i64 (t.r 6), .int .i64 (t.r 7), .slice fa fn fc, .int .i64 t.st, .int .i64 t.ft, .slice la ln lc, .int .i64 self, .int .i64 i.1, .int .i64 i.2.1, .int .i64 i.2.2.1, .int .i64 i.2.2.2] := by rw [hW]; exact varN_A _ (varN_new [.int .i64 t.pc, .int .i64 (t.r 0), .int .i64 (t.r 1), .int .i64 (t.r 2), .int .i64 (t.r 3), .int .i64 (t.r 4), .int .i64 (t.r 5), .int .i64 (t.r 6), .int .i64 (t.r 7), .slice fa fn fc, .int .i64 t.st, .int .i64 t.ft, .slice la ln lc, .int .i64 self, .int .i64 i.1, .int .i64 i.2.1, .int .i64 i.2.2.1, .int .i64 i.2.2.2] _ rfl)
  have R : VarN W (w.heap.size + 1) [.int .i64 0, .int .i64 0, .int .i64 0, .int .i64 0, .int .i64 0, .int .i64 0, .int .i64 0, .int .i64 0, .int .i64 0, .slice none 0 0, .int .i64 0, .int .i64 0, .slice none 0 0] := by rw [hW]; exact varN_new [.int .i64 0, .int .i64 0, .int .i64 0, .int .i64 0, .int .i64 0, .int .i64 0, .int .i64 0, .int .i64 0, .int .i64 0, .slice none 0 0, .int .i64 0, .int .i64 0, .slice none 0 0] _ (by simp)
  have hB : Below w.heap.size w W := by rw [hW]; go_grown
  have HX := Lib.hid X
  have HR := Lib.hid R
  have HB := Lib.hid hB
  have HW := Lib.hid hW
  have HZ := Lib.hid hz
  have HP := Lib.hid hp
  have Ha := Lib.hid ha
  clear hW X R hB hz hp ha
  go_enter Try.func32, Try.ntmps32
  go_upto_region 1 with fail
  rw [← HW.out]
  have k16 := (HX.out 16 _ rfl).1
  go_wp2_with (refine wpList_load_mid rfl 55 _ rfl w.heap.size 0 rfl [.int .i64 t.pc, .int .i64 (t.r 0), .int .i64 (t.r 1), .int .i64 (t.r 2), .int .i64 (t.r 3), .int .i64 (t.r 4), .int .i64 (t.r 5), .int .i64 (t.r 6), .int .i64 (t.r 7), .slice fa fn fc, .int .i64 t.st, .int .i64 t.ft, .slice la ln lc, .int .i64 self, .int .i64 i.1, .int .i64 i.2.1, .int .i64 i.2.2.1, .int .i64 i.2.2.2] _ (varN_range HX.out) Try.underlying55 rfl (by kernel_rfl) ?_)
  have h0 := lo_becomes_any t self i i.2.2.1 fa la fn fc ln lc W Ha.out HP.out
  rw [HZ.out] at h0
  refine h0.mono ?_
  clear h0
  rintro e w9 ⟨rfl, hb1⟩
  have HB9 := Lib.hid (below_from HB.out hb1)
  have HR9 := Lib.hid (varN_B hb1 HR.out)
  clear hb1 k16
  go_wp2_with (refine wpList_store_var rfl 27 _ _ rfl (w.heap.size + 1) #[.int .i64 z.pc, .int .i64 (z.r 0), .int .i64 (z.r 1), .int .i64 (z.r 2), .int .i64 (z.r 3), .int .i64 (z.r 4), .int .i64 (z.r 5), .int .i64 (z.r 6), .int .i64 (z.r 7), .slice fa fn fc, .int .i64 z.st, .int .i64 z.ft, .slice la ln lc] rfl rfl _ HR9.out rfl (by kernel_rfl) (one_thr _ _ _ _ _ _ _) ?_; intro U HU)
  refine bp_cell_tmp ⟨w.heap.size + 1, 0, none⟩ rfl rfl rfl (load_set HU HR9.out rfl) ?_
  exact ⟨rfl, below_set HU (by omega) HB9.out⟩
set_option maxRecDepth 100000 in
set_option maxHeartbeats 8000000 in
theorem lo_tell_any (t : Thr) (self : Int) (i : In4) (fa la : Option Addr) (fn fc ln lc : Nat) (w : World) (ha : 0 ≤ i.2.1 ∧ i.2.1 ≤ 7) (hp : 0 ≤ t.pc ∧ t.pc ≤ 1000) :
    Calls Try.prog 46 #[.agg #[.int .i64 t.pc, .int .i64 (t.r 0), .int .i64 (t.r 1), .int .i64 (t.r 2), .int .i64 (t.r 3), .int .i64 (t.r 4), .int .i64 (t.r 5), .int .i64 (t.r 6), .int .i64 (t.r 7), .slice fa fn fc, .int .i64 t.st, .int .i64 t.ft, .slice la ln lc, .int .i64 self, .int .i64 i.1, .int .i64 i.2.1, .int .i64 i.2.2.1, .int .i64 i.2.2.2]] w (ThIs (putT t i.2.1 self) fa la fn fc ln lc 0 w) := by
  obtain ⟨z, hz⟩ : ∃ z, putT t i.2.1 self = z := ⟨_, rfl⟩
  rw [hz]
  obtain ⟨W, hW⟩ : ∃ W, W = (w.alloc (Obj.cells #[.int .i64 t.pc, .int .i64 (t.r 0), .int .i64 (t.r 1), .int .i64 (t.r 2), .int .i64 (t.r 3), .int .i64 (t.r 4), .int .i64 (t.r 5), .int .i64 (t.r 6), .int .i64 (t.r 7), .slice fa fn fc, .int .i64 t.st, .int .i64 t.ft, .slice la ln lc, .int .i64 self, .int .i64 i.1, .int .i64 i.2.1, .int .i64 i.2.2.1, .int .i64 i.2.2.2] 55)).alloc (Obj.cells #[.int .i64 0, .int .i64 0, .int .i64 0, .int .i64 0, .int .i64 0, .int .i64 0, .int .i64 0, .int .i64 0, .int .i64 0, .slice none 0 0, .int .i64 0, .int .i64 0, .slice none 0 0] 27) := ⟨_, rfl⟩
  have X : VarN W w.heap.size [.int .i64 t.pc, .int .i64 (t.r 0), .int .i64 (t.r 1), .int .i64 (t.r 2), .int .i64 (t.r 3), .int .i64 (t.r 4), .int .i64 (t.r 5), .int .i64 (t.r 6), .int .i64 (t.r 7), .slice fa fn fc, .int .i64 t.st, .int .i64 t.ft, .slice la ln lc, .int .i64 self, .int .i64 i.1, .int .i64 i.2.1, .int .i64 i.2.2.1, .int .i64 i.2.2.2] := by rw [hW]; exact varN_A _ (varN_new [.int .i64 t.pc, .int .i64 (t.r 0), .int .i64 (t.r 1), .int .i64 (t.r 2), .int .i64 (t.r 3), .int .i64 (t.r 4), .int .i64 (t.r 5), .int .i64 (t.r 6), .int .i64 (t.r 7), .slice fa fn fc, .int .i64 t.st, .int .i64 t.ft, .slice la ln lc, .int .i64 self, .int .i64 i.1, .int .i64 i.2.1, .int .i64 i.2.2.1, .int .i64 i.2.2.2] _ rfl)
  have R : VarN W (w.heap.size + 1) [.int .i64 0, .int .i64 0, .int .i64 0, .int .i64 0, .int .i64 0, .int .i64 0, .int .i64 0, .int .i64 0, .int .i64 0, .slice none 0 0, .int .i64 0, .int .i64 0, .slice none 0 0] := by rw [hW]; exact varN_new [.int .i64 0, .int .i64 0, .int .i64 0, .int .i64 0, .int .i64 0, .int .i64 0, .int .i64 0, .int .i64 0, .int .i64 0, .slice none 0 0, .int .i64 0, .int .i64 0, .slice none 0 0] _ (by simp)
  have hB : Below w.heap.size w W := by rw [hW]; go_grown
  have HX := Lib.hid X
  have HR := Lib.hid R
  have HB := Lib.hid hB
  have HW := Lib.hid hW
  have HZ := Lib.hid hz
  have HP := Lib.hid hp
  have Ha := Lib.hid ha
  clear hW X R hB hz hp ha
  go_enter Try.func46, Try.ntmps46
  go_upto_region 1 with fail
  rw [← HW.out]
  have k13 := (HX.out 13 _ rfl).1
  go_wp2_with (refine wpList_load_mid rfl 55 _ rfl w.heap.size 0 rfl [.int .i64 t.pc, .int .i64 (t.r 0), .int .i64 (t.r 1), .int .i64 (t.r 2), .int .i64 (t.r 3), .int .i64 (t.r 4), .int .i64 (t.r 5), .int .i64 (t.r 6), .int .i64 (t.r 7), .slice fa fn fc, .int .i64 t.st, .int .i64 t.ft, .slice la ln lc, .int .i64 self, .int .i64 i.1, .int .i64 i.2.1, .int .i64 i.2.2.1, .int .i64 i.2.2.2] _ (varN_range HX.out) Try.underlying55 rfl (by kernel_rfl) ?_)
  have h0 := lo_becomes_any t self i self fa la fn fc ln lc W Ha.out HP.out
  rw [HZ.out] at h0
  refine h0.mono ?_
  clear h0
  rintro e w9 ⟨rfl, hb1⟩
  have HB9 := Lib.hid (below_from HB.out hb1)
  have HR9 := Lib.hid (varN_B hb1 HR.out)
  clear hb1 k13
  go_wp2_with (refine wpList_store_var rfl 27 _ _ rfl (w.heap.size + 1) #[.int .i64 z.pc, .int .i64 (z.r 0), .int .i64 (z.r 1), .int .i64 (z.r 2), .int .i64 (z.r 3), .int .i64 (z.r 4), .int .i64 (z.r 5), .int .i64 (z.r 6), .int .i64 (z.r 7), .slice fa fn fc, .int .i64 z.st, .int .i64 z.ft, .slice la ln lc] rfl rfl _ HR9.out rfl (by kernel_rfl) (one_thr _ _ _ _ _ _ _) ?_; intro U HU)
  refine bp_cell_tmp ⟨w.heap.size + 1, 0, none⟩ rfl rfl rfl (load_set HU HR9.out rfl) ?_
  exact ⟨rfl, below_set HU (by omega) HB9.out⟩
set_option maxRecDepth 100000 in
set_option maxHeartbeats 8000000 in
theorem lo_jump_any (t : Thr) (self : Int) (i : In4) (fa la : Option Addr) (fn fc ln lc : Nat) (w : World)  (hp : 0 ≤ t.pc ∧ t.pc ≤ 1000) :
    Calls Try.prog 41 #[.agg #[.int .i64 t.pc, .int .i64 (t.r 0), .int .i64 (t.r 1), .int .i64 (t.r 2), .int .i64 (t.r 3), .int .i64 (t.r 4), .int .i64 (t.r 5), .int .i64 (t.r 6), .int .i64 (t.r 7), .slice fa fn fc, .int .i64 t.st, .int .i64 t.ft, .slice la ln lc, .int .i64 self, .int .i64 i.1, .int .i64 i.2.1, .int .i64 i.2.2.1, .int .i64 i.2.2.2]] w (ThIs (goT t i.2.1) fa la fn fc ln lc 0 w) := by
  obtain ⟨z, hz⟩ : ∃ z, goT t i.2.1 = z := ⟨_, rfl⟩
  rw [hz]
  obtain ⟨W, hW⟩ : ∃ W, W = (w.alloc (Obj.cells #[.int .i64 t.pc, .int .i64 (t.r 0), .int .i64 (t.r 1), .int .i64 (t.r 2), .int .i64 (t.r 3), .int .i64 (t.r 4), .int .i64 (t.r 5), .int .i64 (t.r 6), .int .i64 (t.r 7), .slice fa fn fc, .int .i64 t.st, .int .i64 t.ft, .slice la ln lc, .int .i64 self, .int .i64 i.1, .int .i64 i.2.1, .int .i64 i.2.2.1, .int .i64 i.2.2.2] 55)).alloc (Obj.cells #[.int .i64 0, .int .i64 0, .int .i64 0, .int .i64 0, .int .i64 0, .int .i64 0, .int .i64 0, .int .i64 0, .int .i64 0, .slice none 0 0, .int .i64 0, .int .i64 0, .slice none 0 0] 27) := ⟨_, rfl⟩
  have X : VarN W w.heap.size [.int .i64 t.pc, .int .i64 (t.r 0), .int .i64 (t.r 1), .int .i64 (t.r 2), .int .i64 (t.r 3), .int .i64 (t.r 4), .int .i64 (t.r 5), .int .i64 (t.r 6), .int .i64 (t.r 7), .slice fa fn fc, .int .i64 t.st, .int .i64 t.ft, .slice la ln lc, .int .i64 self, .int .i64 i.1, .int .i64 i.2.1, .int .i64 i.2.2.1, .int .i64 i.2.2.2] := by rw [hW]; exact varN_A _ (varN_new [.int .i64 t.pc, .int .i64 (t.r 0), .int .i64 (t.r 1), .int .i64 (t.r 2), .int .i64 (t.r 3), .int .i64 (t.r 4), .int .i64 (t.r 5), .int .i64 (t.r 6), .int .i64 (t.r 7), .slice fa fn fc, .int .i64 t.st, .int .i64 t.ft, .slice la ln lc, .int .i64 self, .int .i64 i.1, .int .i64 i.2.1, .int .i64 i.2.2.1, .int .i64 i.2.2.2] _ rfl)
  have R : VarN W (w.heap.size + 1) [.int .i64 0, .int .i64 0, .int .i64 0, .int .i64 0, .int .i64 0, .int .i64 0, .int .i64 0, .int .i64 0, .int .i64 0, .slice none 0 0, .int .i64 0, .int .i64 0, .slice none 0 0] := by rw [hW]; exact varN_new [.int .i64 0, .int .i64 0, .int .i64 0, .int .i64 0, .int .i64 0, .int .i64 0, .int .i64 0, .int .i64 0, .int .i64 0, .slice none 0 0, .int .i64 0, .int .i64 0, .slice none 0 0] _ (by simp)
  have hB : Below w.heap.size w W := by rw [hW]; go_grown
  have HX := Lib.hid X
  have HR := Lib.hid R
  have HB := Lib.hid hB
  have HW := Lib.hid hW
  have HZ := Lib.hid hz
  have HP := Lib.hid hp
  clear hW X R hB hz hp 
  go_enter Try.func41, Try.ntmps41
  go_upto_region 1 with fail
  rw [← HW.out]
  have k15 := (HX.out 15 _ rfl).1
  go_wp2_with (refine wpList_load_mid rfl 55 _ rfl w.heap.size 0 rfl [.int .i64 t.pc, .int .i64 (t.r 0), .int .i64 (t.r 1), .int .i64 (t.r 2), .int .i64 (t.r 3), .int .i64 (t.r 4), .int .i64 (t.r 5), .int .i64 (t.r 6), .int .i64 (t.r 7), .slice fa fn fc, .int .i64 t.st, .int .i64 t.ft, .slice la ln lc, .int .i64 self, .int .i64 i.1, .int .i64 i.2.1, .int .i64 i.2.2.1, .int .i64 i.2.2.2] _ (varN_range HX.out) Try.underlying55 rfl (by kernel_rfl) ?_)
  have h0 := lo_goesTo_any t self i i.2.1 fa la fn fc ln lc W
  rw [HZ.out] at h0
  refine h0.mono ?_
  clear h0
  rintro e w9 ⟨rfl, hb1⟩
  have HB9 := Lib.hid (below_from HB.out hb1)
  have HR9 := Lib.hid (varN_B hb1 HR.out)
  clear hb1 k15
  go_wp2_with (refine wpList_store_var rfl 27 _ _ rfl (w.heap.size + 1) #[.int .i64 z.pc, .int .i64 (z.r 0), .int .i64 (z.r 1), .int .i64 (z.r 2), .int .i64 (z.r 3), .int .i64 (z.r 4), .int .i64 (z.r 5), .int .i64 (z.r 6), .int .i64 (z.r 7), .slice fa fn fc, .int .i64 z.st, .int .i64 z.ft, .slice la ln lc] rfl rfl _ HR9.out rfl (by kernel_rfl) (one_thr _ _ _ _ _ _ _) ?_; intro U HU)
  refine bp_cell_tmp ⟨w.heap.size + 1, 0, none⟩ rfl rfl rfl (load_set HU HR9.out rfl) ?_
  exact ⟨rfl, below_set HU (by omega) HB9.out⟩
inductive Inv_less (t : Thr) (self : Int) (i : In4) (g : Nat) (fa la : Option Addr) (fn fc ln lc : Nat) (z : Thr) (a0 : Act) (w0 : World) (listed : Array Bool) (act' : Act) (w' : World) : Prop
  | mk (p4 p5 p6 p7 p8 : Value) (xs : List Value) (ea : act' = (((((a0.put (some 4) p4).put (some 5) p5).put (some 6) p6).put (some 7) p7).put (some 8) p8)) (hb : Below g w0 w' ∧ VarN w' g [.int .i64 t.pc, .int .i64 (t.r 0), .int .i64 (t.r 1), .int .i64 (t.r 2), .int .i64 (t.r 3), .int .i64 (t.r 4), .int .i64 (t.r 5), .int .i64 (t.r 6), .int .i64 (t.r 7), .slice fa fn fc, .int .i64 t.st, .int .i64 t.ft, .slice la ln lc, .int .i64 self, .int .i64 i.1, .int .i64 i.2.1, .int .i64 i.2.2.1, .int .i64 i.2.2.2] ∧ VarN w' (g + 1) xs ∧ xs.length = 13) (hf0 : Up listed 0 → p4 = .agg #[.int .i64 t.pc, .int .i64 (t.r 0), .int .i64 (t.r 1), .int .i64 (t.r 2), .int .i64 (t.r 3), .int .i64 (t.r 4), .int .i64 (t.r 5), .int .i64 (t.r 6), .int .i64 (t.r 7), .slice fa fn fc, .int .i64 t.st, .int .i64 t.ft, .slice la ln lc, .int .i64 self, .int .i64 i.1, .int .i64 i.2.1, .int .i64 i.2.2.1, .int .i64 i.2.2.2]) (hf1 : Up listed 1 → p5 = .int .i64 (rgt t i.2.2.1)) (hf2 : Up listed 2 → p6 = .agg #[.int .i64 t.pc, .int .i64 (t.r 0), .int .i64 (t.r 1), .int .i64 (t.r 2), .int .i64 (t.r 3), .int .i64 (t.r 4), .int .i64 (t.r 5), .int .i64 (t.r 6), .int .i64 (t.r 7), .slice fa fn fc, .int .i64 t.st, .int .i64 t.ft, .slice la ln lc, .int .i64 self, .int .i64 i.1, .int .i64 i.2.1, .int .i64 i.2.2.1, .int .i64 i.2.2.2]) (hf3 : Up listed 3 → p7 = .int .i64 (rgt t i.2.2.2)) (hf4 : Up listed 4 → p8 = .bool (decide (rgt t i.2.2.1 < rgt t i.2.2.2))) : Inv_less t self i g fa la fn fc ln lc z a0 w0 listed act' w'
set_option maxRecDepth 100000 in
set_option maxHeartbeats 8000000 in
theorem lo_less_any (t : Thr) (self : Int) (i : In4) (fa la : Option Addr) (fn fc ln lc : Nat) (w : World) (ha : 0 ≤ i.2.1 ∧ i.2.1 ≤ 7) (hb : 0 ≤ i.2.2.1 ∧ i.2.2.1 ≤ 7) (hc : 0 ≤ i.2.2.2 ∧ i.2.2.2 ≤ 7) (hp : 0 ≤ t.pc ∧ t.pc ≤ 1000) :
    Calls Try.prog 40 #[.agg #[.int .i64 t.pc, .int .i64 (t.r 0), .int .i64 (t.r 1), .int .i64 (t.r 2), .int .i64 (t.r 3), .int .i64 (t.r 4), .int .i64 (t.r 5), .int .i64 (t.r 6), .int .i64 (t.r 7), .slice fa fn fc, .int .i64 t.st, .int .i64 t.ft, .slice la ln lc, .int .i64 self, .int .i64 i.1, .int .i64 i.2.1, .int .i64 i.2.2.1, .int .i64 i.2.2.2]] w (ThIs (putT t i.2.1 (if rgt t i.2.2.1 < rgt t i.2.2.2 then 1 else 0)) fa la fn fc ln lc 0 w) := by
  obtain ⟨z, hz⟩ : ∃ z, putT t i.2.1 (if rgt t i.2.2.1 < rgt t i.2.2.2 then 1 else 0) = z := ⟨_, rfl⟩
  rw [hz]
  obtain ⟨W, hW⟩ : ∃ W, W = (w.alloc (Obj.cells #[.int .i64 t.pc, .int .i64 (t.r 0), .int .i64 (t.r 1), .int .i64 (t.r 2), .int .i64 (t.r 3), .int .i64 (t.r 4), .int .i64 (t.r 5), .int .i64 (t.r 6), .int .i64 (t.r 7), .slice fa fn fc, .int .i64 t.st, .int .i64 t.ft, .slice la ln lc, .int .i64 self, .int .i64 i.1, .int .i64 i.2.1, .int .i64 i.2.2.1, .int .i64 i.2.2.2] 55)).alloc (Obj.cells #[.int .i64 0, .int .i64 0, .int .i64 0, .int .i64 0, .int .i64 0, .int .i64 0, .int .i64 0, .int .i64 0, .int .i64 0, .slice none 0 0, .int .i64 0, .int .i64 0, .slice none 0 0] 27) := ⟨_, rfl⟩
  have X : VarN W w.heap.size [.int .i64 t.pc, .int .i64 (t.r 0), .int .i64 (t.r 1), .int .i64 (t.r 2), .int .i64 (t.r 3), .int .i64 (t.r 4), .int .i64 (t.r 5), .int .i64 (t.r 6), .int .i64 (t.r 7), .slice fa fn fc, .int .i64 t.st, .int .i64 t.ft, .slice la ln lc, .int .i64 self, .int .i64 i.1, .int .i64 i.2.1, .int .i64 i.2.2.1, .int .i64 i.2.2.2] := by rw [hW]; exact varN_A _ (varN_new [.int .i64 t.pc, .int .i64 (t.r 0), .int .i64 (t.r 1), .int .i64 (t.r 2), .int .i64 (t.r 3), .int .i64 (t.r 4), .int .i64 (t.r 5), .int .i64 (t.r 6), .int .i64 (t.r 7), .slice fa fn fc, .int .i64 t.st, .int .i64 t.ft, .slice la ln lc, .int .i64 self, .int .i64 i.1, .int .i64 i.2.1, .int .i64 i.2.2.1, .int .i64 i.2.2.2] _ rfl)
  have R : VarN W (w.heap.size + 1) [.int .i64 0, .int .i64 0, .int .i64 0, .int .i64 0, .int .i64 0, .int .i64 0, .int .i64 0, .int .i64 0, .int .i64 0, .slice none 0 0, .int .i64 0, .int .i64 0, .slice none 0 0] := by rw [hW]; exact varN_new [.int .i64 0, .int .i64 0, .int .i64 0, .int .i64 0, .int .i64 0, .int .i64 0, .int .i64 0, .int .i64 0, .int .i64 0, .slice none 0 0, .int .i64 0, .int .i64 0, .slice none 0 0] _ (by simp)
  have hB : Below w.heap.size w W := by rw [hW]; go_grown
  have HX := Lib.hid X
  have HR := Lib.hid R
  have HB := Lib.hid hB
  have HW := Lib.hid hW
  have HZ := Lib.hid hz
  have HP := Lib.hid hp
  have Ha := Lib.hid ha
  have Hb := Lib.hid hb
  have Hc := Lib.hid hc
  clear hW X R hB hz hp ha hb hc
  go_enter Try.func40, Try.ntmps40
  go_upto_region 1 with fail
  rw [← HW.out]
  refine wp_region_inv (Inv_less t self i w.heap.size fa la fn fc ln lc z) (by kernel_rfl) (by kernel_rfl) ?_ ?_ ?_
  · intro listed hl
    exact .mk undef undef undef undef undef [.int .i64 0, .int .i64 0, .int .i64 0, .int .i64 0, .int .i64 0, .int .i64 0, .int .i64 0, .int .i64 0, .int .i64 0, .slice none 0 0, .int .i64 0, .int .i64 0, .slice none 0 0] (by simp only [Act.put, List.setIfInBounds_toArray, List.set_cons_zero, List.set_cons_succ]) (⟨(Below.refl _ _).drew, varN_D HX.out, varN_D HR.out, rfl⟩) (fun h => absurd h (hl 0 (by decide))) (fun h => absurd h (hl 1 (by decide))) (fun h => absurd h (hl 2 (by decide))) (fun h => absurd h (hl 3 (by decide))) (fun h => absurd h (hl 4 (by decide)))
  · show StepsL _ _ _ _ _ _ _
    refine StepsL.cons (k := 0) rfl (fun listed a1 w1 hI hn hw K hK => ?_) ?_
    · cases hI with | mk p4 p5 p6 p7 p8 xs ea hb hf0 hf1 hf2 hf3 hf4 =>
        have Hhf0 := Lib.hid hf0
        have Hhf1 := Lib.hid hf1
        have Hhf2 := Lib.hid hf2
        have Hhf3 := Lib.hid hf3
        have Hhf4 := Lib.hid hf4
        have Hhb := Lib.hid hb
        have Hhw := Lib.hid hw
        clear hf0 hf1 hf2 hf3 hf4 hb hw
        rw [ea]
        clear ea
        simp only [Act.put, List.setIfInBounds_toArray, List.set_cons_zero, List.set_cons_succ]
        refine step_pos (by rfl) ?_
        refine wp_load_mid 55 _ rfl w.heap.size 0 rfl [.int .i64 t.pc, .int .i64 (t.r 0), .int .i64 (t.r 1), .int .i64 (t.r 2), .int .i64 (t.r 3), .int .i64 (t.r 4), .int .i64 (t.r 5), .int .i64 (t.r 6), .int .i64 (t.r 7), .slice fa fn fc, .int .i64 t.st, .int .i64 t.ft, .slice la ln lc, .int .i64 self, .int .i64 i.1, .int .i64 i.2.1, .int .i64 i.2.2.1, .int .i64 i.2.2.2] _ (varN_range Hhb.out.2.1) Try.underlying55 rfl (by kernel_rfl) ?_
        have hf0 := Hhf0.out
        have hf1 := Hhf1.out
        have hf2 := Hhf2.out
        have hf3 := Hhf3.out
        have hf4 := Hhf4.out
        have hb := Hhb.out
        have hw := Hhw.out
        refine hK.out _ _ ?_
        exact .mk (.agg #[.int .i64 t.pc, .int .i64 (t.r 0), .int .i64 (t.r 1), .int .i64 (t.r 2), .int .i64 (t.r 3), .int .i64 (t.r 4), .int .i64 (t.r 5), .int .i64 (t.r 6), .int .i64 (t.r 7), .slice fa fn fc, .int .i64 t.st, .int .i64 t.ft, .slice la ln lc, .int .i64 self, .int .i64 i.1, .int .i64 i.2.1, .int .i64 i.2.2.1, .int .i64 i.2.2.2]) p5 p6 p7 p8 xs (by simp only [Act.put, List.setIfInBounds_toArray, List.set_cons_zero, List.set_cons_succ]) (hb) (fun _ => rfl) (fun h => hf1 (up_back h (by decide))) (fun h => hf2 (up_back h (by decide))) (fun h => hf3 (up_back h (by decide))) (fun h => hf4 (up_back h (by decide)))
    refine StepsL.cons (k := 1) rfl (fun listed a1 w1 hI hn hw K hK => ?_) ?_
    · cases hI with | mk p4 p5 p6 p7 p8 xs ea hb hf0 hf1 hf2 hf3 hf4 =>
        have e_f0 := hf0 (hw 0 (by decide))
        subst e_f0
        have Hhf0 := Lib.hid hf0
        have Hhf1 := Lib.hid hf1
        have Hhf2 := Lib.hid hf2
        have Hhf3 := Lib.hid hf3
        have Hhf4 := Lib.hid hf4
        have Hhb := Lib.hid hb
        have Hhw := Lib.hid hw
        clear hf0 hf1 hf2 hf3 hf4 hb hw
        rw [ea]
        clear ea
        simp only [Act.put, List.setIfInBounds_toArray, List.set_cons_zero, List.set_cons_succ]
        refine step_pos (by rfl) ?_
        refine wp_calls _ _ _ rfl 55 rfl [.agg #[.int .i64 t.pc, .int .i64 (t.r 0), .int .i64 (t.r 1), .int .i64 (t.r 2), .int .i64 (t.r 3), .int .i64 (t.r 4), .int .i64 (t.r 5), .int .i64 (t.r 6), .int .i64 (t.r 7), .slice fa fn fc, .int .i64 t.st, .int .i64 t.ft, .slice la ln lc, .int .i64 self, .int .i64 i.1, .int .i64 i.2.1, .int .i64 i.2.2.1, .int .i64 i.2.2.2]] rfl (by kernel_rfl) ((lo_b_any t self i fa la fn fc ln lc _ Hb.out).mono ?_)
        rintro e w2 ⟨rfl, hb2⟩
        refine ⟨_, rfl, ?_⟩
        have hf0 := Hhf0.out
        have hf1 := Hhf1.out
        have hf2 := Hhf2.out
        have hf3 := Hhf3.out
        have hf4 := Hhf4.out
        have hb := Hhb.out
        have hw := Hhw.out
        refine hK.out _ _ ?_
        exact .mk (.agg #[.int .i64 t.pc, .int .i64 (t.r 0), .int .i64 (t.r 1), .int .i64 (t.r 2), .int .i64 (t.r 3), .int .i64 (t.r 4), .int .i64 (t.r 5), .int .i64 (t.r 6), .int .i64 (t.r 7), .slice fa fn fc, .int .i64 t.st, .int .i64 t.ft, .slice la ln lc, .int .i64 self, .int .i64 i.1, .int .i64 i.2.1, .int .i64 i.2.2.1, .int .i64 i.2.2.2]) (.int .i64 (rgt t i.2.2.1)) p6 p7 p8 xs (by simp only [Act.put, List.setIfInBounds_toArray, List.set_cons_zero, List.set_cons_succ]) (⟨hb.1.trans (hb2.mono (Nat.le_of_lt (varN_lt hb.2.1 (by simp)))), varN_B hb2 hb.2.1, varN_B hb2 hb.2.2.1, hb.2.2.2⟩) (fun _ => rfl) (fun _ => rfl) (fun h => hf2 (up_back h (by decide))) (fun h => hf3 (up_back h (by decide))) (fun h => hf4 (up_back h (by decide)))
    refine StepsL.cons (k := 2) rfl (fun listed a1 w1 hI hn hw K hK => ?_) ?_
    · cases hI with | mk p4 p5 p6 p7 p8 xs ea hb hf0 hf1 hf2 hf3 hf4 =>
        have Hhf0 := Lib.hid hf0
        have Hhf1 := Lib.hid hf1
        have Hhf2 := Lib.hid hf2
        have Hhf3 := Lib.hid hf3
        have Hhf4 := Lib.hid hf4
        have Hhb := Lib.hid hb
        have Hhw := Lib.hid hw
        clear hf0 hf1 hf2 hf3 hf4 hb hw
        rw [ea]
        clear ea
        simp only [Act.put, List.setIfInBounds_toArray, List.set_cons_zero, List.set_cons_succ]
        refine step_pos (by rfl) ?_
        refine wp_load_mid 55 _ rfl w.heap.size 0 rfl [.int .i64 t.pc, .int .i64 (t.r 0), .int .i64 (t.r 1), .int .i64 (t.r 2), .int .i64 (t.r 3), .int .i64 (t.r 4), .int .i64 (t.r 5), .int .i64 (t.r 6), .int .i64 (t.r 7), .slice fa fn fc, .int .i64 t.st, .int .i64 t.ft, .slice la ln lc, .int .i64 self, .int .i64 i.1, .int .i64 i.2.1, .int .i64 i.2.2.1, .int .i64 i.2.2.2] _ (varN_range Hhb.out.2.1) Try.underlying55 rfl (by kernel_rfl) ?_
        have hf0 := Hhf0.out
        have hf1 := Hhf1.out
        have hf2 := Hhf2.out
        have hf3 := Hhf3.out
        have hf4 := Hhf4.out
        have hb := Hhb.out
        have hw := Hhw.out
        refine hK.out _ _ ?_
        exact .mk p4 p5 (.agg #[.int .i64 t.pc, .int .i64 (t.r 0), .int .i64 (t.r 1), .int .i64 (t.r 2), .int .i64 (t.r 3), .int .i64 (t.r 4), .int .i64 (t.r 5), .int .i64 (t.r 6), .int .i64 (t.r 7), .slice fa fn fc, .int .i64 t.st, .int .i64 t.ft, .slice la ln lc, .int .i64 self, .int .i64 i.1, .int .i64 i.2.1, .int .i64 i.2.2.1, .int .i64 i.2.2.2]) p7 p8 xs (by simp only [Act.put, List.setIfInBounds_toArray, List.set_cons_zero, List.set_cons_succ]) (hb) (fun h => hf0 (up_back h (by decide))) (fun h => hf1 (up_back h (by decide))) (fun _ => rfl) (fun h => hf3 (up_back h (by decide))) (fun h => hf4 (up_back h (by decide)))
    refine StepsL.cons (k := 3) rfl (fun listed a1 w1 hI hn hw K hK => ?_) ?_
    · cases hI with | mk p4 p5 p6 p7 p8 xs ea hb hf0 hf1 hf2 hf3 hf4 =>
        have e_f2 := hf2 (hw 2 (by decide))
        subst e_f2
        have Hhf0 := Lib.hid hf0
        have Hhf1 := Lib.hid hf1
        have Hhf2 := Lib.hid hf2
        have Hhf3 := Lib.hid hf3
        have Hhf4 := Lib.hid hf4
        have Hhb := Lib.hid hb
        have Hhw := Lib.hid hw
        clear hf0 hf1 hf2 hf3 hf4 hb hw
        rw [ea]
        clear ea
        simp only [Act.put, List.setIfInBounds_toArray, List.set_cons_zero, List.set_cons_succ]
        refine step_pos (by rfl) ?_
        refine wp_calls _ _ _ rfl 56 rfl [.agg #[.int .i64 t.pc, .int .i64 (t.r 0), .int .i64 (t.r 1), .int .i64 (t.r 2), .int .i64 (t.r 3), .int .i64 (t.r 4), .int .i64 (t.r 5), .int .i64 (t.r 6), .int .i64 (t.r 7), .slice fa fn fc, .int .i64 t.st, .int .i64 t.ft, .slice la ln lc, .int .i64 self, .int .i64 i.1, .int .i64 i.2.1, .int .i64 i.2.2.1, .int .i64 i.2.2.2]] rfl (by kernel_rfl) ((lo_c_any t self i fa la fn fc ln lc _ Hc.out).mono ?_)
        rintro e w2 ⟨rfl, hb2⟩
        refine ⟨_, rfl, ?_⟩
        have hf0 := Hhf0.out
        have hf1 := Hhf1.out
        have hf2 := Hhf2.out
        have hf3 := Hhf3.out
        have hf4 := Hhf4.out
        have hb := Hhb.out
        have hw := Hhw.out
        refine hK.out _ _ ?_
        exact .mk p4 p5 (.agg #[.int .i64 t.pc, .int .i64 (t.r 0), .int .i64 (t.r 1), .int .i64 (t.r 2), .int .i64 (t.r 3), .int .i64 (t.r 4), .int .i64 (t.r 5), .int .i64 (t.r 6), .int .i64 (t.r 7), .slice fa fn fc, .int .i64 t.st, .int .i64 t.ft, .slice la ln lc, .int .i64 self, .int .i64 i.1, .int .i64 i.2.1, .int .i64 i.2.2.1, .int .i64 i.2.2.2]) (.int .i64 (rgt t i.2.2.2)) p8 xs (by simp only [Act.put, List.setIfInBounds_toArray, List.set_cons_zero, List.set_cons_succ]) (⟨hb.1.trans (hb2.mono (Nat.le_of_lt (varN_lt hb.2.1 (by simp)))), varN_B hb2 hb.2.1, varN_B hb2 hb.2.2.1, hb.2.2.2⟩) (fun h => hf0 (up_back h (by decide))) (fun h => hf1 (up_back h (by decide))) (fun _ => rfl) (fun _ => rfl) (fun h => hf4 (up_back h (by decide)))
    refine StepsL.cons (k := 4) rfl (fun listed a1 w1 hI hn hw K hK => ?_) ?_
    · cases hI with | mk p4 p5 p6 p7 p8 xs ea hb hf0 hf1 hf2 hf3 hf4 =>
        have e_f1 := hf1 (hw 1 (by decide))
        have e_f3 := hf3 (hw 3 (by decide))
        subst e_f1 e_f3
        have Hhf0 := Lib.hid hf0
        have Hhf1 := Lib.hid hf1
        have Hhf2 := Lib.hid hf2
        have Hhf3 := Lib.hid hf3
        have Hhf4 := Lib.hid hf4
        have Hhb := Lib.hid hb
        have Hhw := Lib.hid hw
        clear hf0 hf1 hf2 hf3 hf4 hb hw
        rw [ea]
        clear ea
        simp only [Act.put, List.setIfInBounds_toArray, List.set_cons_zero, List.set_cons_succ]
        go_simp
        have hf0 := Hhf0.out
        have hf1 := Hhf1.out
        have hf2 := Hhf2.out
        have hf3 := Hhf3.out
        have hf4 := Hhf4.out
        have hb := Hhb.out
        have hw := Hhw.out
        refine hK.out _ _ ?_
        exact .mk p4 (.int .i64 (rgt t i.2.2.1)) p6 (.int .i64 (rgt t i.2.2.2)) (.bool (decide (rgt t i.2.2.1 < rgt t i.2.2.2))) xs (by simp only [Act.put, List.setIfInBounds_toArray, List.set_cons_zero, List.set_cons_succ]) (hb) (fun h => hf0 (up_back h (by decide))) (fun _ => rfl) (fun h => hf2 (up_back h (by decide))) (fun _ => rfl) (fun _ => rfl)
    exact StepsL.nil
  · intro listed a1 w1 hI hu
    cases hI with | mk p4 p5 p6 p7 p8 xs ea hb hf0 hf1 hf2 hf3 hf4 =>
      have e8 := hf4 (hu 4)
      subst e8
      have HB1 := Lib.hid (HB.out.trans hb.1)
      have HX1 := Lib.hid hb.2.1
      have HL1 := hb.2.2.2
      have HR1 := Lib.hid hb.2.2.1
      clear hf0 hf1 hf2 hf3 hf4 hb hu HX HR HB HW
      rw [ea]
      clear ea
      simp only [Act.put, List.setIfInBounds_toArray, List.set_cons_zero, List.set_cons_succ]
      match xs, HL1, HR1 with
      | [x0, x1, x2, x3, x4, x5, x6, x7, x8, x9, x10, x11, x12], _, HR1 =>
        by_cases hlt : rgt t i.2.2.1 < rgt t i.2.2.2
        · have hd : decide (rgt t i.2.2.1 < rgt t i.2.2.2) = true := decide_eq_true hlt
          rw [if_pos hlt] at HZ
          rw [hd]
          clear hlt hd
          go_wp2_with (refine wpList_load_mid rfl 55 _ rfl w.heap.size 0 rfl [.int .i64 t.pc, .int .i64 (t.r 0), .int .i64 (t.r 1), .int .i64 (t.r 2), .int .i64 (t.r 3), .int .i64 (t.r 4), .int .i64 (t.r 5), .int .i64 (t.r 6), .int .i64 (t.r 7), .slice fa fn fc, .int .i64 t.st, .int .i64 t.ft, .slice la ln lc, .int .i64 self, .int .i64 i.1, .int .i64 i.2.1, .int .i64 i.2.2.1, .int .i64 i.2.2.2] _ (varN_range HX1.out) Try.underlying55 rfl (by kernel_rfl) ?_)
          have h0 := lo_becomes_any t self i 1 fa la fn fc ln lc w1 Ha.out HP.out
          rw [HZ.out] at h0
          refine h0.mono ?_
          clear h0
          rintro e w9 ⟨rfl, hb1⟩
          have HB9 := Lib.hid (below_from HB1.out hb1)
          have HR9 := Lib.hid (varN_B hb1 HR1.out)
          clear hb1
          go_wp2_with (refine wpList_store_var rfl 27 _ _ rfl (w.heap.size + 1) #[.int .i64 z.pc, .int .i64 (z.r 0), .int .i64 (z.r 1), .int .i64 (z.r 2), .int .i64 (z.r 3), .int .i64 (z.r 4), .int .i64 (z.r 5), .int .i64 (z.r 6), .int .i64 (z.r 7), .slice fa fn fc, .int .i64 z.st, .int .i64 z.ft, .slice la ln lc] rfl rfl _ HR9.out rfl (by kernel_rfl) (one_thr _ _ _ _ _ _ _) ?_; intro U HU)
          refine bp_cell_tmp ⟨w.heap.size + 1, 0, none⟩ rfl rfl rfl (load_set HU HR9.out rfl) ?_
          exact ⟨rfl, below_set HU (by omega) HB9.out⟩
        · have hd : decide (rgt t i.2.2.1 < rgt t i.2.2.2) = false := decide_eq_false hlt
          rw [if_neg hlt] at HZ
          rw [hd]
          clear hlt hd
          go_wp2_with (refine wpList_load_mid rfl 55 _ rfl w.heap.size 0 rfl [.int .i64 t.pc, .int .i64 (t.r 0), .int .i64 (t.r 1), .int .i64 (t.r 2), .int .i64 (t.r 3), .int .i64 (t.r 4), .int .i64 (t.r 5), .int .i64 (t.r 6), .int .i64 (t.r 7), .slice fa fn fc, .int .i64 t.st, .int .i64 t.ft, .slice la ln lc, .int .i64 self, .int .i64 i.1, .int .i64 i.2.1, .int .i64 i.2.2.1, .int .i64 i.2.2.2] _ (varN_range HX1.out) Try.underlying55 rfl (by kernel_rfl) ?_)
          have h0 := lo_becomes_any t self i 0 fa la fn fc ln lc w1 Ha.out HP.out
          rw [HZ.out] at h0
          refine h0.mono ?_
          clear h0
          rintro e w9 ⟨rfl, hb1⟩
          have HB9 := Lib.hid (below_from HB1.out hb1)
          have HR9 := Lib.hid (varN_B hb1 HR1.out)
          clear hb1
          go_wp2_with (refine wpList_store_var rfl 27 _ _ rfl (w.heap.size + 1) #[.int .i64 z.pc, .int .i64 (z.r 0), .int .i64 (z.r 1), .int .i64 (z.r 2), .int .i64 (z.r 3), .int .i64 (z.r 4), .int .i64 (z.r 5), .int .i64 (z.r 6), .int .i64 (z.r 7), .slice fa fn fc, .int .i64 z.st, .int .i64 z.ft, .slice la ln lc] rfl rfl _ HR9.out rfl (by kernel_rfl) (one_thr _ _ _ _ _ _ _) ?_; intro U HU)
          refine bp_cell_tmp ⟨w.heap.size + 1, 0, none⟩ rfl rfl rfl (load_set HU HR9.out rfl) ?_
          exact ⟨rfl, below_set HU (by omega) HB9.out⟩
set_option maxRecDepth 100000 in
set_option maxHeartbeats 8000000 in
theorem lo_call_any (t : Thr) (self : Int) (i : In4) (fa la : Option Addr) (fn fc ln lc : Nat) (w : World)  (F : ThF w fa fn fc la ln lc t) :
    Calls Try.prog 44 #[.agg #[.int .i64 t.pc, .int .i64 (t.r 0), .int .i64 (t.r 1), .int .i64 (t.r 2), .int .i64 (t.r 3), .int .i64 (t.r 4), .int .i64 (t.r 5), .int .i64 (t.r 6), .int .i64 (t.r 7), .slice fa fn fc, .int .i64 t.st, .int .i64 t.ft, .slice la ln lc, .int .i64 self, .int .i64 i.1, .int .i64 i.2.1, .int .i64 i.2.2.1, .int .i64 i.2.2.2]] w (ThPostF (callT t i.2.1) (callE t i.2.1) w) := by
  obtain ⟨z, hz⟩ : ∃ z, callT t i.2.1 = z := ⟨_, rfl⟩
  obtain ⟨x, hx⟩ : ∃ x, callE t i.2.1 = x := ⟨_, rfl⟩
  rw [hz, hx]
  have HXE := Lib.hid hx
  clear hx
  obtain ⟨W, hW⟩ : ∃ W, W = (w.alloc (Obj.cells #[.int .i64 t.pc, .int .i64 (t.r 0), .int .i64 (t.r 1), .int .i64 (t.r 2), .int .i64 (t.r 3), .int .i64 (t.r 4), .int .i64 (t.r 5), .int .i64 (t.r 6), .int .i64 (t.r 7), .slice fa fn fc, .int .i64 t.st, .int .i64 t.ft, .slice la ln lc, .int .i64 self, .int .i64 i.1, .int .i64 i.2.1, .int .i64 i.2.2.1, .int .i64 i.2.2.2] 55)).alloc (Obj.cells #[.int .i64 0, .int .i64 0, .int .i64 0, .int .i64 0, .int .i64 0, .int .i64 0, .int .i64 0, .int .i64 0, .int .i64 0, .slice none 0 0, .int .i64 0, .int .i64 0, .slice none 0 0] 27) := ⟨_, rfl⟩
  have X : VarN W w.heap.size [.int .i64 t.pc, .int .i64 (t.r 0), .int .i64 (t.r 1), .int .i64 (t.r 2), .int .i64 (t.r 3), .int .i64 (t.r 4), .int .i64 (t.r 5), .int .i64 (t.r 6), .int .i64 (t.r 7), .slice fa fn fc, .int .i64 t.st, .int .i64 t.ft, .slice la ln lc, .int .i64 self, .int .i64 i.1, .int .i64 i.2.1, .int .i64 i.2.2.1, .int .i64 i.2.2.2] := by rw [hW]; exact varN_A _ (varN_new [.int .i64 t.pc, .int .i64 (t.r 0), .int .i64 (t.r 1), .int .i64 (t.r 2), .int .i64 (t.r 3), .int .i64 (t.r 4), .int .i64 (t.r 5), .int .i64 (t.r 6), .int .i64 (t.r 7), .slice fa fn fc, .int .i64 t.st, .int .i64 t.ft, .slice la ln lc, .int .i64 self, .int .i64 i.1, .int .i64 i.2.1, .int .i64 i.2.2.1, .int .i64 i.2.2.2] _ rfl)
  have R : VarN W (w.heap.size + 1) [.int .i64 0, .int .i64 0, .int .i64 0, .int .i64 0, .int .i64 0, .int .i64 0, .int .i64 0, .int .i64 0, .int .i64 0, .slice none 0 0, .int .i64 0, .int .i64 0, .slice none 0 0] := by rw [hW]; exact varN_new [.int .i64 0, .int .i64 0, .int .i64 0, .int .i64 0, .int .i64 0, .int .i64 0, .int .i64 0, .int .i64 0, .int .i64 0, .slice none 0 0, .int .i64 0, .int .i64 0, .slice none 0 0] _ (by simp)
  have hB : Below w.heap.size w W := by rw [hW]; go_grown
  have HX := Lib.hid X
  have HR := Lib.hid R
  have HB := Lib.hid hB
  have HW := Lib.hid hW
  have HZ := Lib.hid hz
  have HZW := Lib.hid (show W.heap.size = w.heap.size + 2 by rw [hW]; simp)
  have HBW := Lib.hid (show Below w.heap.size w W from hB)
  replace F := Lib.hid F
  clear hW X R hB hz 
  go_enter Try.func44, Try.ntmps44
  go_upto_region 1 with fail
  rw [← HW.out]
  have k15 := (HX.out 15 _ rfl).1
  go_wp2_with (refine wpList_load_mid rfl 27 _ rfl w.heap.size 0 rfl [.int .i64 t.pc, .int .i64 (t.r 0), .int .i64 (t.r 1), .int .i64 (t.r 2), .int .i64 (t.r 3), .int .i64 (t.r 4), .int .i64 (t.r 5), .int .i64 (t.r 6), .int .i64 (t.r 7), .slice fa fn fc, .int .i64 t.st, .int .i64 t.ft, .slice la ln lc] _ (varN_range (task_thr HX.out)) Try.underlying27 rfl (by kernel_rfl) ?_)
  have h0 := frCallF_any t i.2.1 fa la fn fc ln lc W (thF_B HBW.out F.out)
  rw [HZ.out, HXE.out] at h0
  refine h0.mono ?_
  clear h0
  rintro e w1 ⟨fa1, fc1, la1, lc1, rfl, Q1, hb1⟩
  obtain ⟨fn1, hfn⟩ : ∃ n, z.fs.length = n := ⟨_, rfl⟩
  obtain ⟨ln1, hln⟩ : ∃ n, z.lf.length = n := ⟨_, rfl⟩
  rw [hfn, hln] at Q1 ⊢
  rw [HZW.out] at Q1
  have HQ := Lib.hid Q1
  have HB9 := Lib.hid (below_from HB.out hb1)
  have HR9 := Lib.hid (varN_B hb1 HR.out)
  have HN := Lib.hid (And.intro hfn hln)
  have HS := Lib.hid hb1.size
  clear hb1 Q1 hfn hln k15
  go_wp2_with (refine wpList_store_var rfl 27 _ _ rfl (w.heap.size + 1) #[.int .i64 z.pc, .int .i64 (z.r 0), .int .i64 (z.r 1), .int .i64 (z.r 2), .int .i64 (z.r 3), .int .i64 (z.r 4), .int .i64 (z.r 5), .int .i64 (z.r 6), .int .i64 (z.r 7), .slice fa1 fn1 fc1, .int .i64 z.st, .int .i64 z.ft, .slice la1 ln1 lc1] rfl rfl _ HR9.out rfl (by kernel_rfl) (one_thr _ _ _ _ _ _ _) ?_; intro U HU)
  refine bp_cell_tmp ⟨w.heap.size + 1, 0, none⟩ rfl rfl rfl (load_set HU HR9.out rfl) ?_
  have hq := thQ_keep (Q := fun b => w.heap.size + 2 ≤ b) (w' := U) (by rw [HU.out]; exact kept_setN (fun b hb => by omega)) HQ.out
  exact thPostF_mk HN.out.1 HN.out.2 (thQ_mono (fun b hb => by omega) hq) (below_set HU (by omega) HB9.out)
set_option maxRecDepth 100000 in
set_option maxHeartbeats 8000000 in
theorem lo_ret_any (t : Thr) (self : Int) (i : In4) (fa la : Option Addr) (fn fc ln lc : Nat) (w : World)  (F : ThF w fa fn fc la ln lc t) :
    Calls Try.prog 45 #[.agg #[.int .i64 t.pc, .int .i64 (t.r 0), .int .i64 (t.r 1), .int .i64 (t.r 2), .int .i64 (t.r 3), .int .i64 (t.r 4), .int .i64 (t.r 5), .int .i64 (t.r 6), .int .i64 (t.r 7), .slice fa fn fc, .int .i64 t.st, .int .i64 t.ft, .slice la ln lc, .int .i64 self, .int .i64 i.1, .int .i64 i.2.1, .int .i64 i.2.2.1, .int .i64 i.2.2.2]] w (ThPostF (backT t) (backE t) w) := by
  obtain ⟨z, hz⟩ : ∃ z, backT t = z := ⟨_, rfl⟩
  obtain ⟨x, hx⟩ : ∃ x, backE t = x := ⟨_, rfl⟩
  rw [hz, hx]
  have HXE := Lib.hid hx
  clear hx
  obtain ⟨W, hW⟩ : ∃ W, W = (w.alloc (Obj.cells #[.int .i64 t.pc, .int .i64 (t.r 0), .int .i64 (t.r 1), .int .i64 (t.r 2), .int .i64 (t.r 3), .int .i64 (t.r 4), .int .i64 (t.r 5), .int .i64 (t.r 6), .int .i64 (t.r 7), .slice fa fn fc, .int .i64 t.st, .int .i64 t.ft, .slice la ln lc, .int .i64 self, .int .i64 i.1, .int .i64 i.2.1, .int .i64 i.2.2.1, .int .i64 i.2.2.2] 55)).alloc (Obj.cells #[.int .i64 0, .int .i64 0, .int .i64 0, .int .i64 0, .int .i64 0, .int .i64 0, .int .i64 0, .int .i64 0, .int .i64 0, .slice none 0 0, .int .i64 0, .int .i64 0, .slice none 0 0] 27) := ⟨_, rfl⟩
  have X : VarN W w.heap.size [.int .i64 t.pc, .int .i64 (t.r 0), .int .i64 (t.r 1), .int .i64 (t.r 2), .int .i64 (t.r 3), .int .i64 (t.r 4), .int .i64 (t.r 5), .int .i64 (t.r 6), .int .i64 (t.r 7), .slice fa fn fc, .int .i64 t.st, .int .i64 t.ft, .slice la ln lc, .int .i64 self, .int .i64 i.1, .int .i64 i.2.1, .int .i64 i.2.2.1, .int .i64 i.2.2.2] := by rw [hW]; exact varN_A _ (varN_new [.int .i64 t.pc, .int .i64 (t.r 0), .int .i64 (t.r 1), .int .i64 (t.r 2), .int .i64 (t.r 3), .int .i64 (t.r 4), .int .i64 (t.r 5), .int .i64 (t.r 6), .int .i64 (t.r 7), .slice fa fn fc, .int .i64 t.st, .int .i64 t.ft, .slice la ln lc, .int .i64 self, .int .i64 i.1, .int .i64 i.2.1, .int .i64 i.2.2.1, .int .i64 i.2.2.2] _ rfl)
  have R : VarN W (w.heap.size + 1) [.int .i64 0, .int .i64 0, .int .i64 0, .int .i64 0, .int .i64 0, .int .i64 0, .int .i64 0, .int .i64 0, .int .i64 0, .slice none 0 0, .int .i64 0, .int .i64 0, .slice none 0 0] := by rw [hW]; exact varN_new [.int .i64 0, .int .i64 0, .int .i64 0, .int .i64 0, .int .i64 0, .int .i64 0, .int .i64 0, .int .i64 0, .int .i64 0, .slice none 0 0, .int .i64 0, .int .i64 0, .slice none 0 0] _ (by simp)
  have hB : Below w.heap.size w W := by rw [hW]; go_grown
  have HX := Lib.hid X
  have HR := Lib.hid R
  have HB := Lib.hid hB
  have HW := Lib.hid hW
  have HZ := Lib.hid hz
  have HZW := Lib.hid (show W.heap.size = w.heap.size + 2 by rw [hW]; simp)
  have HBW := Lib.hid (show Below w.heap.size w W from hB)
  replace F := Lib.hid F
  clear hW X R hB hz 
  go_enter Try.func45, Try.ntmps45
  go_upto_region 1 with fail
  rw [← HW.out]
  go_wp2_with (refine wpList_load_mid rfl 27 _ rfl w.heap.size 0 rfl [.int .i64 t.pc, .int .i64 (t.r 0), .int .i64 (t.r 1), .int .i64 (t.r 2), .int .i64 (t.r 3), .int .i64 (t.r 4), .int .i64 (t.r 5), .int .i64 (t.r 6), .int .i64 (t.r 7), .slice fa fn fc, .int .i64 t.st, .int .i64 t.ft, .slice la ln lc] _ (varN_range (task_thr HX.out)) Try.underlying27 rfl (by kernel_rfl) ?_)
  have h0 := frBackF_any t fa la fn fc ln lc W (thF_B HBW.out F.out)
  rw [HZ.out, HXE.out] at h0
  refine h0.mono ?_
  clear h0
  rintro e w1 ⟨fa1, fc1, la1, lc1, rfl, Q1, hb1⟩
  obtain ⟨fn1, hfn⟩ : ∃ n, z.fs.length = n := ⟨_, rfl⟩
  obtain ⟨ln1, hln⟩ : ∃ n, z.lf.length = n := ⟨_, rfl⟩
  rw [hfn, hln] at Q1 ⊢
  rw [HZW.out] at Q1
  have HQ := Lib.hid Q1
  have HB9 := Lib.hid (below_from HB.out hb1)
  have HR9 := Lib.hid (varN_B hb1 HR.out)
  have HN := Lib.hid (And.intro hfn hln)
  have HS := Lib.hid hb1.size
  clear hb1 Q1 hfn hln
  go_wp2_with (refine wpList_store_var rfl 27 _ _ rfl (w.heap.size + 1) #[.int .i64 z.pc, .int .i64 (z.r 0), .int .i64 (z.r 1), .int .i64 (z.r 2), .int .i64 (z.r 3), .int .i64 (z.r 4), .int .i64 (z.r 5), .int .i64 (z.r 6), .int .i64 (z.r 7), .slice fa1 fn1 fc1, .int .i64 z.st, .int .i64 z.ft, .slice la1 ln1 lc1] rfl rfl _ HR9.out rfl (by kernel_rfl) (one_thr _ _ _ _ _ _ _) ?_; intro U HU)
  refine bp_cell_tmp ⟨w.heap.size + 1, 0, none⟩ rfl rfl rfl (load_set HU HR9.out rfl) ?_
  have hq := thQ_keep (Q := fun b => w.heap.size + 2 ≤ b) (w' := U) (by rw [HU.out]; exact kept_setN (fun b hb => by omega)) HQ.out
  exact thPostF_mk HN.out.1 HN.out.2 (thQ_mono (fun b hb => by omega) hq) (below_set HU (by omega) HB9.out)
end Go.Proofs.Ytjddflnecfokaaa
