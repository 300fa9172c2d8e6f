/- Package local: a, b, c, goesTo, becomes, branches. -/
import Derived.Test.YtjddflnecfokaaaLoD
import Derived.Test.YtjddflnecfokaaaStp7
namespace Go.Proofs.Ytjddflnecfokaaa
open Go.ChangeShapes Go.WideShapes Go.ChangeAt Go.RowKit
open Gen

def IntPost (v : Int) (w : World) (e : Ending) (w' : World) : Prop := e = .returned (.int .i64 v) ∧ Below w.heap.size w w'
theorem intPost_mk {v u : Int} {w w' : World} (h : v = u) (hb : Below w.heap.size w w') : IntPost v w (.returned (.int .i64 u)) w' := by subst h; exact ⟨rfl, hb⟩
/-- just that thread, with those cells -/
def ThIs (t : Thr) (fa la : Option Addr) (fn fc ln lc : Nat) (x : Int) (w : World) (e : Ending) (w' : World) : Prop :=
  e = .returned (.tuple #[.agg #[.int .i64 t.pc, .int .i64 (t.r 0), .int .i64 (t.r 1), .int .i64 (t.r 2), .int .i64 (t.r 3), .int .i64 (t.r 4), .int .i64 (t.r 5), .int .i64 (t.r 6), .int .i64 (t.r 7), .slice fa fn fc, .int .i64 t.st, .int .i64 t.ft, .slice la ln lc], .int .i64 x]) ∧ Below w.heap.size w w'

set_option maxRecDepth 100000 in
set_option maxHeartbeats 2000000 in
theorem lo_a_any (t : Thr) (self : Int) (i : In4) (fa la : Option Addr) (fn fc ln lc : Nat) (w : World) (h : 0 ≤ i.2.1 ∧ i.2.1 ≤ 7) :
    Calls Try.prog 59 #[.agg #[.int .i64 t.pc, .int .i64 (t.r 0), .int .i64 (t.r 1), .int .i64 (t.r 2), .int .i64 (t.r 3), .int .i64 (t.r 4), .int .i64 (t.r 5), .int .i64 (t.r 6), .int .i64 (t.r 7), .slice fa fn fc, .int .i64 t.st, .int .i64 t.ft, .slice la ln lc, .int .i64 self, .int .i64 i.1, .int .i64 i.2.1, .int .i64 i.2.2.1, .int .i64 i.2.2.2]] w (IntPost (rgt t i.2.1) w) := by
  obtain ⟨j, hj, hj8⟩ := reg_cases h
  obtain ⟨W, hW⟩ : ∃ W, W = w.alloc (Obj.cells #[.int .i64 t.pc, .int .i64 (t.r 0), .int .i64 (t.r 1), .int .i64 (t.r 2), .int .i64 (t.r 3), .int .i64 (t.r 4), .int .i64 (t.r 5), .int .i64 (t.r 6), .int .i64 (t.r 7), .slice fa fn fc, .int .i64 t.st, .int .i64 t.ft, .slice la ln lc, .int .i64 self, .int .i64 i.1, .int .i64 i.2.1, .int .i64 i.2.2.1, .int .i64 i.2.2.2] 55) := ⟨_, rfl⟩
  have X : VarN W w.heap.size [.int .i64 t.pc, .int .i64 (t.r 0), .int .i64 (t.r 1), .int .i64 (t.r 2), .int .i64 (t.r 3), .int .i64 (t.r 4), .int .i64 (t.r 5), .int .i64 (t.r 6), .int .i64 (t.r 7), .slice fa fn fc, .int .i64 t.st, .int .i64 t.ft, .slice la ln lc, .int .i64 self, .int .i64 i.1, .int .i64 i.2.1, .int .i64 i.2.2.1, .int .i64 i.2.2.2] := by rw [hW]; exact varN_new [.int .i64 t.pc, .int .i64 (t.r 0), .int .i64 (t.r 1), .int .i64 (t.r 2), .int .i64 (t.r 3), .int .i64 (t.r 4), .int .i64 (t.r 5), .int .i64 (t.r 6), .int .i64 (t.r 7), .slice fa fn fc, .int .i64 t.st, .int .i64 t.ft, .slice la ln lc, .int .i64 self, .int .i64 i.1, .int .i64 i.2.1, .int .i64 i.2.2.1, .int .i64 i.2.2.2] _ rfl
  have hB : Below w.heap.size w W := by rw [hW]; go_grown
  have e : rgt t i.2.1 = t.r j := by rw [rgt, hj]; rfl
  have kr := (X (1 + j) _ (get_reg t.r j hj8 _ _)).1
  have ki := (X 15 _ rfl).1
  rw [hj] at ki
  have i1 : (0 : Int) ≤ j := by omega
  have i2 : (j : Int) < 8 := by omega
  have HB := Lib.hid hB
  have HW := Lib.hid hW
  have HE := Lib.hid e
  clear hW X hB e h hj
  go_enter Try.func59, Try.ntmps59
  go_upto_region 1 with fail
  rw [← HW.out]
  go_wp2
  go_ret
  exact intPost_mk HE.out HB.out
set_option maxRecDepth 100000 in
set_option maxHeartbeats 2000000 in
theorem lo_b_any (t : Thr) (self : Int) (i : In4) (fa la : Option Addr) (fn fc ln lc : Nat) (w : World) (h : 0 ≤ i.2.2.1 ∧ i.2.2.1 ≤ 7) :
    Calls Try.prog 55 #[.agg #[.int .i64 t.pc, .int .i64 (t.r 0), .int .i64 (t.r 1), .int .i64 (t.r 2), .int .i64 (t.r 3), .int .i64 (t.r 4), .int .i64 (t.r 5), .int .i64 (t.r 6), .int .i64 (t.r 7), .slice fa fn fc, .int .i64 t.st, .int .i64 t.ft, .slice la ln lc, .int .i64 self, .int .i64 i.1, .int .i64 i.2.1, .int .i64 i.2.2.1, .int .i64 i.2.2.2]] w (IntPost (rgt t i.2.2.1) w) := by
  obtain ⟨j, hj, hj8⟩ := reg_cases h
  obtain ⟨W, hW⟩ : ∃ W, W = w.alloc (Obj.cells #[.int .i64 t.pc, .int .i64 (t.r 0), .int .i64 (t.r 1), .int .i64 (t.r 2), .int .i64 (t.r 3), .int .i64 (t.r 4), .int .i64 (t.r 5), .int .i64 (t.r 6), .int .i64 (t.r 7), .slice fa fn fc, .int .i64 t.st, .int .i64 t.ft, .slice la ln lc, .int .i64 self, .int .i64 i.1, .int .i64 i.2.1, .int .i64 i.2.2.1, .int .i64 i.2.2.2] 55) := ⟨_, rfl⟩
  have X : VarN W w.heap.size [.int .i64 t.pc, .int .i64 (t.r 0), .int .i64 (t.r 1), .int .i64 (t.r 2), .int .i64 (t.r 3), .int .i64 (t.r 4), .int .i64 (t.r 5), .int .i64 (t.r 6), .int .i64 (t.r 7), .slice fa fn fc, .int .i64 t.st, .int .i64 t.ft, .slice la ln lc, .int .i64 self, .int .i64 i.1, .int .i64 i.2.1, .int .i64 i.2.2.1, .int .i64 i.2.2.2] := by rw [hW]; exact varN_new [.int .i64 t.pc, .int .i64 (t.r 0), .int .i64 (t.r 1), .int .i64 (t.r 2), .int .i64 (t.r 3), .int .i64 (t.r 4), .int .i64 (t.r 5), .int .i64 (t.r 6), .int .i64 (t.r 7), .slice fa fn fc, .int .i64 t.st, .int .i64 t.ft, .slice la ln lc, .int .i64 self, .int .i64 i.1, .int .i64 i.2.1, .int .i64 i.2.2.1, .int .i64 i.2.2.2] _ rfl
  have hB : Below w.heap.size w W := by rw [hW]; go_grown
  have e : rgt t i.2.2.1 = t.r j := by rw [rgt, hj]; rfl
  have kr := (X (1 + j) _ (get_reg t.r j hj8 _ _)).1
  have ki := (X 16 _ rfl).1
  rw [hj] at ki
  have i1 : (0 : Int) ≤ j := by omega
  have i2 : (j : Int) < 8 := by omega
  have HB := Lib.hid hB
  have HW := Lib.hid hW
  have HE := Lib.hid e
  clear hW X hB e h hj
  go_enter Try.func55, Try.ntmps55
  go_upto_region 1 with fail
  rw [← HW.out]
  go_wp2
  go_ret
  exact intPost_mk HE.out HB.out
set_option maxRecDepth 100000 in
set_option maxHeartbeats 2000000 in
theorem lo_c_any (t : Thr) (self : Int) (i : In4) (fa la : Option Addr) (fn fc ln lc : Nat) (w : World) (h : 0 ≤ i.2.2.2 ∧ i.2.2.2 ≤ 7) :
    Calls Try.prog 56 #[.agg #[.int .i64 t.pc, .int .i64 (t.r 0), .int .i64 (t.r 1), .int .i64 (t.r 2), .int .i64 (t.r 3), .int .i64 (t.r 4), .int .i64 (t.r 5), .int .i64 (t.r 6), .int .i64 (t.r 7), .slice fa fn fc, .int .i64 t.st, .int .i64 t.ft, .slice la ln lc, .int .i64 self, .int .i64 i.1, .int .i64 i.2.1, .int .i64 i.2.2.1, .int .i64 i.2.2.2]] w (IntPost (rgt t i.2.2.2) w) := by
  obtain ⟨j, hj, hj8⟩ := reg_cases h
  obtain ⟨W, hW⟩ : ∃ W, W = w.alloc (Obj.cells #[.int .i64 t.pc, .int .i64 (t.r 0), .int .i64 (t.r 1), .int .i64 (t.r 2), .int .i64 (t.r 3), .int .i64 (t.r 4), .int .i64 (t.r 5), .int .i64 (t.r 6), .int .i64 (t.r 7), .slice fa fn fc, .int .i64 t.st, .int .i64 t.ft, .slice la ln lc, .int .i64 self, .int .i64 i.1, .int .i64 i.2.1, .int .i64 i.2.2.1, .int .i64 i.2.2.2] 55) := ⟨_, rfl⟩
  have X : VarN W w.heap.size [.int .i64 t.pc, .int .i64 (t.r 0), .int .i64 (t.r 1), .int .i64 (t.r 2), .int .i64 (t.r 3), .int .i64 (t.r 4), .int .i64 (t.r 5), .int .i64 (t.r 6), .int .i64 (t.r 7), .slice fa fn fc, .int .i64 t.st, .int .i64 t.ft, .slice la ln lc, .int .i64 self, .int .i64 i.1, .int .i64 i.2.1, .int .i64 i.2.2.1, .int .i64 i.2.2.2] := by rw [hW]; exact varN_new [.int .i64 t.pc, .int .i64 (t.r 0), .int .i64 (t.r 1), .int .i64 (t.r 2), .int .i64 (t.r 3), .int .i64 (t.r 4), .int .i64 (t.r 5), .int .i64 (t.r 6), .int .i64 (t.r 7), .slice fa fn fc, .int .i64 t.st, .int .i64 t.ft, .slice la ln lc, .int .i64 self, .int .i64 i.1, .int .i64 i.2.1, .int .i64 i.2.2.1, .int .i64 i.2.2.2] _ rfl
  have hB : Below w.heap.size w W := by rw [hW]; go_grown
  have e : rgt t i.2.2.2 = t.r j := by rw [rgt, hj]; rfl
  have kr := (X (1 + j) _ (get_reg t.r j hj8 _ _)).1
  have ki := (X 17 _ rfl).1
  rw [hj] at ki
  have i1 : (0 : Int) ≤ j := by omega
  have i2 : (j : Int) < 8 := by omega
  have HB := Lib.hid hB
  have HW := Lib.hid hW
  have HE := Lib.hid e
  clear hW X hB e h hj
  go_enter Try.func56, Try.ntmps56
  go_upto_region 1 with fail
  rw [← HW.out]
  go_wp2
  go_ret
  exact intPost_mk HE.out HB.out
theorem one_thr (t : Thr) (fa la : Option Addr) (fn fc ln lc : Nat) : (#[.int .i64 t.pc, .int .i64 (t.r 0), .int .i64 (t.r 1), .int .i64 (t.r 2), .int .i64 (t.r 3), .int .i64 (t.r 4), .int .i64 (t.r 5), .int .i64 (t.r 6), .int .i64 (t.r 7), .slice fa fn fc, .int .i64 t.st, .int .i64 t.ft, .slice la ln lc] : Array Value).all (·.oneCell') = true := by simp [Value.oneCell']
theorem load_set {w U : World} {g : Nat} {vs : List Value} {t : Thr} {fa la : Option Addr} {fn fc ln lc : Nat} (hU : Hid (U = setN w g 0 [.int .i64 t.pc, .int .i64 (t.r 0), .int .i64 (t.r 1), .int .i64 (t.r 2), .int .i64 (t.r 3), .int .i64 (t.r 4), .int .i64 (t.r 5), .int .i64 (t.r 6), .int .i64 (t.r 7), .slice fa fn fc, .int .i64 t.st, .int .i64 t.ft, .slice la ln lc])) (h : VarN w g vs) (hl : vs.length = 13) :
    (loadVar 27 ⟨g, 0, none⟩).run Try.prog U = .ok (.agg #[.int .i64 t.pc, .int .i64 (t.r 0), .int .i64 (t.r 1), .int .i64 (t.r 2), .int .i64 (t.r 3), .int .i64 (t.r 4), .int .i64 (t.r 5), .int .i64 (t.r 6), .int .i64 (t.r 7), .slice fa fn fc, .int .i64 t.st, .int .i64 t.ft, .slice la ln lc]) U := by
  rw [hU.out]
  exact load_thr _ _ t fa la fn fc ln lc (varN_all (xs := [.int .i64 t.pc, .int .i64 (t.r 0), .int .i64 (t.r 1), .int .i64 (t.r 2), .int .i64 (t.r 3), .int .i64 (t.r 4), .int .i64 (t.r 5), .int .i64 (t.r 6), .int .i64 (t.r 7), .slice fa fn fc, .int .i64 t.st, .int .i64 t.ft, .slice la ln lc]) h (by rw [hl]; rfl))
theorem below_set {w w' U : World} {F g : Nat} {vs : List Value} (hU : Hid (U = setN w' g 0 vs)) (hg : F ≤ g) (h : Below F w w') : Below F w U := by
  rw [hU.out]; exact below_setN hg h
set_option maxRecDepth 100000 in
set_option maxHeartbeats 4000000 in
theorem lo_goesTo_any (t : Thr) (self : Int) (i : In4) (pc : Int) (fa la : Option Addr) (fn fc ln lc : Nat) (w : World) :
    Calls Try.prog 57 #[.agg #[.int .i64 t.pc, .int .i64 (t.r 0), .int .i64 (t.r 1), .int .i64 (t.r 2), .int .i64 (t.r 3), .int .i64 (t.r 4), .int .i64 (t.r 5), .int .i64 (t.r 6), .int .i64 (t.r 7), .slice fa fn fc, .int .i64 t.st, .int .i64 t.ft, .slice la ln lc, .int .i64 self, .int .i64 i.1, .int .i64 i.2.1, .int .i64 i.2.2.1, .int .i64 i.2.2.2], .int .i64 pc] w (ThIs (goT t pc) fa la fn fc ln lc 0 w) := by
  obtain ⟨W, hW⟩ : ∃ W, W = (w.alloc (Obj.cells #[.int .i64 t.pc, .int .i64 (t.r 0), .int .i64 (t.r 1), .int .i64 (t.r 2), .int .i64 (t.r 3), .int .i64 (t.r 4), .int .i64 (t.r 5), .int .i64 (t.r 6), .int .i64 (t.r 7), .slice fa fn fc, .int .i64 t.st, .int .i64 t.ft, .slice la ln lc, .int .i64 self, .int .i64 i.1, .int .i64 i.2.1, .int .i64 i.2.2.1, .int .i64 i.2.2.2] 55)).alloc (Obj.cells #[.int .i64 0, .int .i64 0, .int .i64 0, .int .i64 0, .int .i64 0, .int .i64 0, .int .i64 0, .int .i64 0, .int .i64 0, .slice none 0 0, .int .i64 0, .int .i64 0, .slice none 0 0] 27) := ⟨_, rfl⟩
  have X : VarN W w.heap.size [.int .i64 t.pc, .int .i64 (t.r 0), .int .i64 (t.r 1), .int .i64 (t.r 2), .int .i64 (t.r 3), .int .i64 (t.r 4), .int .i64 (t.r 5), .int .i64 (t.r 6), .int .i64 (t.r 7), .slice fa fn fc, .int .i64 t.st, .int .i64 t.ft, .slice la ln lc, .int .i64 self, .int .i64 i.1, .int .i64 i.2.1, .int .i64 i.2.2.1, .int .i64 i.2.2.2] := by rw [hW]; exact varN_A _ (varN_new [.int .i64 t.pc, .int .i64 (t.r 0), .int .i64 (t.r 1), .int .i64 (t.r 2), .int .i64 (t.r 3), .int .i64 (t.r 4), .int .i64 (t.r 5), .int .i64 (t.r 6), .int .i64 (t.r 7), .slice fa fn fc, .int .i64 t.st, .int .i64 t.ft, .slice la ln lc, .int .i64 self, .int .i64 i.1, .int .i64 i.2.1, .int .i64 i.2.2.1, .int .i64 i.2.2.2] _ rfl)
  have R : VarN W (w.heap.size + 1) [.int .i64 0, .int .i64 0, .int .i64 0, .int .i64 0, .int .i64 0, .int .i64 0, .int .i64 0, .int .i64 0, .int .i64 0, .slice none 0 0, .int .i64 0, .int .i64 0, .slice none 0 0] := by rw [hW]; exact varN_new [.int .i64 0, .int .i64 0, .int .i64 0, .int .i64 0, .int .i64 0, .int .i64 0, .int .i64 0, .int .i64 0, .int .i64 0, .slice none 0 0, .int .i64 0, .int .i64 0, .slice none 0 0] _ (by simp)
  have hB : Below w.heap.size w W := by rw [hW]; go_grown
  obtain ⟨V, hV⟩ : ∃ V, V = W.setCell ⟨w.heap.size, 0, none⟩ (.int .i64 pc) := ⟨_, rfl⟩
  have X2 : VarN V w.heap.size [.int .i64 (goT t pc).pc, .int .i64 ((goT t pc).r 0), .int .i64 ((goT t pc).r 1), .int .i64 ((goT t pc).r 2), .int .i64 ((goT t pc).r 3), .int .i64 ((goT t pc).r 4), .int .i64 ((goT t pc).r 5), .int .i64 ((goT t pc).r 6), .int .i64 ((goT t pc).r 7), .slice fa fn fc, .int .i64 (goT t pc).st, .int .i64 (goT t pc).ft, .slice la ln lc, .int .i64 self, .int .i64 i.1, .int .i64 i.2.1, .int .i64 i.2.2.1, .int .i64 i.2.2.2] := by rw [hV]; exact varN_set X 0 (by simp) _
  have R2 : VarN V (w.heap.size + 1) [.int .i64 0, .int .i64 0, .int .i64 0, .int .i64 0, .int .i64 0, .int .i64 0, .int .i64 0, .int .i64 0, .int .i64 0, .slice none 0 0, .int .i64 0, .int .i64 0, .slice none 0 0] := by rw [hV]; exact varN_other R (by omega) _
  have hB2 : Below w.heap.size w V := by rw [hV]; exact hB.setCell (p := ⟨w.heap.size, 0, none⟩) (Nat.le_refl _) _
  obtain ⟨z, hz⟩ : ∃ z, goT t pc = z := ⟨_, rfl⟩
  rw [hz] at X2 ⊢
  have HX := Lib.hid X
  have HX2 := Lib.hid (show VarN V w.heap.size [.int .i64 z.pc, .int .i64 (z.r 0), .int .i64 (z.r 1), .int .i64 (z.r 2), .int .i64 (z.r 3), .int .i64 (z.r 4), .int .i64 (z.r 5), .int .i64 (z.r 6), .int .i64 (z.r 7), .slice fa fn fc, .int .i64 z.st, .int .i64 z.ft, .slice la ln lc] from fun j v hj => X2 j v (by
    rw [← hj]
    have : j < 13 := by have := (List.getElem?_eq_some_iff.1 hj).1; simpa using this
    rcases (show j = 0 ∨ j = 1 ∨ j = 2 ∨ j = 3 ∨ j = 4 ∨ j = 5 ∨ j = 6 ∨ j = 7 ∨ j = 8 ∨ j = 9 ∨ j = 10 ∨ j = 11 ∨ j = 12 by omega) with rfl | rfl | rfl | rfl | rfl | rfl | rfl | rfl | rfl | rfl | rfl | rfl | rfl <;> rfl))
  have HR2 := Lib.hid R2
  have HB := Lib.hid hB2
  have HW := Lib.hid hW
  have HV := Lib.hid hV
  clear hW X R hB hV X2 R2 hB2 hz
  go_enter Try.func57, Try.ntmps57
  go_upto_region 1 with fail
  rw [← HW.out]
  obtain ⟨y0, g0⟩ := HX.out 0 _ rfl
  go_upto_region 2 with fail
  rw [← HV.out]
  clear y0 g0
  go_wp2_with (first | (refine wpList_load_mid rfl 27 _ rfl w.heap.size 0 rfl [.int .i64 z.pc, .int .i64 (z.r 0), .int .i64 (z.r 1), .int .i64 (z.r 2), .int .i64 (z.r 3), .int .i64 (z.r 4), .int .i64 (z.r 5), .int .i64 (z.r 6), .int .i64 (z.r 7), .slice fa fn fc, .int .i64 z.st, .int .i64 z.ft, .slice la ln lc] _ (varN_range HX2.out) Try.underlying27 rfl (by kernel_rfl) ?_) | (refine wpList_store_var rfl 27 _ _ rfl (w.heap.size + 1) #[.int .i64 z.pc, .int .i64 (z.r 0), .int .i64 (z.r 1), .int .i64 (z.r 2), .int .i64 (z.r 3), .int .i64 (z.r 4), .int .i64 (z.r 5), .int .i64 (z.r 6), .int .i64 (z.r 7), .slice fa fn fc, .int .i64 z.st, .int .i64 z.ft, .slice la ln lc] rfl rfl _ HR2.out rfl (by kernel_rfl) (one_thr _ _ _ _ _ _ _) ?_; intro U HU))
  refine bp_cell_tmp ⟨w.heap.size + 1, 0, none⟩ rfl rfl rfl (load_set HU HR2.out rfl) ?_
  exact ⟨rfl, below_set HU (by omega) HB.out⟩
end Go.Proofs.Ytjddflnecfokaaa
