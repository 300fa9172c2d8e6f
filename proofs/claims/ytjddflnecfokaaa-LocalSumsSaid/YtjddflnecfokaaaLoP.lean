/- respiteref07: Ready, Local, registers, jumps, Set, May. -/
import Derived.Test.YtjddflnecfokaaaLoD
import Derived.Test.YtjddflnecfokaaaStp7
namespace Go.Proofs.Ytjddflnecfokaaa
open Go.ChangeShapes Go.WideShapes Go.ChangeAt Go.RowKit
open Gen

set_option maxRecDepth 100000 in
theorem refReady_any (t : Thr) (fa la : Option Addr) (fn fc ln lc : Nat) (w : World) (hl : t.lf.length = ln) :
    Calls Try.prog 11 #[.agg #[.int .i64 t.pc, .int .i64 (t.r 0), .int .i64 (t.r 1), .int .i64 (t.r 2), .int .i64 (t.r 3), .int .i64 (t.r 4), .int .i64 (t.r 5), .int .i64 (t.r 6), .int .i64 (t.r 7), .slice fa fn fc, .int .i64 t.st, .int .i64 t.ft, .slice la ln lc]] w (BoolPost (readyT t) w) := by
  have HL := Lib.hid hl
  clear hl
  go_enter Try.func11, Try.ntmps11
  go_wp2
  all_goals
    go_ret
    refine boolPost_mk ?_ (by go_grown)
    have e : readyT t = (decide (t.st = 0) && decide (ln = 0)) := by rw [readyT, HL.out]
    rw [e]
    try simp only [beq_iff_eq, beq_eq_false_iff_ne] at *
    rw [Bool.eq_iff_iff]
    simp
    try omega
theorem refLocal_any (o : Int) (w : World) : Calls Try.prog 12 #[.int .i64 o] w (PureB (decide (1 ≤ o ∧ o ≤ 15)) w) := by
  go_enter Try.func12, Try.ntmps12
  go_wp2
  all_goals
    go_ret
    refine pureB_mk ?_
    rw [Bool.eq_iff_iff]
    simp
    try omega
def PureI (r : Int) (w : World) (e : Ending) (w' : World) : Prop := e = .returned (.int .i64 r) ∧ w' = w
theorem pureI_mk {r s : Int} {w : World} (h : r = s) : PureI r w (.returned (.int .i64 s)) w := by subst h; exact ⟨rfl, rfl⟩
def regsN (o : Int) : Nat := if o = 10 ∨ o = 13 ∨ o = 14 then 0 else if o = 1 ∨ o = 11 ∨ o = 12 ∨ o = 15 then 1 else if o = 2 ∨ o = 3 ∨ o = 4 then 2 else 3
def jmpN (o : Int) : Int := if o = 10 ∨ o = 13 then 0 else if o = 11 ∨ o = 12 then 1 else -1
theorem registers_any (o : Int) (w : World) (h1 : 1 ≤ o) (h2 : o ≤ 15) : Calls Try.prog 24 #[.int .i64 o] w (PureI (regsN o) w) := by
  rcases (show o = 1 ∨ o = 2 ∨ o = 3 ∨ o = 4 ∨ o = 5 ∨ o = 6 ∨ o = 7 ∨ o = 8 ∨ o = 9 ∨ o = 10 ∨ o = 11 ∨ o = 12 ∨ o = 13 ∨ o = 14 ∨ o = 15 by omega) with rfl | rfl | rfl | rfl | rfl | rfl | rfl | rfl | rfl | rfl | rfl | rfl | rfl | rfl | rfl
  all_goals
    clear h1 h2
    go_enter Try.func24, Try.ntmps24
    go_wp2
    go_ret
    exact pureI_mk rfl
theorem jumps_any (o : Int) (w : World) (h1 : 1 ≤ o) (h2 : o ≤ 15) : Calls Try.prog 25 #[.int .i64 o] w (PureI (jmpN o) w) := by
  rcases (show o = 1 ∨ o = 2 ∨ o = 3 ∨ o = 4 ∨ o = 5 ∨ o = 6 ∨ o = 7 ∨ o = 8 ∨ o = 9 ∨ o = 10 ∨ o = 11 ∨ o = 12 ∨ o = 13 ∨ o = 14 ∨ o = 15 by omega) with rfl | rfl | rfl | rfl | rfl | rfl | rfl | rfl | rfl | rfl | rfl | rfl | rfl | rfl | rfl
  all_goals
    clear h1 h2
    go_enter Try.func25, Try.ntmps25
    go_wp2
    go_ret
    exact pureI_mk rfl
theorem one_arr (x0 x1 x2 x3 x4 x5 x6 x7 : Int) : (#[.int .i64 x0, .int .i64 x1, .int .i64 x2, .int .i64 x3, .int .i64 x4, .int .i64 x5, .int .i64 x6, .int .i64 x7] : Array Value).all (·.oneCell') = true := by simp [Value.oneCell']
set_option maxRecDepth 100000 in
set_option maxHeartbeats 2000000 in
theorem refSet_any (r : Nat → Int) (k v : Int) (w : World) (h : 0 ≤ k ∧ k ≤ 7) :
    Calls Try.prog 29 #[.agg #[.int .i64 (r 0), .int .i64 (r 1), .int .i64 (r 2), .int .i64 (r 3), .int .i64 (r 4), .int .i64 (r 5), .int .i64 (r 6), .int .i64 (r 7)], .int .i64 k, .int .i64 v] w (fun e w' => e = .returned (.agg #[.int .i64 ((setR r k v) 0), .int .i64 ((setR r k v) 1), .int .i64 ((setR r k v) 2), .int .i64 ((setR r k v) 3), .int .i64 ((setR r k v) 4), .int .i64 ((setR r k v) 5), .int .i64 ((setR r k v) 6), .int .i64 ((setR r k v) 7)]) ∧ Below w.heap.size w w') := by
  obtain ⟨j, hj, hj8⟩ := reg_cases h
  subst hj
  obtain ⟨W, hW⟩ : ∃ W, W = (w.alloc (Obj.cells #[.int .i64 (r 0), .int .i64 (r 1), .int .i64 (r 2), .int .i64 (r 3), .int .i64 (r 4), .int .i64 (r 5), .int .i64 (r 6), .int .i64 (r 7)] 22)).alloc (Obj.cells #[.int .i64 0, .int .i64 0, .int .i64 0, .int .i64 0, .int .i64 0, .int .i64 0, .int .i64 0, .int .i64 0] 22) := ⟨_, rfl⟩
  have X : VarN W w.heap.size [.int .i64 (r 0), .int .i64 (r 1), .int .i64 (r 2), .int .i64 (r 3), .int .i64 (r 4), .int .i64 (r 5), .int .i64 (r 6), .int .i64 (r 7)] := by rw [hW]; exact varN_A _ (varN_new [.int .i64 (r 0), .int .i64 (r 1), .int .i64 (r 2), .int .i64 (r 3), .int .i64 (r 4), .int .i64 (r 5), .int .i64 (r 6), .int .i64 (r 7)] _ rfl)
  have R : VarN W (w.heap.size + 1) [.int .i64 0, .int .i64 0, .int .i64 0, .int .i64 0, .int .i64 0, .int .i64 0, .int .i64 0, .int .i64 0] := by rw [hW]; exact varN_new [.int .i64 0, .int .i64 0, .int .i64 0, .int .i64 0, .int .i64 0, .int .i64 0, .int .i64 0, .int .i64 0] _ (by simp)
  have hB : Below w.heap.size w W := by rw [hW]; go_grown
  obtain ⟨V, hV⟩ : ∃ V, V = W.setCell ⟨w.heap.size, j, none⟩ (.int .i64 v) := ⟨_, rfl⟩
  obtain ⟨s, hs⟩ : ∃ s, setR r j v = s := ⟨_, rfl⟩
  have X2 : VarN V w.heap.size [.int .i64 (s 0), .int .i64 (s 1), .int .i64 (s 2), .int .i64 (s 3), .int .i64 (s 4), .int .i64 (s 5), .int .i64 (s 6), .int .i64 (s 7)] := by
    have h1 := varN_set X j (by simp; omega) (.int .i64 v)
    rw [set_reg0 r j hj8 v, ← hV, hs] at h1
    exact h1
  have R2 : VarN V (w.heap.size + 1) [.int .i64 0, .int .i64 0, .int .i64 0, .int .i64 0, .int .i64 0, .int .i64 0, .int .i64 0, .int .i64 0] := by rw [hV]; exact varN_other R (by omega) _
  have hB2 : Below w.heap.size w V := by rw [hV]; exact hB.setCell (p := ⟨w.heap.size, j, none⟩) (Nat.le_refl _) _
  obtain ⟨kr, fr⟩ := X j _ (show ([.int .i64 (r 0), .int .i64 (r 1), .int .i64 (r 2), .int .i64 (r 3), .int .i64 (r 4), .int .i64 (r 5), .int .i64 (r 6), .int .i64 (r 7)] : List Value)[j]? = some (.int .i64 (r j)) by
    rcases (show j = 0 ∨ j = 1 ∨ j = 2 ∨ j = 3 ∨ j = 4 ∨ j = 5 ∨ j = 6 ∨ j = 7 by omega) with rfl | rfl | rfl | rfl | rfl | rfl | rfl | rfl <;> rfl)
  have i1 : (0 : Int) ≤ j := by omega
  have i2 : (j : Int) < 8 := by omega
  have HX2 := Lib.hid X2
  have HR2 := Lib.hid R2
  have HB := Lib.hid hB2
  have HW := Lib.hid hW
  have HV := Lib.hid hV
  rw [hs]
  clear hW X R hB hV X2 R2 hB2 hs h
  go_enter Try.func29, Try.ntmps29
  go_upto_region 1 with fail
  rw [← HW.out]
  go_upto_region 2 with fail
  rw [← HV.out]
  clear kr fr
  go_wp2_with (first | (refine wpList_load_mid rfl 22 _ rfl w.heap.size 0 rfl [.int .i64 (s 0), .int .i64 (s 1), .int .i64 (s 2), .int .i64 (s 3), .int .i64 (s 4), .int .i64 (s 5), .int .i64 (s 6), .int .i64 (s 7)] _ (varN_range HX2.out) Try.underlying22 rfl (by kernel_rfl) ?_) | (refine wpList_store_var rfl 22 _ _ rfl (w.heap.size + 1) #[.int .i64 (s 0), .int .i64 (s 1), .int .i64 (s 2), .int .i64 (s 3), .int .i64 (s 4), .int .i64 (s 5), .int .i64 (s 6), .int .i64 (s 7)] rfl rfl _ HR2.out rfl (by kernel_rfl) (one_arr _ _ _ _ _ _ _ _) ?_; intro U HU))
  refine bp_cell (X := .agg #[.int .i64 (s 0), .int .i64 (s 1), .int .i64 (s 2), .int .i64 (s 3), .int .i64 (s 4), .int .i64 (s 5), .int .i64 (s 6), .int .i64 (s 7)]) ⟨w.heap.size + 1, 0, none⟩ rfl rfl rfl ?_ ?_
  · have h := varN_all (xs := [.int .i64 (s 0), .int .i64 (s 1), .int .i64 (s 2), .int .i64 (s 3), .int .i64 (s 4), .int .i64 (s 5), .int .i64 (s 6), .int .i64 (s 7)]) HR2.out rfl
    rw [show U = _ from HU.out]
    exact run_loadVar_mid _ _ 0 _ _ _ (varN_range h) Try.underlying22 rfl (by kernel_rfl)
  · refine ⟨rfl, ?_⟩
    rw [show U = _ from HU.out]
    exact below_setN (by omega) HB.out
end Go.Proofs.Ytjddflnecfokaaa
