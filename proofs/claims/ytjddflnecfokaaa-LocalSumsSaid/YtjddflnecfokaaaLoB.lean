/- Package local: within, may, ready, operand, fits. -/
import Derived.Test.YtjddflnecfokaaaLoA
namespace Go.Proofs.Ytjddflnecfokaaa
open Go.ChangeShapes Go.WideShapes Go.ChangeAt Go.RowKit
open Gen

theorem loWithin_any (v m : Int) (w : World) : Calls Try.prog 30 #[.int .i64 v, .int .i64 m] w (PureB (decide (0 ≤ v ∧ v ≤ m)) w) := by
  go_enter Try.func30, Try.ntmps30
  go_wp2
  all_goals
    go_ret
    refine pureB_mk ?_
    rw [Bool.eq_iff_iff]
    simp
    try omega
set_option maxRecDepth 100000 in
set_option maxHeartbeats 2000000 in
theorem loMay_any (t : Thr) (self : Int) (fa la : Option Addr) (fn fc ln lc : Nat) (w : World) (F : ThF w fa fn fc la ln lc t) :
    Calls Try.prog 19 #[.agg #[.int .i64 t.pc, .int .i64 (t.r 0), .int .i64 (t.r 1), .int .i64 (t.r 2), .int .i64 (t.r 3), .int .i64 (t.r 4), .int .i64 (t.r 5), .int .i64 (t.r 6), .int .i64 (t.r 7), .slice fa fn fc, .int .i64 t.st, .int .i64 t.ft, .slice la ln lc], .int .i64 self] w (BoolPost (mayT7 t self) w) := by
  obtain ⟨W, hW⟩ : ∃ W, W = w.alloc (Obj.cells #[.int .i64 t.pc, .int .i64 (t.r 0), .int .i64 (t.r 1), .int .i64 (t.r 2), .int .i64 (t.r 3), .int .i64 (t.r 4), .int .i64 (t.r 5), .int .i64 (t.r 6), .int .i64 (t.r 7), .slice fa fn fc, .int .i64 t.st, .int .i64 t.ft, .slice la ln lc] 27) := ⟨_, rfl⟩
  have X : VarN W w.heap.size [.int .i64 t.pc, .int .i64 (t.r 0), .int .i64 (t.r 1), .int .i64 (t.r 2), .int .i64 (t.r 3), .int .i64 (t.r 4), .int .i64 (t.r 5), .int .i64 (t.r 6), .int .i64 (t.r 7), .slice fa fn fc, .int .i64 t.st, .int .i64 t.ft, .slice la ln lc] := by rw [hW]; exact varN_new [.int .i64 t.pc, .int .i64 (t.r 0), .int .i64 (t.r 1), .int .i64 (t.r 2), .int .i64 (t.r 3), .int .i64 (t.r 4), .int .i64 (t.r 5), .int .i64 (t.r 6), .int .i64 (t.r 7), .slice fa fn fc, .int .i64 t.st, .int .i64 t.ft, .slice la ln lc] _ rfl
  have hB : Below w.heap.size w W := by rw [hW]; go_grown
  have FW := Lib.hid (thF_B hB F)
  have HX := Lib.hid X
  have HB := Lib.hid hB
  have HW := Lib.hid hW
  clear hW X hB F
  go_enter Try.func19, Try.ntmps19
  go_upto_region 1 with fail
  rw [← HW.out]
  have k0 := (HX.out 0 _ rfl).1
  have k1 := (HX.out 1 _ rfl).1
  have k2 := (HX.out 2 _ rfl).1
  have k3 := (HX.out 3 _ rfl).1
  have k4 := (HX.out 4 _ rfl).1
  have k5 := (HX.out 5 _ rfl).1
  have k6 := (HX.out 6 _ rfl).1
  have k7 := (HX.out 7 _ rfl).1
  have k8 := (HX.out 8 _ rfl).1
  have k9 := (HX.out 9 _ rfl).1
  have k10 := (HX.out 10 _ rfl).1
  have k11 := (HX.out 11 _ rfl).1
  have k12 := (HX.out 12 _ rfl).1
  go_wp2_with fail
  refine (frRight_any t fa la fn fc ln lc _ FW.out).mono ?_
  rintro e w1 ⟨rfl, hb1⟩
  have HB1 := Lib.hid (below_from HB.out hb1)
  clear hb1
  cases h1 : rightT t with
  | false =>
    have H1 := Lib.hid h1
    clear h1
    go_wp2
    go_ret
    exact boolPost_mk (by rw [mayT7, H1.out]; rfl) HB1.out
  | true =>
    have H1 := Lib.hid h1
    clear h1
    go_wp2_with fail
    refine (loWithin_any self 7 _).mono ?_
    rintro e w2 ⟨rfl, h⟩
    cases h
    obtain ⟨b, hb⟩ : ∃ b, decide (0 ≤ self ∧ self ≤ 7) = b := ⟨_, rfl⟩
    rw [hb]
    have HBB := Lib.hid hb
    clear hb
    go_wp2
    go_ret
    exact boolPost_mk (by rw [mayT7, H1.out, HBB.out]; rfl) HB1.out
set_option maxRecDepth 100000 in
theorem loReady_any (t : Thr) (fa la : Option Addr) (fn fc ln lc : Nat) (w : World) (hl : t.lf.length = ln) :
    Calls Try.prog 20 #[.agg #[.int .i64 t.pc, .int .i64 (t.r 0), .int .i64 (t.r 1), .int .i64 (t.r 2), .int .i64 (t.r 3), .int .i64 (t.r 4), .int .i64 (t.r 5), .int .i64 (t.r 6), .int .i64 (t.r 7), .slice fa fn fc, .int .i64 t.st, .int .i64 t.ft, .slice la ln lc]] w (BoolPost (readyT t) w) := by
  have HL := Lib.hid hl
  clear hl
  go_enter Try.func20, Try.ntmps20
  go_wp2
  all_goals
    go_ret
    refine boolPost_mk ?_ (by go_grown)
    have e : readyT t = (decide (t.st = 0) && decide (ln = 0)) := by rw [readyT, HL.out]
    rw [e]
    try simp only [beq_iff_eq, beq_eq_false_iff_ne] at *
    rw [Bool.eq_iff_iff]
    simp
    try omega
theorem operand_any (s : UInt8) (v : Int) (w : World) : Calls Try.prog 47 #[.int .u8 s.toNat, .int .i64 v] w (PureB (oprB s v) w) := by
  go_enter Try.func47, Try.ntmps47
  by_cases h1 : s = 114
  · subst h1
    have e : oprB 114 v = decide (0 ≤ v ∧ v ≤ 7) := rfl
    rw [e]
    go_wp2_with fail
    refine (loWithin_any v 7 _).mono ?_
    rintro e w2 ⟨rfl, h⟩
    cases h
    go_wp2
    go_ret
    exact pureB_mk (by simp)
  · by_cases h2 : s = 110
    · subst h2
      go_wp2
      go_ret
      exact pureB_mk rfl
    · have e : oprB s v = decide (0 ≤ v ∧ v ≤ 1000) := by rw [oprB, if_neg h1, if_neg h2]
      have q1 : ((s.toNat : Int) == 114) = false := by
        rw [beq_eq_false_iff_ne]; intro q; apply h1; apply UInt8.toNat_inj.1; show s.toNat = 114; omega
      have q2 : ((s.toNat : Int) == 110) = false := by
        rw [beq_eq_false_iff_ne]; intro q; apply h2; apply UInt8.toNat_inj.1; show s.toNat = 110; omega
      rw [e]
      clear h1 h2 e
      go_wp2_with fail
      refine (loWithin_any v 1000 _).mono ?_
      rintro e w2 ⟨rfl, h⟩
      cases h
      go_wp2
      go_ret
      exact pureB_mk (by simp)
end Go.Proofs.Ytjddflnecfokaaa
