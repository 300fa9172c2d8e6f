/- Contracts of package frame: within, framesRight, leftRight, stateRight, Right. -/
import Derived.Test.YtjddflnecfokaaaFrA
import Derived.Deep.DeepCutAuto
namespace Go.Proofs.Ytjddflnecfokaaa
open Go.ChangeShapes Go.WideShapes Go.ChangeAt Go.RowKit
open Gen

theorem frWithin_any (v m : Int) (w : World) : Calls Try.prog 50 #[.int .i64 v, .int .i64 m] w (PureB (decide (0 ≤ v ∧ v ≤ m)) w) := by
  go_enter Try.func50, Try.ntmps50
  go_wp2
  all_goals
    go_ret
    refine pureB_mk ?_
    rw [Bool.eq_iff_iff]
    simp
    try omega

set_option maxHeartbeats 1000000 in
theorem framesRight_any (a : Option Addr) (n c : Nat) (fs : List Fr) (w : World) (S : Vs repFr Any w a n fs) (hn : n ≤ 9223372036854775807) :
    Calls Try.prog 51 #[.slice a n c] w (BoolPost (rightFs fs) w) := by
  have Hn := Lib.hid S.1
  by_cases h6 : n ≤ 6
  · have i6 : ¬ (6 : Int) < n := by omega
    go_enter Try.func51, Try.ntmps51
    go_wp2
    go_loopw [10] (fun i wr => ∃ k : Nat, k ≤ n ∧ i = .int .i64 k ∧ Hid (FrsTo fs k) ∧ Below w.heap.size w wr) (fun i _ => n - (intOf i).toNat)
    case atStart => exact ⟨0, by omega, rfl, (show FrsTo fs 0 from fun i f hi => by omega), Below.refl _ _⟩
    case round =>
      obtain ⟨k, hk, rfl, hf, hb⟩ := hrel
      obtain ⟨wo, hwo⟩ : ∃ wo : World, wo = wr := ⟨_, rfl⟩
      subst hwo
      by_cases hlt : k < n
      · obtain ⟨b, o, x0, x1, x2, x3, x4, rfl, hx, g0, g1, g2, g3, g4⟩ := fr_at (vs_B hb S) hlt
        have HX := Lib.hid hx
        have HB := Lib.hid hb
        have i1 : (0 : Int) ≤ k := by omega
        have i2 : (k : Int) < n := by omega
        clear hx hb
        by_cases h0 : 0 ≤ x0 ∧ x0 ≤ 1000
        · have HS := Lib.hid (frsTo_succ hf.out HX.out h0)
          have HD := Lib.hid (show decide (0 ≤ x0 ∧ x0 ≤ 1000) = true by simpa using h0)
          clear h0
          go_wp2_with fail
          refine (frWithin_any x0 1000 _).mono ?_
          rintro e w1 ⟨rfl, h1⟩
          cases h1
          rw [HD.out]
          go_wp2
          go_roundw
          case rel => exact ⟨k + 1, by omega, by go_num, HS.out, HB.out.alloc HB.out.size _⟩
          case measure => simp [intOf]; omega
        · have HS := Lib.hid (rightFs_at HX.out h0)
          have HD := Lib.hid (show decide (0 ≤ x0 ∧ x0 ≤ 1000) = false by simpa using h0)
          clear h0
          go_wp2_with fail
          refine (frWithin_any x0 1000 _).mono ?_
          rintro e w1 ⟨rfl, h1⟩
          cases h1
          rw [HD.out]
          go_wp2
          go_ret
          exact boolPost_mk HS.out (HB.out.alloc HB.out.size _)
      · obtain rfl : k = n := by omega
        have HB := Lib.hid hb
        clear hb
        go_wp2
        go_ret
        exact boolPost_mk (rightFs_yes Hn.out h6 hf.out) HB.out
  · have i6 : (6 : Int) < n := by omega
    have HS := Lib.hid (rightFs_long (fs := fs) (by rw [Hn.out]; exact h6))
    clear h6
    go_enter Try.func51, Try.ntmps51
    go_wp2
    go_ret
    exact boolPost_mk HS.out (Below.refl _ _)

set_option maxHeartbeats 1000000 in
theorem leftRight_any (a : Option Addr) (n c : Nat) (fs : List Int) (w : World) (S : Vs repInt Any w a n fs) (hn : n ≤ 9223372036854775807) :
    Calls Try.prog 53 #[.slice a n c] w (PureB (rightLf fs) w) := by
  have Hn := Lib.hid S.1
  by_cases h6 : n ≤ 8
  · have i6 : ¬ (8 : Int) < n := by omega
    go_enter Try.func53, Try.ntmps53
    go_wp2
    go_loop [10] (fun i => ∃ k : Nat, k ≤ n ∧ i = .int .i64 k ∧ Hid (LfTo fs k)) (fun i => n - (intOf i).toNat)
    case atStart => exact ⟨0, by omega, rfl, (show LfTo fs 0 from fun i f hi => by omega)⟩
    case round =>
      obtain ⟨k, hk, rfl, hf⟩ := hrel
      by_cases hlt : k < n
      · obtain ⟨b, o, x0, rfl, hx, g0⟩ := int_at S hlt
        have HX := Lib.hid hx
        have i1 : (0 : Int) ≤ k := by omega
        have i2 : (k : Int) < n := by omega
        clear hx
        by_cases h0 : 0 ≤ x0 ∧ x0 ≤ 8
        · have HS := Lib.hid (lfTo_succ hf.out HX.out h0)
          have HD := Lib.hid (show decide (0 ≤ x0 ∧ x0 ≤ 8) = true by simpa using h0)
          clear h0
          go_wp2_with fail
          refine (frWithin_any x0 8 _).mono ?_
          rintro e w1 ⟨rfl, h1⟩
          cases h1
          rw [HD.out]
          go_wp2
          go_round
          case rel => exact ⟨k + 1, by omega, by go_num, HS.out⟩
          case measure => simp [intOf]; omega
        · have HS := Lib.hid (rightLf_at HX.out h0)
          have HD := Lib.hid (show decide (0 ≤ x0 ∧ x0 ≤ 8) = false by simpa using h0)
          clear h0
          go_wp2_with fail
          refine (frWithin_any x0 8 _).mono ?_
          rintro e w1 ⟨rfl, h1⟩
          cases h1
          rw [HD.out]
          go_wp2
          go_ret
          exact pureB_mk HS.out
      · obtain rfl : k = n := by omega
        go_wp2
        go_ret
        exact pureB_mk (rightLf_yes Hn.out h6 hf.out)
  · have i6 : (8 : Int) < n := by omega
    have HS := Lib.hid (rightLf_long (fs := fs) (by rw [Hn.out]; exact h6))
    clear h6
    go_enter Try.func53, Try.ntmps53
    go_wp2
    go_ret
    exact pureB_mk HS.out

set_option maxRecDepth 100000 in
set_option maxHeartbeats 1000000 in
theorem stateRight_any (t : Thr) (fa la : Option Addr) (fn fc ln lc : Nat) (w : World) :
    Calls Try.prog 52 #[.agg #[.int .i64 t.pc, .int .i64 (t.r 0), .int .i64 (t.r 1), .int .i64 (t.r 2), .int .i64 (t.r 3), .int .i64 (t.r 4), .int .i64 (t.r 5), .int .i64 (t.r 6), .int .i64 (t.r 7), .slice fa fn fc, .int .i64 t.st, .int .i64 t.ft, .slice la ln lc]] w (BoolPost (rightSt t.st t.ft) w) := by
  go_enter Try.func52, Try.ntmps52
  go_wp2
  all_goals
    go_ret
    refine boolPost_mk ?_ (by go_grown)
    try simp only [beq_iff_eq, beq_eq_false_iff_ne] at *
    rw [Bool.eq_iff_iff]
    simp [rightSt]
    try omega

theorem load_thr (w : World) (g : Nat) (t : Thr) (fa la : Option Addr) (fn fc ln lc : Nat) (h : VarN w g [.int .i64 t.pc, .int .i64 (t.r 0), .int .i64 (t.r 1), .int .i64 (t.r 2), .int .i64 (t.r 3), .int .i64 (t.r 4), .int .i64 (t.r 5), .int .i64 (t.r 6), .int .i64 (t.r 7), .slice fa fn fc, .int .i64 t.st, .int .i64 t.ft, .slice la ln lc]) : (loadVar 27 ⟨g, 0, none⟩).run Try.prog w = .ok (.agg #[.int .i64 t.pc, .int .i64 (t.r 0), .int .i64 (t.r 1), .int .i64 (t.r 2), .int .i64 (t.r 3), .int .i64 (t.r 4), .int .i64 (t.r 5), .int .i64 (t.r 6), .int .i64 (t.r 7), .slice fa fn fc, .int .i64 t.st, .int .i64 t.ft, .slice la ln lc]) w := by
  have k0 := (h 0 _ rfl).1
  have k1 := (h 1 _ rfl).1
  have k2 := (h 2 _ rfl).1
  have k3 := (h 3 _ rfl).1
  have k4 := (h 4 _ rfl).1
  have k5 := (h 5 _ rfl).1
  have k6 := (h 6 _ rfl).1
  have k7 := (h 7 _ rfl).1
  have k8 := (h 8 _ rfl).1
  have k9 := (h 9 _ rfl).1
  have k10 := (h 10 _ rfl).1
  have k11 := (h 11 _ rfl).1
  have k12 := (h 12 _ rfl).1
  simp [go_sem, k0, k1, k2, k3, k4, k5, k6, k7, k8, k9, k10, k11, k12]

set_option maxRecDepth 100000 in
set_option maxHeartbeats 2000000 in
theorem frRight_any (t : Thr) (fa la : Option Addr) (fn fc ln lc : Nat) (w : World) (F : ThF w fa fn fc la ln lc t) :
    Calls Try.prog 31 #[.agg #[.int .i64 t.pc, .int .i64 (t.r 0), .int .i64 (t.r 1), .int .i64 (t.r 2), .int .i64 (t.r 3), .int .i64 (t.r 4), .int .i64 (t.r 5), .int .i64 (t.r 6), .int .i64 (t.r 7), .slice fa fn fc, .int .i64 t.st, .int .i64 t.ft, .slice la ln lc]] w (BoolPost (rightT t) w) := by
  obtain ⟨W, hW⟩ : ∃ W, W = w.alloc (Obj.cells #[.int .i64 t.pc, .int .i64 (t.r 0), .int .i64 (t.r 1), .int .i64 (t.r 2), .int .i64 (t.r 3), .int .i64 (t.r 4), .int .i64 (t.r 5), .int .i64 (t.r 6), .int .i64 (t.r 7), .slice fa fn fc, .int .i64 t.st, .int .i64 t.ft, .slice la ln lc] 27) := ⟨_, rfl⟩
  have X : VarN W w.heap.size [.int .i64 t.pc, .int .i64 (t.r 0), .int .i64 (t.r 1), .int .i64 (t.r 2), .int .i64 (t.r 3), .int .i64 (t.r 4), .int .i64 (t.r 5), .int .i64 (t.r 6), .int .i64 (t.r 7), .slice fa fn fc, .int .i64 t.st, .int .i64 t.ft, .slice la ln lc] := by rw [hW]; exact varN_new [.int .i64 t.pc, .int .i64 (t.r 0), .int .i64 (t.r 1), .int .i64 (t.r 2), .int .i64 (t.r 3), .int .i64 (t.r 4), .int .i64 (t.r 5), .int .i64 (t.r 6), .int .i64 (t.r 7), .slice fa fn fc, .int .i64 t.st, .int .i64 t.ft, .slice la ln lc] _ rfl
  have hB : Below w.heap.size w W := by rw [hW]; go_grown
  have hn : fn ≤ 9223372036854775807 := Nat.le_trans F.fcap.1 F.fcap.2.1
  have hm : ln ≤ 9223372036854775807 := Nat.le_trans F.lcap.1 F.lcap.2.1
  replace F := thF_B hB F
  have S1 := F.fs
  have S2 := F.lf
  have HX := Lib.hid X
  have HB := Lib.hid hB
  have HW := Lib.hid hW
  clear hW X hB F
  go_enter Try.func31, Try.ntmps31
  go_upto_region 1 with fail
  rw [← HW.out]
  have k0 := (HX.out 0 _ rfl).1
  have k9 := (HX.out 9 _ rfl).1
  cases h1 : decide (0 ≤ t.pc ∧ t.pc ≤ 1000) with
  | false =>
    have H1 := Lib.hid h1
    clear h1
    go_wp2_with fail
    refine (frWithin_any t.pc 1000 _).mono ?_
    rintro e w1 ⟨rfl, h⟩
    cases h
    rw [H1.out]
    go_wp2
    go_ret
    exact boolPost_mk (by rw [rightT, H1.out]; rfl) HB.out
  | true =>
    have H1 := Lib.hid h1
    clear h1
    go_wp2_with fail
    refine (frWithin_any t.pc 1000 _).mono ?_
    rintro e w1 ⟨rfl, h⟩
    cases h
    rw [H1.out]
    cases h2 : rightFs t.fs with
    | false =>
      have H2 := Lib.hid h2
      clear h2
      go_wp2_with fail
      refine (framesRight_any fa fn fc t.fs _ S1 hn).mono ?_
      rintro e w1 ⟨rfl, hb1⟩
      rw [H2.out]
      have HB1 := Lib.hid (below_from HB.out hb1)
      clear hb1
      go_wp2
      go_ret
      exact boolPost_mk (by rw [rightT, H2.out, Bool.and_false]; rfl) HB1.out
    | true =>
      have H2 := Lib.hid h2
      clear h2
      go_wp2_with fail
      refine (framesRight_any fa fn fc t.fs _ S1 hn).mono ?_
      rintro e w1 ⟨rfl, hb1⟩
      rw [H2.out]
      have HB1 := Lib.hid (below_from HB.out hb1)
      have X1 := varN_B hb1 HX.out
      replace S2 := vs_B hb1 S2
      have HX1 := Lib.hid X1
      clear hb1 k0 k9
      have k0 := (X1 0 _ rfl).1
      have k1 := (X1 1 _ rfl).1
      have k2 := (X1 2 _ rfl).1
      have k3 := (X1 3 _ rfl).1
      have k4 := (X1 4 _ rfl).1
      have k5 := (X1 5 _ rfl).1
      have k6 := (X1 6 _ rfl).1
      have k7 := (X1 7 _ rfl).1
      have k8 := (X1 8 _ rfl).1
      have k9 := (X1 9 _ rfl).1
      have k10 := (X1 10 _ rfl).1
      have k11 := (X1 11 _ rfl).1
      have k12 := (X1 12 _ rfl).1
      clear X1
      cases h3 : rightSt t.st t.ft with
      | false =>
        have H3 := Lib.hid h3
        clear h3
        go_wp2_with fail
        refine (stateRight_any t fa la fn fc ln lc _).mono ?_
        rintro e w2 ⟨rfl, hb2⟩
        rw [H3.out]
        have HB2 := Lib.hid (below_from HB1.out hb2)
        clear hb2
        go_wp2
        go_ret
        exact boolPost_mk (by rw [rightT, H3.out, Bool.and_false]; rfl) HB2.out
      | true =>
        have H3 := Lib.hid h3
        clear h3
        go_wp2_with fail
        refine (stateRight_any t fa la fn fc ln lc _).mono ?_
        rintro e w2 ⟨rfl, hb2⟩
        rw [H3.out]
        have HB2 := Lib.hid (below_from HB1.out hb2)
        replace k12 := cellB hb2 k12
        replace S2 := vs_B hb2 S2
        clear hb2
        go_wp2_with fail
        refine (leftRight_any la ln lc t.lf _ S2 hm).mono ?_
        rintro e w3 ⟨rfl, h⟩
        cases h
        obtain ⟨r, hr⟩ : ∃ r, rightLf t.lf = r := ⟨_, rfl⟩
        have HR := Lib.hid hr
        rw [hr]
        clear hr
        go_wp2
        go_ret
        exact boolPost_mk (by rw [rightT, H1.out, H2.out, H3.out, HR.out]; rfl) HB2.out
end Go.Proofs.Ytjddflnecfokaaa
