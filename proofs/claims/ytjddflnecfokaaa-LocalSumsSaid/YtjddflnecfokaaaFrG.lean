/- Contracts of respiteref06: Right. -/
import Derived.Test.YtjddflnecfokaaaFrF
namespace Go.Proofs.Ytjddflnecfokaaa
open Go.ChangeShapes Go.WideShapes Go.ChangeAt Go.RowKit
open Gen

theorem rightT_no {t : Thr} {fn ln : Nat} (h1 : t.fs.length = fn) (h2 : t.lf.length = ln) (h : ¬ (0 ≤ t.pc ∧ t.pc ≤ 1000 ∧ fn ≤ 6 ∧ 0 ≤ t.st ∧ t.st ≤ 2 ∧ ln ≤ 8)) : rightT t = false := by
  cases hr : rightT t with
  | false => rfl
  | true =>
    have hl := rightT_len hr
    have hp := rightT_pc hr
    simp only [rightT, rightSt, Bool.and_eq_true, decide_eq_true_eq] at hr
    omega

set_option maxRecDepth 100000 in
set_option maxHeartbeats 4000000 in
theorem refRight6_any (t : Thr) (fa la : Option Addr) (fn fc ln lc : Nat) (w : World) (F : ThF w fa fn fc la ln lc t) :
    Calls Try.prog 10 #[.agg #[.int .i64 t.pc, .int .i64 (t.r 0), .int .i64 (t.r 1), .int .i64 (t.r 2), .int .i64 (t.r 3), .int .i64 (t.r 4), .int .i64 (t.r 5), .int .i64 (t.r 6), .int .i64 (t.r 7), .slice fa fn fc, .int .i64 t.st, .int .i64 t.ft, .slice la ln lc]] w (BoolPost (rightT t) w) := by
  obtain ⟨W, hW⟩ : ∃ W, W = w.alloc (Obj.cells #[.int .i64 t.pc, .int .i64 (t.r 0), .int .i64 (t.r 1), .int .i64 (t.r 2), .int .i64 (t.r 3), .int .i64 (t.r 4), .int .i64 (t.r 5), .int .i64 (t.r 6), .int .i64 (t.r 7), .slice fa fn fc, .int .i64 t.st, .int .i64 t.ft, .slice la ln lc] 27) := ⟨_, rfl⟩
  have X : VarN W w.heap.size [.int .i64 t.pc, .int .i64 (t.r 0), .int .i64 (t.r 1), .int .i64 (t.r 2), .int .i64 (t.r 3), .int .i64 (t.r 4), .int .i64 (t.r 5), .int .i64 (t.r 6), .int .i64 (t.r 7), .slice fa fn fc, .int .i64 t.st, .int .i64 t.ft, .slice la ln lc] := by rw [hW]; exact varN_new [.int .i64 t.pc, .int .i64 (t.r 0), .int .i64 (t.r 1), .int .i64 (t.r 2), .int .i64 (t.r 3), .int .i64 (t.r 4), .int .i64 (t.r 5), .int .i64 (t.r 6), .int .i64 (t.r 7), .slice fa fn fc, .int .i64 t.st, .int .i64 t.ft, .slice la ln lc] _ rfl
  have hB : Below w.heap.size w W := by rw [hW]; go_grown
  have h1 : t.fs.length = fn := F.fs.1
  have h2 : t.lf.length = ln := F.lf.1
  replace F := thF_B hB F
  have HF := Lib.hid F
  have HX := Lib.hid X
  have HB := Lib.hid hB
  have HW := Lib.hid hW
  have H1 := Lib.hid h1
  have H2 := Lib.hid h2
  clear hW X hB F
  by_cases hA : 0 ≤ t.pc ∧ t.pc ≤ 1000 ∧ fn ≤ 6 ∧ 0 ≤ t.st ∧ t.st ≤ 2 ∧ ln ≤ 8
  · clear h1 h2
    obtain ⟨a1, a2, a3, a4, a5, a6⟩ := hA
    have i1 : ¬ t.pc < 0 := by omega
    have i2 : ¬ 1000 < t.pc := by omega
    have i3 : ¬ (6 : Int) < fn := by omega
    have i4 : ¬ t.st < 0 := by omega
    have i5 : ¬ 2 < t.st := by omega
    have i6 : ¬ (8 : Int) < ln := by omega
    have HA := Lib.hid (And.intro a1 (And.intro a2 (And.intro a4 a5)))
    clear a1 a2 a4 a5
    go_enter Try.func10, Try.ntmps10
    go_upto_region 1 with fail
    rw [← HW.out]
    have k0 := (HX.out 0 _ rfl).1
    have k9 := (HX.out 9 _ rfl).1
    have k10 := (HX.out 10 _ rfl).1
    have k12 := (HX.out 12 _ rfl).1
    go_wp2
    go_loopw [40] (fun i wr => ∃ k : Nat, k ≤ fn ∧ i = .int .i64 k ∧ Hid (FrsTo t.fs k) ∧ Below W.heap.size W wr) (fun i _ => fn - (intOf i).toNat)
    case atStart => exact ⟨0, by omega, rfl, (show FrsTo t.fs 0 from fun i f hi => by omega), Below.refl _ _⟩
    case round =>
      obtain ⟨k, hk, rfl, hf, hb⟩ := hrel
      obtain ⟨wo, hwo⟩ : ∃ wo : World, wo = wr := ⟨_, rfl⟩
      subst hwo
      by_cases hlt : k < fn
      · obtain ⟨b, o, x0, x1, x2, x3, x4, rfl, hx, g0, g1, g2, g3, g4⟩ := fr_at (vs_B hb HF.out.fs) hlt
        have HX0 := Lib.hid hx
        have HB0 := Lib.hid hb
        have j1 : (0 : Int) ≤ k := by omega
        have j2 : (k : Int) < fn := by omega
        clear hx hb k0 k9 k10 k12
        by_cases h0 : 0 ≤ x0 ∧ x0 ≤ 1000
        · have HS := Lib.hid (frsTo_succ hf.out HX0.out h0)
          have q1 : ¬ x0 < 0 := by omega
          have q2 : ¬ 1000 < x0 := by omega
          clear h0
          go_wp2
          go_roundw
          case rel => exact ⟨k + 1, by omega, by go_num, HS.out, HB0.out.alloc HB0.out.size _⟩
          case measure => simp [intOf]; omega
        · have HS := Lib.hid (show rightT t = false by rw [rightT, rightFs_at HX0.out h0, Bool.and_false]; rfl)
          have HBB := Lib.hid ((below_from HB.out HB0.out).alloc (below_from HB.out HB0.out).size (Obj.cells #[.int .i64 x0, .int .i64 x1, .int .i64 x2, .int .i64 x3, .int .i64 x4] 58))
          clear HB HB0
          go_wp2
          all_goals first
            | (exfalso; omega)
            | (go_ret; exact boolPost_mk HS.out HBB.out)
      · obtain rfl : k = fn := by omega
        have HFS := Lib.hid (rightFs_yes H1.out a3 hf.out)
        have XB := varN_B hb HX.out
        have HL := Lib.hid (vs_B hb HF.out.lf)
        have HBB := Lib.hid (below_from HB.out hb)
        clear hb k0 k9 k10 k12
        have k10 := (XB 10 _ rfl).1
        have k11 := (XB 11 _ rfl).1
        have k12 := (XB 12 _ rfl).1
        clear XB
        go_wp2
        go_loop [56] (fun i => ∃ m : Nat, m ≤ ln ∧ i = .int .i64 m ∧ Hid (LfTo t.lf m)) (fun i => ln - (intOf i).toNat)
        case atStart => exact ⟨0, by omega, rfl, (show LfTo t.lf 0 from fun i f hi => by omega)⟩
        case round =>
          obtain ⟨m, hm, rfl, hg⟩ := hrel
          by_cases hlt2 : m < ln
          · obtain ⟨b, o, x0, rfl, hx, g0⟩ := int_at HL.out hlt2
            have HX0 := Lib.hid hx
            have j1 : (0 : Int) ≤ m := by omega
            have j2 : (m : Int) < ln := by omega
            clear hx
            by_cases h0 : 0 ≤ x0 ∧ x0 ≤ 8
            · have HS := Lib.hid (lfTo_succ hg.out HX0.out h0)
              have q1 : ¬ x0 < 0 := by omega
              have q2 : ¬ 8 < x0 := by omega
              clear h0
              go_wp2
              go_round
              case rel => exact ⟨m + 1, by omega, by go_num, HS.out⟩
              case measure => simp [intOf]; omega
            · have HS := Lib.hid (show rightT t = false by rw [rightT, rightLf_at HX0.out h0, Bool.and_false])
              go_wp2
              all_goals first
                | (exfalso; omega)
                | (go_ret; exact boolPost_mk HS.out HBB.out)
          · obtain rfl : m = ln := by omega
            have HS := Lib.hid (show rightT t = rightSt t.st t.ft by
              have ha := HA.out
              rw [rightT, HFS.out, rightLf_yes H2.out a6 hg.out, decide_eq_true (And.intro ha.1 ha.2.1), Bool.true_and, Bool.true_and, Bool.and_true])
            clear hg hlt2
            go_wp2
            all_goals
              go_ret
              refine boolPost_mk (HS.out.trans ?_) HBB.out
              have ha := HA.out
              try simp only [beq_iff_eq, beq_eq_false_iff_ne] at *
              rw [Bool.eq_iff_iff]
              simp [rightSt]
              try omega
  · have HS := Lib.hid (rightT_no h1 h2 hA)
    clear h1 h2
    go_enter Try.func10, Try.ntmps10
    go_upto_region 1 with fail
    rw [← HW.out]
    have k0 := (HX.out 0 _ rfl).1
    have k9 := (HX.out 9 _ rfl).1
    have k10 := (HX.out 10 _ rfl).1
    have k12 := (HX.out 12 _ rfl).1
    go_wp2
    all_goals first
      | (exfalso; omega)
      | (go_ret; exact boolPost_mk HS.out HB.out)
end Go.Proofs.Ytjddflnecfokaaa
