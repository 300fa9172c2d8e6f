/- respiteref06: Same. -/
import Derived.Test.YtjddflnecfokaaaFrH
namespace Go.Proofs.Ytjddflnecfokaaa
open Go.ChangeShapes Go.WideShapes Go.ChangeAt Go.RowKit
open Gen

def sameT (t s : Thr) : Bool := decide (t.pc = s.pc) && eqR t.r s.r && decide (t.st = s.st) && decide (t.ft = s.ft) && decide (t.fs = s.fs) && decide (t.lf = s.lf)

theorem sameT_iff {t s : Thr} : sameT t s = true ↔ t.pc = s.pc ∧ eqR t.r s.r = true ∧ t.st = s.st ∧ t.ft = s.ft ∧ t.fs = s.fs ∧ t.lf = s.lf := by
  simp only [sameT, Bool.and_eq_true, decide_eq_true_eq, and_assoc]

set_option maxRecDepth 100000 in
set_option maxHeartbeats 4000000 in
theorem refSame6_any (t s : Thr) (fa la : Option Addr) (fn fc ln lc : Nat) (fa' la' : Option Addr) (fn' fc' ln' lc' : Nat) (w : World) (F : ThF w fa fn fc la ln lc t) (G : ThF w fa' fn' fc' la' ln' lc' s) (hn : fn ≤ 1000000) :
    Calls Try.prog 15 #[.agg #[.int .i64 t.pc, .int .i64 (t.r 0), .int .i64 (t.r 1), .int .i64 (t.r 2), .int .i64 (t.r 3), .int .i64 (t.r 4), .int .i64 (t.r 5), .int .i64 (t.r 6), .int .i64 (t.r 7), .slice fa fn fc, .int .i64 t.st, .int .i64 t.ft, .slice la ln lc], .agg #[.int .i64 s.pc, .int .i64 (s.r 0), .int .i64 (s.r 1), .int .i64 (s.r 2), .int .i64 (s.r 3), .int .i64 (s.r 4), .int .i64 (s.r 5), .int .i64 (s.r 6), .int .i64 (s.r 7), .slice fa' fn' fc', .int .i64 s.st, .int .i64 s.ft, .slice la' ln' lc']] w (BoolPost (sameT t s) w) := by
  obtain ⟨W, hW⟩ : ∃ W, W = (w.alloc (Obj.cells #[.int .i64 t.pc, .int .i64 (t.r 0), .int .i64 (t.r 1), .int .i64 (t.r 2), .int .i64 (t.r 3), .int .i64 (t.r 4), .int .i64 (t.r 5), .int .i64 (t.r 6), .int .i64 (t.r 7), .slice fa fn fc, .int .i64 t.st, .int .i64 t.ft, .slice la ln lc] 27)).alloc (Obj.cells #[.int .i64 s.pc, .int .i64 (s.r 0), .int .i64 (s.r 1), .int .i64 (s.r 2), .int .i64 (s.r 3), .int .i64 (s.r 4), .int .i64 (s.r 5), .int .i64 (s.r 6), .int .i64 (s.r 7), .slice fa' fn' fc', .int .i64 s.st, .int .i64 s.ft, .slice la' ln' lc'] 27) := ⟨_, rfl⟩
  have X : VarN W w.heap.size [.int .i64 t.pc, .int .i64 (t.r 0), .int .i64 (t.r 1), .int .i64 (t.r 2), .int .i64 (t.r 3), .int .i64 (t.r 4), .int .i64 (t.r 5), .int .i64 (t.r 6), .int .i64 (t.r 7), .slice fa fn fc, .int .i64 t.st, .int .i64 t.ft, .slice la ln lc] := by rw [hW]; exact varN_A _ (varN_new [.int .i64 t.pc, .int .i64 (t.r 0), .int .i64 (t.r 1), .int .i64 (t.r 2), .int .i64 (t.r 3), .int .i64 (t.r 4), .int .i64 (t.r 5), .int .i64 (t.r 6), .int .i64 (t.r 7), .slice fa fn fc, .int .i64 t.st, .int .i64 t.ft, .slice la ln lc] _ rfl)
  have Y : VarN W (w.heap.size + 1) [.int .i64 s.pc, .int .i64 (s.r 0), .int .i64 (s.r 1), .int .i64 (s.r 2), .int .i64 (s.r 3), .int .i64 (s.r 4), .int .i64 (s.r 5), .int .i64 (s.r 6), .int .i64 (s.r 7), .slice fa' fn' fc', .int .i64 s.st, .int .i64 s.ft, .slice la' ln' lc'] := by rw [hW]; exact varN_new [.int .i64 s.pc, .int .i64 (s.r 0), .int .i64 (s.r 1), .int .i64 (s.r 2), .int .i64 (s.r 3), .int .i64 (s.r 4), .int .i64 (s.r 5), .int .i64 (s.r 6), .int .i64 (s.r 7), .slice fa' fn' fc', .int .i64 s.st, .int .i64 s.ft, .slice la' ln' lc'] _ (by simp)
  have hB : Below w.heap.size w W := by rw [hW]; go_grown
  have hl : ln ≤ 9223372036854775807 := Nat.le_trans F.lcap.1 F.lcap.2.1
  replace F := thF_B hB F
  replace G := thF_B hB G
  have HF := Lib.hid F
  have HG := Lib.hid G
  have HX := Lib.hid X
  have HY := Lib.hid Y
  have HB := Lib.hid hB
  have HW := Lib.hid hW
  clear hW X Y hB F G
  go_enter Try.func15, Try.ntmps15
  go_upto_region 1 with fail
  rw [← HW.out]
  have k0 := (HX.out 0 _ rfl).1
  have k1 := (HX.out 1 _ rfl).1
  have k2 := (HX.out 2 _ rfl).1
  have k3 := (HX.out 3 _ rfl).1
  have k4 := (HX.out 4 _ rfl).1
  have k5 := (HX.out 5 _ rfl).1
  have k6 := (HX.out 6 _ rfl).1
  have k7 := (HX.out 7 _ rfl).1
  have k8 := (HX.out 8 _ rfl).1
  have k9 := (HX.out 9 _ rfl).1
  have k10 := (HX.out 10 _ rfl).1
  have k11 := (HX.out 11 _ rfl).1
  have k12 := (HX.out 12 _ rfl).1
  have m0 := (HY.out 0 _ rfl).1
  have m1 := (HY.out 1 _ rfl).1
  have m2 := (HY.out 2 _ rfl).1
  have m3 := (HY.out 3 _ rfl).1
  have m4 := (HY.out 4 _ rfl).1
  have m5 := (HY.out 5 _ rfl).1
  have m6 := (HY.out 6 _ rfl).1
  have m7 := (HY.out 7 _ rfl).1
  have m8 := (HY.out 8 _ rfl).1
  have m9 := (HY.out 9 _ rfl).1
  have m10 := (HY.out 10 _ rfl).1
  have m11 := (HY.out 11 _ rfl).1
  have m12 := (HY.out 12 _ rfl).1
  have q8 := eq_regs t.r s.r W
  obtain ⟨er, her⟩ : ∃ er, eqR t.r s.r = er := ⟨_, rfl⟩
  rw [her] at q8
  have HER := Lib.hid her
  clear her
  have HSE : Hid (t.pc = s.pc → er = true → t.st = s.st → t.ft = s.ft → sameT t s = (decide (t.fs = s.fs) && decide (t.lf = s.lf))) := by
    intro h1 h2 h3 h4
    rw [sameT, h1, h3, h4, HER.out, h2]; simp
  by_cases hff : fn = fn'
  · subst hff
    have q : ((fn : Int) != fn) = false := by simp
    go_wp2
    any_goals first
      | (go_ret
         refine boolPost_mk (Bool.eq_false_iff.2 fun h => ?_) HB.out
         obtain ⟨a1, a2, a3, a4, a5, a6⟩ := sameT_iff.1 h
         rw [HER.out] at a2
         contradiction)
      | skip
    rename_i h1 h2 h3 h4 _ _
    have HSS := Lib.hid (HSE.out h1 h2 h3 h4)
    clear HSE h1 h2 h3 h4 q8
    go_loopw [44] (fun i wr => ∃ k : Nat, k ≤ fn ∧ i = .int .i64 k ∧ Hid (Agree t.fs s.fs k) ∧ Below W.heap.size W wr) (fun i _ => fn - (intOf i).toNat)
    case atStart => exact ⟨0, by omega, rfl, agree_zero _ _, Below.refl _ _⟩
    case round =>
      obtain ⟨k, hk, rfl, hs, hb⟩ := hrel
      have X1 := varN_B hb HX.out
      have Y1 := varN_B hb HY.out
      clear k0 k1 k2 k3 k4 k5 k6 k7 k8 k9 k10 k11 k12 m0 m1 m2 m3 m4 m5 m6 m7 m8 m9 m10 m11 m12
      have k9 := (X1 9 _ rfl).1
      have m9 := (Y1 9 _ rfl).1
      have k12 := (X1 12 _ rfl).1
      have m12 := (Y1 12 _ rfl).1
      clear X1 Y1
      by_cases hlt : k < fn
      · obtain ⟨b1, o1, x0, x1, x2, x3, x4, rfl, hx, g0, g1, g2, g3, g4⟩ := fr_at (vs_B hb HF.out.fs) hlt
        obtain ⟨b2, o2, y0, y1, y2, y3, y4, rfl, hy, d0, d1, d2, d3, d4⟩ := fr_at (vs_B hb HG.out.fs) hlt
        have HX0 := Lib.hid hx
        have HY0 := Lib.hid hy
        have HB0 := Lib.hid hb
        have j1 : (0 : Int) ≤ k := by omega
        have j2 : (k : Int) < fn := by omega
        clear hx hy hb k12 m12
        have qe := fun w => eq_frame x0 x1 x2 x3 x4 y0 y1 y2 y3 y4 w
        obtain ⟨eb, heb⟩ : ∃ eb, decide ((x0, x1, x2, x3, x4) = (y0, y1, y2, y3, y4)) = eb := ⟨_, rfl⟩
        rw [heb] at qe
        have HEB := Lib.hid heb
        clear heb
        cases eb with
        | true =>
          have HS := Lib.hid (agree_succ hs.out HX0.out (by rw [of_decide_eq_true HEB.out]; exact HY0.out))
          go_wp2
          go_quiet (fail)
          go_wp2
          go_roundw
          case rel => exact ⟨k + 1, by omega, by go_num, HS.out, below_drews HB0.out _⟩
          case measure => simp [intOf]; omega
        | false =>
          have HS := Lib.hid (agree_no HX0.out HY0.out (of_decide_eq_false HEB.out))
          go_wp2
          go_quiet (fail)
          go_wp2
          go_ret
          exact boolPost_mk (by rw [HSS.out, decide_eq_false HS.out]; rfl) (below_drews (below_from HB.out HB0.out) _)
      · obtain rfl : k = fn := by omega
        have HS := Lib.hid (agree_eq HF.out.fs.1 HG.out.fs.1 hs.out)
        have L1 := vs_B hb HF.out.lf
        have L2 := vs_B hb HG.out.lf
        have HB1 := Lib.hid (below_from HB.out hb)
        clear hb k9 m9
        go_wp2_with fail
        refine (Ints6_any la la' ln lc ln' lc' t.lf s.lf _ L1 L2 hl).mono ?_
        rintro e w2 ⟨rfl, hb2⟩
        have HB2 := Lib.hid (below_from HB1.out hb2)
        obtain ⟨lb, hlb⟩ : ∃ lb, decide (t.lf = s.lf) = lb := ⟨_, rfl⟩
        rw [hlb]
        have HLB := Lib.hid hlb
        clear hlb hb2
        go_wp2
        go_ret
        exact boolPost_mk (by rw [HSS.out, decide_eq_true HS.out, HLB.out]; rfl) HB2.out
  · have HNO : Hid (sameT t s = false) := Bool.eq_false_iff.2 fun h => hff (by rw [← HF.out.fs.1, ← HG.out.fs.1, (sameT_iff.1 h).2.2.2.2.1])
    have q : ((fn : Int) != fn') = true := by simp; omega
    clear HSE
    go_wp2
    all_goals
      go_ret
      exact boolPost_mk HNO.out HB.out
end Go.Proofs.Ytjddflnecfokaaa
