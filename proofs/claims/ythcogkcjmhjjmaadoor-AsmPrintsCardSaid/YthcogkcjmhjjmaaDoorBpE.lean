/- respiteref05: Right. -/
import Derived.Test.YthcogkcjmhjjmaaDoorBpC
namespace Go.Proofs.YthcogkcjmhjjmaaDoor
open Go.ChangeShapes Go.WideShapes Go.ChangeAt Go.RowKit
open Gen

set_option maxHeartbeats 4000000 in
theorem refRight5_any (a : Option Addr) (n c : Nat) (cs : List Ins) (w : World) (S : Vs repIns Any w a n cs) (hn : n ≤ 9223372036854775807) :
    Calls Tryd.prog 16 #[.slice a n c] w (BoolPost (rightC cs) w) := by
  have Hn := Lib.hid S.1
  by_cases h6 : n ≤ 1000
  · have i6 : ¬ (1000 : Int) < n := by omega
    go_enter Tryd.func16, Tryd.ntmps16
    go_wp2
    go_loopw [10] (fun i wr => ∃ k : Nat, k ≤ n ∧ i = .int .i64 k ∧ Hid (MayTo cs n k) ∧ Below w.heap.size w wr) (fun i _ => n - (intOf i).toNat)
    case atStart => exact ⟨0, by omega, rfl, (show MayTo cs n 0 from fun q i hq => by omega), Below.refl _ _⟩
    case round =>
      obtain ⟨k, hk, rfl, hf, hb⟩ := hrel
      obtain ⟨wo, hwo⟩ : ∃ wo : World, wo = wr := ⟨_, rfl⟩
      subst hwo
      by_cases hlt : k < n
      · obtain ⟨b, o, x0, x1, x2, x3, rfl, hx, g0, g1, g2, g3⟩ := ins_of (vs_B hb S) hlt
        have HX := Lib.hid hx
        have HB := Lib.hid hb
        have HB2 := Lib.hid (hb.alloc hb.size (Obj.cells #[.int .i64 x0, .int .i64 x1, .int .i64 x2, .int .i64 x3] 39))
        have i1 : (0 : Int) ≤ k := by omega
        have i2 : (k : Int) < n := by omega
        clear hx hb
        obtain ⟨mb, hmb⟩ : ∃ mb, mayB (x0, x1, x2, x3) n = mb := ⟨_, rfl⟩
        have HM := Lib.hid hmb
        clear hmb
        go_wp2_with fail
        have h0 := refMay5_any (x0, x1, x2, x3) n (wo.alloc (Obj.cells #[.int .i64 x0, .int .i64 x1, .int .i64 x2, .int .i64 x3] 39))
        rw [HM.out] at h0
        unfold insV at h0
        refine h0.mono ?_
        clear h0
        rintro e w1 ⟨rfl, hb1⟩
        have HB3 := Lib.hid (below_from HB2.out hb1)
        clear hb1 g0 g1 g2 g3
        cases mb with
        | true =>
          have HS := Lib.hid (mayTo_succ hf.out HX.out HM.out)
          go_wp2
          go_roundw
          case rel => exact ⟨k + 1, by omega, by go_num, HS.out, HB3.out⟩
          case measure => simp [intOf]; omega
        | false =>
          have HS := Lib.hid (rightC_at Hn.out HX.out HM.out)
          go_wp2
          go_ret
          exact boolPost_mk HS.out HB3.out
      · obtain rfl : k = n := by omega
        have HB := Lib.hid hb
        clear hb
        go_wp2
        go_ret
        exact boolPost_mk (rightC_yes Hn.out h6 hf.out) HB.out
  · have i6 : (1000 : Int) < n := by omega
    have HS := Lib.hid (rightC_long (c := cs) (by rw [Hn.out]; exact h6))
    clear h6
    go_enter Tryd.func16, Tryd.ntmps16
    go_wp2
    go_ret
    exact boolPost_mk HS.out (Below.refl _ _)



end Go.Proofs.YthcogkcjmhjjmaaDoor
