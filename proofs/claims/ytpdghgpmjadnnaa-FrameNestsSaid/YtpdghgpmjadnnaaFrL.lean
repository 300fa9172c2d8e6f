/- Layer 6's own small functions: alive, few. -/
import Derived.Test.YtpdghgpmjadnnaaFrF
namespace Go.Proofs.Ytpdghgpmjadnnaa
open Go.ChangeShapes Go.WideShapes Go.ChangeAt Go.RowKit
open Gen

def thr3 : Thr := ⟨3, fun _ => 0, [], 0, 0, []⟩
theorem callE3 : callE thr3 10 = 0 := by decide
theorem callT3 : callT thr3 10 = ⟨10, fun _ => 0, [(4, 0, 0, 0, 0)], 0, 0, []⟩ := by rw [callT, callE3]; rfl
set_option maxRecDepth 100000 in
set_option maxHeartbeats 4000000 in
theorem alive6_any (w : World) : Calls Try.prog 11 #[] w (BoolPost true w) := by
  go_enter Try.func11, Try.ntmps11
  go_wp2_with fail
  have h0 : Calls Try.prog 7 #[.agg #[.int .i64 3, .int .i64 0, .int .i64 0, .int .i64 0, .int .i64 0, .int .i64 0, .int .i64 0, .int .i64 0, .int .i64 0, .slice none 0 0, .int .i64 0, .int .i64 0, .slice none 0 0], .int .i64 10] w (ThPost ⟨10, fun _ => 0, [(4, 0, 0, 0, 0)], 0, 0, []⟩ 0 w) := by
    have h1 := frCall_any thr3 10 none none 0 0 0 0 w ⟨cap_nil, vs_nil, cap_nil, vs_nil⟩
    rw [callE3, callT3] at h1
    exact h1
  with_reducible refine h0.mono ?_
  clear h0
  rintro e w1 ⟨fa, fc, la, lc, rfl, F1, hb1⟩
  obtain ⟨b, o, x0, x1, x2, x3, x4, rfl, hx, g0, g1, g2, g3, g4⟩ := fr_at F1.fs (show 0 < [((4, 0, 0, 0, 0) : Fr)].length by decide)
  have HB := Lib.hid hb1
  obtain ⟨rfl, rfl, rfl, rfl, rfl⟩ : x0 = 4 ∧ x1 = 0 ∧ x2 = 0 ∧ x3 = 0 ∧ x4 = 0 := by simpa [eq_comm] using hx
  rw [Nat.zero_mul, Nat.add_zero] at g0 g1 g2 g3 g4
  have c0 := cellA (Obj.cells #[.int .i64 10, .int .i64 0, .int .i64 0, .int .i64 0, .int .i64 0, .int .i64 0, .int .i64 0, .int .i64 0, .int .i64 0, .slice (some ⟨b, o, none⟩) 1 fc, .int .i64 0, .int .i64 0, .slice la 0 lc] 27) g0
  clear hx hb1 F1 g0 g1 g2 g3 g4
  go_wp2
  go_ret
  exact boolPost_mk rfl (HB.out.alloc HB.out.size _)
end Go.Proofs.Ytpdghgpmjadnnaa
