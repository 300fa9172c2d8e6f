/- Layer 7's own small functions: alive. -/
import Derived.Test.YtjddflnecfokaaaLoM
namespace Go.Proofs.Ytjddflnecfokaaa
open Go.ChangeShapes Go.WideShapes Go.ChangeAt Go.RowKit
open Gen

def thr12 : Thr := ⟨0, fun k => if k = 0 then 1 else if k = 1 then 2 else 0, [], 0, 0, []⟩
theorem ap12 : apE thr12 0 (5, 0, 0, 1) = 0 := by decide
theorem ap12T : apT thr12 0 (5, 0, 0, 1) = putT thr12 0 3 := by
  rw [apT, ap12, if_pos rfl]
  show putT thr12 0 (wrap64 (1 + 2)) = putT thr12 0 3
  rw [IntWalk.wrap64_in _ (by omega)]; rfl
set_option maxRecDepth 100000 in
set_option maxHeartbeats 4000000 in
theorem alive7_any (w : World) : Calls Try.prog 14 #[] w (BoolPost true w) := by
  go_enter Try.func14, Try.ntmps14
  go_wp2_with fail
  have h0 : Calls Try.prog 9 #[.agg #[.int .i64 0, .int .i64 1, .int .i64 2, .int .i64 0, .int .i64 0, .int .i64 0, .int .i64 0, .int .i64 0, .int .i64 0, .slice none 0 0, .int .i64 0, .int .i64 0, .slice none 0 0], .int .i64 0, .agg #[.int .i64 5, .int .i64 0, .int .i64 0, .int .i64 1]] w (ThPostF (putT thr12 0 3) 0 w) := by
    have h1 := apply_any thr12 0 (5, 0, 0, 1) none none 0 0 0 0 w ⟨cap_nil, vs_nil, cap_nil, vs_nil⟩
    rw [ap12, ap12T] at h1
    exact h1
  with_reducible refine h0.mono ?_
  clear h0
  rintro e w1 ⟨fa, fc, la, lc, rfl, F1, hb1⟩
  have HB := Lib.hid hb1
  clear hb1 F1
  go_wp2
  go_ret
  exact boolPost_mk rfl (HB.out.alloc HB.out.size _)
end Go.Proofs.Ytjddflnecfokaaa
