/- The walk of LocalSums. -/
import Derived.Test.YtjddflnecfokaaaLwH
import Derived.Test.YtjddflnecfokaaaLwI
namespace Go.Proofs.Ytjddflnecfokaaa
open Go.ChangeShapes Go.WideShapes Go.ChangeAt Go.RowKit
open Gen

theorem LocalSums_walk (r : Nat → Int) (x y : Int) (w : World) (hw : ∀ j, j < 8 → (Lit.int .i64 (r j)).wf = true) :
    Calls Try.prog 6 #[.agg #[.int .i64 (r 0), .int .i64 (r 1), .int .i64 (r 2), .int .i64 (r 3), .int .i64 (r 4), .int .i64 (r 5), .int .i64 (r 6), .int .i64 (r 7)], .int .i64 x, .int .i64 y] w (BoolPost true w) := by
  obtain ⟨jx, hjx, hx8⟩ := rem_8 x
  obtain ⟨jy, hjy, hy8⟩ := rem_8 y
  by_cases h : jx = jy
  · subst h
    have e : ((jx : Int) + 1).tmod 8 = (((jx + 1) % 8 : Nat) : Int) := by
      rw [Int.tmod_eq_emod_of_nonneg (by omega)]; omega
    exact LocalSums_eq r x y jx ((jx + 1) % 8) w hw hjx hjy hx8 (by omega) (by omega) e
  · exact LocalSums_ne r x y jx jy w hw hjx hjy hx8 hy8 h
end Go.Proofs.Ytjddflnecfokaaa
