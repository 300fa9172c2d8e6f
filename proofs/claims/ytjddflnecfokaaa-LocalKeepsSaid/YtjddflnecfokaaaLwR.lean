/- respiteref07: Apply. -/
import Derived.Test.YtjddflnecfokaaaLoS
import Derived.Test.YtjddflnecfokaaaLoT
import Derived.Test.YtjddflnecfokaaaLoU
import Derived.Test.YtjddflnecfokaaaLoV
import Derived.Test.YtjddflnecfokaaaLoW
import Derived.Test.YtjddflnecfokaaaLoX
import Derived.Test.YtjddflnecfokaaaLoY
import Derived.Test.YtjddflnecfokaaaLoY1
import Derived.Test.YtjddflnecfokaaaLoY2
import Derived.Test.YtjddflnecfokaaaLoZ
namespace Go.Proofs.Ytjddflnecfokaaa
open Go.ChangeShapes Go.WideShapes Go.ChangeAt Go.RowKit
open Gen

theorem refApplyQ_any (Q : Nat → Prop) (t : Thr) (self : Int) (i : In4) (fa la : Option Addr) (fn fc ln lc : Nat) (w : World) (F : ThQ Q w fa fn fc la ln lc t) (hQ : ∀ b, w.heap.size ≤ b → Q b) (hf : fitsI i = true) (hr : rightT t = true) (hp : t.pc ≠ 1000) (ho : 1 ≤ i.1 ∧ i.1 ≤ 15) :
    Calls Try.prog 16 #[.agg #[.int .i64 t.pc, .int .i64 (t.r 0), .int .i64 (t.r 1), .int .i64 (t.r 2), .int .i64 (t.r 3), .int .i64 (t.r 4), .int .i64 (t.r 5), .int .i64 (t.r 6), .int .i64 (t.r 7), .slice fa fn fc, .int .i64 t.st, .int .i64 t.ft, .slice la ln lc], .int .i64 self, .agg #[.int .i64 i.1, .int .i64 i.2.1, .int .i64 i.2.2.1, .int .i64 i.2.2.2]] w (ThPostW Q (doT t self i) (doE t i) w) := by
  obtain ⟨o, A, B, C⟩ := i
  simp only at ho
  rcases (show o = 1 ∨ o = 2 ∨ o = 3 ∨ o = 4 ∨ o = 5 ∨ o = 6 ∨ o = 7 ∨ o = 8 ∨ o = 9 ∨ o = 10 ∨ o = 11 ∨ o = 12 ∨ o = 13 ∨ o = 14 ∨ o = 15 by omega) with rfl | rfl | rfl | rfl | rfl | rfl | rfl | rfl | rfl | rfl | rfl | rfl | rfl | rfl | rfl
  · exact refDo_1 Q t self A B C fa la fn fc ln lc w F hQ hf hr hp
  · exact refDo_2 Q t self A B C fa la fn fc ln lc w F hQ hf hr hp
  · exact refDo_3 Q t self A B C fa la fn fc ln lc w F hQ hf hr hp
  · exact refDo_4 Q t self A B C fa la fn fc ln lc w F hQ hf hr hp
  · exact refDo_5 Q t self A B C fa la fn fc ln lc w F hQ hf hr hp
  · exact refDo_6 Q t self A B C fa la fn fc ln lc w F hQ hf hr hp
  · exact refDo_7 Q t self A B C fa la fn fc ln lc w F hQ hf hr hp
  · exact refDo_8 Q t self A B C fa la fn fc ln lc w F hQ hf hr hp
  · exact refDo_9 Q t self A B C fa la fn fc ln lc w F hQ hf hr hp
  · exact refDo_10 Q t self A B C fa la fn fc ln lc w F hQ hf hr hp
  · exact refDo_11 Q t self A B C fa la fn fc ln lc w F hQ hf hr hp
  · exact refDo_12 Q t self A B C fa la fn fc ln lc w F hQ hf hr hp
  · exact refDo_13 Q t self A B C fa la fn fc ln lc w F hQ hf hr hp
  · exact refDo_14 Q t self A B C fa la fn fc ln lc w F hQ hf hr hp
  · exact refDo_15 Q t self A B C fa la fn fc ln lc w F hQ hf hr hp
theorem refApply_any (t : Thr) (self : Int) (i : In4) (fa la : Option Addr) (fn fc ln lc : Nat) (w : World) (F : ThF w fa fn fc la ln lc t) (hf : fitsI i = true) (hr : rightT t = true) (hp : t.pc ≠ 1000) (ho : 1 ≤ i.1 ∧ i.1 ≤ 15) :
    Calls Try.prog 16 #[.agg #[.int .i64 t.pc, .int .i64 (t.r 0), .int .i64 (t.r 1), .int .i64 (t.r 2), .int .i64 (t.r 3), .int .i64 (t.r 4), .int .i64 (t.r 5), .int .i64 (t.r 6), .int .i64 (t.r 7), .slice fa fn fc, .int .i64 t.st, .int .i64 t.ft, .slice la ln lc], .int .i64 self, .agg #[.int .i64 i.1, .int .i64 i.2.1, .int .i64 i.2.2.1, .int .i64 i.2.2.2]] w (ThPost (doT t self i) (doE t i) w) :=
  (refApplyQ_any Any t self i fa la fn fc ln lc w ⟨F.fcap, F.fs, F.lcap, F.lf⟩ (fun _ _ => trivial) hf hr hp ho).mono fun e w' ⟨fa2, fn2, fc2, la2, ln2, lc2, h1, h2, h3⟩ => by
    have e1 := h2.fs.1
    have e2 := h2.lf.1
    subst e1 e2
    exact ⟨fa2, fc2, la2, lc2, h1, h2.f, h3⟩
end Go.Proofs.Ytjddflnecfokaaa
