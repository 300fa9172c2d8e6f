/- Layer 6's own small functions: alive, few. -/
import Derived.Test.YtjddflnecfokaaaFrF
namespace Go.Proofs.Ytjddflnecfokaaa
open Go.ChangeShapes Go.WideShapes Go.ChangeAt Go.RowKit
open Gen

def thr3 : Thr := ⟨3, fun _ => 0, [], 0, 0, []⟩
theorem callE3 : callE thr3 10 = 0 := by decide
theorem callT3 : callT thr3 10 = ⟨10, fun _ => 0, [(4, 0, 0, 0, 0)], 0, 0, []⟩ := by rw [callT, callE3]; rfl
end Go.Proofs.Ytjddflnecfokaaa
