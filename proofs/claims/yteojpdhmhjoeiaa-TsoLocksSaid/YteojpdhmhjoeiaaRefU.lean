/- Contracts of the document's own answers of layer 3 (package respiteref03): New. -/
import Derived.Test.YteojpdhmhjoeiaaRefT
namespace Go.Proofs.Yteojpdhmhjoeiaa
open Go.ChangeShapes Go.WideShapes Go.ChangeAt Go.RowKit

/-- a machine with a row of buffers of its own -/
def RefNewP (a a' : Option Addr) (n c n' c' : Nat) (D : Int) (k : Nat) (bs : List (List (Int × Int))) (w : World) (e : Ending) (w' : World) : Prop :=
  ∃ q d, e = .returned (.agg #[.slice a n c, .slice a' n' c', .int .i64 D, .slice q k d]) ∧ Bl w' q k bs ∧ Below w.heap.size w w'

end Go.Proofs.Yteojpdhmhjoeiaa
