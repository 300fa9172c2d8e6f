/- Contracts of package memory: Right, Count, whyNotUsed, whyNotTaken, usable, Load. -/
import Derived.Test.YtmdkokhlfflokaaMemA
namespace Go.Proofs.Ytmdkokhlfflokaa
open Go.ChangeShapes Go.WideShapes Go.ChangeAt Go.RowKit

end Go.Proofs.Ytmdkokhlfflokaa
