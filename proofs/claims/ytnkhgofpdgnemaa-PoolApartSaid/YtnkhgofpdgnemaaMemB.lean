/- Contracts of package memory: Right, Count, whyNotUsed, whyNotTaken, usable, Load. -/
import Derived.Test.YtnkhgofpdgnemaaMemA
namespace Go.Proofs.Ytnkhgofpdgnemaa
open Go.ChangeShapes Go.WideShapes Go.ChangeAt Go.RowKit

end Go.Proofs.Ytnkhgofpdgnemaa
