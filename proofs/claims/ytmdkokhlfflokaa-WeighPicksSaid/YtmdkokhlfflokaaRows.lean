/-
  No cell of these rows narrows 'for every input' (looked for: loops, veiled, ifaces, maps, wideKeys, modest, calm, conditions, laid).
  DERIVED. THE GIVEN ROWS OF THIS SEAT. 4 by the template 'for every input the law returns true; each argument reads behind the call as it read before'; 0 by the template 'total and deterministic' (their statements: YtmdkokhlfflokaaTotals.lean).
  GIVEN WITH THE SEED: the statements are not yours to turn. If you find one false, say at which input.
  Laid BY PROGRAM, IN A SANDBOX (cutbox-rows.mjs): the forced cells as the released guide's own fill.sh prints them over the translation e6a68e5708c32a91… (all of the seat's roots in one cut). By AI agents, Wed Nov 11 2026. No macro, syntax, notation, axiom, sorry.
-/
import Derived.Test.YtmdkokhlfflokaaChecked
import GoSem.Claim
import GoSem.ClaimJoined
import GoSem.ClaimMapViews
import Derived.JoinedTies
import Derived.KernelRfl
namespace Go.Proofs.Ytmdkokhlfflokaa
/- THE CELL 'sum', in the pinned program and in every row, IS THE sha256 OF THE DUMP (.gsa) THAT YtmdkokhlfflokaaProg.lean LOADS. Nothing in Lean hashes anything: it is a label: what it is worth is what the hold of that sum in a sandbox is worth. -/
noncomputable def Try.pinned : Pinned := { name := "ytmdkokhlfflokaa", sum := "e6a68e5708c32a912609a255319a60114f9ef6a398be312e7043d927b7c06175", checked := Try.checked }
namespace Rows
def none {H : Type} : Left H := { results := [], args := [] }

/-- 'respitelaw10.WeighLess': WHATEVER THE INPUT: true; the input reads as it did. -/
def weighLessSpec : ChangeSpec := { name := "weighLess", fn := fun _ => fun
  | [d1, d2, d3] => { results := [.lit (.bool true)], args := [d1, d2, d3] }
  | _ => none }
def weighLessRow : OpenClaim := { program := "ytmdkokhlfflokaa", sum := "e6a68e5708c32a912609a255319a60114f9ef6a398be312e7043d927b7c06175", func := "respite/respitelaw10.WeighLess", spec := "weighLess", inPlace := ["math.Float64bits"], unfollowed := true, recurses := true, apart := false }
def WeighLessSaid : Prop := weighLessRow.holds Try.pinned (OpenSpec.ofChange weighLessSpec)

/-- ITS FALSE NEIGHBOUR: 'it returns false'. Refute it at one input. -/
def weighLessWrong : ChangeSpec := { name := "weighLess", fn := fun _ => fun
  | [d1, d2, d3] => { results := [.lit (.bool false)], args := [d1, d2, d3] }
  | _ => none }
def WeighLessWrongFalsely : Prop := weighLessRow.holds Try.pinned (OpenSpec.ofChange weighLessWrong)

/-- 'respitelaw10.WeighOrders': WHATEVER THE INPUT: true; the input reads as it did. -/
def weighOrdersSpec : ChangeSpec := { name := "weighOrders", fn := fun _ => fun
  | [d1, d2, d3] => { results := [.lit (.bool true)], args := [d1, d2, d3] }
  | _ => none }
def weighOrdersRow : OpenClaim := { program := "ytmdkokhlfflokaa", sum := "e6a68e5708c32a912609a255319a60114f9ef6a398be312e7043d927b7c06175", func := "respite/respitelaw10.WeighOrders", spec := "weighOrders", inPlace := ["math.Float64bits"], unfollowed := true, recurses := true, apart := false }
def WeighOrdersSaid : Prop := weighOrdersRow.holds Try.pinned (OpenSpec.ofChange weighOrdersSpec)

/-- ITS FALSE NEIGHBOUR: 'it returns false'. Refute it at one input. -/
def weighOrdersWrong : ChangeSpec := { name := "weighOrders", fn := fun _ => fun
  | [d1, d2, d3] => { results := [.lit (.bool false)], args := [d1, d2, d3] }
  | _ => none }
def WeighOrdersWrongFalsely : Prop := weighOrdersRow.holds Try.pinned (OpenSpec.ofChange weighOrdersWrong)

/-- 'respitelaw10.WeighPicks': WHATEVER THE INPUT: true; the input reads as it did. -/
def weighPicksSpec : ChangeSpec := { name := "weighPicks", fn := fun _ => fun
  | [d1, d2, d3, d4] => { results := [.lit (.bool true)], args := [d1, d2, d3, d4] }
  | _ => none }
def weighPicksRow : OpenClaim := { program := "ytmdkokhlfflokaa", sum := "e6a68e5708c32a912609a255319a60114f9ef6a398be312e7043d927b7c06175", func := "respite/respitelaw10.WeighPicks", spec := "weighPicks", inPlace := ["math.Float64bits"], unfollowed := true, recurses := true, apart := false }
def WeighPicksSaid : Prop := weighPicksRow.holds Try.pinned (OpenSpec.ofChange weighPicksSpec)

/-- ITS FALSE NEIGHBOUR: 'it returns false'. Refute it at one input. -/
def weighPicksWrong : ChangeSpec := { name := "weighPicks", fn := fun _ => fun
  | [d1, d2, d3, d4] => { results := [.lit (.bool false)], args := [d1, d2, d3, d4] }
  | _ => none }
def WeighPicksWrongFalsely : Prop := weighPicksRow.holds Try.pinned (OpenSpec.ofChange weighPicksWrong)

/-- 'respitelaw10.WeighFair': WHATEVER THE INPUT: true; the input reads as it did. -/
def weighFairSpec : ChangeSpec := { name := "weighFair", fn := fun _ => fun
  | [d1, d2] => { results := [.lit (.bool true)], args := [d1, d2] }
  | _ => none }
def weighFairRow : OpenClaim := { program := "ytmdkokhlfflokaa", sum := "e6a68e5708c32a912609a255319a60114f9ef6a398be312e7043d927b7c06175", func := "respite/respitelaw10.WeighFair", spec := "weighFair", inPlace := ["math.Float64bits"], unfollowed := true, recurses := true, apart := false }
def WeighFairSaid : Prop := weighFairRow.holds Try.pinned (OpenSpec.ofChange weighFairSpec)

/-- ITS FALSE NEIGHBOUR: 'it returns false'. Refute it at one input. -/
def weighFairWrong : ChangeSpec := { name := "weighFair", fn := fun _ => fun
  | [d1, d2] => { results := [.lit (.bool false)], args := [d1, d2] }
  | _ => none }
def WeighFairWrongFalsely : Prop := weighFairRow.holds Try.pinned (OpenSpec.ofChange weighFairWrong)

/- THE SECOND FORM. 'bulk': how many values and letters a reading holds, each counted each time it is reached (what is shared counts as often as it is met; a slice's spare places count too). A statement '..UptoSaid' is the law's where the arguments, and the package variables that the reading takes, are together of bulk at most 1048576: NARROWER than '..Said'. Prove '..Said' where nothing that the law and all that it calls make is longer than what came in: it says more and counts as full. Else prove '..UptoSaid'. A law counts once. -/
mutual
def uptoBulk {H : Type} : DataW H → Nat
  | .lit (.string bytes) => bytes.length + 1
  | .lit _ => 1
  | .nil => 1
  | .ptr d => uptoBulk d + 1
  | .slice elems spare => uptoBulkAll elems + uptoBulkAll spare + 1
  | .agg parts => uptoBulkAll parts + 1
  | .iface _ d => uptoBulk d + 1
  | .map entries => uptoBulkEntries entries + 1
  | .held _ => 1
def uptoBulkAll {H : Type} : List (DataW H) → Nat
  | [] => 0
  | d :: r => uptoBulk d + uptoBulkAll r
def uptoBulkEntries {H : Type} : List (Lit × DataW H) → Nat
  | [] => 0
  | x :: r => uptoBulkEntry x + uptoBulkEntries r
def uptoBulkEntry {H : Type} : Lit × DataW H → Nat
  | (.string bytes, d) => bytes.length + uptoBulk d + 1
  | (_, d) => uptoBulk d + 1
 end
def uptoSmall : (H : Type) → List (DataW H) → Bool := fun _ ds => decide (uptoBulkAll ds ≤ 1048576)
def OpenSpec.upto (s : _root_.Go.ChangeSpec) : _root_.Go.OpenSpec := { _root_.Go.OpenSpec.ofChange s with cond := some uptoSmall }

/-- 'respitelaw10.WeighLess', WHERE WHAT IT READS IS OF BULK AT MOST 1048576: true; the input reads as it did. -/
def weighLessUptoRow : OpenClaim := { program := "ytmdkokhlfflokaa", sum := "e6a68e5708c32a912609a255319a60114f9ef6a398be312e7043d927b7c06175", func := "respite/respitelaw10.WeighLess", spec := "weighLess", inPlace := ["math.Float64bits"], unfollowed := true, recurses := true, apart := false, narrowed := true }
def WeighLessUptoSaid : Prop := weighLessUptoRow.holds Try.pinned (OpenSpec.upto weighLessSpec)

/-- 'respitelaw10.WeighOrders', WHERE WHAT IT READS IS OF BULK AT MOST 1048576: true; the input reads as it did. -/
def weighOrdersUptoRow : OpenClaim := { program := "ytmdkokhlfflokaa", sum := "e6a68e5708c32a912609a255319a60114f9ef6a398be312e7043d927b7c06175", func := "respite/respitelaw10.WeighOrders", spec := "weighOrders", inPlace := ["math.Float64bits"], unfollowed := true, recurses := true, apart := false, narrowed := true }
def WeighOrdersUptoSaid : Prop := weighOrdersUptoRow.holds Try.pinned (OpenSpec.upto weighOrdersSpec)

/-- 'respitelaw10.WeighPicks', WHERE WHAT IT READS IS OF BULK AT MOST 1048576: true; the input reads as it did. -/
def weighPicksUptoRow : OpenClaim := { program := "ytmdkokhlfflokaa", sum := "e6a68e5708c32a912609a255319a60114f9ef6a398be312e7043d927b7c06175", func := "respite/respitelaw10.WeighPicks", spec := "weighPicks", inPlace := ["math.Float64bits"], unfollowed := true, recurses := true, apart := false, narrowed := true }
def WeighPicksUptoSaid : Prop := weighPicksUptoRow.holds Try.pinned (OpenSpec.upto weighPicksSpec)

/-- 'respitelaw10.WeighFair', WHERE WHAT IT READS IS OF BULK AT MOST 1048576: true; the input reads as it did. -/
def weighFairUptoRow : OpenClaim := { program := "ytmdkokhlfflokaa", sum := "e6a68e5708c32a912609a255319a60114f9ef6a398be312e7043d927b7c06175", func := "respite/respitelaw10.WeighFair", spec := "weighFair", inPlace := ["math.Float64bits"], unfollowed := true, recurses := true, apart := false, narrowed := true }
def WeighFairUptoSaid : Prop := weighFairUptoRow.holds Try.pinned (OpenSpec.upto weighFairSpec)

end Rows
end Go.Proofs.Ytmdkokhlfflokaa
