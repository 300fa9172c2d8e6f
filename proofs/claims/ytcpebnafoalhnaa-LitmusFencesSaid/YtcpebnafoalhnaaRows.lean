/-
  No cell of these rows narrows 'for every input' (looked for: loops, veiled, ifaces, maps, wideKeys, modest, calm, conditions, laid).
  DERIVED. THE GIVEN ROWS OF THIS SEAT. 4 by the template 'for every input the law returns true; each argument reads behind the call as it read before'; 0 by the template 'total and deterministic' (their statements: YtcpebnafoalhnaaTotals.lean).
  GIVEN WITH THE SEED: the statements are not yours to turn. If you find one false, say at which input.
  Laid BY PROGRAM, IN A SANDBOX (cutbox-rows.mjs): the forced cells as the released guide's own fill.sh prints them over the translation d66df6d4aac27ef1… (all of the seat's roots in one cut). By AI agents, Wed Nov 11 2026. No macro, syntax, notation, axiom, sorry.
-/
import Derived.Test.YtcpebnafoalhnaaChecked
import GoSem.Claim
import GoSem.ClaimJoined
import GoSem.ClaimMapViews
import Derived.JoinedTies
import Derived.KernelRfl
namespace Go.Proofs.Ytcpebnafoalhnaa
/- THE CELL 'sum', in the pinned program and in every row, IS THE sha256 OF THE DUMP (.gsa) THAT YtcpebnafoalhnaaProg.lean LOADS. Nothing in Lean hashes anything: it is a label: what it is worth is what the hold of that sum in a sandbox is worth. -/
noncomputable def Try.pinned : Pinned := { name := "ytcpebnafoalhnaa", sum := "d66df6d4aac27ef11b2d8a59738c0538ec06d4d1f920c0c2b27d05a0050993e6", checked := Try.checked }
namespace Rows
def none {H : Type} : Left H := { results := [], args := [] }

/-- 'respitelaw04.LitmusFences': WHATEVER THE INPUT: true; the input reads as it did. -/
def litmusFencesSpec : ChangeSpec := { name := "litmusFences", fn := fun _ => fun
  | [d1, d2, d3] => { results := [.lit (.bool true)], args := [d1, d2, d3] }
  | _ => none }
def litmusFencesRow : OpenClaim := { program := "ytcpebnafoalhnaa", sum := "d66df6d4aac27ef11b2d8a59738c0538ec06d4d1f920c0c2b27d05a0050993e6", func := "respite/respitelaw04.LitmusFences", spec := "litmusFences", unfollowed := true, recurses := true, apart := false }
def LitmusFencesSaid : Prop := litmusFencesRow.holds Try.pinned (OpenSpec.ofChange litmusFencesSpec)

/-- ITS FALSE NEIGHBOUR: 'it returns false'. Refute it at one input. -/
def litmusFencesWrong : ChangeSpec := { name := "litmusFences", fn := fun _ => fun
  | [d1, d2, d3] => { results := [.lit (.bool false)], args := [d1, d2, d3] }
  | _ => none }
def LitmusFencesWrongFalsely : Prop := litmusFencesRow.holds Try.pinned (OpenSpec.ofChange litmusFencesWrong)

/-- 'respitelaw04.LitmusGrows': WHATEVER THE INPUT: true; the input reads as it did. -/
def litmusGrowsSpec : ChangeSpec := { name := "litmusGrows", fn := fun _ => fun
  | [d1, d2, d3] => { results := [.lit (.bool true)], args := [d1, d2, d3] }
  | _ => none }
def litmusGrowsRow : OpenClaim := { program := "ytcpebnafoalhnaa", sum := "d66df6d4aac27ef11b2d8a59738c0538ec06d4d1f920c0c2b27d05a0050993e6", func := "respite/respitelaw04.LitmusGrows", spec := "litmusGrows", unfollowed := true, recurses := true, apart := false }
def LitmusGrowsSaid : Prop := litmusGrowsRow.holds Try.pinned (OpenSpec.ofChange litmusGrowsSpec)

/-- ITS FALSE NEIGHBOUR: 'it returns false'. Refute it at one input. -/
def litmusGrowsWrong : ChangeSpec := { name := "litmusGrows", fn := fun _ => fun
  | [d1, d2, d3] => { results := [.lit (.bool false)], args := [d1, d2, d3] }
  | _ => none }
def LitmusGrowsWrongFalsely : Prop := litmusGrowsRow.holds Try.pinned (OpenSpec.ofChange litmusGrowsWrong)

/-- 'respitelaw04.LitmusPasses': WHATEVER THE INPUT: true; the input reads as it did. -/
def litmusPassesSpec : ChangeSpec := { name := "litmusPasses", fn := fun _ => fun
  | [d1, d2, d3] => { results := [.lit (.bool true)], args := [d1, d2, d3] }
  | _ => none }
def litmusPassesRow : OpenClaim := { program := "ytcpebnafoalhnaa", sum := "d66df6d4aac27ef11b2d8a59738c0538ec06d4d1f920c0c2b27d05a0050993e6", func := "respite/respitelaw04.LitmusPasses", spec := "litmusPasses", unfollowed := true, recurses := true, apart := false }
def LitmusPassesSaid : Prop := litmusPassesRow.holds Try.pinned (OpenSpec.ofChange litmusPassesSpec)

/-- ITS FALSE NEIGHBOUR: 'it returns false'. Refute it at one input. -/
def litmusPassesWrong : ChangeSpec := { name := "litmusPasses", fn := fun _ => fun
  | [d1, d2, d3] => { results := [.lit (.bool false)], args := [d1, d2, d3] }
  | _ => none }
def LitmusPassesWrongFalsely : Prop := litmusPassesRow.holds Try.pinned (OpenSpec.ofChange litmusPassesWrong)

/-- 'respitelaw04.LitmusOrder': WHATEVER THE INPUT: true; the input reads as it did. -/
def litmusOrderSpec : ChangeSpec := { name := "litmusOrder", fn := fun _ => fun
  | [d1, d2, d3, d4] => { results := [.lit (.bool true)], args := [d1, d2, d3, d4] }
  | _ => none }
def litmusOrderRow : OpenClaim := { program := "ytcpebnafoalhnaa", sum := "d66df6d4aac27ef11b2d8a59738c0538ec06d4d1f920c0c2b27d05a0050993e6", func := "respite/respitelaw04.LitmusOrder", spec := "litmusOrder", unfollowed := true, recurses := true, apart := false }
def LitmusOrderSaid : Prop := litmusOrderRow.holds Try.pinned (OpenSpec.ofChange litmusOrderSpec)

/-- ITS FALSE NEIGHBOUR: 'it returns false'. Refute it at one input. -/
def litmusOrderWrong : ChangeSpec := { name := "litmusOrder", fn := fun _ => fun
  | [d1, d2, d3, d4] => { results := [.lit (.bool false)], args := [d1, d2, d3, d4] }
  | _ => none }
def LitmusOrderWrongFalsely : Prop := litmusOrderRow.holds Try.pinned (OpenSpec.ofChange litmusOrderWrong)

/- THE SECOND FORM. 'bulk': how many values and letters a reading holds, each counted each time it is reached (what is shared counts as often as it is met; a slice's spare places count too). A statement '..UptoSaid' is the law's where the arguments, and the package variables that the reading takes, are together of bulk at most 1048576: NARROWER than '..Said'. Prove '..Said' where nothing that the law and all that it calls make is longer than what came in: it says more and counts as full. Else prove '..UptoSaid'. A law counts once. -/
mutual
def uptoBulk {H : Type} : DataW H → Nat
  | .lit (.string bytes) => bytes.length + 1
  | .lit _ => 1
  | .nil => 1
  | .ptr d => uptoBulk d + 1
  | .slice elems spare => uptoBulkAll elems + uptoBulkAll spare + 1
  | .agg parts => uptoBulkAll parts + 1
  | .iface _ d => uptoBulk d + 1
  | .map entries => uptoBulkEntries entries + 1
  | .held _ => 1
def uptoBulkAll {H : Type} : List (DataW H) → Nat
  | [] => 0
  | d :: r => uptoBulk d + uptoBulkAll r
def uptoBulkEntries {H : Type} : List (Lit × DataW H) → Nat
  | [] => 0
  | x :: r => uptoBulkEntry x + uptoBulkEntries r
def uptoBulkEntry {H : Type} : Lit × DataW H → Nat
  | (.string bytes, d) => bytes.length + uptoBulk d + 1
  | (_, d) => uptoBulk d + 1
 end
def uptoSmall : (H : Type) → List (DataW H) → Bool := fun _ ds => decide (uptoBulkAll ds ≤ 1048576)
def OpenSpec.upto (s : _root_.Go.ChangeSpec) : _root_.Go.OpenSpec := { _root_.Go.OpenSpec.ofChange s with cond := some uptoSmall }

/-- 'respitelaw04.LitmusFences', WHERE WHAT IT READS IS OF BULK AT MOST 1048576: true; the input reads as it did. -/
def litmusFencesUptoRow : OpenClaim := { program := "ytcpebnafoalhnaa", sum := "d66df6d4aac27ef11b2d8a59738c0538ec06d4d1f920c0c2b27d05a0050993e6", func := "respite/respitelaw04.LitmusFences", spec := "litmusFences", unfollowed := true, recurses := true, apart := false, narrowed := true }
def LitmusFencesUptoSaid : Prop := litmusFencesUptoRow.holds Try.pinned (OpenSpec.upto litmusFencesSpec)

/-- 'respitelaw04.LitmusGrows', WHERE WHAT IT READS IS OF BULK AT MOST 1048576: true; the input reads as it did. -/
def litmusGrowsUptoRow : OpenClaim := { program := "ytcpebnafoalhnaa", sum := "d66df6d4aac27ef11b2d8a59738c0538ec06d4d1f920c0c2b27d05a0050993e6", func := "respite/respitelaw04.LitmusGrows", spec := "litmusGrows", unfollowed := true, recurses := true, apart := false, narrowed := true }
def LitmusGrowsUptoSaid : Prop := litmusGrowsUptoRow.holds Try.pinned (OpenSpec.upto litmusGrowsSpec)

/-- 'respitelaw04.LitmusPasses', WHERE WHAT IT READS IS OF BULK AT MOST 1048576: true; the input reads as it did. -/
def litmusPassesUptoRow : OpenClaim := { program := "ytcpebnafoalhnaa", sum := "d66df6d4aac27ef11b2d8a59738c0538ec06d4d1f920c0c2b27d05a0050993e6", func := "respite/respitelaw04.LitmusPasses", spec := "litmusPasses", unfollowed := true, recurses := true, apart := false, narrowed := true }
def LitmusPassesUptoSaid : Prop := litmusPassesUptoRow.holds Try.pinned (OpenSpec.upto litmusPassesSpec)

/-- 'respitelaw04.LitmusOrder', WHERE WHAT IT READS IS OF BULK AT MOST 1048576: true; the input reads as it did. -/
def litmusOrderUptoRow : OpenClaim := { program := "ytcpebnafoalhnaa", sum := "d66df6d4aac27ef11b2d8a59738c0538ec06d4d1f920c0c2b27d05a0050993e6", func := "respite/respitelaw04.LitmusOrder", spec := "litmusOrder", unfollowed := true, recurses := true, apart := false, narrowed := true }
def LitmusOrderUptoSaid : Prop := litmusOrderUptoRow.holds Try.pinned (OpenSpec.upto litmusOrderSpec)

end Rows
end Go.Proofs.Ytcpebnafoalhnaa
