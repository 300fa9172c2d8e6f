/-
  No cell of these rows narrows 'for every input' (looked for: loops, veiled, ifaces, maps, wideKeys, modest, calm, conditions, laid).
  DERIVED. THE GIVEN ROWS OF THIS SEAT. 5 by the template 'for every input the law returns true; each argument reads behind the call as it read before'; 0 by the template 'total and deterministic' (their statements: YtocblckhlpihhaaTotals.lean).
  GIVEN WITH THE SEED: the statements are not yours to turn. If you find one false, say at which input.
  Laid BY PROGRAM, IN A SANDBOX (cutbox-rows.mjs): the forced cells as the released guide's own fill.sh prints them over the translation 14c5d2ddebdc2997… (all of the seat's roots in one cut). By AI agents, Wed Nov 11 2026. No macro, syntax, notation, axiom, sorry.
-/
import Derived.Test.YtocblckhlpihhaaChecked
import GoSem.Claim
import GoSem.ClaimJoined
import GoSem.ClaimMapViews
import Derived.JoinedTies
import Derived.KernelRfl
namespace Go.Proofs.Ytocblckhlpihhaa
/- THE CELL 'sum', in the pinned program and in every row, IS THE sha256 OF THE DUMP (.gsa) THAT YtocblckhlpihhaaProg.lean LOADS. Nothing in Lean hashes anything: it is a label: what it is worth is what the hold of that sum in a sandbox is worth. -/
noncomputable def Try.pinned : Pinned := { name := "ytocblckhlpihhaa", sum := "14c5d2ddebdc2997a6d8ff3820d626ce4944dc9ee8b39b65204619ac4bba4c01", checked := Try.checked }
namespace Rows
def none {H : Type} : Left H := { results := [], args := [] }

/-- 'respitelaw02.BufferTells': WHATEVER THE INPUT: true; the input reads as it did. -/
def bufferTellsSpec : ChangeSpec := { name := "bufferTells", fn := fun _ => fun
  | [d1, d2, d3, d4] => { results := [.lit (.bool true)], args := [d1, d2, d3, d4] }
  | _ => none }
def bufferTellsRow : OpenClaim := { program := "ytocblckhlpihhaa", sum := "14c5d2ddebdc2997a6d8ff3820d626ce4944dc9ee8b39b65204619ac4bba4c01", func := "respite/respitelaw02.BufferTells", spec := "bufferTells", unfollowed := true, recurses := true, apart := false }
def BufferTellsSaid : Prop := bufferTellsRow.holds Try.pinned (OpenSpec.ofChange bufferTellsSpec)

/-- ITS FALSE NEIGHBOUR: 'it returns false'. Refute it at one input. -/
def bufferTellsWrong : ChangeSpec := { name := "bufferTells", fn := fun _ => fun
  | [d1, d2, d3, d4] => { results := [.lit (.bool false)], args := [d1, d2, d3, d4] }
  | _ => none }
def BufferTellsWrongFalsely : Prop := bufferTellsRow.holds Try.pinned (OpenSpec.ofChange bufferTellsWrong)

/-- 'respitelaw02.BufferFolds': WHATEVER THE INPUT: true; the input reads as it did. -/
def bufferFoldsSpec : ChangeSpec := { name := "bufferFolds", fn := fun _ => fun
  | [d1, d2, d3] => { results := [.lit (.bool true)], args := [d1, d2, d3] }
  | _ => none }
def bufferFoldsRow : OpenClaim := { program := "ytocblckhlpihhaa", sum := "14c5d2ddebdc2997a6d8ff3820d626ce4944dc9ee8b39b65204619ac4bba4c01", func := "respite/respitelaw02.BufferFolds", spec := "bufferFolds", unfollowed := true, recurses := true, apart := false }
def BufferFoldsSaid : Prop := bufferFoldsRow.holds Try.pinned (OpenSpec.ofChange bufferFoldsSpec)

/-- ITS FALSE NEIGHBOUR: 'it returns false'. Refute it at one input. -/
def bufferFoldsWrong : ChangeSpec := { name := "bufferFolds", fn := fun _ => fun
  | [d1, d2, d3] => { results := [.lit (.bool false)], args := [d1, d2, d3] }
  | _ => none }
def BufferFoldsWrongFalsely : Prop := bufferFoldsRow.holds Try.pinned (OpenSpec.ofChange bufferFoldsWrong)

/-- 'respitelaw02.BufferView': WHATEVER THE INPUT: true; the input reads as it did. -/
def bufferViewSpec : ChangeSpec := { name := "bufferView", fn := fun _ => fun
  | [d1, d2, d3, d4] => { results := [.lit (.bool true)], args := [d1, d2, d3, d4] }
  | _ => none }
def bufferViewRow : OpenClaim := { program := "ytocblckhlpihhaa", sum := "14c5d2ddebdc2997a6d8ff3820d626ce4944dc9ee8b39b65204619ac4bba4c01", func := "respite/respitelaw02.BufferView", spec := "bufferView", unfollowed := true, recurses := true, apart := false }
def BufferViewSaid : Prop := bufferViewRow.holds Try.pinned (OpenSpec.ofChange bufferViewSpec)

/-- ITS FALSE NEIGHBOUR: 'it returns false'. Refute it at one input. -/
def bufferViewWrong : ChangeSpec := { name := "bufferView", fn := fun _ => fun
  | [d1, d2, d3, d4] => { results := [.lit (.bool false)], args := [d1, d2, d3, d4] }
  | _ => none }
def BufferViewWrongFalsely : Prop := bufferViewRow.holds Try.pinned (OpenSpec.ofChange bufferViewWrong)

/-- 'respitelaw02.BufferDrains': WHATEVER THE INPUT: true; the input reads as it did. -/
def bufferDrainsSpec : ChangeSpec := { name := "bufferDrains", fn := fun _ => fun
  | [d1, d2, d3, d4] => { results := [.lit (.bool true)], args := [d1, d2, d3, d4] }
  | _ => none }
def bufferDrainsRow : OpenClaim := { program := "ytocblckhlpihhaa", sum := "14c5d2ddebdc2997a6d8ff3820d626ce4944dc9ee8b39b65204619ac4bba4c01", func := "respite/respitelaw02.BufferDrains", spec := "bufferDrains", unfollowed := true, recurses := true, apart := false }
def BufferDrainsSaid : Prop := bufferDrainsRow.holds Try.pinned (OpenSpec.ofChange bufferDrainsSpec)

/-- ITS FALSE NEIGHBOUR: 'it returns false'. Refute it at one input. -/
def bufferDrainsWrong : ChangeSpec := { name := "bufferDrains", fn := fun _ => fun
  | [d1, d2, d3, d4] => { results := [.lit (.bool false)], args := [d1, d2, d3, d4] }
  | _ => none }
def BufferDrainsWrongFalsely : Prop := bufferDrainsRow.holds Try.pinned (OpenSpec.ofChange bufferDrainsWrong)

/-- 'respitelaw02.BufferParts': WHATEVER THE INPUT: true; the input reads as it did. -/
def bufferPartsSpec : ChangeSpec := { name := "bufferParts", fn := fun _ => fun
  | [d1, d2] => { results := [.lit (.bool true)], args := [d1, d2] }
  | _ => none }
def bufferPartsRow : OpenClaim := { program := "ytocblckhlpihhaa", sum := "14c5d2ddebdc2997a6d8ff3820d626ce4944dc9ee8b39b65204619ac4bba4c01", func := "respite/respitelaw02.BufferParts", spec := "bufferParts", unfollowed := true, recurses := true, apart := false }
def BufferPartsSaid : Prop := bufferPartsRow.holds Try.pinned (OpenSpec.ofChange bufferPartsSpec)

/-- ITS FALSE NEIGHBOUR: 'it returns false'. Refute it at one input. -/
def bufferPartsWrong : ChangeSpec := { name := "bufferParts", fn := fun _ => fun
  | [d1, d2] => { results := [.lit (.bool false)], args := [d1, d2] }
  | _ => none }
def BufferPartsWrongFalsely : Prop := bufferPartsRow.holds Try.pinned (OpenSpec.ofChange bufferPartsWrong)

/- THE SECOND FORM. 'bulk': how many values and letters a reading holds, each counted each time it is reached (what is shared counts as often as it is met; a slice's spare places count too). A statement '..UptoSaid' is the law's where the arguments, and the package variables that the reading takes, are together of bulk at most 1048576: NARROWER than '..Said'. Prove '..Said' where nothing that the law and all that it calls make is longer than what came in: it says more and counts as full. Else prove '..UptoSaid'. A law counts once. -/
mutual
def uptoBulk {H : Type} : DataW H → Nat
  | .lit (.string bytes) => bytes.length + 1
  | .lit _ => 1
  | .nil => 1
  | .ptr d => uptoBulk d + 1
  | .slice elems spare => uptoBulkAll elems + uptoBulkAll spare + 1
  | .agg parts => uptoBulkAll parts + 1
  | .iface _ d => uptoBulk d + 1
  | .map entries => uptoBulkEntries entries + 1
  | .held _ => 1
def uptoBulkAll {H : Type} : List (DataW H) → Nat
  | [] => 0
  | d :: r => uptoBulk d + uptoBulkAll r
def uptoBulkEntries {H : Type} : List (Lit × DataW H) → Nat
  | [] => 0
  | x :: r => uptoBulkEntry x + uptoBulkEntries r
def uptoBulkEntry {H : Type} : Lit × DataW H → Nat
  | (.string bytes, d) => bytes.length + uptoBulk d + 1
  | (_, d) => uptoBulk d + 1
 end
def uptoSmall : (H : Type) → List (DataW H) → Bool := fun _ ds => decide (uptoBulkAll ds ≤ 1048576)
def OpenSpec.upto (s : _root_.Go.ChangeSpec) : _root_.Go.OpenSpec := { _root_.Go.OpenSpec.ofChange s with cond := some uptoSmall }

/-- 'respitelaw02.BufferTells', WHERE WHAT IT READS IS OF BULK AT MOST 1048576: true; the input reads as it did. -/
def bufferTellsUptoRow : OpenClaim := { program := "ytocblckhlpihhaa", sum := "14c5d2ddebdc2997a6d8ff3820d626ce4944dc9ee8b39b65204619ac4bba4c01", func := "respite/respitelaw02.BufferTells", spec := "bufferTells", unfollowed := true, recurses := true, apart := false, narrowed := true }
def BufferTellsUptoSaid : Prop := bufferTellsUptoRow.holds Try.pinned (OpenSpec.upto bufferTellsSpec)

/-- 'respitelaw02.BufferFolds', WHERE WHAT IT READS IS OF BULK AT MOST 1048576: true; the input reads as it did. -/
def bufferFoldsUptoRow : OpenClaim := { program := "ytocblckhlpihhaa", sum := "14c5d2ddebdc2997a6d8ff3820d626ce4944dc9ee8b39b65204619ac4bba4c01", func := "respite/respitelaw02.BufferFolds", spec := "bufferFolds", unfollowed := true, recurses := true, apart := false, narrowed := true }
def BufferFoldsUptoSaid : Prop := bufferFoldsUptoRow.holds Try.pinned (OpenSpec.upto bufferFoldsSpec)

/-- 'respitelaw02.BufferView', WHERE WHAT IT READS IS OF BULK AT MOST 1048576: true; the input reads as it did. -/
def bufferViewUptoRow : OpenClaim := { program := "ytocblckhlpihhaa", sum := "14c5d2ddebdc2997a6d8ff3820d626ce4944dc9ee8b39b65204619ac4bba4c01", func := "respite/respitelaw02.BufferView", spec := "bufferView", unfollowed := true, recurses := true, apart := false, narrowed := true }
def BufferViewUptoSaid : Prop := bufferViewUptoRow.holds Try.pinned (OpenSpec.upto bufferViewSpec)

/-- 'respitelaw02.BufferDrains', WHERE WHAT IT READS IS OF BULK AT MOST 1048576: true; the input reads as it did. -/
def bufferDrainsUptoRow : OpenClaim := { program := "ytocblckhlpihhaa", sum := "14c5d2ddebdc2997a6d8ff3820d626ce4944dc9ee8b39b65204619ac4bba4c01", func := "respite/respitelaw02.BufferDrains", spec := "bufferDrains", unfollowed := true, recurses := true, apart := false, narrowed := true }
def BufferDrainsUptoSaid : Prop := bufferDrainsUptoRow.holds Try.pinned (OpenSpec.upto bufferDrainsSpec)

/-- 'respitelaw02.BufferParts', WHERE WHAT IT READS IS OF BULK AT MOST 1048576: true; the input reads as it did. -/
def bufferPartsUptoRow : OpenClaim := { program := "ytocblckhlpihhaa", sum := "14c5d2ddebdc2997a6d8ff3820d626ce4944dc9ee8b39b65204619ac4bba4c01", func := "respite/respitelaw02.BufferParts", spec := "bufferParts", unfollowed := true, recurses := true, apart := false, narrowed := true }
def BufferPartsUptoSaid : Prop := bufferPartsUptoRow.holds Try.pinned (OpenSpec.upto bufferPartsSpec)

end Rows
end Go.Proofs.Ytocblckhlpihhaa
