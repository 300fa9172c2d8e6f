/-
  No cell of these rows narrows 'for every input' (looked for: loops, veiled, ifaces, maps, wideKeys, modest, calm, conditions, laid).
  DERIVED. THE GIVEN ROWS OF THIS SEAT. 5 by the template 'for every input the law returns true; each argument reads behind the call as it read before'; 0 by the template 'total and deterministic' (their statements: YtbcbagoogdfciaaTotals.lean).
  GIVEN WITH THE SEED: the statements are not yours to turn. If you find one false, say at which input.
  Laid BY PROGRAM, IN A SANDBOX (cutbox-rows.mjs): the forced cells as the released guide's own fill.sh prints them over the translation 01bc72ad5d7ca51c… (all of the seat's roots in one cut). By AI agents, Wed Nov 11 2026. No macro, syntax, notation, axiom, sorry.
-/
import Derived.Test.YtbcbagoogdfciaaChecked
import GoSem.Claim
import GoSem.ClaimJoined
import GoSem.ClaimMapViews
import Derived.JoinedTies
import Derived.KernelRfl
namespace Go.Proofs.Ytbcbagoogdfciaa
/- THE CELL 'sum', in the pinned program and in every row, IS THE sha256 OF THE DUMP (.gsa) THAT YtbcbagoogdfciaaProg.lean LOADS. Nothing in Lean hashes anything: it is a label: what it is worth is what the hold of that sum in a sandbox is worth. -/
noncomputable def Try.pinned : Pinned := { name := "ytbcbagoogdfciaa", sum := "01bc72ad5d7ca51c572c907a4c5bc53c8e404854354bc1d20755ac98bdf34f24", checked := Try.checked }
namespace Rows
def none {H : Type} : Left H := { results := [], args := [] }

/-- 'respitelaw03.TsoMakes': WHATEVER THE INPUT: true; the input reads as it did. -/
def tsoMakesSpec : ChangeSpec := { name := "tsoMakes", fn := fun _ => fun
  | [d1, d2, d3, d4, d5] => { results := [.lit (.bool true)], args := [d1, d2, d3, d4, d5] }
  | _ => none }
def tsoMakesRow : OpenClaim := { program := "ytbcbagoogdfciaa", sum := "01bc72ad5d7ca51c572c907a4c5bc53c8e404854354bc1d20755ac98bdf34f24", func := "respite/respitelaw03.TsoMakes", spec := "tsoMakes", unfollowed := true, recurses := true, apart := false }
def TsoMakesSaid : Prop := tsoMakesRow.holds Try.pinned (OpenSpec.ofChange tsoMakesSpec)

/-- ITS FALSE NEIGHBOUR: 'it returns false'. Refute it at one input. -/
def tsoMakesWrong : ChangeSpec := { name := "tsoMakes", fn := fun _ => fun
  | [d1, d2, d3, d4, d5] => { results := [.lit (.bool false)], args := [d1, d2, d3, d4, d5] }
  | _ => none }
def TsoMakesWrongFalsely : Prop := tsoMakesRow.holds Try.pinned (OpenSpec.ofChange tsoMakesWrong)

/-- 'respitelaw03.TsoMoves': WHATEVER THE INPUT: true; the input reads as it did. -/
def tsoMovesSpec : ChangeSpec := { name := "tsoMoves", fn := fun _ => fun
  | [d1, d2, d3, d4, d5, d6, d7] => { results := [.lit (.bool true)], args := [d1, d2, d3, d4, d5, d6, d7] }
  | _ => none }
def tsoMovesRow : OpenClaim := { program := "ytbcbagoogdfciaa", sum := "01bc72ad5d7ca51c572c907a4c5bc53c8e404854354bc1d20755ac98bdf34f24", func := "respite/respitelaw03.TsoMoves", spec := "tsoMoves", unfollowed := true, recurses := true, apart := false }
def TsoMovesSaid : Prop := tsoMovesRow.holds Try.pinned (OpenSpec.ofChange tsoMovesSpec)

/-- ITS FALSE NEIGHBOUR: 'it returns false'. Refute it at one input. -/
def tsoMovesWrong : ChangeSpec := { name := "tsoMoves", fn := fun _ => fun
  | [d1, d2, d3, d4, d5, d6, d7] => { results := [.lit (.bool false)], args := [d1, d2, d3, d4, d5, d6, d7] }
  | _ => none }
def TsoMovesWrongFalsely : Prop := tsoMovesRow.holds Try.pinned (OpenSpec.ofChange tsoMovesWrong)

/-- 'respitelaw03.TsoLocks': WHATEVER THE INPUT: true; the input reads as it did. -/
def tsoLocksSpec : ChangeSpec := { name := "tsoLocks", fn := fun _ => fun
  | [d1, d2, d3, d4, d5, d6, d7, d8, d9] => { results := [.lit (.bool true)], args := [d1, d2, d3, d4, d5, d6, d7, d8, d9] }
  | _ => none }
def tsoLocksRow : OpenClaim := { program := "ytbcbagoogdfciaa", sum := "01bc72ad5d7ca51c572c907a4c5bc53c8e404854354bc1d20755ac98bdf34f24", func := "respite/respitelaw03.TsoLocks", spec := "tsoLocks", unfollowed := true, recurses := true, apart := false }
def TsoLocksSaid : Prop := tsoLocksRow.holds Try.pinned (OpenSpec.ofChange tsoLocksSpec)

/-- ITS FALSE NEIGHBOUR: 'it returns false'. Refute it at one input. -/
def tsoLocksWrong : ChangeSpec := { name := "tsoLocks", fn := fun _ => fun
  | [d1, d2, d3, d4, d5, d6, d7, d8, d9] => { results := [.lit (.bool false)], args := [d1, d2, d3, d4, d5, d6, d7, d8, d9] }
  | _ => none }
def TsoLocksWrongFalsely : Prop := tsoLocksRow.holds Try.pinned (OpenSpec.ofChange tsoLocksWrong)

/-- 'respitelaw03.TsoOwn': WHATEVER THE INPUT: true; the input reads as it did. -/
def tsoOwnSpec : ChangeSpec := { name := "tsoOwn", fn := fun _ => fun
  | [d1, d2, d3, d4, d5, d6, d7, d8, d9] => { results := [.lit (.bool true)], args := [d1, d2, d3, d4, d5, d6, d7, d8, d9] }
  | _ => none }
def tsoOwnRow : OpenClaim := { program := "ytbcbagoogdfciaa", sum := "01bc72ad5d7ca51c572c907a4c5bc53c8e404854354bc1d20755ac98bdf34f24", func := "respite/respitelaw03.TsoOwn", spec := "tsoOwn", unfollowed := true, recurses := true, apart := false }
def TsoOwnSaid : Prop := tsoOwnRow.holds Try.pinned (OpenSpec.ofChange tsoOwnSpec)

/-- ITS FALSE NEIGHBOUR: 'it returns false'. Refute it at one input. -/
def tsoOwnWrong : ChangeSpec := { name := "tsoOwn", fn := fun _ => fun
  | [d1, d2, d3, d4, d5, d6, d7, d8, d9] => { results := [.lit (.bool false)], args := [d1, d2, d3, d4, d5, d6, d7, d8, d9] }
  | _ => none }
def TsoOwnWrongFalsely : Prop := tsoOwnRow.holds Try.pinned (OpenSpec.ofChange tsoOwnWrong)

/-- 'respitelaw03.TsoAtoms': WHATEVER THE INPUT: true; the input reads as it did. -/
def tsoAtomsSpec : ChangeSpec := { name := "tsoAtoms", fn := fun _ => fun
  | [d1, d2, d3, d4, d5, d6, d7, d8] => { results := [.lit (.bool true)], args := [d1, d2, d3, d4, d5, d6, d7, d8] }
  | _ => none }
def tsoAtomsRow : OpenClaim := { program := "ytbcbagoogdfciaa", sum := "01bc72ad5d7ca51c572c907a4c5bc53c8e404854354bc1d20755ac98bdf34f24", func := "respite/respitelaw03.TsoAtoms", spec := "tsoAtoms", unfollowed := true, recurses := true, apart := false }
def TsoAtomsSaid : Prop := tsoAtomsRow.holds Try.pinned (OpenSpec.ofChange tsoAtomsSpec)

/-- ITS FALSE NEIGHBOUR: 'it returns false'. Refute it at one input. -/
def tsoAtomsWrong : ChangeSpec := { name := "tsoAtoms", fn := fun _ => fun
  | [d1, d2, d3, d4, d5, d6, d7, d8] => { results := [.lit (.bool false)], args := [d1, d2, d3, d4, d5, d6, d7, d8] }
  | _ => none }
def TsoAtomsWrongFalsely : Prop := tsoAtomsRow.holds Try.pinned (OpenSpec.ofChange tsoAtomsWrong)

/- THE SECOND FORM. 'bulk': how many values and letters a reading holds, each counted each time it is reached (what is shared counts as often as it is met; a slice's spare places count too). A statement '..UptoSaid' is the law's where the arguments, and the package variables that the reading takes, are together of bulk at most 1048576: NARROWER than '..Said'. Prove '..Said' where nothing that the law and all that it calls make is longer than what came in: it says more and counts as full. Else prove '..UptoSaid'. A law counts once. -/
mutual
def uptoBulk {H : Type} : DataW H → Nat
  | .lit (.string bytes) => bytes.length + 1
  | .lit _ => 1
  | .nil => 1
  | .ptr d => uptoBulk d + 1
  | .slice elems spare => uptoBulkAll elems + uptoBulkAll spare + 1
  | .agg parts => uptoBulkAll parts + 1
  | .iface _ d => uptoBulk d + 1
  | .map entries => uptoBulkEntries entries + 1
  | .held _ => 1
def uptoBulkAll {H : Type} : List (DataW H) → Nat
  | [] => 0
  | d :: r => uptoBulk d + uptoBulkAll r
def uptoBulkEntries {H : Type} : List (Lit × DataW H) → Nat
  | [] => 0
  | x :: r => uptoBulkEntry x + uptoBulkEntries r
def uptoBulkEntry {H : Type} : Lit × DataW H → Nat
  | (.string bytes, d) => bytes.length + uptoBulk d + 1
  | (_, d) => uptoBulk d + 1
 end
def uptoSmall : (H : Type) → List (DataW H) → Bool := fun _ ds => decide (uptoBulkAll ds ≤ 1048576)
def OpenSpec.upto (s : _root_.Go.ChangeSpec) : _root_.Go.OpenSpec := { _root_.Go.OpenSpec.ofChange s with cond := some uptoSmall }

/-- 'respitelaw03.TsoMakes', WHERE WHAT IT READS IS OF BULK AT MOST 1048576: true; the input reads as it did. -/
def tsoMakesUptoRow : OpenClaim := { program := "ytbcbagoogdfciaa", sum := "01bc72ad5d7ca51c572c907a4c5bc53c8e404854354bc1d20755ac98bdf34f24", func := "respite/respitelaw03.TsoMakes", spec := "tsoMakes", unfollowed := true, recurses := true, apart := false, narrowed := true }
def TsoMakesUptoSaid : Prop := tsoMakesUptoRow.holds Try.pinned (OpenSpec.upto tsoMakesSpec)

/-- 'respitelaw03.TsoMoves', WHERE WHAT IT READS IS OF BULK AT MOST 1048576: true; the input reads as it did. -/
def tsoMovesUptoRow : OpenClaim := { program := "ytbcbagoogdfciaa", sum := "01bc72ad5d7ca51c572c907a4c5bc53c8e404854354bc1d20755ac98bdf34f24", func := "respite/respitelaw03.TsoMoves", spec := "tsoMoves", unfollowed := true, recurses := true, apart := false, narrowed := true }
def TsoMovesUptoSaid : Prop := tsoMovesUptoRow.holds Try.pinned (OpenSpec.upto tsoMovesSpec)

/-- 'respitelaw03.TsoLocks', WHERE WHAT IT READS IS OF BULK AT MOST 1048576: true; the input reads as it did. -/
def tsoLocksUptoRow : OpenClaim := { program := "ytbcbagoogdfciaa", sum := "01bc72ad5d7ca51c572c907a4c5bc53c8e404854354bc1d20755ac98bdf34f24", func := "respite/respitelaw03.TsoLocks", spec := "tsoLocks", unfollowed := true, recurses := true, apart := false, narrowed := true }
def TsoLocksUptoSaid : Prop := tsoLocksUptoRow.holds Try.pinned (OpenSpec.upto tsoLocksSpec)

/-- 'respitelaw03.TsoOwn', WHERE WHAT IT READS IS OF BULK AT MOST 1048576: true; the input reads as it did. -/
def tsoOwnUptoRow : OpenClaim := { program := "ytbcbagoogdfciaa", sum := "01bc72ad5d7ca51c572c907a4c5bc53c8e404854354bc1d20755ac98bdf34f24", func := "respite/respitelaw03.TsoOwn", spec := "tsoOwn", unfollowed := true, recurses := true, apart := false, narrowed := true }
def TsoOwnUptoSaid : Prop := tsoOwnUptoRow.holds Try.pinned (OpenSpec.upto tsoOwnSpec)

/-- 'respitelaw03.TsoAtoms', WHERE WHAT IT READS IS OF BULK AT MOST 1048576: true; the input reads as it did. -/
def tsoAtomsUptoRow : OpenClaim := { program := "ytbcbagoogdfciaa", sum := "01bc72ad5d7ca51c572c907a4c5bc53c8e404854354bc1d20755ac98bdf34f24", func := "respite/respitelaw03.TsoAtoms", spec := "tsoAtoms", unfollowed := true, recurses := true, apart := false, narrowed := true }
def TsoAtomsUptoSaid : Prop := tsoAtomsUptoRow.holds Try.pinned (OpenSpec.upto tsoAtomsSpec)

end Rows
end Go.Proofs.Ytbcbagoogdfciaa
