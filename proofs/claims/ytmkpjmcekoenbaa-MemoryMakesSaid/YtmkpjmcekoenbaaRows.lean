/-
  No cell of these rows narrows 'for every input' (looked for: loops, veiled, ifaces, maps, wideKeys, modest, calm, conditions, laid).
  DERIVED. THE GIVEN ROWS OF THIS SEAT. 5 by the template 'for every input the law returns true; each argument reads behind the call as it read before'; 0 by the template 'total and deterministic' (their statements: YtmkpjmcekoenbaaTotals.lean).
  GIVEN WITH THE SEED: the statements are not yours to turn. If you find one false, say at which input.
  Laid BY PROGRAM, IN A SANDBOX (cutbox-rows.mjs): the forced cells as the released guide's own fill.sh prints them over the translation 7d370bcf957980d9… (all of the seat's roots in one cut). By AI agents, Wed Nov 11 2026. No macro, syntax, notation, axiom, sorry.
-/
import Derived.Test.YtmkpjmcekoenbaaChecked
import GoSem.Claim
import GoSem.ClaimJoined
import GoSem.ClaimMapViews
import Derived.JoinedTies
import Derived.KernelRfl
namespace Go.Proofs.Ytmkpjmcekoenbaa
/- THE CELL 'sum', in the pinned program and in every row, IS THE sha256 OF THE DUMP (.gsa) THAT YtmkpjmcekoenbaaProg.lean LOADS. Nothing in Lean hashes anything: it is a label: what it is worth is what the hold of that sum in a sandbox is worth. -/
noncomputable def Try.pinned : Pinned := { name := "ytmkpjmcekoenbaa", sum := "7d370bcf957980d9638558bf0b09cc186465ac3733890eeb27efbb00f3057835", checked := Try.checked }
namespace Rows
def none {H : Type} : Left H := { results := [], args := [] }

/-- 'respitelaw01.MemoryMakes': WHATEVER THE INPUT: true; the input reads as it did. -/
def memoryMakesSpec : ChangeSpec := { name := "memoryMakes", fn := fun _ => fun
  | [d1, d2, d3] => { results := [.lit (.bool true)], args := [d1, d2, d3] }
  | _ => none }
def memoryMakesRow : OpenClaim := { program := "ytmkpjmcekoenbaa", sum := "7d370bcf957980d9638558bf0b09cc186465ac3733890eeb27efbb00f3057835", func := "respite/respitelaw01.MemoryMakes", spec := "memoryMakes", unfollowed := true, recurses := true, apart := false }
def MemoryMakesSaid : Prop := memoryMakesRow.holds Try.pinned (OpenSpec.ofChange memoryMakesSpec)

/-- ITS FALSE NEIGHBOUR: 'it returns false'. Refute it at one input. -/
def memoryMakesWrong : ChangeSpec := { name := "memoryMakes", fn := fun _ => fun
  | [d1, d2, d3] => { results := [.lit (.bool false)], args := [d1, d2, d3] }
  | _ => none }
def MemoryMakesWrongFalsely : Prop := memoryMakesRow.holds Try.pinned (OpenSpec.ofChange memoryMakesWrong)

/-- 'respitelaw01.MemoryLoads': WHATEVER THE INPUT: true; the input reads as it did. -/
def memoryLoadsSpec : ChangeSpec := { name := "memoryLoads", fn := fun _ => fun
  | [d1, d2, d3, d4] => { results := [.lit (.bool true)], args := [d1, d2, d3, d4] }
  | _ => none }
def memoryLoadsRow : OpenClaim := { program := "ytmkpjmcekoenbaa", sum := "7d370bcf957980d9638558bf0b09cc186465ac3733890eeb27efbb00f3057835", func := "respite/respitelaw01.MemoryLoads", spec := "memoryLoads", unfollowed := true, recurses := true, apart := false }
def MemoryLoadsSaid : Prop := memoryLoadsRow.holds Try.pinned (OpenSpec.ofChange memoryLoadsSpec)

/-- ITS FALSE NEIGHBOUR: 'it returns false'. Refute it at one input. -/
def memoryLoadsWrong : ChangeSpec := { name := "memoryLoads", fn := fun _ => fun
  | [d1, d2, d3, d4] => { results := [.lit (.bool false)], args := [d1, d2, d3, d4] }
  | _ => none }
def MemoryLoadsWrongFalsely : Prop := memoryLoadsRow.holds Try.pinned (OpenSpec.ofChange memoryLoadsWrong)

/-- 'respitelaw01.MemoryMarks': WHATEVER THE INPUT: true; the input reads as it did. -/
def memoryMarksSpec : ChangeSpec := { name := "memoryMarks", fn := fun _ => fun
  | [d1, d2, d3, d4, d5] => { results := [.lit (.bool true)], args := [d1, d2, d3, d4, d5] }
  | _ => none }
def memoryMarksRow : OpenClaim := { program := "ytmkpjmcekoenbaa", sum := "7d370bcf957980d9638558bf0b09cc186465ac3733890eeb27efbb00f3057835", func := "respite/respitelaw01.MemoryMarks", spec := "memoryMarks", unfollowed := true, recurses := true, apart := false }
def MemoryMarksSaid : Prop := memoryMarksRow.holds Try.pinned (OpenSpec.ofChange memoryMarksSpec)

/-- ITS FALSE NEIGHBOUR: 'it returns false'. Refute it at one input. -/
def memoryMarksWrong : ChangeSpec := { name := "memoryMarks", fn := fun _ => fun
  | [d1, d2, d3, d4, d5] => { results := [.lit (.bool false)], args := [d1, d2, d3, d4, d5] }
  | _ => none }
def MemoryMarksWrongFalsely : Prop := memoryMarksRow.holds Try.pinned (OpenSpec.ofChange memoryMarksWrong)

/-- 'respitelaw01.MemoryHolds': WHATEVER THE INPUT: true; the input reads as it did. -/
def memoryHoldsSpec : ChangeSpec := { name := "memoryHolds", fn := fun _ => fun
  | [d1, d2, d3, d4, d5] => { results := [.lit (.bool true)], args := [d1, d2, d3, d4, d5] }
  | _ => none }
def memoryHoldsRow : OpenClaim := { program := "ytmkpjmcekoenbaa", sum := "7d370bcf957980d9638558bf0b09cc186465ac3733890eeb27efbb00f3057835", func := "respite/respitelaw01.MemoryHolds", spec := "memoryHolds", unfollowed := true, recurses := true, apart := false }
def MemoryHoldsSaid : Prop := memoryHoldsRow.holds Try.pinned (OpenSpec.ofChange memoryHoldsSpec)

/-- ITS FALSE NEIGHBOUR: 'it returns false'. Refute it at one input. -/
def memoryHoldsWrong : ChangeSpec := { name := "memoryHolds", fn := fun _ => fun
  | [d1, d2, d3, d4, d5] => { results := [.lit (.bool false)], args := [d1, d2, d3, d4, d5] }
  | _ => none }
def MemoryHoldsWrongFalsely : Prop := memoryHoldsRow.holds Try.pinned (OpenSpec.ofChange memoryHoldsWrong)

/-- 'respitelaw01.MemoryCycles': WHATEVER THE INPUT: true; the input reads as it did. -/
def memoryCyclesSpec : ChangeSpec := { name := "memoryCycles", fn := fun _ => fun
  | [d1, d2, d3, d4, d5] => { results := [.lit (.bool true)], args := [d1, d2, d3, d4, d5] }
  | _ => none }
def memoryCyclesRow : OpenClaim := { program := "ytmkpjmcekoenbaa", sum := "7d370bcf957980d9638558bf0b09cc186465ac3733890eeb27efbb00f3057835", func := "respite/respitelaw01.MemoryCycles", spec := "memoryCycles", unfollowed := true, recurses := true, apart := false }
def MemoryCyclesSaid : Prop := memoryCyclesRow.holds Try.pinned (OpenSpec.ofChange memoryCyclesSpec)

/-- ITS FALSE NEIGHBOUR: 'it returns false'. Refute it at one input. -/
def memoryCyclesWrong : ChangeSpec := { name := "memoryCycles", fn := fun _ => fun
  | [d1, d2, d3, d4, d5] => { results := [.lit (.bool false)], args := [d1, d2, d3, d4, d5] }
  | _ => none }
def MemoryCyclesWrongFalsely : Prop := memoryCyclesRow.holds Try.pinned (OpenSpec.ofChange memoryCyclesWrong)

/- THE SECOND FORM. 'bulk': how many values and letters a reading holds, each counted each time it is reached (what is shared counts as often as it is met; a slice's spare places count too). A statement '..UptoSaid' is the law's where the arguments, and the package variables that the reading takes, are together of bulk at most 1048576: NARROWER than '..Said'. Prove '..Said' where nothing that the law and all that it calls make is longer than what came in: it says more and counts as full. Else prove '..UptoSaid'. A law counts once. -/
mutual
def uptoBulk {H : Type} : DataW H → Nat
  | .lit (.string bytes) => bytes.length + 1
  | .lit _ => 1
  | .nil => 1
  | .ptr d => uptoBulk d + 1
  | .slice elems spare => uptoBulkAll elems + uptoBulkAll spare + 1
  | .agg parts => uptoBulkAll parts + 1
  | .iface _ d => uptoBulk d + 1
  | .map entries => uptoBulkEntries entries + 1
  | .held _ => 1
def uptoBulkAll {H : Type} : List (DataW H) → Nat
  | [] => 0
  | d :: r => uptoBulk d + uptoBulkAll r
def uptoBulkEntries {H : Type} : List (Lit × DataW H) → Nat
  | [] => 0
  | x :: r => uptoBulkEntry x + uptoBulkEntries r
def uptoBulkEntry {H : Type} : Lit × DataW H → Nat
  | (.string bytes, d) => bytes.length + uptoBulk d + 1
  | (_, d) => uptoBulk d + 1
 end
def uptoSmall : (H : Type) → List (DataW H) → Bool := fun _ ds => decide (uptoBulkAll ds ≤ 1048576)
def OpenSpec.upto (s : _root_.Go.ChangeSpec) : _root_.Go.OpenSpec := { _root_.Go.OpenSpec.ofChange s with cond := some uptoSmall }

/-- 'respitelaw01.MemoryMakes', WHERE WHAT IT READS IS OF BULK AT MOST 1048576: true; the input reads as it did. -/
def memoryMakesUptoRow : OpenClaim := { program := "ytmkpjmcekoenbaa", sum := "7d370bcf957980d9638558bf0b09cc186465ac3733890eeb27efbb00f3057835", func := "respite/respitelaw01.MemoryMakes", spec := "memoryMakes", unfollowed := true, recurses := true, apart := false, narrowed := true }
def MemoryMakesUptoSaid : Prop := memoryMakesUptoRow.holds Try.pinned (OpenSpec.upto memoryMakesSpec)

/-- 'respitelaw01.MemoryLoads', WHERE WHAT IT READS IS OF BULK AT MOST 1048576: true; the input reads as it did. -/
def memoryLoadsUptoRow : OpenClaim := { program := "ytmkpjmcekoenbaa", sum := "7d370bcf957980d9638558bf0b09cc186465ac3733890eeb27efbb00f3057835", func := "respite/respitelaw01.MemoryLoads", spec := "memoryLoads", unfollowed := true, recurses := true, apart := false, narrowed := true }
def MemoryLoadsUptoSaid : Prop := memoryLoadsUptoRow.holds Try.pinned (OpenSpec.upto memoryLoadsSpec)

/-- 'respitelaw01.MemoryMarks', WHERE WHAT IT READS IS OF BULK AT MOST 1048576: true; the input reads as it did. -/
def memoryMarksUptoRow : OpenClaim := { program := "ytmkpjmcekoenbaa", sum := "7d370bcf957980d9638558bf0b09cc186465ac3733890eeb27efbb00f3057835", func := "respite/respitelaw01.MemoryMarks", spec := "memoryMarks", unfollowed := true, recurses := true, apart := false, narrowed := true }
def MemoryMarksUptoSaid : Prop := memoryMarksUptoRow.holds Try.pinned (OpenSpec.upto memoryMarksSpec)

/-- 'respitelaw01.MemoryHolds', WHERE WHAT IT READS IS OF BULK AT MOST 1048576: true; the input reads as it did. -/
def memoryHoldsUptoRow : OpenClaim := { program := "ytmkpjmcekoenbaa", sum := "7d370bcf957980d9638558bf0b09cc186465ac3733890eeb27efbb00f3057835", func := "respite/respitelaw01.MemoryHolds", spec := "memoryHolds", unfollowed := true, recurses := true, apart := false, narrowed := true }
def MemoryHoldsUptoSaid : Prop := memoryHoldsUptoRow.holds Try.pinned (OpenSpec.upto memoryHoldsSpec)

/-- 'respitelaw01.MemoryCycles', WHERE WHAT IT READS IS OF BULK AT MOST 1048576: true; the input reads as it did. -/
def memoryCyclesUptoRow : OpenClaim := { program := "ytmkpjmcekoenbaa", sum := "7d370bcf957980d9638558bf0b09cc186465ac3733890eeb27efbb00f3057835", func := "respite/respitelaw01.MemoryCycles", spec := "memoryCycles", unfollowed := true, recurses := true, apart := false, narrowed := true }
def MemoryCyclesUptoSaid : Prop := memoryCyclesUptoRow.holds Try.pinned (OpenSpec.upto memoryCyclesSpec)

end Rows
end Go.Proofs.Ytmkpjmcekoenbaa
