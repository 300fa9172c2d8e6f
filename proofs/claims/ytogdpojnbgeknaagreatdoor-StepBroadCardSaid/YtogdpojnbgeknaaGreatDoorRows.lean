/-
  NARROWER THAN 'FOR EVERY INPUT', by the rows' own cells (each row's printed sentence says how): StepMakes: laid · StepDoes: laid · StepApart: laid · StepStops: laid · StepBroad: laid.
  DERIVED. THE GIVEN ROWS OF THIS SEAT. 5 by the template 'for every input the law returns true; each argument reads behind the call as it read before'; 0 by the template 'total and deterministic' (their statements: YtogdpojnbgeknaaGreatDoorTotals.lean).
  GIVEN WITH THE SEED: the statements are not yours to turn. If you find one false, say at which input.
  Laid BY PROGRAM, IN A SANDBOX (cutbox-rows.mjs): the forced cells as the released guide's own fill.sh prints them over the translation 07df525c1fa82abf… (all of the seat's roots in one cut). By AI agents, Wed Nov 11 2026. No macro, syntax, notation, axiom, sorry.
-/
import Derived.Test.YtogdpojnbgeknaaGreatDoorChecked
import GoSem.Claim
import GoSem.ClaimJoined
import GoSem.ClaimMapViews
import Derived.JoinedTies
import Derived.KernelRfl
namespace Go.Proofs.YtogdpojnbgeknaaGreatDoor
/- THE CELL 'sum', in the pinned program and in every row, IS THE sha256 OF THE DUMP (.gsa) THAT YtogdpojnbgeknaaGreatDoorProg.lean LOADS. Nothing in Lean hashes anything: it is a label: what it is worth is what the hold of that sum in a sandbox is worth. -/
noncomputable def Tryz.pinned : Pinned := { name := "ytogdpojnbgeknaagreatdoor", sum := "07df525c1fa82abfdb37aa407efb6c5a24a5868830a9dc9c7750e85ba9b04ecb", checked := Tryz.checked }
namespace Rows
def none {H : Type} : Left H := { results := [], args := [] }

/- WHAT THE LISTED PACKAGE-LEVEL VARIABLES READ AS WHEN THE CALL BEGINS. Each datum BY PROGRAM (the guide's laid-datum.mjs) off the statement by which the dump's own 'gosem.cut.vars' lays the variable. In a bare row this is a premise. The card (YtogdpojnbgeknaaGreatDoorCards.lean) ties it to the program's text. -/
def laid_respite_asm_operations {H : Type} : DataW H := .agg [.agg [.lit (.string [104, 97, 108, 116]), .lit (.string [])], .agg [.lit (.string [115, 101, 116]), .lit (.string [114, 110])], .agg [.lit (.string [109, 111, 118, 101]), .lit (.string [114, 114])], .agg [.lit (.string [112, 108, 117, 115]), .lit (.string [114, 114, 110])], .agg [.lit (.string [109, 97, 115, 107]), .lit (.string [114, 114, 110])], .agg [.lit (.string [97, 100, 100]), .lit (.string [114, 114, 114])], .agg [.lit (.string [115, 117, 98]), .lit (.string [114, 114, 114])], .agg [.lit (.string [97, 110, 100]), .lit (.string [114, 114, 114])], .agg [.lit (.string [120, 111, 114]), .lit (.string [114, 114, 114])], .agg [.lit (.string [108, 101, 115, 115]), .lit (.string [114, 114, 114])], .agg [.lit (.string [106, 117, 109, 112]), .lit (.string [116])], .agg [.lit (.string [122, 101, 114, 111]), .lit (.string [114, 116])], .agg [.lit (.string [115, 111, 109, 101]), .lit (.string [114, 116])], .agg [.lit (.string [99, 97, 108, 108]), .lit (.string [116])], .agg [.lit (.string [114, 101, 116]), .lit (.string [])], .agg [.lit (.string [115, 101, 108, 102]), .lit (.string [114])], .agg [.lit (.string [108, 111, 97, 100]), .lit (.string [114, 114, 110])], .agg [.lit (.string [115, 116, 111, 114, 101]), .lit (.string [114, 114, 110])], .agg [.lit (.string [102, 101, 110, 99, 101]), .lit (.string [])], .agg [.lit (.string [99, 97, 115]), .lit (.string [114, 114, 114])], .agg [.lit (.string [120, 99, 104, 103]), .lit (.string [114, 114])], .agg [.lit (.string [102, 101, 116, 99, 104]), .lit (.string [114, 114])], .agg [.lit (.string [98, 114, 111, 97, 100]), .lit (.string [])], .agg [.lit (.string [119, 97, 105, 116]), .lit (.string [114, 114])], .agg [.lit (.string [111, 119, 110]), .lit (.string [114, 114])], .agg [.lit (.string [100, 114, 111, 112]), .lit (.string [114, 114])], .agg [.lit (.string [109, 97, 114, 107]), .lit (.string [110])]]

/-- 'respitelaw08.StepMakes': WHATEVER THE INPUT: true; the input reads as it did. -/
def stepMakesSpec : ChangeSpec := { name := "stepMakes", fn := fun _ => fun
  | [d1, d2, d3, d4, d5, d6] => { results := [.lit (.bool true)], args := [d1, d2, d3, d4, d5, d6] }
  | _ => none }
def stepMakesRow : OpenClaim := { program := "ytogdpojnbgeknaagreatdoor", sum := "07df525c1fa82abfdb37aa407efb6c5a24a5868830a9dc9c7750e85ba9b04ecb", func := "respite/respitelaw08.StepMakes", spec := "stepMakes", unfollowed := true, recurses := true, named := ["respite/asm.operations"], apart := false, laid := [("respite/asm.operations", laid_respite_asm_operations)] }
def StepMakesSaid : Prop := stepMakesRow.holds Tryz.pinned (OpenSpec.ofChange stepMakesSpec)

/-- ITS FALSE NEIGHBOUR: 'it returns false'. Refute it at one input. -/
def stepMakesWrong : ChangeSpec := { name := "stepMakes", fn := fun _ => fun
  | [d1, d2, d3, d4, d5, d6] => { results := [.lit (.bool false)], args := [d1, d2, d3, d4, d5, d6] }
  | _ => none }
def StepMakesWrongFalsely : Prop := stepMakesRow.holds Tryz.pinned (OpenSpec.ofChange stepMakesWrong)

/-- 'respitelaw08.StepDoes': WHATEVER THE INPUT: true; the input reads as it did. -/
def stepDoesSpec : ChangeSpec := { name := "stepDoes", fn := fun _ => fun
  | [d1, d2, d3, d4, d5, d6, d7] => { results := [.lit (.bool true)], args := [d1, d2, d3, d4, d5, d6, d7] }
  | _ => none }
def stepDoesRow : OpenClaim := { program := "ytogdpojnbgeknaagreatdoor", sum := "07df525c1fa82abfdb37aa407efb6c5a24a5868830a9dc9c7750e85ba9b04ecb", func := "respite/respitelaw08.StepDoes", spec := "stepDoes", unfollowed := true, recurses := true, named := ["respite/asm.operations"], apart := false, laid := [("respite/asm.operations", laid_respite_asm_operations)] }
def StepDoesSaid : Prop := stepDoesRow.holds Tryz.pinned (OpenSpec.ofChange stepDoesSpec)

/-- ITS FALSE NEIGHBOUR: 'it returns false'. Refute it at one input. -/
def stepDoesWrong : ChangeSpec := { name := "stepDoes", fn := fun _ => fun
  | [d1, d2, d3, d4, d5, d6, d7] => { results := [.lit (.bool false)], args := [d1, d2, d3, d4, d5, d6, d7] }
  | _ => none }
def StepDoesWrongFalsely : Prop := stepDoesRow.holds Tryz.pinned (OpenSpec.ofChange stepDoesWrong)

/-- 'respitelaw08.StepApart': WHATEVER THE INPUT: true; the input reads as it did. -/
def stepApartSpec : ChangeSpec := { name := "stepApart", fn := fun _ => fun
  | [d1, d2, d3, d4, d5, d6, d7] => { results := [.lit (.bool true)], args := [d1, d2, d3, d4, d5, d6, d7] }
  | _ => none }
def stepApartRow : OpenClaim := { program := "ytogdpojnbgeknaagreatdoor", sum := "07df525c1fa82abfdb37aa407efb6c5a24a5868830a9dc9c7750e85ba9b04ecb", func := "respite/respitelaw08.StepApart", spec := "stepApart", unfollowed := true, recurses := true, named := ["respite/asm.operations"], apart := false, laid := [("respite/asm.operations", laid_respite_asm_operations)] }
def StepApartSaid : Prop := stepApartRow.holds Tryz.pinned (OpenSpec.ofChange stepApartSpec)

/-- ITS FALSE NEIGHBOUR: 'it returns false'. Refute it at one input. -/
def stepApartWrong : ChangeSpec := { name := "stepApart", fn := fun _ => fun
  | [d1, d2, d3, d4, d5, d6, d7] => { results := [.lit (.bool false)], args := [d1, d2, d3, d4, d5, d6, d7] }
  | _ => none }
def StepApartWrongFalsely : Prop := stepApartRow.holds Tryz.pinned (OpenSpec.ofChange stepApartWrong)

/-- 'respitelaw08.StepStops': WHATEVER THE INPUT: true; the input reads as it did. -/
def stepStopsSpec : ChangeSpec := { name := "stepStops", fn := fun _ => fun
  | [d1, d2, d3, d4, d5, d6, d7] => { results := [.lit (.bool true)], args := [d1, d2, d3, d4, d5, d6, d7] }
  | _ => none }
def stepStopsRow : OpenClaim := { program := "ytogdpojnbgeknaagreatdoor", sum := "07df525c1fa82abfdb37aa407efb6c5a24a5868830a9dc9c7750e85ba9b04ecb", func := "respite/respitelaw08.StepStops", spec := "stepStops", unfollowed := true, recurses := true, named := ["respite/asm.operations"], apart := false, laid := [("respite/asm.operations", laid_respite_asm_operations)] }
def StepStopsSaid : Prop := stepStopsRow.holds Tryz.pinned (OpenSpec.ofChange stepStopsSpec)

/-- ITS FALSE NEIGHBOUR: 'it returns false'. Refute it at one input. -/
def stepStopsWrong : ChangeSpec := { name := "stepStops", fn := fun _ => fun
  | [d1, d2, d3, d4, d5, d6, d7] => { results := [.lit (.bool false)], args := [d1, d2, d3, d4, d5, d6, d7] }
  | _ => none }
def StepStopsWrongFalsely : Prop := stepStopsRow.holds Tryz.pinned (OpenSpec.ofChange stepStopsWrong)

/-- 'respitelaw08.StepBroad': WHATEVER THE INPUT: true; the input reads as it did. -/
def stepBroadSpec : ChangeSpec := { name := "stepBroad", fn := fun _ => fun
  | [d1, d2, d3, d4, d5, d6, d7, d8] => { results := [.lit (.bool true)], args := [d1, d2, d3, d4, d5, d6, d7, d8] }
  | _ => none }
def stepBroadRow : OpenClaim := { program := "ytogdpojnbgeknaagreatdoor", sum := "07df525c1fa82abfdb37aa407efb6c5a24a5868830a9dc9c7750e85ba9b04ecb", func := "respite/respitelaw08.StepBroad", spec := "stepBroad", unfollowed := true, recurses := true, named := ["respite/asm.operations"], apart := false, laid := [("respite/asm.operations", laid_respite_asm_operations)] }
def StepBroadSaid : Prop := stepBroadRow.holds Tryz.pinned (OpenSpec.ofChange stepBroadSpec)

/-- ITS FALSE NEIGHBOUR: 'it returns false'. Refute it at one input. -/
def stepBroadWrong : ChangeSpec := { name := "stepBroad", fn := fun _ => fun
  | [d1, d2, d3, d4, d5, d6, d7, d8] => { results := [.lit (.bool false)], args := [d1, d2, d3, d4, d5, d6, d7, d8] }
  | _ => none }
def StepBroadWrongFalsely : Prop := stepBroadRow.holds Tryz.pinned (OpenSpec.ofChange stepBroadWrong)

/- THE SECOND FORM. 'bulk': how many values and letters a reading holds, each counted each time it is reached (what is shared counts as often as it is met; a slice's spare places count too). A statement '..UptoSaid' is the law's where the arguments, and the package variables that the reading takes, are together of bulk at most 1048576: NARROWER than '..Said'. Prove '..Said' where nothing that the law and all that it calls make is longer than what came in: it says more and counts as full. Else prove '..UptoSaid'. A law counts once. -/
mutual
def uptoBulk {H : Type} : DataW H → Nat
  | .lit (.string bytes) => bytes.length + 1
  | .lit _ => 1
  | .nil => 1
  | .ptr d => uptoBulk d + 1
  | .slice elems spare => uptoBulkAll elems + uptoBulkAll spare + 1
  | .agg parts => uptoBulkAll parts + 1
  | .iface _ d => uptoBulk d + 1
  | .map entries => uptoBulkEntries entries + 1
  | .held _ => 1
def uptoBulkAll {H : Type} : List (DataW H) → Nat
  | [] => 0
  | d :: r => uptoBulk d + uptoBulkAll r
def uptoBulkEntries {H : Type} : List (Lit × DataW H) → Nat
  | [] => 0
  | x :: r => uptoBulkEntry x + uptoBulkEntries r
def uptoBulkEntry {H : Type} : Lit × DataW H → Nat
  | (.string bytes, d) => bytes.length + uptoBulk d + 1
  | (_, d) => uptoBulk d + 1
 end
def uptoSmall : (H : Type) → List (DataW H) → Bool := fun _ ds => decide (uptoBulkAll ds ≤ 1048576)
def OpenSpec.upto (s : _root_.Go.ChangeSpec) : _root_.Go.OpenSpec := { _root_.Go.OpenSpec.ofChange s with cond := some uptoSmall }

/-- 'respitelaw08.StepMakes', WHERE WHAT IT READS IS OF BULK AT MOST 1048576: true; the input reads as it did. -/
def stepMakesUptoRow : OpenClaim := { program := "ytogdpojnbgeknaagreatdoor", sum := "07df525c1fa82abfdb37aa407efb6c5a24a5868830a9dc9c7750e85ba9b04ecb", func := "respite/respitelaw08.StepMakes", spec := "stepMakes", unfollowed := true, recurses := true, named := ["respite/asm.operations"], apart := false, laid := [("respite/asm.operations", laid_respite_asm_operations)], narrowed := true }
def StepMakesUptoSaid : Prop := stepMakesUptoRow.holds Tryz.pinned (OpenSpec.upto stepMakesSpec)

/-- 'respitelaw08.StepDoes', WHERE WHAT IT READS IS OF BULK AT MOST 1048576: true; the input reads as it did. -/
def stepDoesUptoRow : OpenClaim := { program := "ytogdpojnbgeknaagreatdoor", sum := "07df525c1fa82abfdb37aa407efb6c5a24a5868830a9dc9c7750e85ba9b04ecb", func := "respite/respitelaw08.StepDoes", spec := "stepDoes", unfollowed := true, recurses := true, named := ["respite/asm.operations"], apart := false, laid := [("respite/asm.operations", laid_respite_asm_operations)], narrowed := true }
def StepDoesUptoSaid : Prop := stepDoesUptoRow.holds Tryz.pinned (OpenSpec.upto stepDoesSpec)

/-- 'respitelaw08.StepApart', WHERE WHAT IT READS IS OF BULK AT MOST 1048576: true; the input reads as it did. -/
def stepApartUptoRow : OpenClaim := { program := "ytogdpojnbgeknaagreatdoor", sum := "07df525c1fa82abfdb37aa407efb6c5a24a5868830a9dc9c7750e85ba9b04ecb", func := "respite/respitelaw08.StepApart", spec := "stepApart", unfollowed := true, recurses := true, named := ["respite/asm.operations"], apart := false, laid := [("respite/asm.operations", laid_respite_asm_operations)], narrowed := true }
def StepApartUptoSaid : Prop := stepApartUptoRow.holds Tryz.pinned (OpenSpec.upto stepApartSpec)

/-- 'respitelaw08.StepStops', WHERE WHAT IT READS IS OF BULK AT MOST 1048576: true; the input reads as it did. -/
def stepStopsUptoRow : OpenClaim := { program := "ytogdpojnbgeknaagreatdoor", sum := "07df525c1fa82abfdb37aa407efb6c5a24a5868830a9dc9c7750e85ba9b04ecb", func := "respite/respitelaw08.StepStops", spec := "stepStops", unfollowed := true, recurses := true, named := ["respite/asm.operations"], apart := false, laid := [("respite/asm.operations", laid_respite_asm_operations)], narrowed := true }
def StepStopsUptoSaid : Prop := stepStopsUptoRow.holds Tryz.pinned (OpenSpec.upto stepStopsSpec)

/-- 'respitelaw08.StepBroad', WHERE WHAT IT READS IS OF BULK AT MOST 1048576: true; the input reads as it did. -/
def stepBroadUptoRow : OpenClaim := { program := "ytogdpojnbgeknaagreatdoor", sum := "07df525c1fa82abfdb37aa407efb6c5a24a5868830a9dc9c7750e85ba9b04ecb", func := "respite/respitelaw08.StepBroad", spec := "stepBroad", unfollowed := true, recurses := true, named := ["respite/asm.operations"], apart := false, laid := [("respite/asm.operations", laid_respite_asm_operations)], narrowed := true }
def StepBroadUptoSaid : Prop := stepBroadUptoRow.holds Tryz.pinned (OpenSpec.upto stepBroadSpec)

end Rows
end Go.Proofs.YtogdpojnbgeknaaGreatDoor
