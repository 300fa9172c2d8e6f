/-
  No cell of these rows narrows 'for every input' (looked for: loops, veiled, ifaces, maps, wideKeys, modest, calm, conditions, laid).
  DERIVED. THE GIVEN ROWS OF THIS SEAT. 4 by the template 'for every input the law returns true; each argument reads behind the call as it read before'; 0 by the template 'total and deterministic' (their statements: YtkhifcnjilbmlaaTotals.lean).
  GIVEN WITH THE SEED: the statements are not yours to turn. If you find one false, say at which input.
  Laid BY PROGRAM, IN A SANDBOX (cutbox-rows.mjs): the forced cells as the released guide's own fill.sh prints them over the translation f6089208250d6704… (all of the seat's roots in one cut). By AI agents, Wed Nov 11 2026. No macro, syntax, notation, axiom, sorry.
-/
import Derived.Test.YtkhifcnjilbmlaaChecked
import GoSem.Claim
import GoSem.ClaimJoined
import GoSem.ClaimMapViews
import Derived.JoinedTies
import Derived.KernelRfl
namespace Go.Proofs.Ytkhifcnjilbmlaa
/- THE CELL 'sum', in the pinned program and in every row, IS THE sha256 OF THE DUMP (.gsa) THAT YtkhifcnjilbmlaaProg.lean LOADS. Nothing in Lean hashes anything: it is a label: what it is worth is what the hold of that sum in a sandbox is worth. -/
noncomputable def Try.pinned : Pinned := { name := "ytkhifcnjilbmlaa", sum := "f6089208250d6704d7061ef71256cd33adfa32daadaac0c1924cce0821e11bab", checked := Try.checked }
namespace Rows
def none {H : Type} : Left H := { results := [], args := [] }

/-- 'respitelaw14.PhaseMoves': WHATEVER THE INPUT: true; the input reads as it did. -/
def phaseMovesSpec : ChangeSpec := { name := "phaseMoves", fn := fun _ => fun
  | [d1, d2] => { results := [.lit (.bool true)], args := [d1, d2] }
  | _ => none }
def phaseMovesRow : OpenClaim := { program := "ytkhifcnjilbmlaa", sum := "f6089208250d6704d7061ef71256cd33adfa32daadaac0c1924cce0821e11bab", func := "respite/respitelaw14.PhaseMoves", spec := "phaseMoves", apart := false }
def PhaseMovesSaid : Prop := phaseMovesRow.holds Try.pinned (OpenSpec.ofChange phaseMovesSpec)

/-- ITS FALSE NEIGHBOUR: 'it returns false'. Refute it at one input. -/
def phaseMovesWrong : ChangeSpec := { name := "phaseMoves", fn := fun _ => fun
  | [d1, d2] => { results := [.lit (.bool false)], args := [d1, d2] }
  | _ => none }
def PhaseMovesWrongFalsely : Prop := phaseMovesRow.holds Try.pinned (OpenSpec.ofChange phaseMovesWrong)

/-- 'respitelaw14.PhaseRuns': WHATEVER THE INPUT: true; the input reads as it did. -/
def phaseRunsSpec : ChangeSpec := { name := "phaseRuns", fn := fun _ => fun
  | [d1, d2, d3] => { results := [.lit (.bool true)], args := [d1, d2, d3] }
  | _ => none }
def phaseRunsRow : OpenClaim := { program := "ytkhifcnjilbmlaa", sum := "f6089208250d6704d7061ef71256cd33adfa32daadaac0c1924cce0821e11bab", func := "respite/respitelaw14.PhaseRuns", spec := "phaseRuns", unfollowed := true, recurses := true, apart := false }
def PhaseRunsSaid : Prop := phaseRunsRow.holds Try.pinned (OpenSpec.ofChange phaseRunsSpec)

/-- ITS FALSE NEIGHBOUR: 'it returns false'. Refute it at one input. -/
def phaseRunsWrong : ChangeSpec := { name := "phaseRuns", fn := fun _ => fun
  | [d1, d2, d3] => { results := [.lit (.bool false)], args := [d1, d2, d3] }
  | _ => none }
def PhaseRunsWrongFalsely : Prop := phaseRunsRow.holds Try.pinned (OpenSpec.ofChange phaseRunsWrong)

/-- 'respitelaw14.PhaseNests': WHATEVER THE INPUT: true; the input reads as it did. -/
def phaseNestsSpec : ChangeSpec := { name := "phaseNests", fn := fun _ => fun
  | [d] => { results := [.lit (.bool true)], args := [d] }
  | _ => none }
def phaseNestsRow : OpenClaim := { program := "ytkhifcnjilbmlaa", sum := "f6089208250d6704d7061ef71256cd33adfa32daadaac0c1924cce0821e11bab", func := "respite/respitelaw14.PhaseNests", spec := "phaseNests", apart := false }
def PhaseNestsSaid : Prop := phaseNestsRow.holds Try.pinned (OpenSpec.ofChange phaseNestsSpec)

/-- ITS FALSE NEIGHBOUR: 'it returns false'. Refute it at one input. -/
def phaseNestsWrong : ChangeSpec := { name := "phaseNests", fn := fun _ => fun
  | [d] => { results := [.lit (.bool false)], args := [d] }
  | _ => none }
def PhaseNestsWrongFalsely : Prop := phaseNestsRow.holds Try.pinned (OpenSpec.ofChange phaseNestsWrong)

/-- 'respitelaw14.PhaseFlips': WHATEVER THE INPUT: true; the input reads as it did. -/
def phaseFlipsSpec : ChangeSpec := { name := "phaseFlips", fn := fun _ => fun
  | [d1, d2] => { results := [.lit (.bool true)], args := [d1, d2] }
  | _ => none }
def phaseFlipsRow : OpenClaim := { program := "ytkhifcnjilbmlaa", sum := "f6089208250d6704d7061ef71256cd33adfa32daadaac0c1924cce0821e11bab", func := "respite/respitelaw14.PhaseFlips", spec := "phaseFlips", apart := false }
def PhaseFlipsSaid : Prop := phaseFlipsRow.holds Try.pinned (OpenSpec.ofChange phaseFlipsSpec)

/-- ITS FALSE NEIGHBOUR: 'it returns false'. Refute it at one input. -/
def phaseFlipsWrong : ChangeSpec := { name := "phaseFlips", fn := fun _ => fun
  | [d1, d2] => { results := [.lit (.bool false)], args := [d1, d2] }
  | _ => none }
def PhaseFlipsWrongFalsely : Prop := phaseFlipsRow.holds Try.pinned (OpenSpec.ofChange phaseFlipsWrong)

/- THE SECOND FORM. 'bulk': how many values and letters a reading holds, each counted each time it is reached (what is shared counts as often as it is met; a slice's spare places count too). A statement '..UptoSaid' is the law's where the arguments, and the package variables that the reading takes, are together of bulk at most 1048576: NARROWER than '..Said'. Prove '..Said' where nothing that the law and all that it calls make is longer than what came in: it says more and counts as full. Else prove '..UptoSaid'. A law counts once. -/
mutual
def uptoBulk {H : Type} : DataW H → Nat
  | .lit (.string bytes) => bytes.length + 1
  | .lit _ => 1
  | .nil => 1
  | .ptr d => uptoBulk d + 1
  | .slice elems spare => uptoBulkAll elems + uptoBulkAll spare + 1
  | .agg parts => uptoBulkAll parts + 1
  | .iface _ d => uptoBulk d + 1
  | .map entries => uptoBulkEntries entries + 1
  | .held _ => 1
def uptoBulkAll {H : Type} : List (DataW H) → Nat
  | [] => 0
  | d :: r => uptoBulk d + uptoBulkAll r
def uptoBulkEntries {H : Type} : List (Lit × DataW H) → Nat
  | [] => 0
  | x :: r => uptoBulkEntry x + uptoBulkEntries r
def uptoBulkEntry {H : Type} : Lit × DataW H → Nat
  | (.string bytes, d) => bytes.length + uptoBulk d + 1
  | (_, d) => uptoBulk d + 1
 end
def uptoSmall : (H : Type) → List (DataW H) → Bool := fun _ ds => decide (uptoBulkAll ds ≤ 1048576)
def OpenSpec.upto (s : _root_.Go.ChangeSpec) : _root_.Go.OpenSpec := { _root_.Go.OpenSpec.ofChange s with cond := some uptoSmall }

/-- 'respitelaw14.PhaseMoves', WHERE WHAT IT READS IS OF BULK AT MOST 1048576: true; the input reads as it did. -/
def phaseMovesUptoRow : OpenClaim := { program := "ytkhifcnjilbmlaa", sum := "f6089208250d6704d7061ef71256cd33adfa32daadaac0c1924cce0821e11bab", func := "respite/respitelaw14.PhaseMoves", spec := "phaseMoves", apart := false, narrowed := true }
def PhaseMovesUptoSaid : Prop := phaseMovesUptoRow.holds Try.pinned (OpenSpec.upto phaseMovesSpec)

/-- 'respitelaw14.PhaseRuns', WHERE WHAT IT READS IS OF BULK AT MOST 1048576: true; the input reads as it did. -/
def phaseRunsUptoRow : OpenClaim := { program := "ytkhifcnjilbmlaa", sum := "f6089208250d6704d7061ef71256cd33adfa32daadaac0c1924cce0821e11bab", func := "respite/respitelaw14.PhaseRuns", spec := "phaseRuns", unfollowed := true, recurses := true, apart := false, narrowed := true }
def PhaseRunsUptoSaid : Prop := phaseRunsUptoRow.holds Try.pinned (OpenSpec.upto phaseRunsSpec)

/-- 'respitelaw14.PhaseNests', WHERE WHAT IT READS IS OF BULK AT MOST 1048576: true; the input reads as it did. -/
def phaseNestsUptoRow : OpenClaim := { program := "ytkhifcnjilbmlaa", sum := "f6089208250d6704d7061ef71256cd33adfa32daadaac0c1924cce0821e11bab", func := "respite/respitelaw14.PhaseNests", spec := "phaseNests", apart := false, narrowed := true }
def PhaseNestsUptoSaid : Prop := phaseNestsUptoRow.holds Try.pinned (OpenSpec.upto phaseNestsSpec)

/-- 'respitelaw14.PhaseFlips', WHERE WHAT IT READS IS OF BULK AT MOST 1048576: true; the input reads as it did. -/
def phaseFlipsUptoRow : OpenClaim := { program := "ytkhifcnjilbmlaa", sum := "f6089208250d6704d7061ef71256cd33adfa32daadaac0c1924cce0821e11bab", func := "respite/respitelaw14.PhaseFlips", spec := "phaseFlips", apart := false, narrowed := true }
def PhaseFlipsUptoSaid : Prop := phaseFlipsUptoRow.holds Try.pinned (OpenSpec.upto phaseFlipsSpec)

end Rows
end Go.Proofs.Ytkhifcnjilbmlaa
