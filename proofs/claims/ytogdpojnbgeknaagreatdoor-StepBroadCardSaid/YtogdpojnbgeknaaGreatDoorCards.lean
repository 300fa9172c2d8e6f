/-
  DERIVED. GIVEN WITH THE SEED: THE CARDS: each row of YtogdpojnbgeknaaGreatDoorRows.lean that lists a variable, with what it lists TIED to the program's text (the seventh form; the later family's looks); each row that meets fmt, with fmt's text TOLD by the authors' own Lean function (tested against real Go, not proved from fmt's source: count such statements apart). THE CARD IS WHAT COUNTS. Prove the row's statement (the work); the ties are given (YtogdpojnbgeknaaGreatDoorTie.lean); close each card by the builder's one call (the guide's Derived/Test/ToyasCard.lean, 'card_holds'). Laid BY PROGRAM, IN A SANDBOX (cutbox-door.mjs). By AI agents, Wed Nov 11 2026. No macro, syntax, notation, axiom, sorry.
-/
import Derived.Test.YtogdpojnbgeknaaGreatDoorRows
import GoSem.ClaimSeven
namespace Go.Proofs.YtogdpojnbgeknaaGreatDoor
namespace Rows

/-- THE TIED CARD OF 'respitelaw08.StepMakes'. -/
def stepMakesCard : Claim7 := { stood := { row := stepMakesRow, standIns := [], harness := (true, "f169b2f0a518d1503dd49bd6c906624d7896f6690a25ad805fdea58a1390e154"), looks := true }, kinds := [], alts := [], laidByText := true, laidKinds := [.data], laidTests := true, laidLooks := .later }
def StepMakesCardSaid : Prop := Claim7.holds Tryz.pinned (.plain (OpenSpec.ofChange stepMakesSpec)) stepMakesCard

/-- THE TIED CARD OF 'respitelaw08.StepDoes'. -/
def stepDoesCard : Claim7 := { stood := { row := stepDoesRow, standIns := [], harness := (true, "f169b2f0a518d1503dd49bd6c906624d7896f6690a25ad805fdea58a1390e154"), looks := true }, kinds := [], alts := [], laidByText := true, laidKinds := [.data], laidTests := true, laidLooks := .later }
def StepDoesCardSaid : Prop := Claim7.holds Tryz.pinned (.plain (OpenSpec.ofChange stepDoesSpec)) stepDoesCard

/-- THE TIED CARD OF 'respitelaw08.StepApart'. -/
def stepApartCard : Claim7 := { stood := { row := stepApartRow, standIns := [], harness := (true, "f169b2f0a518d1503dd49bd6c906624d7896f6690a25ad805fdea58a1390e154"), looks := true }, kinds := [], alts := [], laidByText := true, laidKinds := [.data], laidTests := true, laidLooks := .later }
def StepApartCardSaid : Prop := Claim7.holds Tryz.pinned (.plain (OpenSpec.ofChange stepApartSpec)) stepApartCard

/-- THE TIED CARD OF 'respitelaw08.StepStops'. -/
def stepStopsCard : Claim7 := { stood := { row := stepStopsRow, standIns := [], harness := (true, "f169b2f0a518d1503dd49bd6c906624d7896f6690a25ad805fdea58a1390e154"), looks := true }, kinds := [], alts := [], laidByText := true, laidKinds := [.data], laidTests := true, laidLooks := .later }
def StepStopsCardSaid : Prop := Claim7.holds Tryz.pinned (.plain (OpenSpec.ofChange stepStopsSpec)) stepStopsCard

/-- THE TIED CARD OF 'respitelaw08.StepBroad'. -/
def stepBroadCard : Claim7 := { stood := { row := stepBroadRow, standIns := [], harness := (true, "f169b2f0a518d1503dd49bd6c906624d7896f6690a25ad805fdea58a1390e154"), looks := true }, kinds := [], alts := [], laidByText := true, laidKinds := [.data], laidTests := true, laidLooks := .later }
def StepBroadCardSaid : Prop := Claim7.holds Tryz.pinned (.plain (OpenSpec.ofChange stepBroadSpec)) stepBroadCard

/-- THE SECOND FORM's CARD OF 'respitelaw08.StepMakes'. -/
def stepMakesUptoCard : Claim7 := { stood := { row := stepMakesUptoRow, standIns := [], harness := (true, "f169b2f0a518d1503dd49bd6c906624d7896f6690a25ad805fdea58a1390e154"), looks := true }, kinds := [], alts := [], laidByText := true, laidKinds := [.data], laidTests := true, laidLooks := .later }
def StepMakesUptoCardSaid : Prop := Claim7.holds Tryz.pinned (.plain (OpenSpec.upto stepMakesSpec)) stepMakesUptoCard

/-- THE SECOND FORM's CARD OF 'respitelaw08.StepDoes'. -/
def stepDoesUptoCard : Claim7 := { stood := { row := stepDoesUptoRow, standIns := [], harness := (true, "f169b2f0a518d1503dd49bd6c906624d7896f6690a25ad805fdea58a1390e154"), looks := true }, kinds := [], alts := [], laidByText := true, laidKinds := [.data], laidTests := true, laidLooks := .later }
def StepDoesUptoCardSaid : Prop := Claim7.holds Tryz.pinned (.plain (OpenSpec.upto stepDoesSpec)) stepDoesUptoCard

/-- THE SECOND FORM's CARD OF 'respitelaw08.StepApart'. -/
def stepApartUptoCard : Claim7 := { stood := { row := stepApartUptoRow, standIns := [], harness := (true, "f169b2f0a518d1503dd49bd6c906624d7896f6690a25ad805fdea58a1390e154"), looks := true }, kinds := [], alts := [], laidByText := true, laidKinds := [.data], laidTests := true, laidLooks := .later }
def StepApartUptoCardSaid : Prop := Claim7.holds Tryz.pinned (.plain (OpenSpec.upto stepApartSpec)) stepApartUptoCard

/-- THE SECOND FORM's CARD OF 'respitelaw08.StepStops'. -/
def stepStopsUptoCard : Claim7 := { stood := { row := stepStopsUptoRow, standIns := [], harness := (true, "f169b2f0a518d1503dd49bd6c906624d7896f6690a25ad805fdea58a1390e154"), looks := true }, kinds := [], alts := [], laidByText := true, laidKinds := [.data], laidTests := true, laidLooks := .later }
def StepStopsUptoCardSaid : Prop := Claim7.holds Tryz.pinned (.plain (OpenSpec.upto stepStopsSpec)) stepStopsUptoCard

/-- THE SECOND FORM's CARD OF 'respitelaw08.StepBroad'. -/
def stepBroadUptoCard : Claim7 := { stood := { row := stepBroadUptoRow, standIns := [], harness := (true, "f169b2f0a518d1503dd49bd6c906624d7896f6690a25ad805fdea58a1390e154"), looks := true }, kinds := [], alts := [], laidByText := true, laidKinds := [.data], laidTests := true, laidLooks := .later }
def StepBroadUptoCardSaid : Prop := Claim7.holds Tryz.pinned (.plain (OpenSpec.upto stepBroadSpec)) stepBroadUptoCard
end Rows
end Go.Proofs.YtogdpojnbgeknaaGreatDoor
