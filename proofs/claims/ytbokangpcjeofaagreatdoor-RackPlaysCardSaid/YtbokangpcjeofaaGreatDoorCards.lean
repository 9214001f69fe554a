/-
  DERIVED. GIVEN WITH THE SEED: THE CARDS: each row of YtbokangpcjeofaaGreatDoorRows.lean that lists a variable, with what it lists TIED to the program's text (the seventh form; the later family's looks); each row that meets fmt, with fmt's text TOLD by the authors' own Lean function (tested against real Go, not proved from fmt's source: count such statements apart). THE CARD IS WHAT COUNTS. Prove the row's statement (the work); the ties are given (YtbokangpcjeofaaGreatDoorTie.lean); close each card by the builder's one call (the guide's Derived/Test/ToyasCard.lean, 'card_holds'). Laid BY PROGRAM, IN A SANDBOX (cutbox-door.mjs). By AI agents, Wed Nov 11 2026. No macro, syntax, notation, axiom, sorry.
-/
import Derived.Test.YtbokangpcjeofaaGreatDoorRows
import GoSem.ClaimSeven
namespace Go.Proofs.YtbokangpcjeofaaGreatDoor
namespace Rows

/-- THE TIED CARD OF 'stavelaw8.RackPlays'. -/
def rackPlaysCard : Claim7 := { stood := { row := rackPlaysRow, standIns := [], harness := (true, "7446082422971d130471db97b6b7793f59ee02341354fb0a81bff1b4c890d5f3"), looks := true }, kinds := [], alts := [], laidByText := true, laidKinds := [.handle], laidTests := true, laidLooks := .later }
def RackPlaysCardSaid : Prop := Claim7.holds Tryz.pinned (.plain (OpenSpec.ofChange rackPlaysSpec)) rackPlaysCard

/-- THE TIED CARD OF 'stavelaw8.RackApart'. -/
def rackApartCard : Claim7 := { stood := { row := rackApartRow, standIns := [], harness := (true, "7446082422971d130471db97b6b7793f59ee02341354fb0a81bff1b4c890d5f3"), looks := true }, kinds := [], alts := [], laidByText := true, laidKinds := [.handle], laidTests := true, laidLooks := .later }
def RackApartCardSaid : Prop := Claim7.holds Tryz.pinned (.plain (OpenSpec.ofChange rackApartSpec)) rackApartCard

/-- THE TIED CARD OF 'stavelaw8.RackErrors'. -/
def rackErrorsCard : Claim7 := { stood := { row := rackErrorsRow, standIns := [], harness := (true, "7446082422971d130471db97b6b7793f59ee02341354fb0a81bff1b4c890d5f3"), looks := true }, kinds := [], alts := [], laidByText := true, laidKinds := [.handle], laidTests := true, laidLooks := .later }
def RackErrorsCardSaid : Prop := Claim7.holds Tryz.pinned (.plain (OpenSpec.ofChange rackErrorsSpec)) rackErrorsCard

/-- THE SECOND FORM's CARD OF 'stavelaw8.RackPlays'. -/
def rackPlaysUptoCard : Claim7 := { stood := { row := rackPlaysUptoRow, standIns := [], harness := (true, "7446082422971d130471db97b6b7793f59ee02341354fb0a81bff1b4c890d5f3"), looks := true }, kinds := [], alts := [], laidByText := true, laidKinds := [.handle], laidTests := true, laidLooks := .later }
def RackPlaysUptoCardSaid : Prop := Claim7.holds Tryz.pinned (.plain (OpenSpec.upto rackPlaysSpec)) rackPlaysUptoCard

/-- THE SECOND FORM's CARD OF 'stavelaw8.RackApart'. -/
def rackApartUptoCard : Claim7 := { stood := { row := rackApartUptoRow, standIns := [], harness := (true, "7446082422971d130471db97b6b7793f59ee02341354fb0a81bff1b4c890d5f3"), looks := true }, kinds := [], alts := [], laidByText := true, laidKinds := [.handle], laidTests := true, laidLooks := .later }
def RackApartUptoCardSaid : Prop := Claim7.holds Tryz.pinned (.plain (OpenSpec.upto rackApartSpec)) rackApartUptoCard

/-- THE SECOND FORM's CARD OF 'stavelaw8.RackErrors'. -/
def rackErrorsUptoCard : Claim7 := { stood := { row := rackErrorsUptoRow, standIns := [], harness := (true, "7446082422971d130471db97b6b7793f59ee02341354fb0a81bff1b4c890d5f3"), looks := true }, kinds := [], alts := [], laidByText := true, laidKinds := [.handle], laidTests := true, laidLooks := .later }
def RackErrorsUptoCardSaid : Prop := Claim7.holds Tryz.pinned (.plain (OpenSpec.upto rackErrorsSpec)) rackErrorsUptoCard
end Rows
end Go.Proofs.YtbokangpcjeofaaGreatDoor
