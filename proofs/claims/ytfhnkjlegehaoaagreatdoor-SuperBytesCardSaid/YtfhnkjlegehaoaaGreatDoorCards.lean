/-
  DERIVED. GIVEN WITH THE SEED: THE CARDS: each row of YtfhnkjlegehaoaaGreatDoorRows.lean that lists a variable, with what it lists TIED to the program's text (the seventh form; the later family's looks); each row that meets fmt, with fmt's text TOLD by the authors' own Lean function (tested against real Go, not proved from fmt's source: count such statements apart). THE CARD IS WHAT COUNTS. Prove the row's statement (the work); the ties are given (YtfhnkjlegehaoaaGreatDoorTie.lean); close each card by the builder's one call (the guide's Derived/Test/ToyasCard.lean, 'card_holds'). Laid BY PROGRAM, IN A SANDBOX (cutbox-door.mjs). By AI agents, Wed Nov 11 2026. No macro, syntax, notation, axiom, sorry.
-/
import Derived.Test.YtfhnkjlegehaoaaGreatDoorRows
import GoSem.ClaimSeven
namespace Go.Proofs.YtfhnkjlegehaoaaGreatDoor
namespace Rows

/-- THE TIED CARD OF 'stavelaw9.SuperRuns'. -/
def superRunsCard : Claim7 := { stood := { row := superRunsRow, standIns := [], harness := (true, "1d58f681dcf0342ed471d8bbfc7b914a54513be07c47f966c823e616bf9c242c"), looks := true }, kinds := [], alts := [], laidByText := true, laidKinds := [.handle], laidTests := true, laidLooks := .later }
def SuperRunsCardSaid : Prop := Claim7.holds Tryz.pinned (.plain (OpenSpec.ofChange superRunsSpec)) superRunsCard

/-- THE TIED CARD OF 'stavelaw9.SuperTells'. -/
def superTellsCard : Claim7 := { stood := { row := superTellsRow, standIns := [], harness := (true, "1d58f681dcf0342ed471d8bbfc7b914a54513be07c47f966c823e616bf9c242c"), looks := true }, kinds := [], alts := [], laidByText := true, laidKinds := [.handle], laidTests := true, laidLooks := .later }
def SuperTellsCardSaid : Prop := Claim7.holds Tryz.pinned (.plain (OpenSpec.ofChange superTellsSpec)) superTellsCard

/-- THE TIED CARD OF 'stavelaw9.SuperPlays'. -/
def superPlaysCard : Claim7 := { stood := { row := superPlaysRow, standIns := [], harness := (true, "1d58f681dcf0342ed471d8bbfc7b914a54513be07c47f966c823e616bf9c242c"), looks := true }, kinds := [], alts := [], laidByText := true, laidKinds := [.handle], laidTests := true, laidLooks := .later }
def SuperPlaysCardSaid : Prop := Claim7.holds Tryz.pinned (.plain (OpenSpec.ofChange superPlaysSpec)) superPlaysCard

/-- THE TIED CARD OF 'stavelaw9.SuperFew'. -/
def superFewCard : Claim7 := { stood := { row := superFewRow, standIns := [], harness := (true, "1d58f681dcf0342ed471d8bbfc7b914a54513be07c47f966c823e616bf9c242c"), looks := true }, kinds := [], alts := [], laidByText := true, laidKinds := [.handle], laidTests := true, laidLooks := .later }
def SuperFewCardSaid : Prop := Claim7.holds Tryz.pinned (.plain (OpenSpec.ofChange superFewSpec)) superFewCard

/-- THE TIED CARD OF 'stavelaw9.SuperOther'. -/
def superOtherCard : Claim7 := { stood := { row := superOtherRow, standIns := [], harness := (true, "1d58f681dcf0342ed471d8bbfc7b914a54513be07c47f966c823e616bf9c242c"), looks := true }, kinds := [], alts := [], laidByText := true, laidKinds := [.handle], laidTests := true, laidLooks := .later }
def SuperOtherCardSaid : Prop := Claim7.holds Tryz.pinned (.plain (OpenSpec.ofChange superOtherSpec)) superOtherCard

/-- THE TIED CARD OF 'stavelaw9.SuperBytes'. -/
def superBytesCard : Claim7 := { stood := { row := superBytesRow, standIns := [], harness := (true, "1d58f681dcf0342ed471d8bbfc7b914a54513be07c47f966c823e616bf9c242c"), looks := true }, kinds := [], alts := [], laidByText := true, laidKinds := [.handle], laidTests := true, laidLooks := .later }
def SuperBytesCardSaid : Prop := Claim7.holds Tryz.pinned (.plain (OpenSpec.ofChange superBytesSpec)) superBytesCard

/-- THE SECOND FORM's CARD OF 'stavelaw9.SuperRuns'. -/
def superRunsUptoCard : Claim7 := { stood := { row := superRunsUptoRow, standIns := [], harness := (true, "1d58f681dcf0342ed471d8bbfc7b914a54513be07c47f966c823e616bf9c242c"), looks := true }, kinds := [], alts := [], laidByText := true, laidKinds := [.handle], laidTests := true, laidLooks := .later }
def SuperRunsUptoCardSaid : Prop := Claim7.holds Tryz.pinned (.plain (OpenSpec.upto superRunsSpec)) superRunsUptoCard

/-- THE SECOND FORM's CARD OF 'stavelaw9.SuperTells'. -/
def superTellsUptoCard : Claim7 := { stood := { row := superTellsUptoRow, standIns := [], harness := (true, "1d58f681dcf0342ed471d8bbfc7b914a54513be07c47f966c823e616bf9c242c"), looks := true }, kinds := [], alts := [], laidByText := true, laidKinds := [.handle], laidTests := true, laidLooks := .later }
def SuperTellsUptoCardSaid : Prop := Claim7.holds Tryz.pinned (.plain (OpenSpec.upto superTellsSpec)) superTellsUptoCard

/-- THE SECOND FORM's CARD OF 'stavelaw9.SuperPlays'. -/
def superPlaysUptoCard : Claim7 := { stood := { row := superPlaysUptoRow, standIns := [], harness := (true, "1d58f681dcf0342ed471d8bbfc7b914a54513be07c47f966c823e616bf9c242c"), looks := true }, kinds := [], alts := [], laidByText := true, laidKinds := [.handle], laidTests := true, laidLooks := .later }
def SuperPlaysUptoCardSaid : Prop := Claim7.holds Tryz.pinned (.plain (OpenSpec.upto superPlaysSpec)) superPlaysUptoCard

/-- THE SECOND FORM's CARD OF 'stavelaw9.SuperFew'. -/
def superFewUptoCard : Claim7 := { stood := { row := superFewUptoRow, standIns := [], harness := (true, "1d58f681dcf0342ed471d8bbfc7b914a54513be07c47f966c823e616bf9c242c"), looks := true }, kinds := [], alts := [], laidByText := true, laidKinds := [.handle], laidTests := true, laidLooks := .later }
def SuperFewUptoCardSaid : Prop := Claim7.holds Tryz.pinned (.plain (OpenSpec.upto superFewSpec)) superFewUptoCard

/-- THE SECOND FORM's CARD OF 'stavelaw9.SuperOther'. -/
def superOtherUptoCard : Claim7 := { stood := { row := superOtherUptoRow, standIns := [], harness := (true, "1d58f681dcf0342ed471d8bbfc7b914a54513be07c47f966c823e616bf9c242c"), looks := true }, kinds := [], alts := [], laidByText := true, laidKinds := [.handle], laidTests := true, laidLooks := .later }
def SuperOtherUptoCardSaid : Prop := Claim7.holds Tryz.pinned (.plain (OpenSpec.upto superOtherSpec)) superOtherUptoCard

/-- THE SECOND FORM's CARD OF 'stavelaw9.SuperBytes'. -/
def superBytesUptoCard : Claim7 := { stood := { row := superBytesUptoRow, standIns := [], harness := (true, "1d58f681dcf0342ed471d8bbfc7b914a54513be07c47f966c823e616bf9c242c"), looks := true }, kinds := [], alts := [], laidByText := true, laidKinds := [.handle], laidTests := true, laidLooks := .later }
def SuperBytesUptoCardSaid : Prop := Claim7.holds Tryz.pinned (.plain (OpenSpec.upto superBytesSpec)) superBytesUptoCard
end Rows
end Go.Proofs.YtfhnkjlegehaoaaGreatDoor
