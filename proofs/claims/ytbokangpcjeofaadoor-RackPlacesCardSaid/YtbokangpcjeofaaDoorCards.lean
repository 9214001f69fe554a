/-
  DERIVED. GIVEN WITH THE SEED: THE CARDS: each row of YtbokangpcjeofaaDoorRows.lean that lists a variable, with what it lists TIED to the program's text (the seventh form; the later family's looks); each row that meets fmt, with fmt's text TOLD by the authors' own Lean function (tested against real Go, not proved from fmt's source: count such statements apart). THE CARD IS WHAT COUNTS. Prove the row's statement (the work); the ties are given (YtbokangpcjeofaaDoorTie.lean); close each card by the builder's one call (the guide's Derived/Test/ToyasCard.lean, 'card_holds'). Laid BY PROGRAM, IN A SANDBOX (cutbox-door.mjs). By AI agents, Wed Nov 11 2026. No macro, syntax, notation, axiom, sorry.
-/
import Derived.Test.YtbokangpcjeofaaDoorRows
import GoSem.ClaimSeven
namespace Go.Proofs.YtbokangpcjeofaaDoor
namespace Rows

/-- THE TIED CARD OF 'stavelaw8.RackRuns'. -/
def rackRunsCard : Claim7 := { stood := { row := rackRunsRow, standIns := [], harness := (true, "3365785b4f9e54fec1a3e23beb76d2bdbef0a5c7fa26703f7a40e57ed4f77666"), looks := true }, kinds := [], alts := [], laidByText := true, laidKinds := [.handle], laidTests := true, laidLooks := .later }
def RackRunsCardSaid : Prop := Claim7.holds Tryd.pinned (.plain (OpenSpec.ofChange rackRunsSpec)) rackRunsCard

/-- THE TIED CARD OF 'stavelaw8.RackFuse'. -/
def rackFuseCard : Claim7 := { stood := { row := rackFuseRow, standIns := [], harness := (true, "3365785b4f9e54fec1a3e23beb76d2bdbef0a5c7fa26703f7a40e57ed4f77666"), looks := true }, kinds := [], alts := [], laidByText := true, laidKinds := [.handle], laidTests := true, laidLooks := .later }
def RackFuseCardSaid : Prop := Claim7.holds Tryd.pinned (.plain (OpenSpec.ofChange rackFuseSpec)) rackFuseCard

/-- THE TIED CARD OF 'stavelaw8.RackBoots'. -/
def rackBootsCard : Claim7 := { stood := { row := rackBootsRow, standIns := [], harness := (true, "3365785b4f9e54fec1a3e23beb76d2bdbef0a5c7fa26703f7a40e57ed4f77666"), looks := true }, kinds := [], alts := [], laidByText := true, laidKinds := [.handle], laidTests := true, laidLooks := .later }
def RackBootsCardSaid : Prop := Claim7.holds Tryd.pinned (.plain (OpenSpec.ofChange rackBootsSpec)) rackBootsCard

/-- THE TIED CARD OF 'stavelaw8.RackPlaces'. -/
def rackPlacesCard : Claim7 := { stood := { row := rackPlacesRow, standIns := [], harness := (true, "3365785b4f9e54fec1a3e23beb76d2bdbef0a5c7fa26703f7a40e57ed4f77666"), looks := true }, kinds := [], alts := [], laidByText := true, laidKinds := [.handle], laidTests := true, laidLooks := .later }
def RackPlacesCardSaid : Prop := Claim7.holds Tryd.pinned (.plain (OpenSpec.ofChange rackPlacesSpec)) rackPlacesCard

/-- THE SECOND FORM's CARD OF 'stavelaw8.RackRuns'. -/
def rackRunsUptoCard : Claim7 := { stood := { row := rackRunsUptoRow, standIns := [], harness := (true, "3365785b4f9e54fec1a3e23beb76d2bdbef0a5c7fa26703f7a40e57ed4f77666"), looks := true }, kinds := [], alts := [], laidByText := true, laidKinds := [.handle], laidTests := true, laidLooks := .later }
def RackRunsUptoCardSaid : Prop := Claim7.holds Tryd.pinned (.plain (OpenSpec.upto rackRunsSpec)) rackRunsUptoCard

/-- THE SECOND FORM's CARD OF 'stavelaw8.RackFuse'. -/
def rackFuseUptoCard : Claim7 := { stood := { row := rackFuseUptoRow, standIns := [], harness := (true, "3365785b4f9e54fec1a3e23beb76d2bdbef0a5c7fa26703f7a40e57ed4f77666"), looks := true }, kinds := [], alts := [], laidByText := true, laidKinds := [.handle], laidTests := true, laidLooks := .later }
def RackFuseUptoCardSaid : Prop := Claim7.holds Tryd.pinned (.plain (OpenSpec.upto rackFuseSpec)) rackFuseUptoCard

/-- THE SECOND FORM's CARD OF 'stavelaw8.RackBoots'. -/
def rackBootsUptoCard : Claim7 := { stood := { row := rackBootsUptoRow, standIns := [], harness := (true, "3365785b4f9e54fec1a3e23beb76d2bdbef0a5c7fa26703f7a40e57ed4f77666"), looks := true }, kinds := [], alts := [], laidByText := true, laidKinds := [.handle], laidTests := true, laidLooks := .later }
def RackBootsUptoCardSaid : Prop := Claim7.holds Tryd.pinned (.plain (OpenSpec.upto rackBootsSpec)) rackBootsUptoCard

/-- THE SECOND FORM's CARD OF 'stavelaw8.RackPlaces'. -/
def rackPlacesUptoCard : Claim7 := { stood := { row := rackPlacesUptoRow, standIns := [], harness := (true, "3365785b4f9e54fec1a3e23beb76d2bdbef0a5c7fa26703f7a40e57ed4f77666"), looks := true }, kinds := [], alts := [], laidByText := true, laidKinds := [.handle], laidTests := true, laidLooks := .later }
def RackPlacesUptoCardSaid : Prop := Claim7.holds Tryd.pinned (.plain (OpenSpec.upto rackPlacesSpec)) rackPlacesUptoCard
end Rows
end Go.Proofs.YtbokangpcjeofaaDoor
