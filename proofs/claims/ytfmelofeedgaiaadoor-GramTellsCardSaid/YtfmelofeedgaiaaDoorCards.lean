/-
  DERIVED. GIVEN WITH THE SEED: THE CARDS: each row of YtfmelofeedgaiaaDoorRows.lean that lists a variable, with what it lists TIED to the program's text (the seventh form; the later family's looks); each row that meets fmt, with fmt's text TOLD by the authors' own Lean function (tested against real Go, not proved from fmt's source: count such statements apart). THE CARD IS WHAT COUNTS. Prove the row's statement (the work); the ties are given (YtfmelofeedgaiaaDoorTie.lean); close each card by the builder's one call (the guide's Derived/Test/ToyasCard.lean, 'card_holds'). Laid BY PROGRAM, IN A SANDBOX (cutbox-door.mjs). By AI agents, Wed Nov 11 2026. No macro, syntax, notation, axiom, sorry.
-/
import Derived.Test.YtfmelofeedgaiaaDoorRows
import GoSem.ClaimSeven
namespace Go.Proofs.YtfmelofeedgaiaaDoor
namespace Rows

/-- THE TIED CARD OF 'stavelaw2.GramTells'. -/
def gramTellsCard : Claim7 := { stood := { row := gramTellsRow, standIns := [], harness := (true, "16acebc9b5ef5ed8131a2dd499f5d4081ee3bc1d15390fc733617303b3e82d7f"), looks := true }, kinds := [], alts := [], laidByText := true, laidKinds := [.handle], laidTests := true, laidLooks := .later }
def GramTellsCardSaid : Prop := Claim7.holds Tryd.pinned (.plain (OpenSpec.ofChange gramTellsSpec)) gramTellsCard

/-- THE TIED CARD OF 'stavelaw2.GramReads'. -/
def gramReadsCard : Claim7 := { stood := { row := gramReadsRow, standIns := [], harness := (true, "16acebc9b5ef5ed8131a2dd499f5d4081ee3bc1d15390fc733617303b3e82d7f"), looks := true }, kinds := [], alts := [], laidByText := true, laidKinds := [.handle], laidTests := true, laidLooks := .later }
def GramReadsCardSaid : Prop := Claim7.holds Tryd.pinned (.plain (OpenSpec.ofChange gramReadsSpec)) gramReadsCard

/-- THE TIED CARD OF 'stavelaw2.GramBack'. -/
def gramBackCard : Claim7 := { stood := { row := gramBackRow, standIns := [], harness := (true, "16acebc9b5ef5ed8131a2dd499f5d4081ee3bc1d15390fc733617303b3e82d7f"), looks := true }, kinds := [], alts := [], laidByText := true, laidKinds := [.handle], laidTests := true, laidLooks := .later }
def GramBackCardSaid : Prop := Claim7.holds Tryd.pinned (.plain (OpenSpec.ofChange gramBackSpec)) gramBackCard

/-- THE TIED CARD OF 'stavelaw2.GramOnly'. -/
def gramOnlyCard : Claim7 := { stood := { row := gramOnlyRow, standIns := [], harness := (true, "16acebc9b5ef5ed8131a2dd499f5d4081ee3bc1d15390fc733617303b3e82d7f"), looks := true }, kinds := [], alts := [], laidByText := true, laidKinds := [.handle], laidTests := true, laidLooks := .later }
def GramOnlyCardSaid : Prop := Claim7.holds Tryd.pinned (.plain (OpenSpec.ofChange gramOnlySpec)) gramOnlyCard

/-- THE TIED CARD OF 'stavelaw2.GramJoins'. -/
def gramJoinsCard : Claim7 := { stood := { row := gramJoinsRow, standIns := [], harness := (true, "16acebc9b5ef5ed8131a2dd499f5d4081ee3bc1d15390fc733617303b3e82d7f"), looks := true }, kinds := [], alts := [], laidByText := true, laidKinds := [.handle], laidTests := true, laidLooks := .later }
def GramJoinsCardSaid : Prop := Claim7.holds Tryd.pinned (.plain (OpenSpec.ofChange gramJoinsSpec)) gramJoinsCard

/-- THE TIED CARD OF 'stavelaw2.GramTexts'. -/
def gramTextsCard : Claim7 := { stood := { row := gramTextsRow, standIns := [], harness := (true, "16acebc9b5ef5ed8131a2dd499f5d4081ee3bc1d15390fc733617303b3e82d7f"), looks := true }, kinds := [], alts := [], laidByText := true, laidKinds := [.handle], laidTests := true, laidLooks := .later }
def GramTextsCardSaid : Prop := Claim7.holds Tryd.pinned (.plain (OpenSpec.ofChange gramTextsSpec)) gramTextsCard

/-- THE SECOND FORM's CARD OF 'stavelaw2.GramTells'. -/
def gramTellsUptoCard : Claim7 := { stood := { row := gramTellsUptoRow, standIns := [], harness := (true, "16acebc9b5ef5ed8131a2dd499f5d4081ee3bc1d15390fc733617303b3e82d7f"), looks := true }, kinds := [], alts := [], laidByText := true, laidKinds := [.handle], laidTests := true, laidLooks := .later }
def GramTellsUptoCardSaid : Prop := Claim7.holds Tryd.pinned (.plain (OpenSpec.upto gramTellsSpec)) gramTellsUptoCard

/-- THE SECOND FORM's CARD OF 'stavelaw2.GramReads'. -/
def gramReadsUptoCard : Claim7 := { stood := { row := gramReadsUptoRow, standIns := [], harness := (true, "16acebc9b5ef5ed8131a2dd499f5d4081ee3bc1d15390fc733617303b3e82d7f"), looks := true }, kinds := [], alts := [], laidByText := true, laidKinds := [.handle], laidTests := true, laidLooks := .later }
def GramReadsUptoCardSaid : Prop := Claim7.holds Tryd.pinned (.plain (OpenSpec.upto gramReadsSpec)) gramReadsUptoCard

/-- THE SECOND FORM's CARD OF 'stavelaw2.GramBack'. -/
def gramBackUptoCard : Claim7 := { stood := { row := gramBackUptoRow, standIns := [], harness := (true, "16acebc9b5ef5ed8131a2dd499f5d4081ee3bc1d15390fc733617303b3e82d7f"), looks := true }, kinds := [], alts := [], laidByText := true, laidKinds := [.handle], laidTests := true, laidLooks := .later }
def GramBackUptoCardSaid : Prop := Claim7.holds Tryd.pinned (.plain (OpenSpec.upto gramBackSpec)) gramBackUptoCard

/-- THE SECOND FORM's CARD OF 'stavelaw2.GramOnly'. -/
def gramOnlyUptoCard : Claim7 := { stood := { row := gramOnlyUptoRow, standIns := [], harness := (true, "16acebc9b5ef5ed8131a2dd499f5d4081ee3bc1d15390fc733617303b3e82d7f"), looks := true }, kinds := [], alts := [], laidByText := true, laidKinds := [.handle], laidTests := true, laidLooks := .later }
def GramOnlyUptoCardSaid : Prop := Claim7.holds Tryd.pinned (.plain (OpenSpec.upto gramOnlySpec)) gramOnlyUptoCard

/-- THE SECOND FORM's CARD OF 'stavelaw2.GramJoins'. -/
def gramJoinsUptoCard : Claim7 := { stood := { row := gramJoinsUptoRow, standIns := [], harness := (true, "16acebc9b5ef5ed8131a2dd499f5d4081ee3bc1d15390fc733617303b3e82d7f"), looks := true }, kinds := [], alts := [], laidByText := true, laidKinds := [.handle], laidTests := true, laidLooks := .later }
def GramJoinsUptoCardSaid : Prop := Claim7.holds Tryd.pinned (.plain (OpenSpec.upto gramJoinsSpec)) gramJoinsUptoCard

/-- THE SECOND FORM's CARD OF 'stavelaw2.GramTexts'. -/
def gramTextsUptoCard : Claim7 := { stood := { row := gramTextsUptoRow, standIns := [], harness := (true, "16acebc9b5ef5ed8131a2dd499f5d4081ee3bc1d15390fc733617303b3e82d7f"), looks := true }, kinds := [], alts := [], laidByText := true, laidKinds := [.handle], laidTests := true, laidLooks := .later }
def GramTextsUptoCardSaid : Prop := Claim7.holds Tryd.pinned (.plain (OpenSpec.upto gramTextsSpec)) gramTextsUptoCard
end Rows
end Go.Proofs.YtfmelofeedgaiaaDoor
