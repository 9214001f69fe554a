/-
  DERIVED. GIVEN WITH THE SEED: THE CARDS: each row of YtdcpgpgomnpefaaGreatDoorRows.lean that lists a variable, with what it lists TIED to the program's text (the seventh form; the later family's looks); each row that meets fmt, with fmt's text TOLD by the authors' own Lean function (tested against real Go, not proved from fmt's source: count such statements apart). THE CARD IS WHAT COUNTS. Prove the row's statement (the work); the ties are given (YtdcpgpgomnpefaaGreatDoorTie.lean); close each card by the builder's one call (the guide's Derived/Test/ToyasCard.lean, 'card_holds'). Laid BY PROGRAM, IN A SANDBOX (cutbox-door.mjs). By AI agents, Wed Nov 11 2026. No macro, syntax, notation, axiom, sorry.
-/
import Derived.Test.YtdcpgpgomnpefaaGreatDoorRows
import GoSem.ClaimSeven
namespace Go.Proofs.YtdcpgpgomnpefaaGreatDoor
namespace Rows

/-- THE TIED CARD OF 'stavelaw9.SuperPlays'. -/
def superPlaysCard : Claim7 := { stood := { row := superPlaysRow, standIns := [], harness := (true, "7ecffa36dc676bcde8eb60e8274f3f995999c90b1c083fb505c96208ec9698ae"), looks := true }, kinds := [], alts := [], laidByText := true, laidKinds := [.handle], laidTests := true, laidLooks := .later }
def SuperPlaysCardSaid : Prop := Claim7.holds Tryz.pinned (.plain (OpenSpec.ofChange superPlaysSpec)) superPlaysCard

/-- THE TIED CARD OF 'stavelaw10.JournalRuns'. -/
def journalRunsCard : Claim7 := { stood := { row := journalRunsRow, standIns := [], harness := (true, "7ecffa36dc676bcde8eb60e8274f3f995999c90b1c083fb505c96208ec9698ae"), looks := true }, kinds := [], alts := [], laidByText := true, laidKinds := [.handle], laidTests := true, laidLooks := .later }
def JournalRunsCardSaid : Prop := Claim7.holds Tryz.pinned (.plain (OpenSpec.ofChange journalRunsSpec)) journalRunsCard

/-- THE TIED CARD OF 'stavelaw10.JournalPlays'. -/
def journalPlaysCard : Claim7 := { stood := { row := journalPlaysRow, standIns := [], harness := (true, "7ecffa36dc676bcde8eb60e8274f3f995999c90b1c083fb505c96208ec9698ae"), looks := true }, kinds := [], alts := [], laidByText := true, laidKinds := [.handle], laidTests := true, laidLooks := .later }
def JournalPlaysCardSaid : Prop := Claim7.holds Tryz.pinned (.plain (OpenSpec.ofChange journalPlaysSpec)) journalPlaysCard

/-- THE TIED CARD OF 'stavelaw10.JournalCut'. -/
def journalCutCard : Claim7 := { stood := { row := journalCutRow, standIns := [], harness := (true, "7ecffa36dc676bcde8eb60e8274f3f995999c90b1c083fb505c96208ec9698ae"), looks := true }, kinds := [], alts := [], laidByText := true, laidKinds := [.handle], laidTests := true, laidLooks := .later }
def JournalCutCardSaid : Prop := Claim7.holds Tryz.pinned (.plain (OpenSpec.ofChange journalCutSpec)) journalCutCard

/-- THE TIED CARD OF 'stavelaw10.JournalOne'. -/
def journalOneCard : Claim7 := { stood := { row := journalOneRow, standIns := [], harness := (true, "7ecffa36dc676bcde8eb60e8274f3f995999c90b1c083fb505c96208ec9698ae"), looks := true }, kinds := [], alts := [], laidByText := true, laidKinds := [.handle], laidTests := true, laidLooks := .later }
def JournalOneCardSaid : Prop := Claim7.holds Tryz.pinned (.plain (OpenSpec.ofChange journalOneSpec)) journalOneCard

/-- THE TIED CARD OF 'stavelaw10.JournalRing'. -/
def journalRingCard : Claim7 := { stood := { row := journalRingRow, standIns := [], harness := (true, "7ecffa36dc676bcde8eb60e8274f3f995999c90b1c083fb505c96208ec9698ae"), looks := true }, kinds := [], alts := [], laidByText := true, laidKinds := [.handle], laidTests := true, laidLooks := .later }
def JournalRingCardSaid : Prop := Claim7.holds Tryz.pinned (.plain (OpenSpec.ofChange journalRingSpec)) journalRingCard

/-- THE TIED CARD OF 'stavelaw10.JournalLost'. -/
def journalLostCard : Claim7 := { stood := { row := journalLostRow, standIns := [], harness := (true, "7ecffa36dc676bcde8eb60e8274f3f995999c90b1c083fb505c96208ec9698ae"), looks := true }, kinds := [], alts := [], laidByText := true, laidKinds := [.handle], laidTests := true, laidLooks := .later }
def JournalLostCardSaid : Prop := Claim7.holds Tryz.pinned (.plain (OpenSpec.ofChange journalLostSpec)) journalLostCard

/-- THE TIED CARD OF 'stavelaw10.JournalUnion'. -/
def journalUnionCard : Claim7 := { stood := { row := journalUnionRow, standIns := [], harness := (true, "7ecffa36dc676bcde8eb60e8274f3f995999c90b1c083fb505c96208ec9698ae"), looks := true }, kinds := [], alts := [], laidByText := true, laidKinds := [.handle], laidTests := true, laidLooks := .later }
def JournalUnionCardSaid : Prop := Claim7.holds Tryz.pinned (.plain (OpenSpec.ofChange journalUnionSpec)) journalUnionCard

/-- THE SECOND FORM's CARD OF 'stavelaw9.SuperPlays'. -/
def superPlaysUptoCard : Claim7 := { stood := { row := superPlaysUptoRow, standIns := [], harness := (true, "7ecffa36dc676bcde8eb60e8274f3f995999c90b1c083fb505c96208ec9698ae"), looks := true }, kinds := [], alts := [], laidByText := true, laidKinds := [.handle], laidTests := true, laidLooks := .later }
def SuperPlaysUptoCardSaid : Prop := Claim7.holds Tryz.pinned (.plain (OpenSpec.upto superPlaysSpec)) superPlaysUptoCard

/-- THE SECOND FORM's CARD OF 'stavelaw10.JournalRuns'. -/
def journalRunsUptoCard : Claim7 := { stood := { row := journalRunsUptoRow, standIns := [], harness := (true, "7ecffa36dc676bcde8eb60e8274f3f995999c90b1c083fb505c96208ec9698ae"), looks := true }, kinds := [], alts := [], laidByText := true, laidKinds := [.handle], laidTests := true, laidLooks := .later }
def JournalRunsUptoCardSaid : Prop := Claim7.holds Tryz.pinned (.plain (OpenSpec.upto journalRunsSpec)) journalRunsUptoCard

/-- THE SECOND FORM's CARD OF 'stavelaw10.JournalPlays'. -/
def journalPlaysUptoCard : Claim7 := { stood := { row := journalPlaysUptoRow, standIns := [], harness := (true, "7ecffa36dc676bcde8eb60e8274f3f995999c90b1c083fb505c96208ec9698ae"), looks := true }, kinds := [], alts := [], laidByText := true, laidKinds := [.handle], laidTests := true, laidLooks := .later }
def JournalPlaysUptoCardSaid : Prop := Claim7.holds Tryz.pinned (.plain (OpenSpec.upto journalPlaysSpec)) journalPlaysUptoCard

/-- THE SECOND FORM's CARD OF 'stavelaw10.JournalCut'. -/
def journalCutUptoCard : Claim7 := { stood := { row := journalCutUptoRow, standIns := [], harness := (true, "7ecffa36dc676bcde8eb60e8274f3f995999c90b1c083fb505c96208ec9698ae"), looks := true }, kinds := [], alts := [], laidByText := true, laidKinds := [.handle], laidTests := true, laidLooks := .later }
def JournalCutUptoCardSaid : Prop := Claim7.holds Tryz.pinned (.plain (OpenSpec.upto journalCutSpec)) journalCutUptoCard

/-- THE SECOND FORM's CARD OF 'stavelaw10.JournalOne'. -/
def journalOneUptoCard : Claim7 := { stood := { row := journalOneUptoRow, standIns := [], harness := (true, "7ecffa36dc676bcde8eb60e8274f3f995999c90b1c083fb505c96208ec9698ae"), looks := true }, kinds := [], alts := [], laidByText := true, laidKinds := [.handle], laidTests := true, laidLooks := .later }
def JournalOneUptoCardSaid : Prop := Claim7.holds Tryz.pinned (.plain (OpenSpec.upto journalOneSpec)) journalOneUptoCard

/-- THE SECOND FORM's CARD OF 'stavelaw10.JournalRing'. -/
def journalRingUptoCard : Claim7 := { stood := { row := journalRingUptoRow, standIns := [], harness := (true, "7ecffa36dc676bcde8eb60e8274f3f995999c90b1c083fb505c96208ec9698ae"), looks := true }, kinds := [], alts := [], laidByText := true, laidKinds := [.handle], laidTests := true, laidLooks := .later }
def JournalRingUptoCardSaid : Prop := Claim7.holds Tryz.pinned (.plain (OpenSpec.upto journalRingSpec)) journalRingUptoCard

/-- THE SECOND FORM's CARD OF 'stavelaw10.JournalLost'. -/
def journalLostUptoCard : Claim7 := { stood := { row := journalLostUptoRow, standIns := [], harness := (true, "7ecffa36dc676bcde8eb60e8274f3f995999c90b1c083fb505c96208ec9698ae"), looks := true }, kinds := [], alts := [], laidByText := true, laidKinds := [.handle], laidTests := true, laidLooks := .later }
def JournalLostUptoCardSaid : Prop := Claim7.holds Tryz.pinned (.plain (OpenSpec.upto journalLostSpec)) journalLostUptoCard

/-- THE SECOND FORM's CARD OF 'stavelaw10.JournalUnion'. -/
def journalUnionUptoCard : Claim7 := { stood := { row := journalUnionUptoRow, standIns := [], harness := (true, "7ecffa36dc676bcde8eb60e8274f3f995999c90b1c083fb505c96208ec9698ae"), looks := true }, kinds := [], alts := [], laidByText := true, laidKinds := [.handle], laidTests := true, laidLooks := .later }
def JournalUnionUptoCardSaid : Prop := Claim7.holds Tryz.pinned (.plain (OpenSpec.upto journalUnionSpec)) journalUnionUptoCard
end Rows
end Go.Proofs.YtdcpgpgomnpefaaGreatDoor
