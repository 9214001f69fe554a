/-
  DERIVED. GIVEN WITH THE SEED: THE CARDS: each row of YtidnmkghmaeniaaGreatDoorRows.lean that lists a variable, with what it lists TIED to the program's text (the seventh form; the later family's looks); each row that meets fmt, with fmt's text TOLD by the authors' own Lean function (tested against real Go, not proved from fmt's source: count such statements apart). THE CARD IS WHAT COUNTS. Prove the row's statement (the work); the ties are given (YtidnmkghmaeniaaGreatDoorTie.lean); close each card by the builder's one call (the guide's Derived/Test/ToyasCard.lean, 'card_holds'). Laid BY PROGRAM, IN A SANDBOX (cutbox-door.mjs). By AI agents, Wed Nov 11 2026. No macro, syntax, notation, axiom, sorry.
-/
import Derived.Test.YtidnmkghmaeniaaGreatDoorRows
import GoSem.ClaimSeven
namespace Go.Proofs.YtidnmkghmaeniaaGreatDoor
namespace Rows

/-- THE TIED CARD OF 'stavelaw9.SuperPlays'. -/
def superPlaysCard : Claim7 := { stood := { row := superPlaysRow, standIns := [], harness := (true, "5669b3036aaece93d1b293c83ebb02bda0f0d69bc3a6864d078e5cc2fb09e717"), looks := true }, kinds := [], alts := [], laidByText := true, laidKinds := [.handle], laidTests := true, laidLooks := .later }
def SuperPlaysCardSaid : Prop := Claim7.holds Tryz.pinned (.plain (OpenSpec.ofChange superPlaysSpec)) superPlaysCard

/-- THE TIED CARD OF 'stavelaw10.JournalPlays'. -/
def journalPlaysCard : Claim7 := { stood := { row := journalPlaysRow, standIns := [], harness := (true, "5669b3036aaece93d1b293c83ebb02bda0f0d69bc3a6864d078e5cc2fb09e717"), looks := true }, kinds := [], alts := [], laidByText := true, laidKinds := [.handle], laidTests := true, laidLooks := .later }
def JournalPlaysCardSaid : Prop := Claim7.holds Tryz.pinned (.plain (OpenSpec.ofChange journalPlaysSpec)) journalPlaysCard

/-- THE TIED CARD OF 'stavelaw11.StripePlays'. -/
def stripePlaysCard : Claim7 := { stood := { row := stripePlaysRow, standIns := [], harness := (true, "5669b3036aaece93d1b293c83ebb02bda0f0d69bc3a6864d078e5cc2fb09e717"), looks := true }, kinds := [], alts := [], laidByText := true, laidKinds := [.handle], laidTests := true, laidLooks := .later }
def StripePlaysCardSaid : Prop := Claim7.holds Tryz.pinned (.plain (OpenSpec.ofChange stripePlaysSpec)) stripePlaysCard

/-- THE TIED CARD OF 'stavelaw11.StripeBudget'. -/
def stripeBudgetCard : Claim7 := { stood := { row := stripeBudgetRow, standIns := [], harness := (true, "5669b3036aaece93d1b293c83ebb02bda0f0d69bc3a6864d078e5cc2fb09e717"), looks := true }, kinds := [], alts := [], laidByText := true, laidKinds := [.handle], laidTests := true, laidLooks := .later }
def StripeBudgetCardSaid : Prop := Claim7.holds Tryz.pinned (.plain (OpenSpec.ofChange stripeBudgetSpec)) stripeBudgetCard

/-- THE TIED CARD OF 'stavelaw11.StripeNever'. -/
def stripeNeverCard : Claim7 := { stood := { row := stripeNeverRow, standIns := [], harness := (true, "5669b3036aaece93d1b293c83ebb02bda0f0d69bc3a6864d078e5cc2fb09e717"), looks := true }, kinds := [], alts := [], laidByText := true, laidKinds := [.handle], laidTests := true, laidLooks := .later }
def StripeNeverCardSaid : Prop := Claim7.holds Tryz.pinned (.plain (OpenSpec.ofChange stripeNeverSpec)) stripeNeverCard

/-- THE TIED CARD OF 'stavelaw11.StripeOlder'. -/
def stripeOlderCard : Claim7 := { stood := { row := stripeOlderRow, standIns := [], harness := (true, "5669b3036aaece93d1b293c83ebb02bda0f0d69bc3a6864d078e5cc2fb09e717"), looks := true }, kinds := [], alts := [], laidByText := true, laidKinds := [.handle], laidTests := true, laidLooks := .later }
def StripeOlderCardSaid : Prop := Claim7.holds Tryz.pinned (.plain (OpenSpec.ofChange stripeOlderSpec)) stripeOlderCard

/-- THE SECOND FORM's CARD OF 'stavelaw9.SuperPlays'. -/
def superPlaysUptoCard : Claim7 := { stood := { row := superPlaysUptoRow, standIns := [], harness := (true, "5669b3036aaece93d1b293c83ebb02bda0f0d69bc3a6864d078e5cc2fb09e717"), looks := true }, kinds := [], alts := [], laidByText := true, laidKinds := [.handle], laidTests := true, laidLooks := .later }
def SuperPlaysUptoCardSaid : Prop := Claim7.holds Tryz.pinned (.plain (OpenSpec.upto superPlaysSpec)) superPlaysUptoCard

/-- THE SECOND FORM's CARD OF 'stavelaw10.JournalPlays'. -/
def journalPlaysUptoCard : Claim7 := { stood := { row := journalPlaysUptoRow, standIns := [], harness := (true, "5669b3036aaece93d1b293c83ebb02bda0f0d69bc3a6864d078e5cc2fb09e717"), looks := true }, kinds := [], alts := [], laidByText := true, laidKinds := [.handle], laidTests := true, laidLooks := .later }
def JournalPlaysUptoCardSaid : Prop := Claim7.holds Tryz.pinned (.plain (OpenSpec.upto journalPlaysSpec)) journalPlaysUptoCard

/-- THE SECOND FORM's CARD OF 'stavelaw11.StripePlays'. -/
def stripePlaysUptoCard : Claim7 := { stood := { row := stripePlaysUptoRow, standIns := [], harness := (true, "5669b3036aaece93d1b293c83ebb02bda0f0d69bc3a6864d078e5cc2fb09e717"), looks := true }, kinds := [], alts := [], laidByText := true, laidKinds := [.handle], laidTests := true, laidLooks := .later }
def StripePlaysUptoCardSaid : Prop := Claim7.holds Tryz.pinned (.plain (OpenSpec.upto stripePlaysSpec)) stripePlaysUptoCard

/-- THE SECOND FORM's CARD OF 'stavelaw11.StripeBudget'. -/
def stripeBudgetUptoCard : Claim7 := { stood := { row := stripeBudgetUptoRow, standIns := [], harness := (true, "5669b3036aaece93d1b293c83ebb02bda0f0d69bc3a6864d078e5cc2fb09e717"), looks := true }, kinds := [], alts := [], laidByText := true, laidKinds := [.handle], laidTests := true, laidLooks := .later }
def StripeBudgetUptoCardSaid : Prop := Claim7.holds Tryz.pinned (.plain (OpenSpec.upto stripeBudgetSpec)) stripeBudgetUptoCard

/-- THE SECOND FORM's CARD OF 'stavelaw11.StripeNever'. -/
def stripeNeverUptoCard : Claim7 := { stood := { row := stripeNeverUptoRow, standIns := [], harness := (true, "5669b3036aaece93d1b293c83ebb02bda0f0d69bc3a6864d078e5cc2fb09e717"), looks := true }, kinds := [], alts := [], laidByText := true, laidKinds := [.handle], laidTests := true, laidLooks := .later }
def StripeNeverUptoCardSaid : Prop := Claim7.holds Tryz.pinned (.plain (OpenSpec.upto stripeNeverSpec)) stripeNeverUptoCard

/-- THE SECOND FORM's CARD OF 'stavelaw11.StripeOlder'. -/
def stripeOlderUptoCard : Claim7 := { stood := { row := stripeOlderUptoRow, standIns := [], harness := (true, "5669b3036aaece93d1b293c83ebb02bda0f0d69bc3a6864d078e5cc2fb09e717"), looks := true }, kinds := [], alts := [], laidByText := true, laidKinds := [.handle], laidTests := true, laidLooks := .later }
def StripeOlderUptoCardSaid : Prop := Claim7.holds Tryz.pinned (.plain (OpenSpec.upto stripeOlderSpec)) stripeOlderUptoCard
end Rows
end Go.Proofs.YtidnmkghmaeniaaGreatDoor
