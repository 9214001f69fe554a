/-
  DERIVED. GIVEN WITH THE SEED: THE CARDS: each row of YtilljaneegbhlaaGreatDoorRows.lean that lists a variable, with what it lists TIED to the program's text (the seventh form; the later family's looks); each row that meets fmt, with fmt's text TOLD by the authors' own Lean function (tested against real Go, not proved from fmt's source: count such statements apart). THE CARD IS WHAT COUNTS. Prove the row's statement (the work); the ties are given (YtilljaneegbhlaaGreatDoorTie.lean); close each card by the builder's one call (the guide's Derived/Test/ToyasCard.lean, 'card_holds'). Laid BY PROGRAM, IN A SANDBOX (cutbox-door.mjs). By AI agents, Wed Nov 11 2026. No macro, syntax, notation, axiom, sorry.
-/
import Derived.Test.YtilljaneegbhlaaGreatDoorRows
import GoSem.ClaimSeven
namespace Go.Proofs.YtilljaneegbhlaaGreatDoor
namespace Rows

/-- THE TIED CARD OF 'stavelaw14.TapeOrder'. -/
def tapeOrderCard : Claim7 := { stood := { row := tapeOrderRow, standIns := [], harness := (true, "6ba51bccc817928213092ee44bf5dede0255f1a6e41a4f91eb07cca2942d5a0c"), looks := true }, kinds := [], alts := [], laidByText := true, laidKinds := [.handle], laidTests := true, laidLooks := .later }
def TapeOrderCardSaid : Prop := Claim7.holds Tryz.pinned (.plain (OpenSpec.ofChange tapeOrderSpec)) tapeOrderCard

/-- THE TIED CARD OF 'stavelaw14.TapeLost'. -/
def tapeLostCard : Claim7 := { stood := { row := tapeLostRow, standIns := [], harness := (true, "6ba51bccc817928213092ee44bf5dede0255f1a6e41a4f91eb07cca2942d5a0c"), looks := true }, kinds := [], alts := [], laidByText := true, laidKinds := [.handle], laidTests := true, laidLooks := .later }
def TapeLostCardSaid : Prop := Claim7.holds Tryz.pinned (.plain (OpenSpec.ofChange tapeLostSpec)) tapeLostCard

/-- THE TIED CARD OF 'stavelaw14.TapeGap'. -/
def tapeGapCard : Claim7 := { stood := { row := tapeGapRow, standIns := [], harness := (true, "6ba51bccc817928213092ee44bf5dede0255f1a6e41a4f91eb07cca2942d5a0c"), looks := true }, kinds := [], alts := [], laidByText := true, laidKinds := [.handle], laidTests := true, laidLooks := .later }
def TapeGapCardSaid : Prop := Claim7.holds Tryz.pinned (.plain (OpenSpec.ofChange tapeGapSpec)) tapeGapCard

/-- THE TIED CARD OF 'stavelaw12.VolumeFew'. -/
def volumeFewCard : Claim7 := { stood := { row := volumeFewRow, standIns := [], harness := (true, "6ba51bccc817928213092ee44bf5dede0255f1a6e41a4f91eb07cca2942d5a0c"), looks := true }, kinds := [], alts := [], laidByText := true, laidKinds := [.handle], laidTests := true, laidLooks := .later }
def VolumeFewCardSaid : Prop := Claim7.holds Tryz.pinned (.plain (OpenSpec.ofChange volumeFewSpec)) volumeFewCard

/-- THE SECOND FORM's CARD OF 'stavelaw14.TapeOrder'. -/
def tapeOrderUptoCard : Claim7 := { stood := { row := tapeOrderUptoRow, standIns := [], harness := (true, "6ba51bccc817928213092ee44bf5dede0255f1a6e41a4f91eb07cca2942d5a0c"), looks := true }, kinds := [], alts := [], laidByText := true, laidKinds := [.handle], laidTests := true, laidLooks := .later }
def TapeOrderUptoCardSaid : Prop := Claim7.holds Tryz.pinned (.plain (OpenSpec.upto tapeOrderSpec)) tapeOrderUptoCard

/-- THE SECOND FORM's CARD OF 'stavelaw14.TapeLost'. -/
def tapeLostUptoCard : Claim7 := { stood := { row := tapeLostUptoRow, standIns := [], harness := (true, "6ba51bccc817928213092ee44bf5dede0255f1a6e41a4f91eb07cca2942d5a0c"), looks := true }, kinds := [], alts := [], laidByText := true, laidKinds := [.handle], laidTests := true, laidLooks := .later }
def TapeLostUptoCardSaid : Prop := Claim7.holds Tryz.pinned (.plain (OpenSpec.upto tapeLostSpec)) tapeLostUptoCard

/-- THE SECOND FORM's CARD OF 'stavelaw14.TapeGap'. -/
def tapeGapUptoCard : Claim7 := { stood := { row := tapeGapUptoRow, standIns := [], harness := (true, "6ba51bccc817928213092ee44bf5dede0255f1a6e41a4f91eb07cca2942d5a0c"), looks := true }, kinds := [], alts := [], laidByText := true, laidKinds := [.handle], laidTests := true, laidLooks := .later }
def TapeGapUptoCardSaid : Prop := Claim7.holds Tryz.pinned (.plain (OpenSpec.upto tapeGapSpec)) tapeGapUptoCard

/-- THE SECOND FORM's CARD OF 'stavelaw12.VolumeFew'. -/
def volumeFewUptoCard : Claim7 := { stood := { row := volumeFewUptoRow, standIns := [], harness := (true, "6ba51bccc817928213092ee44bf5dede0255f1a6e41a4f91eb07cca2942d5a0c"), looks := true }, kinds := [], alts := [], laidByText := true, laidKinds := [.handle], laidTests := true, laidLooks := .later }
def VolumeFewUptoCardSaid : Prop := Claim7.holds Tryz.pinned (.plain (OpenSpec.upto volumeFewSpec)) volumeFewUptoCard
end Rows
end Go.Proofs.YtilljaneegbhlaaGreatDoor
