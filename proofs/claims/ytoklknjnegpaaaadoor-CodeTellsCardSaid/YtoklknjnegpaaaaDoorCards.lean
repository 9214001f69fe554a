/-
  DERIVED. GIVEN WITH THE SEED: THE CARDS: each row of YtoklknjnegpaaaaDoorRows.lean that lists a variable, with what it lists TIED to the program's text (the seventh form; the later family's looks); each row that meets fmt, with fmt's text TOLD by the authors' own Lean function (tested against real Go, not proved from fmt's source: count such statements apart). THE CARD IS WHAT COUNTS. Prove the row's statement (the work); the ties are given (YtoklknjnegpaaaaDoorTie.lean); close each card by the builder's one call (the guide's Derived/Test/ToyasCard.lean, 'card_holds'). Laid BY PROGRAM, IN A SANDBOX (cutbox-door.mjs). By AI agents, Wed Nov 11 2026. No macro, syntax, notation, axiom, sorry.
-/
import Derived.Test.YtoklknjnegpaaaaDoorRows
import GoSem.ClaimSeven
namespace Go.Proofs.YtoklknjnegpaaaaDoor
namespace Rows

/-- THE TIED CARD OF 'stavelaw2.GramReads'. -/
def gramReadsCard : Claim7 := { stood := { row := gramReadsRow, standIns := [], harness := (true, "a79181659551fba0acaff86921c4bc8f7120fc77755397e43b506abfa5d29ef3"), looks := true }, kinds := [], alts := [], laidByText := true, laidKinds := [.handle], laidTests := true, laidLooks := .later }
def GramReadsCardSaid : Prop := Claim7.holds Tryd.pinned (.plain (OpenSpec.ofChange gramReadsSpec)) gramReadsCard

/-- THE TIED CARD OF 'stavelaw2.GramTexts'. -/
def gramTextsCard : Claim7 := { stood := { row := gramTextsRow, standIns := [], harness := (true, "a79181659551fba0acaff86921c4bc8f7120fc77755397e43b506abfa5d29ef3"), looks := true }, kinds := [], alts := [], laidByText := true, laidKinds := [.handle], laidTests := true, laidLooks := .later }
def GramTextsCardSaid : Prop := Claim7.holds Tryd.pinned (.plain (OpenSpec.ofChange gramTextsSpec)) gramTextsCard

/-- THE TIED CARD OF 'stavelaw4.CodeTells'. -/
def codeTellsCard : Claim7 := { stood := { row := codeTellsRow, standIns := [], harness := (true, "a79181659551fba0acaff86921c4bc8f7120fc77755397e43b506abfa5d29ef3"), looks := true }, kinds := [], alts := [], laidByText := true, laidKinds := [.handle], laidTests := true, laidLooks := .later }
def CodeTellsCardSaid : Prop := Claim7.holds Tryd.pinned (.plain (OpenSpec.ofChange codeTellsSpec)) codeTellsCard

/-- THE TIED CARD OF 'stavelaw4.CodeDecodes'. -/
def codeDecodesCard : Claim7 := { stood := { row := codeDecodesRow, standIns := [], harness := (true, "a79181659551fba0acaff86921c4bc8f7120fc77755397e43b506abfa5d29ef3"), looks := true }, kinds := [], alts := [], laidByText := true, laidKinds := [.handle], laidTests := true, laidLooks := .later }
def CodeDecodesCardSaid : Prop := Claim7.holds Tryd.pinned (.plain (OpenSpec.ofChange codeDecodesSpec)) codeDecodesCard

/-- THE TIED CARD OF 'stavelaw4.CodeDelta'. -/
def codeDeltaCard : Claim7 := { stood := { row := codeDeltaRow, standIns := [], harness := (true, "a79181659551fba0acaff86921c4bc8f7120fc77755397e43b506abfa5d29ef3"), looks := true }, kinds := [], alts := [], laidByText := true, laidKinds := [.handle], laidTests := true, laidLooks := .later }
def CodeDeltaCardSaid : Prop := Claim7.holds Tryd.pinned (.plain (OpenSpec.ofChange codeDeltaSpec)) codeDeltaCard

/-- THE TIED CARD OF 'stavelaw4.CodeSystem'. -/
def codeSystemCard : Claim7 := { stood := { row := codeSystemRow, standIns := [], harness := (true, "a79181659551fba0acaff86921c4bc8f7120fc77755397e43b506abfa5d29ef3"), looks := true }, kinds := [], alts := [], laidByText := true, laidKinds := [.handle], laidTests := true, laidLooks := .later }
def CodeSystemCardSaid : Prop := Claim7.holds Tryd.pinned (.plain (OpenSpec.ofChange codeSystemSpec)) codeSystemCard

/-- THE TIED CARD OF 'stavelaw4.CodeBytes'. -/
def codeBytesCard : Claim7 := { stood := { row := codeBytesRow, standIns := [], harness := (true, "a79181659551fba0acaff86921c4bc8f7120fc77755397e43b506abfa5d29ef3"), looks := true }, kinds := [], alts := [], laidByText := true, laidKinds := [.handle], laidTests := true, laidLooks := .later }
def CodeBytesCardSaid : Prop := Claim7.holds Tryd.pinned (.plain (OpenSpec.ofChange codeBytesSpec)) codeBytesCard

/-- THE SECOND FORM's CARD OF 'stavelaw2.GramReads'. -/
def gramReadsUptoCard : Claim7 := { stood := { row := gramReadsUptoRow, standIns := [], harness := (true, "a79181659551fba0acaff86921c4bc8f7120fc77755397e43b506abfa5d29ef3"), looks := true }, kinds := [], alts := [], laidByText := true, laidKinds := [.handle], laidTests := true, laidLooks := .later }
def GramReadsUptoCardSaid : Prop := Claim7.holds Tryd.pinned (.plain (OpenSpec.upto gramReadsSpec)) gramReadsUptoCard

/-- THE SECOND FORM's CARD OF 'stavelaw2.GramTexts'. -/
def gramTextsUptoCard : Claim7 := { stood := { row := gramTextsUptoRow, standIns := [], harness := (true, "a79181659551fba0acaff86921c4bc8f7120fc77755397e43b506abfa5d29ef3"), looks := true }, kinds := [], alts := [], laidByText := true, laidKinds := [.handle], laidTests := true, laidLooks := .later }
def GramTextsUptoCardSaid : Prop := Claim7.holds Tryd.pinned (.plain (OpenSpec.upto gramTextsSpec)) gramTextsUptoCard

/-- THE SECOND FORM's CARD OF 'stavelaw4.CodeTells'. -/
def codeTellsUptoCard : Claim7 := { stood := { row := codeTellsUptoRow, standIns := [], harness := (true, "a79181659551fba0acaff86921c4bc8f7120fc77755397e43b506abfa5d29ef3"), looks := true }, kinds := [], alts := [], laidByText := true, laidKinds := [.handle], laidTests := true, laidLooks := .later }
def CodeTellsUptoCardSaid : Prop := Claim7.holds Tryd.pinned (.plain (OpenSpec.upto codeTellsSpec)) codeTellsUptoCard

/-- THE SECOND FORM's CARD OF 'stavelaw4.CodeDecodes'. -/
def codeDecodesUptoCard : Claim7 := { stood := { row := codeDecodesUptoRow, standIns := [], harness := (true, "a79181659551fba0acaff86921c4bc8f7120fc77755397e43b506abfa5d29ef3"), looks := true }, kinds := [], alts := [], laidByText := true, laidKinds := [.handle], laidTests := true, laidLooks := .later }
def CodeDecodesUptoCardSaid : Prop := Claim7.holds Tryd.pinned (.plain (OpenSpec.upto codeDecodesSpec)) codeDecodesUptoCard

/-- THE SECOND FORM's CARD OF 'stavelaw4.CodeDelta'. -/
def codeDeltaUptoCard : Claim7 := { stood := { row := codeDeltaUptoRow, standIns := [], harness := (true, "a79181659551fba0acaff86921c4bc8f7120fc77755397e43b506abfa5d29ef3"), looks := true }, kinds := [], alts := [], laidByText := true, laidKinds := [.handle], laidTests := true, laidLooks := .later }
def CodeDeltaUptoCardSaid : Prop := Claim7.holds Tryd.pinned (.plain (OpenSpec.upto codeDeltaSpec)) codeDeltaUptoCard

/-- THE SECOND FORM's CARD OF 'stavelaw4.CodeSystem'. -/
def codeSystemUptoCard : Claim7 := { stood := { row := codeSystemUptoRow, standIns := [], harness := (true, "a79181659551fba0acaff86921c4bc8f7120fc77755397e43b506abfa5d29ef3"), looks := true }, kinds := [], alts := [], laidByText := true, laidKinds := [.handle], laidTests := true, laidLooks := .later }
def CodeSystemUptoCardSaid : Prop := Claim7.holds Tryd.pinned (.plain (OpenSpec.upto codeSystemSpec)) codeSystemUptoCard

/-- THE SECOND FORM's CARD OF 'stavelaw4.CodeBytes'. -/
def codeBytesUptoCard : Claim7 := { stood := { row := codeBytesUptoRow, standIns := [], harness := (true, "a79181659551fba0acaff86921c4bc8f7120fc77755397e43b506abfa5d29ef3"), looks := true }, kinds := [], alts := [], laidByText := true, laidKinds := [.handle], laidTests := true, laidLooks := .later }
def CodeBytesUptoCardSaid : Prop := Claim7.holds Tryd.pinned (.plain (OpenSpec.upto codeBytesSpec)) codeBytesUptoCard
end Rows
end Go.Proofs.YtoklknjnegpaaaaDoor
