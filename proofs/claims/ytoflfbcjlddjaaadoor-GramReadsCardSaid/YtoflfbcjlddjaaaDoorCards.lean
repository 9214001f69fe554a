/-
  DERIVED. GIVEN WITH THE SEED: THE CARDS: each row of YtoflfbcjlddjaaaDoorRows.lean that lists a variable, with what it lists TIED to the program's text (the seventh form; the later family's looks); each row that meets fmt, with fmt's text TOLD by the authors' own Lean function (tested against real Go, not proved from fmt's source: count such statements apart). THE CARD IS WHAT COUNTS. Prove the row's statement (the work); the ties are given (YtoflfbcjlddjaaaDoorTie.lean); close each card by the builder's one call (the guide's Derived/Test/ToyasCard.lean, 'card_holds'). Laid BY PROGRAM, IN A SANDBOX (cutbox-door.mjs). By AI agents, Wed Nov 11 2026. No macro, syntax, notation, axiom, sorry.
-/
import Derived.Test.YtoflfbcjlddjaaaDoorRows
import GoSem.ClaimSeven
namespace Go.Proofs.YtoflfbcjlddjaaaDoor
namespace Rows

/-- THE TIED CARD OF 'stavelaw2.GramReads'. -/
def gramReadsCard : Claim7 := { stood := { row := gramReadsRow, standIns := [], harness := (true, "567793787fca11759f6a6b62488abfe23ccccef1fe16d4ee3fbfd073617bd002"), looks := true }, kinds := [], alts := [], laidByText := true, laidKinds := [.handle], laidTests := true, laidLooks := .later }
def GramReadsCardSaid : Prop := Claim7.holds Tryd.pinned (.plain (OpenSpec.ofChange gramReadsSpec)) gramReadsCard

/-- THE TIED CARD OF 'stavelaw2.GramTexts'. -/
def gramTextsCard : Claim7 := { stood := { row := gramTextsRow, standIns := [], harness := (true, "567793787fca11759f6a6b62488abfe23ccccef1fe16d4ee3fbfd073617bd002"), looks := true }, kinds := [], alts := [], laidByText := true, laidKinds := [.handle], laidTests := true, laidLooks := .later }
def GramTextsCardSaid : Prop := Claim7.holds Tryd.pinned (.plain (OpenSpec.ofChange gramTextsSpec)) gramTextsCard

/-- THE TIED CARD OF 'stavelaw4.CodeDecodes'. -/
def codeDecodesCard : Claim7 := { stood := { row := codeDecodesRow, standIns := [], harness := (true, "567793787fca11759f6a6b62488abfe23ccccef1fe16d4ee3fbfd073617bd002"), looks := true }, kinds := [], alts := [], laidByText := true, laidKinds := [.handle], laidTests := true, laidLooks := .later }
def CodeDecodesCardSaid : Prop := Claim7.holds Tryd.pinned (.plain (OpenSpec.ofChange codeDecodesSpec)) codeDecodesCard

/-- THE SECOND FORM's CARD OF 'stavelaw2.GramReads'. -/
def gramReadsUptoCard : Claim7 := { stood := { row := gramReadsUptoRow, standIns := [], harness := (true, "567793787fca11759f6a6b62488abfe23ccccef1fe16d4ee3fbfd073617bd002"), looks := true }, kinds := [], alts := [], laidByText := true, laidKinds := [.handle], laidTests := true, laidLooks := .later }
def GramReadsUptoCardSaid : Prop := Claim7.holds Tryd.pinned (.plain (OpenSpec.upto gramReadsSpec)) gramReadsUptoCard

/-- THE SECOND FORM's CARD OF 'stavelaw2.GramTexts'. -/
def gramTextsUptoCard : Claim7 := { stood := { row := gramTextsUptoRow, standIns := [], harness := (true, "567793787fca11759f6a6b62488abfe23ccccef1fe16d4ee3fbfd073617bd002"), looks := true }, kinds := [], alts := [], laidByText := true, laidKinds := [.handle], laidTests := true, laidLooks := .later }
def GramTextsUptoCardSaid : Prop := Claim7.holds Tryd.pinned (.plain (OpenSpec.upto gramTextsSpec)) gramTextsUptoCard

/-- THE SECOND FORM's CARD OF 'stavelaw4.CodeDecodes'. -/
def codeDecodesUptoCard : Claim7 := { stood := { row := codeDecodesUptoRow, standIns := [], harness := (true, "567793787fca11759f6a6b62488abfe23ccccef1fe16d4ee3fbfd073617bd002"), looks := true }, kinds := [], alts := [], laidByText := true, laidKinds := [.handle], laidTests := true, laidLooks := .later }
def CodeDecodesUptoCardSaid : Prop := Claim7.holds Tryd.pinned (.plain (OpenSpec.upto codeDecodesSpec)) codeDecodesUptoCard
end Rows
end Go.Proofs.YtoflfbcjlddjaaaDoor
