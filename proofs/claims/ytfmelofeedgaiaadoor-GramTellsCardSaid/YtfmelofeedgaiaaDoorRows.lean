/-
  NARROWER THAN 'FOR EVERY INPUT', by the rows' own cells (each row's printed sentence says how): GramTells: laid · GramReads: laid · GramBack: laid · GramOnly: laid · GramJoins: laid · GramTexts: laid.
  DERIVED. THE GIVEN ROWS OF THIS SEAT. 6 by the template 'for every input the law returns true; each argument reads behind the call as it read before'; 0 by the template 'total and deterministic' (their statements: YtfmelofeedgaiaaDoorTotals.lean).
  GIVEN WITH THE SEED: the statements are not yours to turn. If you find one false, say at which input.
  Laid BY PROGRAM, IN A SANDBOX (cutbox-rows.mjs): the forced cells as the released guide's own fill.sh prints them over the translation ba06f7e51d022882… (all of the seat's roots in one cut). By AI agents, Wed Nov 11 2026. No macro, syntax, notation, axiom, sorry.
-/
import Derived.Test.YtfmelofeedgaiaaDoorChecked
import GoSem.Claim
import GoSem.ClaimJoined
import GoSem.ClaimMapViews
import Derived.JoinedTies
import Derived.KernelRfl
namespace Go.Proofs.YtfmelofeedgaiaaDoor
/- THE CELL 'sum', in the pinned program and in every row, IS THE sha256 OF THE DUMP (.gsa) THAT YtfmelofeedgaiaaDoorProg.lean LOADS. Nothing in Lean hashes anything: it is a label: what it is worth is what the hold of that sum in a sandbox is worth. -/
noncomputable def Tryd.pinned : Pinned := { name := "ytfmelofeedgaiaadoor", sum := "ba06f7e51d02288223f5ec7b4db0a815c982c9a5d83c6d3e25114d1b83951986", checked := Tryd.checked }
namespace Rows
def none {H : Type} : Left H := { results := [], args := [] }

/- WHAT THE LISTED PACKAGE-LEVEL VARIABLES READ AS WHEN THE CALL BEGINS. Each datum BY PROGRAM (the guide's laid-datum.mjs) off the statement by which the dump's own 'gosem.cut.vars' lays the variable. In a bare row this is a premise. The card (YtfmelofeedgaiaaDoorCards.lean) ties it to the program's text. -/
def laid_errors_errorType {H : Type} : DataW H := .iface "internal/reflectlite.rtype" (.agg [.ptr (.lit (.string [101, 114, 114, 111, 114]))])

/-- 'stavelaw2.GramTells': WHATEVER THE INPUT: true; the input reads as it did. -/
def gramTellsSpec : ChangeSpec := { name := "gramTells", fn := fun _ => fun
  | [d1, d2] => { results := [.lit (.bool true)], args := [d1, d2] }
  | _ => none }
def gramTellsRow : OpenClaim := { program := "ytfmelofeedgaiaadoor", sum := "ba06f7e51d02288223f5ec7b4db0a815c982c9a5d83c6d3e25114d1b83951986", func := "stave/stavelaw2.GramTells", spec := "gramTells", inPlace := ["internal/reflectlite.ValueOf", "(internal/reflectlite.Value).Type", "(internal/reflectlite.Value).IsNil", "internal/reflectlite.TypeOf", "(internal/reflectlite.Value).Elem", "(internal/reflectlite.Value).Set"], unfollowed := true, recurses := true, named := ["errors.errorType"], apart := false, laid := [("errors.errorType", laid_errors_errorType)] }
def GramTellsSaid : Prop := gramTellsRow.holds Tryd.pinned (OpenSpec.ofChange gramTellsSpec)

/-- ITS FALSE NEIGHBOUR: 'it returns false'. Refute it at one input. -/
def gramTellsWrong : ChangeSpec := { name := "gramTells", fn := fun _ => fun
  | [d1, d2] => { results := [.lit (.bool false)], args := [d1, d2] }
  | _ => none }
def GramTellsWrongFalsely : Prop := gramTellsRow.holds Tryd.pinned (OpenSpec.ofChange gramTellsWrong)

/-- 'stavelaw2.GramReads': WHATEVER THE INPUT: true; the input reads as it did. -/
def gramReadsSpec : ChangeSpec := { name := "gramReads", fn := fun _ => fun
  | [d1, d2, d3, d4, d5] => { results := [.lit (.bool true)], args := [d1, d2, d3, d4, d5] }
  | _ => none }
def gramReadsRow : OpenClaim := { program := "ytfmelofeedgaiaadoor", sum := "ba06f7e51d02288223f5ec7b4db0a815c982c9a5d83c6d3e25114d1b83951986", func := "stave/stavelaw2.GramReads", spec := "gramReads", inPlace := ["internal/reflectlite.ValueOf", "(internal/reflectlite.Value).Type", "(internal/reflectlite.Value).IsNil", "internal/reflectlite.TypeOf", "(internal/reflectlite.Value).Elem", "(internal/reflectlite.Value).Set"], unfollowed := true, recurses := true, named := ["errors.errorType"], apart := false, laid := [("errors.errorType", laid_errors_errorType)] }
def GramReadsSaid : Prop := gramReadsRow.holds Tryd.pinned (OpenSpec.ofChange gramReadsSpec)

/-- ITS FALSE NEIGHBOUR: 'it returns false'. Refute it at one input. -/
def gramReadsWrong : ChangeSpec := { name := "gramReads", fn := fun _ => fun
  | [d1, d2, d3, d4, d5] => { results := [.lit (.bool false)], args := [d1, d2, d3, d4, d5] }
  | _ => none }
def GramReadsWrongFalsely : Prop := gramReadsRow.holds Tryd.pinned (OpenSpec.ofChange gramReadsWrong)

/-- 'stavelaw2.GramBack': WHATEVER THE INPUT: true; the input reads as it did. -/
def gramBackSpec : ChangeSpec := { name := "gramBack", fn := fun _ => fun
  | [d1, d2, d3, d4] => { results := [.lit (.bool true)], args := [d1, d2, d3, d4] }
  | _ => none }
def gramBackRow : OpenClaim := { program := "ytfmelofeedgaiaadoor", sum := "ba06f7e51d02288223f5ec7b4db0a815c982c9a5d83c6d3e25114d1b83951986", func := "stave/stavelaw2.GramBack", spec := "gramBack", inPlace := ["internal/reflectlite.ValueOf", "(internal/reflectlite.Value).Type", "(internal/reflectlite.Value).IsNil", "internal/reflectlite.TypeOf", "(internal/reflectlite.Value).Elem", "(internal/reflectlite.Value).Set"], unfollowed := true, recurses := true, named := ["errors.errorType"], apart := false, laid := [("errors.errorType", laid_errors_errorType)] }
def GramBackSaid : Prop := gramBackRow.holds Tryd.pinned (OpenSpec.ofChange gramBackSpec)

/-- ITS FALSE NEIGHBOUR: 'it returns false'. Refute it at one input. -/
def gramBackWrong : ChangeSpec := { name := "gramBack", fn := fun _ => fun
  | [d1, d2, d3, d4] => { results := [.lit (.bool false)], args := [d1, d2, d3, d4] }
  | _ => none }
def GramBackWrongFalsely : Prop := gramBackRow.holds Tryd.pinned (OpenSpec.ofChange gramBackWrong)

/-- 'stavelaw2.GramOnly': WHATEVER THE INPUT: true; the input reads as it did. -/
def gramOnlySpec : ChangeSpec := { name := "gramOnly", fn := fun _ => fun
  | [d1, d2] => { results := [.lit (.bool true)], args := [d1, d2] }
  | _ => none }
def gramOnlyRow : OpenClaim := { program := "ytfmelofeedgaiaadoor", sum := "ba06f7e51d02288223f5ec7b4db0a815c982c9a5d83c6d3e25114d1b83951986", func := "stave/stavelaw2.GramOnly", spec := "gramOnly", inPlace := ["internal/reflectlite.ValueOf", "(internal/reflectlite.Value).Type", "(internal/reflectlite.Value).IsNil", "internal/reflectlite.TypeOf", "(internal/reflectlite.Value).Elem", "(internal/reflectlite.Value).Set"], unfollowed := true, recurses := true, named := ["errors.errorType"], apart := false, laid := [("errors.errorType", laid_errors_errorType)] }
def GramOnlySaid : Prop := gramOnlyRow.holds Tryd.pinned (OpenSpec.ofChange gramOnlySpec)

/-- ITS FALSE NEIGHBOUR: 'it returns false'. Refute it at one input. -/
def gramOnlyWrong : ChangeSpec := { name := "gramOnly", fn := fun _ => fun
  | [d1, d2] => { results := [.lit (.bool false)], args := [d1, d2] }
  | _ => none }
def GramOnlyWrongFalsely : Prop := gramOnlyRow.holds Tryd.pinned (OpenSpec.ofChange gramOnlyWrong)

/-- 'stavelaw2.GramJoins': WHATEVER THE INPUT: true; the input reads as it did. -/
def gramJoinsSpec : ChangeSpec := { name := "gramJoins", fn := fun _ => fun
  | [d1, d2, d3, d4] => { results := [.lit (.bool true)], args := [d1, d2, d3, d4] }
  | _ => none }
def gramJoinsRow : OpenClaim := { program := "ytfmelofeedgaiaadoor", sum := "ba06f7e51d02288223f5ec7b4db0a815c982c9a5d83c6d3e25114d1b83951986", func := "stave/stavelaw2.GramJoins", spec := "gramJoins", inPlace := ["internal/reflectlite.ValueOf", "(internal/reflectlite.Value).Type", "(internal/reflectlite.Value).IsNil", "internal/reflectlite.TypeOf", "(internal/reflectlite.Value).Elem", "(internal/reflectlite.Value).Set"], unfollowed := true, recurses := true, named := ["errors.errorType"], apart := false, laid := [("errors.errorType", laid_errors_errorType)] }
def GramJoinsSaid : Prop := gramJoinsRow.holds Tryd.pinned (OpenSpec.ofChange gramJoinsSpec)

/-- ITS FALSE NEIGHBOUR: 'it returns false'. Refute it at one input. -/
def gramJoinsWrong : ChangeSpec := { name := "gramJoins", fn := fun _ => fun
  | [d1, d2, d3, d4] => { results := [.lit (.bool false)], args := [d1, d2, d3, d4] }
  | _ => none }
def GramJoinsWrongFalsely : Prop := gramJoinsRow.holds Tryd.pinned (OpenSpec.ofChange gramJoinsWrong)

/-- 'stavelaw2.GramTexts': WHATEVER THE INPUT: true; the input reads as it did. -/
def gramTextsSpec : ChangeSpec := { name := "gramTexts", fn := fun _ => fun
  | [d1, d2, d3, d4] => { results := [.lit (.bool true)], args := [d1, d2, d3, d4] }
  | _ => none }
def gramTextsRow : OpenClaim := { program := "ytfmelofeedgaiaadoor", sum := "ba06f7e51d02288223f5ec7b4db0a815c982c9a5d83c6d3e25114d1b83951986", func := "stave/stavelaw2.GramTexts", spec := "gramTexts", inPlace := ["internal/reflectlite.ValueOf", "(internal/reflectlite.Value).Type", "(internal/reflectlite.Value).IsNil", "internal/reflectlite.TypeOf", "(internal/reflectlite.Value).Elem", "(internal/reflectlite.Value).Set"], unfollowed := true, recurses := true, named := ["errors.errorType"], apart := false, laid := [("errors.errorType", laid_errors_errorType)] }
def GramTextsSaid : Prop := gramTextsRow.holds Tryd.pinned (OpenSpec.ofChange gramTextsSpec)

/-- ITS FALSE NEIGHBOUR: 'it returns false'. Refute it at one input. -/
def gramTextsWrong : ChangeSpec := { name := "gramTexts", fn := fun _ => fun
  | [d1, d2, d3, d4] => { results := [.lit (.bool false)], args := [d1, d2, d3, d4] }
  | _ => none }
def GramTextsWrongFalsely : Prop := gramTextsRow.holds Tryd.pinned (OpenSpec.ofChange gramTextsWrong)

/- THE SECOND FORM. 'bulk': how many values and letters a reading holds, each counted each time it is reached (what is shared counts as often as it is met; a slice's spare places count too). A statement '..UptoSaid' is the law's where the arguments, and the package variables that the reading takes, are together of bulk at most 1048576: NARROWER than '..Said'. Prove '..Said' where nothing that the law and all that it calls make is longer than what came in: it says more and counts as full. Else prove '..UptoSaid'. A law counts once. -/
mutual
def uptoBulk {H : Type} : DataW H → Nat
  | .lit (.string bytes) => bytes.length + 1
  | .lit _ => 1
  | .nil => 1
  | .ptr d => uptoBulk d + 1
  | .slice elems spare => uptoBulkAll elems + uptoBulkAll spare + 1
  | .agg parts => uptoBulkAll parts + 1
  | .iface _ d => uptoBulk d + 1
  | .map entries => uptoBulkEntries entries + 1
  | .held _ => 1
def uptoBulkAll {H : Type} : List (DataW H) → Nat
  | [] => 0
  | d :: r => uptoBulk d + uptoBulkAll r
def uptoBulkEntries {H : Type} : List (Lit × DataW H) → Nat
  | [] => 0
  | x :: r => uptoBulkEntry x + uptoBulkEntries r
def uptoBulkEntry {H : Type} : Lit × DataW H → Nat
  | (.string bytes, d) => bytes.length + uptoBulk d + 1
  | (_, d) => uptoBulk d + 1
 end
def uptoSmall : (H : Type) → List (DataW H) → Bool := fun _ ds => decide (uptoBulkAll ds ≤ 1048576)
def OpenSpec.upto (s : _root_.Go.ChangeSpec) : _root_.Go.OpenSpec := { _root_.Go.OpenSpec.ofChange s with cond := some uptoSmall }

/-- 'stavelaw2.GramTells', WHERE WHAT IT READS IS OF BULK AT MOST 1048576: true; the input reads as it did. -/
def gramTellsUptoRow : OpenClaim := { program := "ytfmelofeedgaiaadoor", sum := "ba06f7e51d02288223f5ec7b4db0a815c982c9a5d83c6d3e25114d1b83951986", func := "stave/stavelaw2.GramTells", spec := "gramTells", inPlace := ["internal/reflectlite.ValueOf", "(internal/reflectlite.Value).Type", "(internal/reflectlite.Value).IsNil", "internal/reflectlite.TypeOf", "(internal/reflectlite.Value).Elem", "(internal/reflectlite.Value).Set"], unfollowed := true, recurses := true, named := ["errors.errorType"], apart := false, laid := [("errors.errorType", laid_errors_errorType)], narrowed := true }
def GramTellsUptoSaid : Prop := gramTellsUptoRow.holds Tryd.pinned (OpenSpec.upto gramTellsSpec)

/-- 'stavelaw2.GramReads', WHERE WHAT IT READS IS OF BULK AT MOST 1048576: true; the input reads as it did. -/
def gramReadsUptoRow : OpenClaim := { program := "ytfmelofeedgaiaadoor", sum := "ba06f7e51d02288223f5ec7b4db0a815c982c9a5d83c6d3e25114d1b83951986", func := "stave/stavelaw2.GramReads", spec := "gramReads", inPlace := ["internal/reflectlite.ValueOf", "(internal/reflectlite.Value).Type", "(internal/reflectlite.Value).IsNil", "internal/reflectlite.TypeOf", "(internal/reflectlite.Value).Elem", "(internal/reflectlite.Value).Set"], unfollowed := true, recurses := true, named := ["errors.errorType"], apart := false, laid := [("errors.errorType", laid_errors_errorType)], narrowed := true }
def GramReadsUptoSaid : Prop := gramReadsUptoRow.holds Tryd.pinned (OpenSpec.upto gramReadsSpec)

/-- 'stavelaw2.GramBack', WHERE WHAT IT READS IS OF BULK AT MOST 1048576: true; the input reads as it did. -/
def gramBackUptoRow : OpenClaim := { program := "ytfmelofeedgaiaadoor", sum := "ba06f7e51d02288223f5ec7b4db0a815c982c9a5d83c6d3e25114d1b83951986", func := "stave/stavelaw2.GramBack", spec := "gramBack", inPlace := ["internal/reflectlite.ValueOf", "(internal/reflectlite.Value).Type", "(internal/reflectlite.Value).IsNil", "internal/reflectlite.TypeOf", "(internal/reflectlite.Value).Elem", "(internal/reflectlite.Value).Set"], unfollowed := true, recurses := true, named := ["errors.errorType"], apart := false, laid := [("errors.errorType", laid_errors_errorType)], narrowed := true }
def GramBackUptoSaid : Prop := gramBackUptoRow.holds Tryd.pinned (OpenSpec.upto gramBackSpec)

/-- 'stavelaw2.GramOnly', WHERE WHAT IT READS IS OF BULK AT MOST 1048576: true; the input reads as it did. -/
def gramOnlyUptoRow : OpenClaim := { program := "ytfmelofeedgaiaadoor", sum := "ba06f7e51d02288223f5ec7b4db0a815c982c9a5d83c6d3e25114d1b83951986", func := "stave/stavelaw2.GramOnly", spec := "gramOnly", inPlace := ["internal/reflectlite.ValueOf", "(internal/reflectlite.Value).Type", "(internal/reflectlite.Value).IsNil", "internal/reflectlite.TypeOf", "(internal/reflectlite.Value).Elem", "(internal/reflectlite.Value).Set"], unfollowed := true, recurses := true, named := ["errors.errorType"], apart := false, laid := [("errors.errorType", laid_errors_errorType)], narrowed := true }
def GramOnlyUptoSaid : Prop := gramOnlyUptoRow.holds Tryd.pinned (OpenSpec.upto gramOnlySpec)

/-- 'stavelaw2.GramJoins', WHERE WHAT IT READS IS OF BULK AT MOST 1048576: true; the input reads as it did. -/
def gramJoinsUptoRow : OpenClaim := { program := "ytfmelofeedgaiaadoor", sum := "ba06f7e51d02288223f5ec7b4db0a815c982c9a5d83c6d3e25114d1b83951986", func := "stave/stavelaw2.GramJoins", spec := "gramJoins", inPlace := ["internal/reflectlite.ValueOf", "(internal/reflectlite.Value).Type", "(internal/reflectlite.Value).IsNil", "internal/reflectlite.TypeOf", "(internal/reflectlite.Value).Elem", "(internal/reflectlite.Value).Set"], unfollowed := true, recurses := true, named := ["errors.errorType"], apart := false, laid := [("errors.errorType", laid_errors_errorType)], narrowed := true }
def GramJoinsUptoSaid : Prop := gramJoinsUptoRow.holds Tryd.pinned (OpenSpec.upto gramJoinsSpec)

/-- 'stavelaw2.GramTexts', WHERE WHAT IT READS IS OF BULK AT MOST 1048576: true; the input reads as it did. -/
def gramTextsUptoRow : OpenClaim := { program := "ytfmelofeedgaiaadoor", sum := "ba06f7e51d02288223f5ec7b4db0a815c982c9a5d83c6d3e25114d1b83951986", func := "stave/stavelaw2.GramTexts", spec := "gramTexts", inPlace := ["internal/reflectlite.ValueOf", "(internal/reflectlite.Value).Type", "(internal/reflectlite.Value).IsNil", "internal/reflectlite.TypeOf", "(internal/reflectlite.Value).Elem", "(internal/reflectlite.Value).Set"], unfollowed := true, recurses := true, named := ["errors.errorType"], apart := false, laid := [("errors.errorType", laid_errors_errorType)], narrowed := true }
def GramTextsUptoSaid : Prop := gramTextsUptoRow.holds Tryd.pinned (OpenSpec.upto gramTextsSpec)

end Rows
end Go.Proofs.YtfmelofeedgaiaaDoor
