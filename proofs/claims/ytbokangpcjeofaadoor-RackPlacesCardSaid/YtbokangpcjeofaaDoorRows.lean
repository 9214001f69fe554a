/-
  NARROWER THAN 'FOR EVERY INPUT', by the rows' own cells (each row's printed sentence says how): RackRuns: laid · RackFuse: laid · RackBoots: laid · RackPlaces: laid.
  DERIVED. THE GIVEN ROWS OF THIS SEAT. 4 by the template 'for every input the law returns true; each argument reads behind the call as it read before'; 0 by the template 'total and deterministic' (their statements: YtbokangpcjeofaaDoorTotals.lean).
  GIVEN WITH THE SEED: the statements are not yours to turn. If you find one false, say at which input.
  Laid BY PROGRAM, IN A SANDBOX (cutbox-rows.mjs): the forced cells as the released guide's own fill.sh prints them over the translation 82f3082269dce636… (all of the seat's roots in one cut). By AI agents, Wed Nov 11 2026. No macro, syntax, notation, axiom, sorry.
-/
import Derived.Test.YtbokangpcjeofaaDoorChecked
import GoSem.Claim
import GoSem.ClaimJoined
import GoSem.ClaimMapViews
import Derived.JoinedTies
import Derived.KernelRfl
namespace Go.Proofs.YtbokangpcjeofaaDoor
/- THE CELL 'sum', in the pinned program and in every row, IS THE sha256 OF THE DUMP (.gsa) THAT YtbokangpcjeofaaDoorProg.lean LOADS. Nothing in Lean hashes anything: it is a label: what it is worth is what the hold of that sum in a sandbox is worth. -/
noncomputable def Tryd.pinned : Pinned := { name := "ytbokangpcjeofaadoor", sum := "82f3082269dce636196d187583328482c897358c40a50191e8fde42a653a6f98", checked := Tryd.checked }
namespace Rows
def none {H : Type} : Left H := { results := [], args := [] }

/- WHAT THE LISTED PACKAGE-LEVEL VARIABLES READ AS WHEN THE CALL BEGINS. Each datum BY PROGRAM (the guide's laid-datum.mjs) off the statement by which the dump's own 'gosem.cut.vars' lays the variable. In a bare row this is a premise. The card (YtbokangpcjeofaaDoorCards.lean) ties it to the program's text. -/
def laid_errors_errorType {H : Type} : DataW H := .iface "internal/reflectlite.rtype" (.agg [.ptr (.lit (.string [101, 114, 114, 111, 114]))])

/-- 'stavelaw8.RackRuns': WHATEVER THE INPUT: true; the input reads as it did. -/
def rackRunsSpec : ChangeSpec := { name := "rackRuns", fn := fun _ => fun
  | [] => { results := [.lit (.bool true)], args := [] }
  | _ => none }
def rackRunsRow : OpenClaim := { program := "ytbokangpcjeofaadoor", sum := "82f3082269dce636196d187583328482c897358c40a50191e8fde42a653a6f98", func := "stave/stavelaw8.RackRuns", spec := "rackRuns", inPlace := ["internal/reflectlite.ValueOf", "(internal/reflectlite.Value).Type", "(internal/reflectlite.Value).IsNil", "internal/reflectlite.TypeOf", "(internal/reflectlite.Value).Elem", "(internal/reflectlite.Value).Set"], unfollowed := true, recurses := true, named := ["errors.errorType"], apart := false, laid := [("errors.errorType", laid_errors_errorType)] }
def RackRunsSaid : Prop := rackRunsRow.holds Tryd.pinned (OpenSpec.ofChange rackRunsSpec)

/-- ITS FALSE NEIGHBOUR: 'it returns false'. Refute it at one input. -/
def rackRunsWrong : ChangeSpec := { name := "rackRuns", fn := fun _ => fun
  | [] => { results := [.lit (.bool false)], args := [] }
  | _ => none }
def RackRunsWrongFalsely : Prop := rackRunsRow.holds Tryd.pinned (OpenSpec.ofChange rackRunsWrong)

/-- 'stavelaw8.RackFuse': WHATEVER THE INPUT: true; the input reads as it did. -/
def rackFuseSpec : ChangeSpec := { name := "rackFuse", fn := fun _ => fun
  | [d1, d2] => { results := [.lit (.bool true)], args := [d1, d2] }
  | _ => none }
def rackFuseRow : OpenClaim := { program := "ytbokangpcjeofaadoor", sum := "82f3082269dce636196d187583328482c897358c40a50191e8fde42a653a6f98", func := "stave/stavelaw8.RackFuse", spec := "rackFuse", inPlace := ["internal/reflectlite.ValueOf", "(internal/reflectlite.Value).Type", "(internal/reflectlite.Value).IsNil", "internal/reflectlite.TypeOf", "(internal/reflectlite.Value).Elem", "(internal/reflectlite.Value).Set"], unfollowed := true, recurses := true, named := ["errors.errorType"], apart := false, laid := [("errors.errorType", laid_errors_errorType)] }
def RackFuseSaid : Prop := rackFuseRow.holds Tryd.pinned (OpenSpec.ofChange rackFuseSpec)

/-- ITS FALSE NEIGHBOUR: 'it returns false'. Refute it at one input. -/
def rackFuseWrong : ChangeSpec := { name := "rackFuse", fn := fun _ => fun
  | [d1, d2] => { results := [.lit (.bool false)], args := [d1, d2] }
  | _ => none }
def RackFuseWrongFalsely : Prop := rackFuseRow.holds Tryd.pinned (OpenSpec.ofChange rackFuseWrong)

/-- 'stavelaw8.RackBoots': WHATEVER THE INPUT: true; the input reads as it did. -/
def rackBootsSpec : ChangeSpec := { name := "rackBoots", fn := fun _ => fun
  | [d1, d2, d3] => { results := [.lit (.bool true)], args := [d1, d2, d3] }
  | _ => none }
def rackBootsRow : OpenClaim := { program := "ytbokangpcjeofaadoor", sum := "82f3082269dce636196d187583328482c897358c40a50191e8fde42a653a6f98", func := "stave/stavelaw8.RackBoots", spec := "rackBoots", inPlace := ["internal/reflectlite.ValueOf", "(internal/reflectlite.Value).Type", "(internal/reflectlite.Value).IsNil", "internal/reflectlite.TypeOf", "(internal/reflectlite.Value).Elem", "(internal/reflectlite.Value).Set"], unfollowed := true, recurses := true, named := ["errors.errorType"], apart := false, laid := [("errors.errorType", laid_errors_errorType)] }
def RackBootsSaid : Prop := rackBootsRow.holds Tryd.pinned (OpenSpec.ofChange rackBootsSpec)

/-- ITS FALSE NEIGHBOUR: 'it returns false'. Refute it at one input. -/
def rackBootsWrong : ChangeSpec := { name := "rackBoots", fn := fun _ => fun
  | [d1, d2, d3] => { results := [.lit (.bool false)], args := [d1, d2, d3] }
  | _ => none }
def RackBootsWrongFalsely : Prop := rackBootsRow.holds Tryd.pinned (OpenSpec.ofChange rackBootsWrong)

/-- 'stavelaw8.RackPlaces': WHATEVER THE INPUT: true; the input reads as it did. -/
def rackPlacesSpec : ChangeSpec := { name := "rackPlaces", fn := fun _ => fun
  | [d1, d2, d3, d4, d5, d6, d7] => { results := [.lit (.bool true)], args := [d1, d2, d3, d4, d5, d6, d7] }
  | _ => none }
def rackPlacesRow : OpenClaim := { program := "ytbokangpcjeofaadoor", sum := "82f3082269dce636196d187583328482c897358c40a50191e8fde42a653a6f98", func := "stave/stavelaw8.RackPlaces", spec := "rackPlaces", inPlace := ["internal/reflectlite.ValueOf", "(internal/reflectlite.Value).Type", "(internal/reflectlite.Value).IsNil", "internal/reflectlite.TypeOf", "(internal/reflectlite.Value).Elem", "(internal/reflectlite.Value).Set"], unfollowed := true, recurses := true, named := ["errors.errorType"], apart := false, laid := [("errors.errorType", laid_errors_errorType)] }
def RackPlacesSaid : Prop := rackPlacesRow.holds Tryd.pinned (OpenSpec.ofChange rackPlacesSpec)

/-- ITS FALSE NEIGHBOUR: 'it returns false'. Refute it at one input. -/
def rackPlacesWrong : ChangeSpec := { name := "rackPlaces", fn := fun _ => fun
  | [d1, d2, d3, d4, d5, d6, d7] => { results := [.lit (.bool false)], args := [d1, d2, d3, d4, d5, d6, d7] }
  | _ => none }
def RackPlacesWrongFalsely : Prop := rackPlacesRow.holds Tryd.pinned (OpenSpec.ofChange rackPlacesWrong)

/- THE SECOND FORM. 'bulk': how many values and letters a reading holds, each counted each time it is reached (what is shared counts as often as it is met; a slice's spare places count too). A statement '..UptoSaid' is the law's where the arguments, and the package variables that the reading takes, are together of bulk at most 1048576: NARROWER than '..Said'. Prove '..Said' where nothing that the law and all that it calls make is longer than what came in: it says more and counts as full. Else prove '..UptoSaid'. A law counts once. -/
mutual
def uptoBulk {H : Type} : DataW H → Nat
  | .lit (.string bytes) => bytes.length + 1
  | .lit _ => 1
  | .nil => 1
  | .ptr d => uptoBulk d + 1
  | .slice elems spare => uptoBulkAll elems + uptoBulkAll spare + 1
  | .agg parts => uptoBulkAll parts + 1
  | .iface _ d => uptoBulk d + 1
  | .map entries => uptoBulkEntries entries + 1
  | .held _ => 1
def uptoBulkAll {H : Type} : List (DataW H) → Nat
  | [] => 0
  | d :: r => uptoBulk d + uptoBulkAll r
def uptoBulkEntries {H : Type} : List (Lit × DataW H) → Nat
  | [] => 0
  | x :: r => uptoBulkEntry x + uptoBulkEntries r
def uptoBulkEntry {H : Type} : Lit × DataW H → Nat
  | (.string bytes, d) => bytes.length + uptoBulk d + 1
  | (_, d) => uptoBulk d + 1
 end
def uptoSmall : (H : Type) → List (DataW H) → Bool := fun _ ds => decide (uptoBulkAll ds ≤ 1048576)
def OpenSpec.upto (s : _root_.Go.ChangeSpec) : _root_.Go.OpenSpec := { _root_.Go.OpenSpec.ofChange s with cond := some uptoSmall }

/-- 'stavelaw8.RackRuns', WHERE WHAT IT READS IS OF BULK AT MOST 1048576: true; the input reads as it did. -/
def rackRunsUptoRow : OpenClaim := { program := "ytbokangpcjeofaadoor", sum := "82f3082269dce636196d187583328482c897358c40a50191e8fde42a653a6f98", func := "stave/stavelaw8.RackRuns", spec := "rackRuns", inPlace := ["internal/reflectlite.ValueOf", "(internal/reflectlite.Value).Type", "(internal/reflectlite.Value).IsNil", "internal/reflectlite.TypeOf", "(internal/reflectlite.Value).Elem", "(internal/reflectlite.Value).Set"], unfollowed := true, recurses := true, named := ["errors.errorType"], apart := false, laid := [("errors.errorType", laid_errors_errorType)], narrowed := true }
def RackRunsUptoSaid : Prop := rackRunsUptoRow.holds Tryd.pinned (OpenSpec.upto rackRunsSpec)

/-- 'stavelaw8.RackFuse', WHERE WHAT IT READS IS OF BULK AT MOST 1048576: true; the input reads as it did. -/
def rackFuseUptoRow : OpenClaim := { program := "ytbokangpcjeofaadoor", sum := "82f3082269dce636196d187583328482c897358c40a50191e8fde42a653a6f98", func := "stave/stavelaw8.RackFuse", spec := "rackFuse", inPlace := ["internal/reflectlite.ValueOf", "(internal/reflectlite.Value).Type", "(internal/reflectlite.Value).IsNil", "internal/reflectlite.TypeOf", "(internal/reflectlite.Value).Elem", "(internal/reflectlite.Value).Set"], unfollowed := true, recurses := true, named := ["errors.errorType"], apart := false, laid := [("errors.errorType", laid_errors_errorType)], narrowed := true }
def RackFuseUptoSaid : Prop := rackFuseUptoRow.holds Tryd.pinned (OpenSpec.upto rackFuseSpec)

/-- 'stavelaw8.RackBoots', WHERE WHAT IT READS IS OF BULK AT MOST 1048576: true; the input reads as it did. -/
def rackBootsUptoRow : OpenClaim := { program := "ytbokangpcjeofaadoor", sum := "82f3082269dce636196d187583328482c897358c40a50191e8fde42a653a6f98", func := "stave/stavelaw8.RackBoots", spec := "rackBoots", inPlace := ["internal/reflectlite.ValueOf", "(internal/reflectlite.Value).Type", "(internal/reflectlite.Value).IsNil", "internal/reflectlite.TypeOf", "(internal/reflectlite.Value).Elem", "(internal/reflectlite.Value).Set"], unfollowed := true, recurses := true, named := ["errors.errorType"], apart := false, laid := [("errors.errorType", laid_errors_errorType)], narrowed := true }
def RackBootsUptoSaid : Prop := rackBootsUptoRow.holds Tryd.pinned (OpenSpec.upto rackBootsSpec)

/-- 'stavelaw8.RackPlaces', WHERE WHAT IT READS IS OF BULK AT MOST 1048576: true; the input reads as it did. -/
def rackPlacesUptoRow : OpenClaim := { program := "ytbokangpcjeofaadoor", sum := "82f3082269dce636196d187583328482c897358c40a50191e8fde42a653a6f98", func := "stave/stavelaw8.RackPlaces", spec := "rackPlaces", inPlace := ["internal/reflectlite.ValueOf", "(internal/reflectlite.Value).Type", "(internal/reflectlite.Value).IsNil", "internal/reflectlite.TypeOf", "(internal/reflectlite.Value).Elem", "(internal/reflectlite.Value).Set"], unfollowed := true, recurses := true, named := ["errors.errorType"], apart := false, laid := [("errors.errorType", laid_errors_errorType)], narrowed := true }
def RackPlacesUptoSaid : Prop := rackPlacesUptoRow.holds Tryd.pinned (OpenSpec.upto rackPlacesSpec)

end Rows
end Go.Proofs.YtbokangpcjeofaaDoor
