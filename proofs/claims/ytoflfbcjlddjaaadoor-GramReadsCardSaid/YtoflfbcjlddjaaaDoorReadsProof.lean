/-
  The law stavelaw2.GramReads (of any fields and bytes, those of values with one turned among them, Get answers as the document says, and the bytes stay) returns true for all fields, values, bytes and numbers, and leaves all memory that was there as it was.
  Conditions: none but the row's own; the one package-level variable that it reads, errors.errorType, is tied to the program's text by the card. The card speaks of the pruned copy of the project that the seat names.
-/
import Derived.Test.YtoflfbcjlddjaaaDoorBase
import Derived.Test.YtoflfbcjlddjaaaDoorLaw
import Derived.Test.YtoflfbcjlddjaaaDoorGReads
import Derived.Test.YtoflfbcjlddjaaaDoorGArgs
import Derived.Test.YtoflfbcjlddjaaaDoorOpenB
namespace Go.Proofs.YtoflfbcjlddjaaaDoor.gramReads
open Go.ChangeShapes Go.WideShapes Go.ChangeAt Go.RowKit

set_option maxRecDepth 100000 in
theorem contract (H : Type) (enc : TypeId × Value → H) (W : World) (base : Nat) (args : Array Value) (ds gs : List (DataW H)) (before : List MemPlace)
    (hval : ∀ (j : Nat) t v, Tryd.f3.params[j]? = some t → args[j]? = some v → Value.okWide Tryd.prog W .any base t v)
    (hW : DataW.Whole enc Tryd.prog Tryd.f3.params.toList Rows.gramReadsSpec.vars false W args.toList ds gs before) (hL : laidMetH Tryd.prog Rows.gramReadsRow.laid W) :
    Calls Tryd.prog 3 args W fun e W' => ∃ v, e = .returned v ∧ Rows.gramReadsSpec.post enc Tryd.prog Tryd.f3 false true false false W args v W' := by
  have hW' := hW
  obtain ⟨p, q, hA0, hV, rfl, hfz, hnd⟩ := hW
  have hA : DataW.TrodAll enc Tryd.prog W 0 (fun _ => true) true Tryd.f3.params.toList args.toList ds p := hA0
  rw [Tryd.params3] at hA hval
  obtain ⟨v0, vs0, d0, ds0, p0, q0, hargs, rfl, rfl, h0, r0⟩ := trodAll_cons hA
  obtain ⟨v1, vs1, d1, ds1, p1, q1, rfl, rfl, rfl, h1, r1⟩ := trodAll_cons r0
  obtain ⟨v2, vs2, d2, ds2, p2, q2, rfl, rfl, rfl, h2, r2⟩ := trodAll_cons r1
  obtain ⟨v3, vs3, d3, ds3, p3, q3, rfl, rfl, rfl, h3, r3⟩ := trodAll_cons r2
  obtain ⟨v4, vs4, d4, ds4, p4, q4, rfl, rfl, rfl, h4, r4⟩ := trodAll_cons r3
  obtain ⟨rfl, rfl, rfl⟩ := trodAll_nil r4
  obtain rfl : args = #[v0, v1, v2, v3, v4] := Array.ext' hargs
  have hv0 := (hval 0 22 v0 (by simp) (by simp))
  have hv1 := (hval 1 23 v1 (by simp) (by simp))
  have hv2 := (hval 2 24 v2 (by simp) (by simp))
  obtain ⟨cut, rfl, rfl, rfl, _⟩ := open_int Tryd.underlying3 (hval 3 3 v3 (by simp) (by simp)) h3
  obtain ⟨x, rfl, rfl, rfl, wx⟩ := open_int Tryd.underlying5 (hval 4 5 v4 (by simp) (by simp)) h4
  obtain ⟨x, rfl⟩ := Int.eq_ofNat_of_zero_le (u8_range wx).1
  have hltx : x < 256 := by have := (u8_range wx).2; omega
  obtain ⟨fs, hsfs, hlfs, hhfs⟩ := open_fields hv0 h0
  obtain ⟨xs, hsxs, hlxs, hbxs⟩ := open_vals hv1 h1
  have hgxs : ∀ x ∈ xs, x.big := fun x hx => ⟨(hbxs x hx).1, (hbxs x hx).2.1, (hbxs x hx).2.2⟩
  obtain ⟨bs, hsbs, hlbs⟩ := open_bytes hv2 h2
  obtain ⟨rfl, rfl⟩ := trodVars_none hV
  clear hA0
  have hw : Calls Tryd.prog 3 #[v0, v1, v2, .int .i64 cut, .int .u8 x] W (Bit true W) := reads_any v0 v1 v2 cut x fs xs bs W (handle_of_laid hL) hltx hsfs hlfs hhfs hsxs hlxs hgxs hsbs
  refine hw.mono fun e W' ⟨he, hg⟩ => ?_
  subst he
  exact ⟨_, rfl, law_post Tryd.laidOut (by kernel_rfl) (by kernel_rfl) (by kernel_rfl) Tryd.underlying4 hW' hg rfl rfl rfl⟩

theorem reads (os : Os) {H : Type} (enc : TypeId × Value → H) : ∃ places, DataW.whole enc Tryd.prog ((laidWorld os).forCall (fun _ _ => 0) ⟨#[], #[.slice none 0 0, .slice none 0 0, .slice none 0 0, .int .i64 0, .int .u8 0], []⟩).memory Tryd.f3.params.toList Rows.gramReadsSpec.vars false (#[.slice none 0 0, .slice none 0 0, .slice none 0 0, .int .i64 0, .int .u8 0] : Array Value).toList 8 = some ([.nil, .nil, .nil, .lit (.int .i64 0), .lit (.int .u8 0)], [], places) :=
  ⟨[], by kernel_rfl⟩

set_option maxRecDepth 100000 in
theorem lifted (os : Os) (started : os.Started) (H : Type) (enc : TypeId × Value → H) (F : Stop.Interp) :
    ReturnsInHanded {} Tryd.checked os 3 .any ((OpenSpec.ofChange Rows.gramReadsSpec).preRow enc Tryd.prog Tryd.f3 Rows.gramReadsRow.domain false Rows.gramReadsRow.laid) (((OpenSpec.ofChange Rows.gramReadsSpec).at F).post enc Tryd.prog Tryd.f3 false true false false) := by
  obtain ⟨places, hx⟩ := reads os enc
  refine returnsInHanded_of_row (C := Tryd.checked) (s := OpenSpec.ofChange Rows.gramReadsSpec) Tryd.own started (by kernel_rfl) Tryd.func3
    (witness_row_at (enc := enc) (C := Tryd.checked) false (laidWorld os) #[.slice none 0 0, .slice none 0 0, .slice none 0 0, .int .i64 0, .int .u8 0] rfl (by kernel_rfl) (by kernel_rfl) (by kernel_rfl)
      (OpenSpec.preRow_of_cond 8 hx (by kernel_rfl) (fun k hk => by cases hk) (by kernel_rfl) (laidWorld_met os _))) ?_
  intro W base args ds gs before hval hW _ _ _ hL _ _
  exact contract H enc W base args ds gs before hval hW hL

theorem said : Rows.GramReadsSaid :=
  OpenClaim.holds_of_cond 3 Tryd.f3 rfl rfl rfl rfl rfl rfl rfl ⟨rfl, rfl, rfl, rfl, rfl⟩ rfl rfl rfl rfl rfl (by kernel_rfl) Tryd.func3 (by kernel_rfl)
    (of_decide_eq_true (by kernel_rfl)) (by unfold Func.isWrapper; first | (rw [if_pos (by decide +kernel)]; kernel_rfl) | (rw [if_neg (by decide +kernel)]; exact ⟨rfl, rfl⟩))
    (fun os started H enc _ F => by rw [OpenClaim.pre_eq_preRow]; exact lifted os started H enc F)

theorem plain (f : FuncId) (fn : Func) (hf : Tryd.pinned.checked.prog.funcNamed "stave/stavelaw2.GramReads" = some f) (hfn : Tryd.pinned.checked.prog.funcs[f]? = some fn) :
    true = Tryd.pinned.checked.prog.looks [] ∧ ∀ (j : Nat) t, fn.params[j]? = some t → Tryd.pinned.checked.prog.wantsStandIn t = false := by
  obtain rfl : f = 3 := Option.some.inj ((show Tryd.prog.funcNamed "stave/stavelaw2.GramReads" = some 3 by kernel_rfl).symm.trans hf) |>.symm
  obtain rfl : fn = Tryd.f3 := (Option.some.inj (Tryd.func3.symm.trans hfn)).symm
  have hall : (Tryd.f3.params.toList.all fun t => !Tryd.prog.wantsStandIn t) = true := by kernel_rfl
  refine ⟨by kernel_rfl, fun j t ht => ?_⟩
  have := List.all_eq_true.1 hall t (by simpa using Array.mem_of_getElem? ht)
  have h2 : Tryd.prog.wantsStandIn t = false := by simpa using this
  exact h2

end Go.Proofs.YtoflfbcjlddjaaaDoor.gramReads
namespace Go.Proofs.YtoflfbcjlddjaaaDoor
theorem GramReads_card : Rows.GramReadsCardSaid :=
  Claim7.holds_tied_plain_at .later [] _ _ _ _ gramReads.said (fun _ h => by cases h) (by kernel_rfl) (fun _ h => by cases h) gramReads_row_tie rfl ⟨rfl, rfl⟩ (by kernel_rfl) rfl gramReads.plain (by kernel_rfl)
#print axioms GramReads_card
end Go.Proofs.YtoflfbcjlddjaaaDoor
