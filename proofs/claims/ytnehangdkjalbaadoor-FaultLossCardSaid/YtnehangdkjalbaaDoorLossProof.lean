/-
  The law stavelaw1.FaultLoss (a Loss is an ErrLost and no other kind; two unlike ones are told apart) returns true for every two Losses, every slice of steps and every number, and leaves all memory that was there as it was.
  Conditions: none but the row's own; the one package-level variable that it reads, errors.errorType, is tied to the program's text by the card. The card speaks of the pruned copy of the project that the seat names.
-/
import Derived.Test.YtnehangdkjalbaaDoorBase
import Derived.Test.YtnehangdkjalbaaDoorLaw
import Derived.Test.YtnehangdkjalbaaDoorArgs
import Derived.Test.YtnehangdkjalbaaDoorLoss
import Derived.Lib.SmallJoins
namespace Go.Proofs.YtnehangdkjalbaaDoor.faultLoss
open Go.ChangeShapes Go.WideShapes Go.ChangeAt Go.RowKit

theorem contract (H : Type) (enc : TypeId × Value → H) (W : World) (base : Nat) (args : Array Value) (ds gs : List (DataW H)) (before : List MemPlace)
    (hval : ∀ (j : Nat) t v, Tryd.f6.params[j]? = some t → args[j]? = some v → Value.okWide Tryd.prog W .any base t v)
    (hW : DataW.Whole enc Tryd.prog Tryd.f6.params.toList Rows.faultLossSpec.vars false W args.toList ds gs before) (hL : laidMetH Tryd.prog Rows.faultLossRow.laid W) :
    Calls Tryd.prog 6 args W fun e W' => ∃ v, e = .returned v ∧ Rows.faultLossSpec.post enc Tryd.prog Tryd.f6 false true false false W args v W' := by
  have hW' := hW
  obtain ⟨p, q, hA0, hV, rfl, hfz, hnd⟩ := hW
  have hA : DataW.TrodAll enc Tryd.prog W 0 (fun _ => true) true Tryd.f6.params.toList args.toList ds p := hA0
  rw [Tryd.params6] at hA hval
  obtain ⟨v0, vs0, d0, ds0, p0, q0, hargs, rfl, rfl, h0, r0⟩ := trodAll_cons hA
  obtain ⟨v1, vs1, d1, ds1, p1, q1, rfl, rfl, rfl, h1, r1⟩ := trodAll_cons r0
  obtain ⟨v2, vs2, d2, ds2, p2, q2, rfl, rfl, rfl, h2, r2⟩ := trodAll_cons r1
  obtain ⟨v3, vs3, d3, ds3, p3, q3, rfl, rfl, rfl, h3, r3⟩ := trodAll_cons r2
  obtain ⟨rfl, rfl, rfl⟩ := trodAll_nil r3
  obtain rfl : args = #[v0, v1, v2, v3] := by cases args; simp_all
  obtain ⟨w0a, w0b, w0c, y0a, y0b, y0c, n0, rfl, _, _, t0a, t0b, t0c⟩ := Go.Joins.open_agg3 Tryd.underlying29 (by kernel_rfl) (by kernel_rfl) (hval 0 29 v0 rfl rfl) h0
  obtain ⟨aa, e0a, _, _⟩ := DataW.trod_int Tryd.underlying3 t0a
  obtain rfl : w0a = .int .i64 aa := by simpa using e0a
  obtain ⟨ab, e0b, _, _⟩ := DataW.trod_int Tryd.underlying3 t0b
  obtain rfl : w0b = .int .i64 ab := by simpa using e0b
  obtain ⟨ac, e0c, _, _⟩ := DataW.trod_int Tryd.underlying3 t0c
  obtain rfl : w0c = .int .i64 ac := by simpa using e0c
  obtain ⟨w1a, w1b, w1c, y1a, y1b, y1c, n1, rfl, _, _, t1a, t1b, t1c⟩ := Go.Joins.open_agg3 Tryd.underlying29 (by kernel_rfl) (by kernel_rfl) (hval 1 29 v1 rfl rfl) h1
  obtain ⟨ba, e1a, _, _⟩ := DataW.trod_int Tryd.underlying3 t1a
  obtain rfl : w1a = .int .i64 ba := by simpa using e1a
  obtain ⟨bb, e1b, _, _⟩ := DataW.trod_int Tryd.underlying3 t1b
  obtain rfl : w1b = .int .i64 bb := by simpa using e1b
  obtain ⟨bc, e1c, _, _⟩ := DataW.trod_int Tryd.underlying3 t1c
  obtain rfl : w1c = .int .i64 bc := by simpa using e1c
  obtain ⟨n, rfl, rfl, rfl, _⟩ := open_int Tryd.underlying3 (hval 3 3 v3 rfl rfl) h3
  obtain ⟨rfl, rfl⟩ := trodVars_none hV
  clear hA0
  have hw : Calls Tryd.prog 6 #[.agg #[.int .i64 aa, .int .i64 ab, .int .i64 ac], .agg #[.int .i64 ba, .int .i64 bb, .int .i64 bc], v2, .int .i64 n] W (Bit true W) := by
    rcases open_steps (hval 2 38 v2 rfl rfl) h2 with ⟨sa, cap, rfl⟩ | ⟨sb, so, cap, l, rfl, hpos, hmax, hb, hs⟩
    · exact loss_empty aa ab ac ba bb bc sa cap n W (handle_of_laid hL)
    · exact loss_any aa ab ac ba bb bc sb so cap l n W (handle_of_laid hL) hs hb
  refine hw.mono fun e W' ⟨he, hg⟩ => ?_
  subst he
  exact ⟨_, rfl, law_post Tryd.laidOut (by kernel_rfl) (by kernel_rfl) (by kernel_rfl) Tryd.underlying4 hW' hg rfl rfl rfl⟩

theorem reads (os : Os) {H : Type} (enc : TypeId × Value → H) : ∃ places, DataW.whole enc Tryd.prog ((laidWorld os).forCall (fun _ _ => 0) ⟨#[], #[.agg #[.int .i64 0, .int .i64 0, .int .i64 0], .agg #[.int .i64 0, .int .i64 0, .int .i64 0], .slice none 0 0, .int .i64 0], []⟩).memory Tryd.f6.params.toList Rows.faultLossSpec.vars false (#[.agg #[.int .i64 0, .int .i64 0, .int .i64 0], .agg #[.int .i64 0, .int .i64 0, .int .i64 0], .slice none 0 0, .int .i64 0] : Array Value).toList 8 = some ([.agg [.lit (.int .i64 0), .lit (.int .i64 0), .lit (.int .i64 0)], .agg [.lit (.int .i64 0), .lit (.int .i64 0), .lit (.int .i64 0)], .nil, .lit (.int .i64 0)], [], places) :=
  ⟨[], by kernel_rfl⟩

set_option maxRecDepth 100000 in
theorem lifted (os : Os) (started : os.Started) (H : Type) (enc : TypeId × Value → H) (F : Stop.Interp) :
    ReturnsInHanded {} Tryd.checked os 6 .any ((OpenSpec.ofChange Rows.faultLossSpec).preRow enc Tryd.prog Tryd.f6 Rows.faultLossRow.domain false Rows.faultLossRow.laid) (((OpenSpec.ofChange Rows.faultLossSpec).at F).post enc Tryd.prog Tryd.f6 false true false false) := by
  obtain ⟨places, hx⟩ := reads os enc
  refine returnsInHanded_of_row (C := Tryd.checked) (s := OpenSpec.ofChange Rows.faultLossSpec) Tryd.own started (by kernel_rfl) Tryd.func6
    (witness_row_at (enc := enc) (C := Tryd.checked) false (laidWorld os) #[.agg #[.int .i64 0, .int .i64 0, .int .i64 0], .agg #[.int .i64 0, .int .i64 0, .int .i64 0], .slice none 0 0, .int .i64 0] rfl (by kernel_rfl) (by kernel_rfl) (by kernel_rfl)
      (OpenSpec.preRow_of_cond 8 hx (by kernel_rfl) (fun k hk => by cases hk) (by kernel_rfl) (laidWorld_met os _))) ?_
  intro W base args ds gs before hval hW _ _ _ hL _ _
  exact contract H enc W base args ds gs before hval hW hL

theorem said : Rows.FaultLossSaid :=
  OpenClaim.holds_of_cond 6 Tryd.f6 rfl rfl rfl rfl rfl rfl rfl ⟨rfl, rfl, rfl, rfl, rfl⟩ rfl rfl rfl rfl rfl (by kernel_rfl) Tryd.func6 (by kernel_rfl)
    (of_decide_eq_true (by kernel_rfl)) (by unfold Func.isWrapper; first | (rw [if_pos (by decide +kernel)]; kernel_rfl) | (rw [if_neg (by decide +kernel)]; exact ⟨rfl, rfl⟩))
    (fun os started H enc _ F => by rw [OpenClaim.pre_eq_preRow]; exact lifted os started H enc F)

theorem plain (f : FuncId) (fn : Func) (hf : Tryd.pinned.checked.prog.funcNamed "stave/stavelaw1.FaultLoss" = some f) (hfn : Tryd.pinned.checked.prog.funcs[f]? = some fn) :
    true = Tryd.pinned.checked.prog.looks [] ∧ ∀ (j : Nat) t, fn.params[j]? = some t → Tryd.pinned.checked.prog.wantsStandIn t = false := by
  obtain rfl : f = 6 := Option.some.inj ((show Tryd.prog.funcNamed "stave/stavelaw1.FaultLoss" = some 6 by kernel_rfl).symm.trans hf) |>.symm
  obtain rfl : fn = Tryd.f6 := (Option.some.inj (Tryd.func6.symm.trans hfn)).symm
  have hall : (Tryd.f6.params.toList.all fun t => !Tryd.prog.wantsStandIn t) = true := by kernel_rfl
  refine ⟨by kernel_rfl, fun j t ht => ?_⟩
  have := List.all_eq_true.1 hall t (by simpa using Array.mem_of_getElem? ht)
  have h2 : Tryd.prog.wantsStandIn t = false := by simpa using this
  exact h2

end Go.Proofs.YtnehangdkjalbaaDoor.faultLoss
namespace Go.Proofs.YtnehangdkjalbaaDoor
theorem FaultLoss_card : Rows.FaultLossCardSaid :=
  Claim7.holds_tied_plain_at .later [] _ _ _ _ faultLoss.said (fun _ h => by cases h) (by kernel_rfl) (fun _ h => by cases h) faultLoss_row_tie rfl ⟨rfl, rfl⟩ (by kernel_rfl) rfl faultLoss.plain (by kernel_rfl)
#print axioms FaultLoss_card
end Go.Proofs.YtnehangdkjalbaaDoor
