/-
  The law stavelaw7.FrameEnds (a frame is right up to its limits, and no further; what isn't right has no bytes) returns true for all numbers, and leaves all memory that was there as it was.
  Conditions: none but the row's own. The statement speaks of the pruned copy of the project that the seat names.
-/
import Derived.Test.YtjkponhdpeelpaaPlain
import Derived.Test.YtjkponhdpeelpaaHEnds
namespace Go.Proofs.Ytjkponhdpeelpaa.frameEnds
open Go.ChangeShapes Go.WideShapes Go.ChangeAt Go.RowKit

set_option maxRecDepth 100000 in
theorem lifted (os : Os) (started : os.Started) (H : Type) (enc : TypeId × Value → H) :
    ReturnsInHanded {} Try.checked os 7 .any (Rows.frameEndsSpec.pre6 enc Try.prog Try.f7 Rows.frameEndsRow.domain false) (Rows.frameEndsSpec.post enc Try.prog Try.f7 false true false false) := by
  refine returnsInHanded_of_change (C := Try.checked) Try.own started (by kernel_rfl) Try.func7
    (ChangeSpec.witness6 (enc := enc) (C := Try.checked) false ⟨#[], #[.int .i64 0, .int .i64 0], []⟩ 8 (by kernel_rfl) (by kernel_rfl) (by kernel_rfl) (by kernel_rfl)) ?_
  intro W base args ds gs before hval0 hW _ _
  have hval : ∀ (j : Nat) t v, Try.f7.params[j]? = some t → args[j]? = some v → Value.okWide Try.prog W .any base t v := hval0
  have hW' := hW
  obtain ⟨p, q, hA0, hV, rfl, hfz, hnd⟩ := hW
  have hA : DataW.TrodAll enc Try.prog W 0 (fun _ => true) true Try.f7.params.toList args.toList ds p := hA0
  rw [Try.params7] at hA hval
  obtain ⟨v0, vs0, d0, ds0, p0, q0, hargs, rfl, rfl, h0, r0⟩ := trodAll_cons hA
  obtain ⟨v1, vs1, d1, ds1, p1, q1, rfl, rfl, rfl, h1, r1⟩ := trodAll_cons r0
  obtain ⟨rfl, rfl, rfl⟩ := trodAll_nil r1
  obtain rfl : args = #[v0, v1] := Array.ext' hargs
  obtain ⟨n, rfl, rfl, rfl, _⟩ := open_int Try.underlying3 (hval 0 3 v0 (by simp) (by simp)) h0
  obtain ⟨how, rfl, rfl, rfl, _⟩ := open_int Try.underlying3 (hval 1 3 v1 (by simp) (by simp)) h1
  obtain ⟨rfl, rfl⟩ := trodVars_none hV
  clear hA0 hval0
  have hw : Calls Try.prog 7 #[.int .i64 n, .int .i64 how] W (Bit true W) := ends_any n how W
  refine hw.mono fun e W' ⟨he, hg⟩ => ?_
  subst he
  exact ⟨_, rfl, law_post Try.laidOut (by kernel_rfl) (by kernel_rfl) (by kernel_rfl) Try.underlying4 hW' hg rfl rfl rfl⟩

end Go.Proofs.Ytjkponhdpeelpaa.frameEnds
namespace Go.Proofs.Ytjkponhdpeelpaa
theorem FrameEnds_said : Rows.FrameEndsSaid :=
  OpenClaim.holds_of_wide 7 Try.f7 rfl rfl rfl rfl rfl rfl rfl ⟨rfl, rfl, rfl, rfl, rfl⟩ rfl rfl rfl rfl rfl (by kernel_rfl) Try.func7 (by kernel_rfl)
    (of_decide_eq_true (by kernel_rfl)) (by unfold Func.isWrapper; first | (rw [if_pos (by decide +kernel)]; kernel_rfl) | (rw [if_neg (by decide +kernel)]; exact ⟨rfl, rfl⟩))
    (fun os started H enc _ => frameEnds.lifted os started H enc)
#print axioms FrameEnds_said
end Go.Proofs.Ytjkponhdpeelpaa
