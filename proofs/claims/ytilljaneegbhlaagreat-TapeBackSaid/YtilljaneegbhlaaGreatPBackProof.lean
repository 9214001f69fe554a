/-
  The law stavelaw14.TapeBack (what is filled is emptied, in its order; what doesn't fit is told) returns true for all numbers and entries, and leaves all memory that was there as it was.
  Conditions: none but the row's own. The statement speaks of the pruned copy of the project that the seat names.
-/
import Derived.Test.YtilljaneegbhlaaGreatZPlain
import Derived.Test.YtilljaneegbhlaaGreatPBack
import Derived.Test.YtilljaneegbhlaaGreatPOpenL
namespace Go.Proofs.YtilljaneegbhlaaGreat.tapeBack
open Go.ChangeShapes Go.WideShapes Go.ChangeAt Go.RowKit

set_option maxRecDepth 100000 in
theorem lifted (os : Os) (started : os.Started) (H : Type) (enc : TypeId × Value → H) :
    ReturnsInHanded {} Tryz.checked os 5 .any (Rows.tapeBackSpec.pre6 enc Tryz.prog Tryz.f5 Rows.tapeBackRow.domain false) (Rows.tapeBackSpec.post enc Tryz.prog Tryz.f5 false true false false) := by
  refine returnsInHanded_of_change (C := Tryz.checked) Tryz.own started (by kernel_rfl) Tryz.func5
    (ChangeSpec.witness6 (enc := enc) (C := Tryz.checked) false ⟨#[], #[.int .i64 0, .int .i64 0, .slice none 0 0], []⟩ 8 (by kernel_rfl) (by kernel_rfl) (by kernel_rfl) (by kernel_rfl)) ?_
  intro W base args ds gs before hval0 hW _ _
  have hval : ∀ (j : Nat) t v, Tryz.f5.params[j]? = some t → args[j]? = some v → Value.okWide Tryz.prog W .any base t v := hval0
  have hW' := hW
  obtain ⟨p, q, hA0, hV, rfl, hfz, hnd⟩ := hW
  have hA : DataW.TrodAll enc Tryz.prog W 0 (fun _ => true) true Tryz.f5.params.toList args.toList ds p := hA0
  rw [Tryz.params5] at hA hval
  obtain ⟨v0, vs0, d0, ds0, p0, q0, hargs, rfl, rfl, h0, r0⟩ := trodAll_cons hA
  obtain ⟨v1, vs1, d1, ds1, p1, q1, rfl, rfl, rfl, h1, r1⟩ := trodAll_cons r0
  obtain ⟨v2, vs2, d2, ds2, p2, q2, rfl, rfl, rfl, h2, r2⟩ := trodAll_cons r1
  obtain ⟨rfl, rfl, rfl⟩ := trodAll_nil r2
  obtain rfl : args = #[v0, v1, v2] := Array.ext' hargs
  obtain ⟨k_, rfl, rfl, rfl, _⟩ := open_int Tryz.underlying3 (hval 0 3 v0 (by simp) (by simp)) h0
  obtain ⟨n_, rfl, rfl, rfl, _⟩ := open_int Tryz.underlying3 (hval 1 3 v1 (by simp) (by simp)) h1
  have hv2 := (hval 2 25 v2 (by simp) (by simp))
  obtain ⟨l, hsl, hll, hml⟩ := open_lists hv2 h2
  obtain ⟨rfl, rfl⟩ := trodVars_none hV
  clear hA0 hval0
  have hw : Calls Tryz.prog 5 #[.int .i64 k_, .int .i64 n_, v2] W (Bit true W) := tback_any W k_ n_ v2 l hsl hll hml
  refine hw.mono fun e W' ⟨he, hg⟩ => ?_
  subst he
  exact ⟨_, rfl, law_post Tryz.laidOut (by kernel_rfl) (by kernel_rfl) (by kernel_rfl) Tryz.underlying4 hW' hg rfl rfl rfl⟩

end Go.Proofs.YtilljaneegbhlaaGreat.tapeBack
namespace Go.Proofs.YtilljaneegbhlaaGreat
theorem TapeBack_said : Rows.TapeBackSaid :=
  OpenClaim.holds_of_wide 5 Tryz.f5 rfl rfl rfl rfl rfl rfl rfl ⟨rfl, rfl, rfl, rfl, rfl⟩ rfl rfl rfl rfl rfl (by kernel_rfl) Tryz.func5 (by kernel_rfl)
    (of_decide_eq_true (by kernel_rfl)) (by unfold Func.isWrapper; first | (rw [if_pos (by decide +kernel)]; kernel_rfl) | (rw [if_neg (by decide +kernel)]; exact ⟨rfl, rfl⟩))
    (fun os started H enc _ => tapeBack.lifted os started H enc)
#print axioms TapeBack_said
end Go.Proofs.YtilljaneegbhlaaGreat
