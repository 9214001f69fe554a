/-
  The law stavelaw7.FrameApart (two frames have the same bytes just if they are the same; a sector too short or too long holds none) returns true for all frames, lengths and bytes, and leaves all memory that was there as it was.
  Conditions: none but the row's own. The statement speaks of the pruned copy of the project that the seat names.
-/
import Derived.Test.YtjkponhdpeelpaaPlain
import Derived.Test.YtjkponhdpeelpaaOpenF
import Derived.Test.YtjkponhdpeelpaaHApart
namespace Go.Proofs.Ytjkponhdpeelpaa.frameApart
open Go.ChangeShapes Go.WideShapes Go.ChangeAt Go.RowKit

set_option maxRecDepth 100000 in
theorem lifted (os : Os) (started : os.Started) (H : Type) (enc : TypeId × Value → H) :
    ReturnsInHanded {} Try.checked os 6 .any (Rows.frameApartSpec.pre6 enc Try.prog Try.f6 Rows.frameApartRow.domain false) (Rows.frameApartSpec.post enc Try.prog Try.f6 false true false false) := by
  refine returnsInHanded_of_change (C := Try.checked) Try.own started (by kernel_rfl) Try.func6
    (ChangeSpec.witness6 (enc := enc) (C := Try.checked) false ⟨#[], #[.agg (frA Hf.zeroF), .agg (frA Hf.zeroF), .int .i64 0, .int .u8 0], []⟩ 8 (by kernel_rfl) (by kernel_rfl) (by kernel_rfl) (by kernel_rfl)) ?_
  intro W base args ds gs before hval0 hW _ _
  have hval : ∀ (j : Nat) t v, Try.f6.params[j]? = some t → args[j]? = some v → Value.okWide Try.prog W .any base t v := hval0
  have hW' := hW
  obtain ⟨p, q, hA0, hV, rfl, hfz, hnd⟩ := hW
  have hA : DataW.TrodAll enc Try.prog W 0 (fun _ => true) true Try.f6.params.toList args.toList ds p := hA0
  rw [Try.params6] at hA hval
  obtain ⟨v0, vs0, d0, ds0, p0, q0, hargs, rfl, rfl, h0, r0⟩ := trodAll_cons hA
  obtain ⟨v1, vs1, d1, ds1, p1, q1, rfl, rfl, rfl, h1, r1⟩ := trodAll_cons r0
  obtain ⟨v2, vs2, d2, ds2, p2, q2, rfl, rfl, rfl, h2, r2⟩ := trodAll_cons r1
  obtain ⟨v3, vs3, d3, ds3, p3, q3, rfl, rfl, rfl, h3, r3⟩ := trodAll_cons r2
  obtain ⟨rfl, rfl, rfl⟩ := trodAll_nil r3
  obtain rfl : args = #[v0, v1, v2, v3] := Array.ext' hargs
  have hv0 := (hval 0 24 v0 (by simp) (by simp))
  have hv1 := (hval 1 24 v1 (by simp) (by simp))
  obtain ⟨n, rfl, rfl, rfl, _⟩ := open_int Try.underlying3 (hval 2 3 v2 (by simp) (by simp)) h2
  obtain ⟨x, rfl, rfl, rfl, wx⟩ := open_int Try.underlying5 (hval 3 5 v3 (by simp) (by simp)) h3
  obtain ⟨x, rfl⟩ := Int.eq_ofNat_of_zero_le (byte_range wx).1
  have hltx : x < 256 := by have := (byte_range wx).2; omega
  obtain ⟨f, rfl, hif⟩ := open_frame hv0 h0
  obtain ⟨g, rfl, hig⟩ := open_frame hv1 h1
  obtain ⟨rfl, rfl⟩ := trodVars_none hV
  clear hA0 hval0
  have hw : Calls Try.prog 6 #[.agg (frA f), .agg (frA g), .int .i64 n, .int .u8 x] W (Bit true W) := apart_any f g n x W hif hig hltx
  refine hw.mono fun e W' ⟨he, hg⟩ => ?_
  subst he
  exact ⟨_, rfl, law_post Try.laidOut (by kernel_rfl) (by kernel_rfl) (by kernel_rfl) Try.underlying4 hW' hg rfl rfl rfl⟩

end Go.Proofs.Ytjkponhdpeelpaa.frameApart
namespace Go.Proofs.Ytjkponhdpeelpaa
theorem FrameApart_said : Rows.FrameApartSaid :=
  OpenClaim.holds_of_wide 6 Try.f6 rfl rfl rfl rfl rfl rfl rfl ⟨rfl, rfl, rfl, rfl, rfl⟩ rfl rfl rfl rfl rfl (by kernel_rfl) Try.func6 (by kernel_rfl)
    (of_decide_eq_true (by kernel_rfl)) (by unfold Func.isWrapper; first | (rw [if_pos (by decide +kernel)]; kernel_rfl) | (rw [if_neg (by decide +kernel)]; exact ⟨rfl, rfl⟩))
    (fun os started H enc _ => frameApart.lifted os started H enc)
#print axioms FrameApart_said
end Go.Proofs.Ytjkponhdpeelpaa
