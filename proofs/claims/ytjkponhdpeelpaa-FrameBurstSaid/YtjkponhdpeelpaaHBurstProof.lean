/-
  The law stavelaw7.FrameBurst (a frame of which four bytes beside each other turn is none) returns true for all frames, places and patterns, and leaves all memory that was there as it was.
  Conditions: none but the row's own. The statement speaks of the pruned copy of the project that the seat names.
-/
import Derived.Test.YtjkponhdpeelpaaPlain
import Derived.Test.YtjkponhdpeelpaaOpenF
import Derived.Test.YtjkponhdpeelpaaHBurst
import Derived.Test.YtjkponhdpeelpaaKWord
namespace Go.Proofs.Ytjkponhdpeelpaa.frameBurst
open Go.ChangeShapes Go.WideShapes Go.ChangeAt Go.RowKit

set_option maxRecDepth 100000 in
theorem lifted (os : Os) (started : os.Started) (H : Type) (enc : TypeId × Value → H) :
    ReturnsInHanded {} Try.checked os 5 .any (Rows.frameBurstSpec.pre6 enc Try.prog Try.f5 Rows.frameBurstRow.domain false) (Rows.frameBurstSpec.post enc Try.prog Try.f5 false true false false) := by
  refine returnsInHanded_of_change (C := Try.checked) Try.own started (by kernel_rfl) Try.func5
    (ChangeSpec.witness6 (enc := enc) (C := Try.checked) false ⟨#[], #[.agg (frA Hf.zeroF), .int .i64 0, .int .u32 0], []⟩ 8 (by kernel_rfl) (by kernel_rfl) (by kernel_rfl) (by kernel_rfl)) ?_
  intro W base args ds gs before hval0 hW _ _
  have hval : ∀ (j : Nat) t v, Try.f5.params[j]? = some t → args[j]? = some v → Value.okWide Try.prog W .any base t v := hval0
  have hW' := hW
  obtain ⟨p, q, hA0, hV, rfl, hfz, hnd⟩ := hW
  have hA : DataW.TrodAll enc Try.prog W 0 (fun _ => true) true Try.f5.params.toList args.toList ds p := hA0
  rw [Try.params5] at hA hval
  obtain ⟨v0, vs0, d0, ds0, p0, q0, hargs, rfl, rfl, h0, r0⟩ := trodAll_cons hA
  obtain ⟨v1, vs1, d1, ds1, p1, q1, rfl, rfl, rfl, h1, r1⟩ := trodAll_cons r0
  obtain ⟨v2, vs2, d2, ds2, p2, q2, rfl, rfl, rfl, h2, r2⟩ := trodAll_cons r1
  obtain ⟨rfl, rfl, rfl⟩ := trodAll_nil r2
  obtain rfl : args = #[v0, v1, v2] := Array.ext' hargs
  have hv0 := (hval 0 24 v0 (by simp) (by simp))
  obtain ⟨n, rfl, rfl, rfl, _⟩ := open_int Try.underlying3 (hval 1 3 v1 (by simp) (by simp)) h1
  obtain ⟨x, rfl, rfl, rfl, wx⟩ := open_int Try.underlying36 (hval 2 36 v2 (by simp) (by simp)) h2
  obtain ⟨x, rfl⟩ := Int.eq_ofNat_of_zero_le (word_range wx).1
  have hltx : x < 4294967296 := by have := (word_range wx).2; omega
  obtain ⟨f, rfl, hif⟩ := open_frame hv0 h0
  obtain ⟨rfl, rfl⟩ := trodVars_none hV
  clear hA0 hval0
  have hw : Calls Try.prog 5 #[.agg (frA f), .int .i64 n, .int .u32 x] W (Bit true W) := burst_any f n x W hif hltx
  refine hw.mono fun e W' ⟨he, hg⟩ => ?_
  subst he
  exact ⟨_, rfl, law_post Try.laidOut (by kernel_rfl) (by kernel_rfl) (by kernel_rfl) Try.underlying4 hW' hg rfl rfl rfl⟩

end Go.Proofs.Ytjkponhdpeelpaa.frameBurst
namespace Go.Proofs.Ytjkponhdpeelpaa
theorem FrameBurst_said : Rows.FrameBurstSaid :=
  OpenClaim.holds_of_wide 5 Try.f5 rfl rfl rfl rfl rfl rfl rfl ⟨rfl, rfl, rfl, rfl, rfl⟩ rfl rfl rfl rfl rfl (by kernel_rfl) Try.func5 (by kernel_rfl)
    (of_decide_eq_true (by kernel_rfl)) (by unfold Func.isWrapper; first | (rw [if_pos (by decide +kernel)]; kernel_rfl) | (rw [if_neg (by decide +kernel)]; exact ⟨rfl, rfl⟩))
    (fun os started H enc _ => frameBurst.lifted os started H enc)
#print axioms FrameBurst_said
end Go.Proofs.Ytjkponhdpeelpaa
