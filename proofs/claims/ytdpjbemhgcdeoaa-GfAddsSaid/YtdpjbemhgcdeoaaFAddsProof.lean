/-
  The law stavelaw3.GfAdds (Add adds byte by byte as far as both go; added twice the row is as it was; what is added stays) returns true for all bytes, and leaves all memory that was there as it was.
  Conditions: none but the row's own. The statement speaks of the pruned copy of the project that the seat names.
-/
import Derived.Test.YtdpjbemhgcdeoaaPlain
import Derived.Test.YtdpjbemhgcdeoaaFAdds
namespace Go.Proofs.Ytdpjbemhgcdeoaa.gfAdds
open Go.ChangeShapes Go.WideShapes Go.ChangeAt Go.RowKit

set_option maxRecDepth 100000 in
theorem lifted (os : Os) (started : os.Started) (H : Type) (enc : TypeId × Value → H) :
    ReturnsInHanded {} Try.checked os 7 .any (Rows.gfAddsSpec.pre6 enc Try.prog Try.f7 Rows.gfAddsRow.domain false) (Rows.gfAddsSpec.post enc Try.prog Try.f7 false true false false) := by
  refine returnsInHanded_of_change (C := Try.checked) Try.own started (by kernel_rfl) Try.func7
    (ChangeSpec.witness6 (enc := enc) (C := Try.checked) false ⟨#[], #[.slice none 0 0, .slice none 0 0, .int .u8 0], []⟩ 8 (by kernel_rfl) (by kernel_rfl) (by kernel_rfl) (by kernel_rfl)) ?_
  intro W base args ds gs before hval0 hW _ _
  have hval : ∀ (j : Nat) t v, Try.f7.params[j]? = some t → args[j]? = some v → Value.okWide Try.prog W .any base t v := hval0
  have hW' := hW
  obtain ⟨p, q, hA0, hV, rfl, hfz, hnd⟩ := hW
  have hA : DataW.TrodAll enc Try.prog W 0 (fun _ => true) true Try.f7.params.toList args.toList ds p := hA0
  rw [Try.params7] at hA hval
  obtain ⟨v0, vs0, d0, ds0, p0, q0, hargs, rfl, rfl, h0, r0⟩ := trodAll_cons hA
  obtain ⟨v1, vs1, d1, ds1, p1, q1, rfl, rfl, rfl, h1, r1⟩ := trodAll_cons r0
  obtain ⟨v2, vs2, d2, ds2, p2, q2, rfl, rfl, rfl, h2, r2⟩ := trodAll_cons r1
  obtain ⟨rfl, rfl, rfl⟩ := trodAll_nil r2
  obtain rfl : args = #[v0, v1, v2] := Array.ext' hargs
  have hv0 := (hval 0 33 v0 (by simp) (by simp))
  have hv1 := (hval 1 33 v1 (by simp) (by simp))
  obtain ⟨x, rfl, rfl, rfl, wx⟩ := open_int Try.underlying5 (hval 2 5 v2 (by simp) (by simp)) h2
  obtain ⟨x, rfl⟩ := Int.eq_ofNat_of_zero_le (byte_range wx).1
  have hltx : x < 256 := by have := (byte_range wx).2; omega
  obtain ⟨ts, hsts, hlts⟩ := open_bytes hv0 h0
  obtain ⟨fs, hsfs, hlfs⟩ := open_bytes hv1 h1
  obtain ⟨rfl, rfl⟩ := trodVars_none hV
  clear hA0 hval0
  have hw : Calls Try.prog 7 #[v0, v1, .int .u8 x] W (Bit true W) := adds_any v0 v1 ts fs x W hsts hsfs hltx hlts hlfs
  refine hw.mono fun e W' ⟨he, hg⟩ => ?_
  subst he
  exact ⟨_, rfl, law_post Try.laidOut (by kernel_rfl) (by kernel_rfl) (by kernel_rfl) Try.underlying4 hW' hg rfl rfl rfl⟩

end Go.Proofs.Ytdpjbemhgcdeoaa.gfAdds
namespace Go.Proofs.Ytdpjbemhgcdeoaa
theorem GfAdds_said : Rows.GfAddsSaid :=
  OpenClaim.holds_of_wide 7 Try.f7 rfl rfl rfl rfl rfl rfl rfl ⟨rfl, rfl, rfl, rfl, rfl⟩ rfl rfl rfl rfl rfl (by kernel_rfl) Try.func7 (by kernel_rfl)
    (of_decide_eq_true (by kernel_rfl)) (by unfold Func.isWrapper; first | (rw [if_pos (by decide +kernel)]; kernel_rfl) | (rw [if_neg (by decide +kernel)]; exact ⟨rfl, rfl⟩))
    (fun os started H enc _ => gfAdds.lifted os started H enc)
#print axioms GfAdds_said
end Go.Proofs.Ytdpjbemhgcdeoaa
