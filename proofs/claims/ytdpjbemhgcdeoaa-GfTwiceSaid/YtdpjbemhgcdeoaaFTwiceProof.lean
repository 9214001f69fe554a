/-
  The law stavelaw3.GfTwice (what is added with one factor and with another is added with their sum; of sums of rows the sum is added) returns true for all bytes, and leaves all memory that was there as it was.
  Conditions: none but the row's own. The statement speaks of the pruned copy of the project that the seat names.
-/
import Derived.Test.YtdpjbemhgcdeoaaPlain
import Derived.Test.YtdpjbemhgcdeoaaFTwice
import Derived.Test.YtdpjbemhgcdeoaaOpenB
namespace Go.Proofs.Ytdpjbemhgcdeoaa.gfTwice
open Go.ChangeShapes Go.WideShapes Go.ChangeAt Go.RowKit

set_option maxRecDepth 100000 in
theorem lifted (os : Os) (started : os.Started) (H : Type) (enc : TypeId × Value → H) :
    ReturnsInHanded {} Try.checked os 9 .any (Rows.gfTwiceSpec.pre6 enc Try.prog Try.f9 Rows.gfTwiceRow.domain false) (Rows.gfTwiceSpec.post enc Try.prog Try.f9 false true false false) := by
  refine returnsInHanded_of_change (C := Try.checked) Try.own started (by kernel_rfl) Try.func9
    (ChangeSpec.witness6 (enc := enc) (C := Try.checked) false ⟨#[], #[.slice none 0 0, .slice none 0 0, .slice none 0 0, .int .u8 0, .int .u8 0], []⟩ 8 (by kernel_rfl) (by kernel_rfl) (by kernel_rfl) (by kernel_rfl)) ?_
  intro W base args ds gs before hval0 hW _ _
  have hval : ∀ (j : Nat) t v, Try.f9.params[j]? = some t → args[j]? = some v → Value.okWide Try.prog W .any base t v := hval0
  have hW' := hW
  obtain ⟨p, q, hA0, hV, rfl, hfz, hnd⟩ := hW
  have hA : DataW.TrodAll enc Try.prog W 0 (fun _ => true) true Try.f9.params.toList args.toList ds p := hA0
  rw [Try.params9] at hA hval
  obtain ⟨v0, vs0, d0, ds0, p0, q0, hargs, rfl, rfl, h0, r0⟩ := trodAll_cons hA
  obtain ⟨v1, vs1, d1, ds1, p1, q1, rfl, rfl, rfl, h1, r1⟩ := trodAll_cons r0
  obtain ⟨v2, vs2, d2, ds2, p2, q2, rfl, rfl, rfl, h2, r2⟩ := trodAll_cons r1
  obtain ⟨v3, vs3, d3, ds3, p3, q3, rfl, rfl, rfl, h3, r3⟩ := trodAll_cons r2
  obtain ⟨v4, vs4, d4, ds4, p4, q4, rfl, rfl, rfl, h4, r4⟩ := trodAll_cons r3
  obtain ⟨rfl, rfl, rfl⟩ := trodAll_nil r4
  obtain rfl : args = #[v0, v1, v2, v3, v4] := Array.ext' hargs
  have hv0 := (hval 0 33 v0 (by simp) (by simp))
  have hv1 := (hval 1 33 v1 (by simp) (by simp))
  have hv2 := (hval 2 33 v2 (by simp) (by simp))
  obtain ⟨x, rfl, rfl, rfl, wx⟩ := open_int Try.underlying5 (hval 3 5 v3 (by simp) (by simp)) h3
  obtain ⟨y, rfl, rfl, rfl, wy⟩ := open_int Try.underlying5 (hval 4 5 v4 (by simp) (by simp)) h4
  obtain ⟨x, rfl⟩ := Int.eq_ofNat_of_zero_le (byte_range wx).1
  have hltx : x < 256 := by have := (byte_range wx).2; omega
  obtain ⟨y, rfl⟩ := Int.eq_ofNat_of_zero_le (byte_range wy).1
  have hlty : y < 256 := by have := (byte_range wy).2; omega
  obtain ⟨ts, hsts, hlts⟩ := open_bytes hv0 h0
  obtain ⟨as_, hsas_, hlas_⟩ := open_bytes hv1 h1
  obtain ⟨bs, hsbs, hlbs⟩ := open_bytes hv2 h2
  obtain ⟨rfl, rfl⟩ := trodVars_none hV
  clear hA0 hval0
  have hw : Calls Try.prog 9 #[v0, v1, v2, .int .u8 x, .int .u8 y] W (Bit true W) := twice_any v0 v1 v2 ts as_ bs x y W hsts hsas_ hsbs hltx hlty hlts hlas_ hlbs
  refine hw.mono fun e W' ⟨he, hg⟩ => ?_
  subst he
  exact ⟨_, rfl, law_post Try.laidOut (by kernel_rfl) (by kernel_rfl) (by kernel_rfl) Try.underlying4 hW' hg rfl rfl rfl⟩

end Go.Proofs.Ytdpjbemhgcdeoaa.gfTwice
namespace Go.Proofs.Ytdpjbemhgcdeoaa
theorem GfTwice_said : Rows.GfTwiceSaid :=
  OpenClaim.holds_of_wide 9 Try.f9 rfl rfl rfl rfl rfl rfl rfl ⟨rfl, rfl, rfl, rfl, rfl⟩ rfl rfl rfl rfl rfl (by kernel_rfl) Try.func9 (by kernel_rfl)
    (of_decide_eq_true (by kernel_rfl)) (by unfold Func.isWrapper; first | (rw [if_pos (by decide +kernel)]; kernel_rfl) | (rw [if_neg (by decide +kernel)]; exact ⟨rfl, rfl⟩))
    (fun os started H enc _ => gfTwice.lifted os started H enc)
#print axioms GfTwice_said
end Go.Proofs.Ytdpjbemhgcdeoaa
