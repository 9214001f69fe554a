/-
  stavelaw3.GfRuns: the chapter's runs.
-/
import Derived.Test.YtdpjbemhgcdeoaaFOps
namespace Go.Proofs.Ytdpjbemhgcdeoaa
open Go.RowKit Gf
section
variable (w : World) (b : Nat) (hF : FieldIn w b)
include hF
theorem run_mul1 : Calls Try.prog 11 #[.pointer (some ⟨b, 0, none⟩), .int .u8 2, .int .u8 128] w (U8Drew 29 w) := by
  have := mul_any w b hF 2 128 (by omega) (by omega)
  rwa [show mul 2 128 = 29 by decide +kernel] at this
theorem run_mul2 : Calls Try.prog 11 #[.pointer (some ⟨b, 0, none⟩), .int .u8 3, .int .u8 7] w (U8Drew 9 w) := by
  have := mul_any w b hF 3 7 (by omega) (by omega)
  rwa [show mul 3 7 = 9 by decide +kernel] at this
theorem run_inv : Calls Try.prog 12 #[.pointer (some ⟨b, 0, none⟩), .int .u8 2] w (U8Same 142 w) := by
  have := inv_any w b hF 2 (by omega)
  rwa [show inv 2 = 142 by decide +kernel] at this
theorem run_exp : Calls Try.prog 13 #[.pointer (some ⟨b, 0, none⟩), .int .i64 8] w (U8Same 29 w) := by
  have := exp_any w b hF 8
  rwa [show pwI 8 = 29 by decide +kernel] at this
theorem run_log : Calls Try.prog 14 #[.pointer (some ⟨b, 0, none⟩), .int .u8 29] w (NumSame 8 w) := by
  have := log_any w b hF 29 (by omega)
  rwa [show (if (29 : Nat) = 0 then (-1 : Int) else lg 29) = 8 by decide +kernel] at this
end
theorem runs_any (w : World) : Calls Try.prog 3 #[] w (Bit true w) := by
  go_enter Try.func3, Try.ntmps3
  go_wp2_with fail
  go_at_call 10
  refine (make_any _).mono ?_
  rintro e w1 ⟨rfl, hF, hz, hb⟩
  have HF := Lib.hid hF
  have HZ := Lib.hid hz
  clear hF hz
  go_wp2_with fail
  go_at_call 11
  refine (run_mul1 _ _ HF.out).mono ?_
  rintro e w' ⟨rfl, k1, rfl⟩
  go_wp2_with fail
  go_at_call 11
  refine (run_mul2 _ _ (HF.out.drewN _)).mono ?_
  rintro e w' ⟨rfl, k2, rfl⟩
  go_wp2_with (first | (go_at_call 12; refine (run_inv _ _ (by repeat (first | exact HF.out | apply FieldIn.drewN))).mono ?_; rintro e w' ⟨rfl, rfl⟩) | (go_at_call 13; refine (run_exp _ _ (by repeat (first | exact HF.out | apply FieldIn.drewN))).mono ?_; rintro e w' ⟨rfl, rfl⟩) | (go_at_call 14; refine (run_log _ _ (by repeat (first | exact HF.out | apply FieldIn.drewN))).mono ?_; rintro e w' ⟨rfl, rfl⟩))
  go_ret
  exact bit rfl (by repeat (first | exact hb | apply below_drewN))
end Go.Proofs.Ytdpjbemhgcdeoaa
