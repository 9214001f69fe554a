/-
  What words of 32 and 64 bits can be.
-/
import Derived.Test.YtidnmkghmaeniaaGreatDoorBase
namespace Go.Proofs.YtidnmkghmaeniaaGreatDoor
theorem word32_range {n : Int} (h : (Lit.int .u32 n).wf = true) : 0 ≤ n ∧ n < 4294967296 := by
  simp [Lit.wf, IntKind.min, IntKind.max, IntKind.signed, IntKind.bits] at h
  omega
theorem word64_range {n : Int} (h : (Lit.int .u64 n).wf = true) : 0 ≤ n ∧ n < 18446744073709551616 := by
  simp [Lit.wf, IntKind.min, IntKind.max, IntKind.signed, IntKind.bits] at h
  omega
end Go.Proofs.YtidnmkghmaeniaaGreatDoor
