/-
  What a word of 32 bits can be.
-/
import Derived.Test.YtjkponhdpeelpaaPlain
namespace Go.Proofs.Ytjkponhdpeelpaa
theorem word_range {n : Int} (h : (Lit.int .u32 n).wf = true) : 0 ≤ n ∧ n < 4294967296 := by
  have h1 : (0 : Int) ≤ n ∧ n ≤ 4294967295 := (Lit.wf_int_iff .u32 n).1 h
  omega
end Go.Proofs.Ytjkponhdpeelpaa
