/-
  What every law's proof in a seat without cards rests on.
-/
import Derived.Test.YtilljaneegbhlaaGreatRows
import Derived.ProofKit
import Derived.DataShut
import Derived.Test.YtilljaneegbhlaaGreatZLaw
namespace Go.Proofs.YtilljaneegbhlaaGreat
theorem Tryz.own : ownKnob Tryz.prog.godebug = none := by kernel_rfl
theorem Tryz.laidOut : laidOutB Tryz.prog = true := by kernel_rfl
theorem byte_range {n : Int} (h : (Lit.int .u8 n).wf = true) : 0 ≤ n ∧ n < 256 := by
  have h1 : (0 : Int) ≤ n ∧ n ≤ 255 := (Lit.wf_int_iff .u8 n).1 h
  omega
end Go.Proofs.YtilljaneegbhlaaGreat
