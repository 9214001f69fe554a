/-
  What every law's proof in a seat without cards rests on.
-/
import Derived.Test.YtdpjbemhgcdeoaaRows
import Derived.ProofKit
import Derived.Test.YtdpjbemhgcdeoaaLaw
namespace Go.Proofs.Ytdpjbemhgcdeoaa
theorem Try.own : ownKnob Try.prog.godebug = none := by kernel_rfl
theorem Try.laidOut : laidOutB Try.prog = true := by kernel_rfl
end Go.Proofs.Ytdpjbemhgcdeoaa
