/-
  The closed facts on the entries for internal/reflectlite, and on the method sets of api.Errno, api.Loss and api.Fault, that the walks of errors.As and errors.Is use over this seat's translation. After the worked example Toyas.
-/
import Derived.Test.YtidnmkghmaeniaaGreatChecked
import Derived.WalkKit
import Derived.LaidEql
import Derived.Stop.Asserts
import Derived.RowKitTokens
import Derived.Handy
import Derived.Lib.Hide
import Derived.Outline
namespace Go.Proofs.YtidnmkghmaeniaaGreat
open Go.RowKit Go.Extern.Stop Go.Stop Go.Extern
/-! ### target element type 25, pointer type 51 -/
/-! ### target element type 29, pointer type 50 -/
/-! ### target element type 47, pointer type 49 -/
end Go.Proofs.YtidnmkghmaeniaaGreat
/-
  The values of the errors that the statements build: a kind, a Loss, and Faults around one of them; the law of '==' between two kinds; what errors.Is and errors.As leave behind.
-/
namespace Go.Proofs.YtidnmkghmaeniaaGreat
open Go.RowKit Go.Extern.Stop Go.Stop Go.Extern

/-- A Fault around v. -/
def wrapV (s : ByteArray) (n : Int) (v : Value) : Value := .iface 86 (.agg #[.string s, .int .i64 n, v])
/-- Faults around b, the outermost first. -/
def chain : List (ByteArray × Int) → Value → Value
  | [], b => b
  | x :: l, b => wrapV x.1 x.2 (chain l b)
def errV (k : Int) : Value := .iface 61 (.int .i64 k)
def lossV (a b c : Int) : Value := .iface 75 (.agg #[.int .i64 a, .int .i64 b, .int .i64 c])

section
variable {P : Program} (w : World)
end
end Go.Proofs.YtidnmkghmaeniaaGreat
/-
  (reflectlite.Value).Set at the three target types: what it leaves in memory.
-/
namespace Go.Proofs.YtidnmkghmaeniaaGreat
open Go.RowKit Go.Extern.Stop Go.Stop Go.Extern

end Go.Proofs.YtidnmkghmaeniaaGreat
/-
  errors.as, Go's own text, at the targets *api.Errno, *api.Loss and *api.Fault: what it answers and leaves behind.
-/
namespace Go.Proofs.YtidnmkghmaeniaaGreat
open Go.RowKit Go.Extern.Stop Go.Stop Go.Extern

theorem chain_iface (l : List (ByteArray × Int)) (T : TypeId) (x : Value) : ∃ U y, chain l (.iface T x) = .iface U y := by
  cases l with
  | nil => exact ⟨_, _, rfl⟩
  | cons p l => exact ⟨_, _, rfl⟩
end Go.Proofs.YtidnmkghmaeniaaGreat
/-
  errors.As, Go's own text, at the targets *api.Errno, *api.Loss and *api.Fault: what it answers and leaves behind.
-/
namespace Go.Proofs.YtidnmkghmaeniaaGreat
open Go.RowKit Go.Extern.Stop Go.Stop Go.Extern

end Go.Proofs.YtidnmkghmaeniaaGreat
