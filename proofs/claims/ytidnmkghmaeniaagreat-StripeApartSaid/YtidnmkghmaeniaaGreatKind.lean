/-
  fault.Wrap, fault.Kind, fault.Lost and stavebook.Within: what each answers, and that nothing that was there turns.
-/
import Derived.Test.YtidnmkghmaeniaaGreatAsTop
import Derived.Test.YtidnmkghmaeniaaGreatKit
namespace Go.Proofs.YtidnmkghmaeniaaGreat
open Go.RowKit Go.Extern.Stop Go.Stop Go.Extern

theorem wrap_nil (s : ByteArray) (n : Int) (w : World) : Calls Tryz.prog 22 #[.string s, .int .i64 n, .nilIface] w fun e w' => e = .returned .nilIface ∧ w = w' := by
  go_enter Tryz.func22, Tryz.ntmps22
  go_wp2
  go_ret
  exact ⟨rfl, rfl⟩
theorem wrap_some (s : ByteArray) (n : Int) (U : TypeId) (y : Value) (w : World) : Calls Tryz.prog 22 #[.string s, .int .i64 n, .iface U y] w fun e w' => e = .returned (wrapV s n (.iface U y)) ∧ w = w' := by
  unfold wrapV
  go_enter Tryz.func22, Tryz.ntmps22
  go_wp2
  go_ret
  exact ⟨rfl, rfl⟩

end Go.Proofs.YtidnmkghmaeniaaGreat
