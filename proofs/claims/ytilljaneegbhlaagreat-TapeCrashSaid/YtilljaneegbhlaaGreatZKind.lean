import Derived.Test.YtilljaneegbhlaaGreatZAsTop
import Derived.Test.YtilljaneegbhlaaGreatZKit
namespace Go.Proofs.YtilljaneegbhlaaGreat
open Go.RowKit Go.Extern.Stop Go.Stop Go.Extern
variable {w : World}
theorem wrap_nil (s : ByteArray) (n : Int) (w : World) : Calls Tryz.prog 29 #[.string s, .int .i64 n, .nilIface] w fun e w' => e = .returned .nilIface ∧ w = w' := by
 go_enter Tryz.func29, Tryz.ntmps29
 go_wp2
 go_ret
 exact ⟨rfl, rfl⟩
theorem wrap_some (s : ByteArray) (n : Int) (U : TypeId) (y : Value) (w : World) : Calls Tryz.prog 29 #[.string s, .int .i64 n, .iface U y] w fun e w' => e = .returned (wrapV s n (.iface U y)) ∧ w = w' := by
 unfold wrapV
 go_enter Tryz.func29, Tryz.ntmps29
 go_wp2
 go_ret
 exact ⟨rfl, rfl⟩
end Go.Proofs.YtilljaneegbhlaaGreat
