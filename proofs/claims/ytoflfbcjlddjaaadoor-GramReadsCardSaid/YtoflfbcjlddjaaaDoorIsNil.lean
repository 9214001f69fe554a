/-
  errors.Is of nothing.
-/
import Derived.Test.YtoflfbcjlddjaaaDoorAsTop
namespace Go.Proofs.YtoflfbcjlddjaaaDoor
open Go.RowKit Go.Extern.Stop Go.Stop Go.Extern

theorem Is_nil (T : TypeId) (x : Value) (w : World) : Calls Tryd.prog 37 #[.nilIface, .iface T x] w fun e w' => e = .returned (.bool false) ∧ w = w' := by
  have hn := run_eql_iface_nil_left (P := Tryd.prog) w T x Tryd.underlying32
  go_enter Tryd.func37, Tryd.ntmps37
  go_wp2
  go_ret
  exact ⟨rfl, rfl⟩

end Go.Proofs.YtoflfbcjlddjaaaDoor
