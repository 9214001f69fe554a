/-
  errors.Is of nothing.
-/
import Derived.Test.YtfhkccldgbgelaaDoorVals
namespace Go.Proofs.YtfhkccldgbgelaaDoor
open Go.RowKit Go.Extern.Stop Go.Stop Go.Extern

theorem Is_nil (T : TypeId) (x : Value) (w : World) : Calls Tryd.prog 42 #[.nilIface, .iface T x] w fun e w' => e = .returned (.bool false) ∧ w = w' := by
  have hn := run_eql_iface_nil_left (P := Tryd.prog) w T x Tryd.underlying24
  go_enter Tryd.func42, Tryd.ntmps42
  go_wp2
  go_ret
  exact ⟨rfl, rfl⟩

end Go.Proofs.YtfhkccldgbgelaaDoor
