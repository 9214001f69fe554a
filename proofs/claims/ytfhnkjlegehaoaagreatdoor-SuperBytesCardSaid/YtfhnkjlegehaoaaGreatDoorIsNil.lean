/-
  errors.Is of nothing.
-/
import Derived.Test.YtfhnkjlegehaoaaGreatDoorAsTop
namespace Go.Proofs.YtfhnkjlegehaoaaGreatDoor
open Go.RowKit Go.Extern.Stop Go.Stop Go.Extern

theorem Is_nil (T : TypeId) (x : Value) (w : World) : Calls Tryz.prog 46 #[.nilIface, .iface T x] w fun e w' => e = .returned (.bool false) ∧ w = w' := by
  have hn := run_eql_iface_nil_left (P := Tryz.prog) w T x Tryz.underlying26
  go_enter Tryz.func46, Tryz.ntmps46
  go_wp2
  go_ret
  exact ⟨rfl, rfl⟩

end Go.Proofs.YtfhnkjlegehaoaaGreatDoor
