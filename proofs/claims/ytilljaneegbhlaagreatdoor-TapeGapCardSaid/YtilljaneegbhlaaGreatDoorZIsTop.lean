import Derived.Test.YtilljaneegbhlaaGreatDoorZIs
namespace Go.Proofs.YtilljaneegbhlaaGreatDoor
open Go.RowKit Go.Extern.Stop Go.Stop Go.Extern
def cmpEntry : Array Value → Sem Value := ReflectliteType.method fun t => do Rtype.noPackHeld "Comparable" t; pure (.bool (← typeInfo t).comparable)
theorem Tryz.cmpEntry25 (w : World) : (cmpEntry #[.agg #[.pointer (some ⟨1, 40, none⟩)]]).run Tryz.prog w = .ok (.bool true) w := by kernel_rfl
theorem Tryz.cmpCall (args : Array Value) (w : World) : (callFunc 231 args).run Tryz.prog w = ((cmpEntry args).run Tryz.prog w).andThen fun v w' => .ok (.value v) w' :=
 @run_callFunc_extern Tryz.prog 231 _ cmpEntry Tryz.func231 (by kernel_rfl) (by kernel_rfl) (by kernel_rfl) (by kernel_rfl) args w
theorem Tryz.cmpCall25 (w : World) : (callFunc 231 #[.agg #[.pointer (some ⟨1, 40, none⟩)]]).run Tryz.prog w = .ok (.value (.bool true)) w := by rw [Tryz.cmpCall, Tryz.cmpEntry25]; rfl
theorem Is_nil (T : TypeId) (x : Value) (w : World) : Calls Tryz.prog 42 #[.nilIface, .iface T x] w fun e w' => e = .returned (.bool false) ∧ w = w' := by
 have hn := run_eql_iface_nil_left (P := Tryz.prog) w T x Tryz.underlying28
 go_enter Tryz.func42, Tryz.ntmps42
 go_wp2
 go_ret
 exact ⟨rfl, rfl⟩
set_option maxHeartbeats 1000000 in
theorem Is_loss_err_yes (l : List (ByteArray × Int)) (a b c : Int) (j : Int) (w : World) (v : Value) (hc : v = chain l (lossV a b c)) (hj : j = 6) :
  Calls Tryz.prog 42 #[v, errV j] w (Bit true w) := by
 have h17 := @run_callFunc_extern Tryz.prog 72 _ ReflectliteType.typeOf Tryz.func72 (by kernel_rfl) (by kernel_rfl) (by kernel_rfl) (by kernel_rfl)
 have tT := Tryz.typeOf25
 have cT := Tryz.cmpCall25
 have mC := Tryz.methodComparable
 have hlow := fun W => is_loss_err_yes l a b c j W v hc hj
 unfold errV at hlow
 obtain ⟨U, y, hy⟩ := chain_iface l 52 (.agg #[.int .i64 a, .int .i64 b, .int .i64 c])
 obtain rfl : v = .iface U y := hc.trans hy
 clear hc hy hj
 have Hlow := hI hlow; clear hlow
 unfold errV
 go_enter Tryz.func42, Tryz.ntmps42
 go_wp2_with (go_at_call 73; refine (Hlow.out _).mono ?_; rintro e w' ⟨rfl, hb⟩)
 go_ret
 exact ⟨rfl, hb⟩
end Go.Proofs.YtilljaneegbhlaaGreatDoor
