/-
  errors.Is, Go's own text: the whole call.
-/
import Derived.Test.YtnehangdkjalbaaDoorIs
namespace Go.Proofs.YtnehangdkjalbaaDoor
open Go.RowKit Go.Extern.Stop Go.Stop Go.Extern

def cmpEntry : Array Value → Sem Value := ReflectliteType.method fun t => do Rtype.noPackHeld "Comparable" t; pure (.bool (← typeInfo t).comparable)
theorem Tryd.cmpEntry25 (w : World) : (cmpEntry #[.agg #[.pointer (some ⟨1, 25, none⟩)]]).run Tryd.prog w = .ok (.bool true) w := by kernel_rfl
theorem Tryd.cmpEntry29 (w : World) : (cmpEntry #[.agg #[.pointer (some ⟨1, 29, none⟩)]]).run Tryd.prog w = .ok (.bool true) w := by kernel_rfl
theorem Tryd.cmpCall (args : Array Value) (w : World) : (callFunc 52 args).run Tryd.prog w = ((cmpEntry args).run Tryd.prog w).andThen fun v w' => .ok (.value v) w' :=
  @run_callFunc_extern Tryd.prog 52 _ cmpEntry Tryd.func52 (by kernel_rfl) (by kernel_rfl) (by kernel_rfl) (by kernel_rfl) args w
theorem Tryd.cmpCall25 (w : World) : (callFunc 52 #[.agg #[.pointer (some ⟨1, 25, none⟩)]]).run Tryd.prog w = .ok (.value (.bool true)) w := by rw [Tryd.cmpCall, Tryd.cmpEntry25]; rfl
theorem Tryd.cmpCall29 (w : World) : (callFunc 52 #[.agg #[.pointer (some ⟨1, 29, none⟩)]]).run Tryd.prog w = .ok (.value (.bool true)) w := by rw [Tryd.cmpCall, Tryd.cmpEntry29]; rfl
theorem Is_nil (T : TypeId) (x : Value) (w : World) : Calls Tryd.prog 15 #[.nilIface, .iface T x] w fun e w' => e = .returned (.bool false) ∧ w = w' := by
  have hn := run_eql_iface_nil_left (P := Tryd.prog) w T x Tryd.underlying23
  go_enter Tryd.func15, Tryd.ntmps15
  go_wp2
  go_ret
  exact ⟨rfl, rfl⟩

set_option maxHeartbeats 1000000 in
theorem Is_err_err_yes (l : List (ByteArray × Int)) (k : Int) (j : Int) (w : World) (v : Value) (hc : v = chain l (errV k)) (hj : k = j) :
    Calls Tryd.prog 15 #[v, errV j] w (Bit true w) := by
  have h17 := @run_callFunc_extern Tryd.prog 17 _ ReflectliteType.typeOf Tryd.func17 (by kernel_rfl) (by kernel_rfl) (by kernel_rfl) (by kernel_rfl)
  have tT := Tryd.typeOf25
  have cT := Tryd.cmpCall25
  have mC := Tryd.methodComparable
  have hlow := fun W => is_err_err_yes l k j W v hc hj
  unfold errV at hlow
  obtain ⟨U, y, hy⟩ := chain_iface l 25 (.int .i64 k)
  obtain rfl : v = .iface U y := hc.trans hy
  clear hc hy hj
  have Hlow := Lib.hid hlow; clear hlow
  unfold errV
  go_enter Tryd.func15, Tryd.ntmps15
  go_wp2_with (go_at_call 18; refine (Hlow.out _).mono ?_; rintro e w' ⟨rfl, hb⟩)
  go_ret
  exact ⟨rfl, hb⟩

set_option maxHeartbeats 1000000 in
theorem Is_err_err_no (l : List (ByteArray × Int)) (k : Int) (j : Int) (w : World) (v : Value) (hc : v = chain l (errV k)) (hj : k ≠ j) :
    Calls Tryd.prog 15 #[v, errV j] w (Bit false w) := by
  have h17 := @run_callFunc_extern Tryd.prog 17 _ ReflectliteType.typeOf Tryd.func17 (by kernel_rfl) (by kernel_rfl) (by kernel_rfl) (by kernel_rfl)
  have tT := Tryd.typeOf25
  have cT := Tryd.cmpCall25
  have mC := Tryd.methodComparable
  have hlow := fun W => is_err_err_no l k j W v hc hj
  unfold errV at hlow
  obtain ⟨U, y, hy⟩ := chain_iface l 25 (.int .i64 k)
  obtain rfl : v = .iface U y := hc.trans hy
  clear hc hy hj
  have Hlow := Lib.hid hlow; clear hlow
  unfold errV
  go_enter Tryd.func15, Tryd.ntmps15
  go_wp2_with (go_at_call 18; refine (Hlow.out _).mono ?_; rintro e w' ⟨rfl, hb⟩)
  go_ret
  exact ⟨rfl, hb⟩

set_option maxHeartbeats 1000000 in
theorem Is_err_loss_no (l : List (ByteArray × Int)) (k : Int) (x y z : Int) (w : World) (v : Value) (hc : v = chain l (errV k)) :
    Calls Tryd.prog 15 #[v, lossV x y z] w (Bit false w) := by
  have h17 := @run_callFunc_extern Tryd.prog 17 _ ReflectliteType.typeOf Tryd.func17 (by kernel_rfl) (by kernel_rfl) (by kernel_rfl) (by kernel_rfl)
  have tT := Tryd.typeOf29
  have cT := Tryd.cmpCall29
  have mC := Tryd.methodComparable
  have hlow := fun W => is_err_loss_no l k x y z W v hc
  unfold lossV at hlow
  obtain ⟨U, y, hy⟩ := chain_iface l 25 (.int .i64 k)
  obtain rfl : v = .iface U y := hc.trans hy
  clear hc hy
  have Hlow := Lib.hid hlow; clear hlow
  unfold lossV
  go_enter Tryd.func15, Tryd.ntmps15
  go_wp2_with (go_at_call 18; refine (Hlow.out _).mono ?_; rintro e w' ⟨rfl, hb⟩)
  go_ret
  exact ⟨rfl, hb⟩

set_option maxHeartbeats 1000000 in
theorem Is_loss_err_yes (l : List (ByteArray × Int)) (a b c : Int) (j : Int) (w : World) (v : Value) (hc : v = chain l (lossV a b c)) (hj : j = 6) :
    Calls Tryd.prog 15 #[v, errV j] w (Bit true w) := by
  have h17 := @run_callFunc_extern Tryd.prog 17 _ ReflectliteType.typeOf Tryd.func17 (by kernel_rfl) (by kernel_rfl) (by kernel_rfl) (by kernel_rfl)
  have tT := Tryd.typeOf25
  have cT := Tryd.cmpCall25
  have mC := Tryd.methodComparable
  have hlow := fun W => is_loss_err_yes l a b c j W v hc hj
  unfold errV at hlow
  obtain ⟨U, y, hy⟩ := chain_iface l 29 (.agg #[.int .i64 a, .int .i64 b, .int .i64 c])
  obtain rfl : v = .iface U y := hc.trans hy
  clear hc hy hj
  have Hlow := Lib.hid hlow; clear hlow
  unfold errV
  go_enter Tryd.func15, Tryd.ntmps15
  go_wp2_with (go_at_call 18; refine (Hlow.out _).mono ?_; rintro e w' ⟨rfl, hb⟩)
  go_ret
  exact ⟨rfl, hb⟩

set_option maxHeartbeats 1000000 in
theorem Is_loss_err_no (l : List (ByteArray × Int)) (a b c : Int) (j : Int) (w : World) (v : Value) (hc : v = chain l (lossV a b c)) (hj : j ≠ 6) :
    Calls Tryd.prog 15 #[v, errV j] w (Bit false w) := by
  have h17 := @run_callFunc_extern Tryd.prog 17 _ ReflectliteType.typeOf Tryd.func17 (by kernel_rfl) (by kernel_rfl) (by kernel_rfl) (by kernel_rfl)
  have tT := Tryd.typeOf25
  have cT := Tryd.cmpCall25
  have mC := Tryd.methodComparable
  have hlow := fun W => is_loss_err_no l a b c j W v hc hj
  unfold errV at hlow
  obtain ⟨U, y, hy⟩ := chain_iface l 29 (.agg #[.int .i64 a, .int .i64 b, .int .i64 c])
  obtain rfl : v = .iface U y := hc.trans hy
  clear hc hy hj
  have Hlow := Lib.hid hlow; clear hlow
  unfold errV
  go_enter Tryd.func15, Tryd.ntmps15
  go_wp2_with (go_at_call 18; refine (Hlow.out _).mono ?_; rintro e w' ⟨rfl, hb⟩)
  go_ret
  exact ⟨rfl, hb⟩

set_option maxHeartbeats 1000000 in
theorem Is_loss_loss_yes (l : List (ByteArray × Int)) (a b c : Int) (x y z : Int) (w : World) (v : Value) (hc : v = chain l (lossV a b c)) (hj : a = x ∧ b = y ∧ c = z) :
    Calls Tryd.prog 15 #[v, lossV x y z] w (Bit true w) := by
  have h17 := @run_callFunc_extern Tryd.prog 17 _ ReflectliteType.typeOf Tryd.func17 (by kernel_rfl) (by kernel_rfl) (by kernel_rfl) (by kernel_rfl)
  have tT := Tryd.typeOf29
  have cT := Tryd.cmpCall29
  have mC := Tryd.methodComparable
  have hlow := fun W => is_loss_loss_yes l a b c x y z W v hc hj
  unfold lossV at hlow
  obtain ⟨U, y, hy⟩ := chain_iface l 29 (.agg #[.int .i64 a, .int .i64 b, .int .i64 c])
  obtain rfl : v = .iface U y := hc.trans hy
  clear hc hy hj
  have Hlow := Lib.hid hlow; clear hlow
  unfold lossV
  go_enter Tryd.func15, Tryd.ntmps15
  go_wp2_with (go_at_call 18; refine (Hlow.out _).mono ?_; rintro e w' ⟨rfl, hb⟩)
  go_ret
  exact ⟨rfl, hb⟩

set_option maxHeartbeats 1000000 in
theorem Is_loss_loss_no (l : List (ByteArray × Int)) (a b c : Int) (x y z : Int) (w : World) (v : Value) (hc : v = chain l (lossV a b c)) (hj : ¬ (a = x ∧ b = y ∧ c = z)) :
    Calls Tryd.prog 15 #[v, lossV x y z] w (Bit false w) := by
  have h17 := @run_callFunc_extern Tryd.prog 17 _ ReflectliteType.typeOf Tryd.func17 (by kernel_rfl) (by kernel_rfl) (by kernel_rfl) (by kernel_rfl)
  have tT := Tryd.typeOf29
  have cT := Tryd.cmpCall29
  have mC := Tryd.methodComparable
  have hlow := fun W => is_loss_loss_no l a b c x y z W v hc hj
  unfold lossV at hlow
  obtain ⟨U, y, hy⟩ := chain_iface l 29 (.agg #[.int .i64 a, .int .i64 b, .int .i64 c])
  obtain rfl : v = .iface U y := hc.trans hy
  clear hc hy hj
  have Hlow := Lib.hid hlow; clear hlow
  unfold lossV
  go_enter Tryd.func15, Tryd.ntmps15
  go_wp2_with (go_at_call 18; refine (Hlow.out _).mono ?_; rintro e w' ⟨rfl, hb⟩)
  go_ret
  exact ⟨rfl, hb⟩

end Go.Proofs.YtnehangdkjalbaaDoor
