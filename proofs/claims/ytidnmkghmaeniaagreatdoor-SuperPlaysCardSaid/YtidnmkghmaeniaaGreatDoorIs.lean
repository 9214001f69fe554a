/-
  errors.Is, Go's own text, over Faults around a kind or a Loss, at the targets that are a kind or a Loss: what it answers.
-/
import Derived.Test.YtidnmkghmaeniaaGreatDoorAsTop
import Derived.Test.YtidnmkghmaeniaaGreatDoorKit
import Derived.Laws.StructEq
namespace Go.Proofs.YtidnmkghmaeniaaGreatDoor
open Go.RowKit Go.Extern.Stop Go.Stop Go.Extern


theorem Tryz.comp29 : (Tryz.prog.info? 88).map (·.comparable) = some true := by kernel_rfl
theorem eq_losses (a b c x y z : Int) (w : World) : (Op.equalIn 9999 88 (.agg #[.int .i64 a, .int .i64 b, .int .i64 c]) (.agg #[.int .i64 x, .int .i64 y, .int .i64 z])).run Tryz.prog w = .ok (a == x && b == y && c == z) w := by
  rw [run_equalIn_struct w 9998 88 _ _ (by kernel_rfl) (by kernel_rfl)]
  simp [Program.fieldsOf, Op.eqFields, part, isAgg, underlying, Tryz.underlying88, Tryz.underlying3, Result.andThen, run_equalIn_int w 9997 3 .i64 .i64 _ _ Tryz.underlying3]
  by_cases e1 : a = x <;> by_cases e2 : b = y <;> by_cases e3 : c = z <;> simp [e1, e2, e3]
theorem run_equalIn_iface_agg {P : Program} (w : World) (d : Nat) {ti tn : TypeId} {ms : Array (String × TypeId)} {i : TypeInfo} (a b : Array Value)
    (hi : P.underlying ti = some (.interface ms)) (hinfo : P.info? tn = some i) (hcomp : i.comparable = true) :
    (Op.equalIn (d + 1) ti (.iface tn (.agg a)) (.iface tn (.agg b))).run P w = (Op.equalIn d tn (.agg a) (.agg b)).run P w := by
  simp [Op.equalIn, run_underlying hi, typeInfo, hinfo, hcomp]
theorem eq_loss (a b c x y z : Int) (w : World) : (binOp .eql 37 (lossV a b c) (lossV x y z)).run Tryz.prog w = .ok (.bool (a == x && b == y && c == z)) w := by
  obtain ⟨i, hi, hcmp⟩ := Option.map_eq_some_iff.1 Tryz.comp29
  unfold lossV
  simp only [binOp]
  have h := run_equalIn_iface_agg (P := Tryz.prog) w 9999 #[.int .i64 a, .int .i64 b, .int .i64 c] #[.int .i64 x, .int .i64 y, .int .i64 z] Tryz.underlying37 hi hcmp
  rw [eq_losses] at h
  simp [Op.equal, Op.maxDepth, h]

/-- (api.Loss).Is, asked for a kind. -/
theorem lossIs_kind (a b c j : Int) (w : World) : Calls Tryz.prog 241 #[.agg #[.int .i64 a, .int .i64 b, .int .i64 c], errV j] w fun e w' => e = .returned (.bool (j == 6)) ∧ w' = w.alloc (.cells #[.int .i64 a, .int .i64 b, .int .i64 c] 88) := by
  have he := eq_err j 6
  unfold errV at *
  go_enter Tryz.func241, Tryz.ntmps241
  go_wp2
  go_ret
  exact ⟨rfl, rfl⟩
/-- (api.Loss).Is, asked for a Loss. -/
theorem lossIs_loss (a b c x y z : Int) (w : World) : Calls Tryz.prog 241 #[.agg #[.int .i64 a, .int .i64 b, .int .i64 c], lossV x y z] w fun e w' => e = .returned (.bool false) ∧ w' = w.alloc (.cells #[.int .i64 a, .int .i64 b, .int .i64 c] 88) := by
  have he := fun v1 v2 => run_eql_iface_types (P := Tryz.prog) 88 34 v1 v2 Tryz.underlying37 (by decide)
  unfold lossV
  go_enter Tryz.func241, Tryz.ntmps241
  go_wp2
  go_ret
  exact ⟨rfl, rfl⟩

def RelI (b : Value) (w : World) (v : Value) (wr : World) : Prop := ∃ l, v = chain l b ∧ Below w.heap.size w wr

set_option maxHeartbeats 1000000 in
theorem is_err_err_yes (l : List (ByteArray × Int)) (k : Int) (j : Int) (w : World) (v : Value) (hc : v = chain l (errV k)) (hj : k = j) :
    Calls Tryz.prog 123 #[v, errV j, .bool true] w (Bit true w) := by
  have d47 := fun v1 v2 => run_eql_iface_types (P := Tryz.prog) 197 34 v1 v2 Tryz.underlying37 (by decide)
  have i47 := Tryz.noIs47
  have u47 := Tryz.hasUnwrap47
  have mU := Tryz.methodUnwrap
  have mI := Tryz.methodIs
  have i25 := Tryz.noIs25
  have i29 := Tryz.hasIs29
  have u25 := Tryz.noUnwrap25
  have u29 := Tryz.noUnwrap29
  have x25 := Tryz.noUnwraps25
  have x29 := Tryz.noUnwraps29
  subst hj
  have he := eq_err k k
  simp only [errV, beq_self_eq_true] at he
  unfold errV
  go_enter Tryz.func123, Tryz.ntmps123
  go_wp2
  go_loopw [0] (fun v wr => RelI (errV k) w v wr) (fun v _ => SizeOf.sizeOf v)
  case atStart => exact ⟨l, hc, Below.refl _ _⟩
  case round =>
    obtain ⟨l, rfl, hB⟩ := hrel
    have hsz : w.heap.size ≤ wr.heap.size := hB.size
    cases l with
    | nil =>
      simp only [chain, errV]
      go_wp2
      go_ret
      exact ⟨rfl, hB⟩
    | cons p l =>
      obtain ⟨U, y, hy⟩ := chain_iface l 34 (.int .i64 k)
      simp only [chain, wrapV]
      change chain l (errV k) = _ at hy
      rw [hy]
      have Hy := Lib.hid hy; clear hy
      go_wp2_with (go_at_call 246; refine (unwrap _ _ _ _ _).mono ?_; rintro e w' ⟨rfl, rfl⟩)
      go_roundw
      case rel => exact ⟨l, Hy.out.symm, hB.alloc hsz _⟩
      case measure => exact wrapV_size _ _ _

set_option maxHeartbeats 1000000 in
theorem is_err_err_no (l : List (ByteArray × Int)) (k : Int) (j : Int) (w : World) (v : Value) (hc : v = chain l (errV k)) (hj : k ≠ j) :
    Calls Tryz.prog 123 #[v, errV j, .bool true] w (Bit false w) := by
  have d47 := fun v1 v2 => run_eql_iface_types (P := Tryz.prog) 197 34 v1 v2 Tryz.underlying37 (by decide)
  have i47 := Tryz.noIs47
  have u47 := Tryz.hasUnwrap47
  have mU := Tryz.methodUnwrap
  have mI := Tryz.methodIs
  have i25 := Tryz.noIs25
  have i29 := Tryz.hasIs29
  have u25 := Tryz.noUnwrap25
  have u29 := Tryz.noUnwrap29
  have x25 := Tryz.noUnwraps25
  have x29 := Tryz.noUnwraps29
  have he := eq_err k j
  rw [show (k == j) = false from by simpa using hj] at he
  unfold errV at he
  unfold errV
  go_enter Tryz.func123, Tryz.ntmps123
  go_wp2
  go_loopw [0] (fun v wr => RelI (errV k) w v wr) (fun v _ => SizeOf.sizeOf v)
  case atStart => exact ⟨l, hc, Below.refl _ _⟩
  case round =>
    obtain ⟨l, rfl, hB⟩ := hrel
    have hsz : w.heap.size ≤ wr.heap.size := hB.size
    cases l with
    | nil =>
      simp only [chain, errV]
      go_wp2
      go_ret
      exact ⟨rfl, hB⟩
    | cons p l =>
      obtain ⟨U, y, hy⟩ := chain_iface l 34 (.int .i64 k)
      simp only [chain, wrapV]
      change chain l (errV k) = _ at hy
      rw [hy]
      have Hy := Lib.hid hy; clear hy
      go_wp2_with (go_at_call 246; refine (unwrap _ _ _ _ _).mono ?_; rintro e w' ⟨rfl, rfl⟩)
      go_roundw
      case rel => exact ⟨l, Hy.out.symm, hB.alloc hsz _⟩
      case measure => exact wrapV_size _ _ _

set_option maxHeartbeats 1000000 in
theorem is_err_loss_no (l : List (ByteArray × Int)) (k : Int) (x y z : Int) (w : World) (v : Value) (hc : v = chain l (errV k)) :
    Calls Tryz.prog 123 #[v, lossV x y z, .bool true] w (Bit false w) := by
  have d47 := fun v1 v2 => run_eql_iface_types (P := Tryz.prog) 197 88 v1 v2 Tryz.underlying37 (by decide)
  have i47 := Tryz.noIs47
  have u47 := Tryz.hasUnwrap47
  have mU := Tryz.methodUnwrap
  have mI := Tryz.methodIs
  have i25 := Tryz.noIs25
  have i29 := Tryz.hasIs29
  have u25 := Tryz.noUnwrap25
  have u29 := Tryz.noUnwrap29
  have x25 := Tryz.noUnwraps25
  have x29 := Tryz.noUnwraps29
  have he := fun v1 v2 => run_eql_iface_types (P := Tryz.prog) 34 88 v1 v2 Tryz.underlying37 (by decide)
  unfold lossV
  go_enter Tryz.func123, Tryz.ntmps123
  go_wp2
  go_loopw [0] (fun v wr => RelI (errV k) w v wr) (fun v _ => SizeOf.sizeOf v)
  case atStart => exact ⟨l, hc, Below.refl _ _⟩
  case round =>
    obtain ⟨l, rfl, hB⟩ := hrel
    have hsz : w.heap.size ≤ wr.heap.size := hB.size
    cases l with
    | nil =>
      simp only [chain, errV]
      go_wp2
      go_ret
      exact ⟨rfl, hB⟩
    | cons p l =>
      obtain ⟨U, y, hy⟩ := chain_iface l 34 (.int .i64 k)
      simp only [chain, wrapV]
      change chain l (errV k) = _ at hy
      rw [hy]
      have Hy := Lib.hid hy; clear hy
      go_wp2_with (go_at_call 246; refine (unwrap _ _ _ _ _).mono ?_; rintro e w' ⟨rfl, rfl⟩)
      go_roundw
      case rel => exact ⟨l, Hy.out.symm, hB.alloc hsz _⟩
      case measure => exact wrapV_size _ _ _

set_option maxHeartbeats 1000000 in
theorem is_loss_err_yes (l : List (ByteArray × Int)) (a b c : Int) (j : Int) (w : World) (v : Value) (hc : v = chain l (lossV a b c)) (hj : j = 6) :
    Calls Tryz.prog 123 #[v, errV j, .bool true] w (Bit true w) := by
  have d47 := fun v1 v2 => run_eql_iface_types (P := Tryz.prog) 197 34 v1 v2 Tryz.underlying37 (by decide)
  have i47 := Tryz.noIs47
  have u47 := Tryz.hasUnwrap47
  have mU := Tryz.methodUnwrap
  have mI := Tryz.methodIs
  have i25 := Tryz.noIs25
  have i29 := Tryz.hasIs29
  have u25 := Tryz.noUnwrap25
  have u29 := Tryz.noUnwrap29
  have x25 := Tryz.noUnwraps25
  have x29 := Tryz.noUnwraps29
  have he := fun v1 v2 => run_eql_iface_types (P := Tryz.prog) 88 34 v1 v2 Tryz.underlying37 (by decide)
  subst hj
  have hli0 := lossIs_kind a b c 6
  simp only [show ((6 : Int) == 6) = true from rfl] at hli0
  unfold errV at hli0
  have Hli := Lib.hid hli0; clear hli0
  unfold errV
  go_enter Tryz.func123, Tryz.ntmps123
  go_wp2
  go_loopw [0] (fun v wr => RelI (lossV a b c) w v wr) (fun v _ => SizeOf.sizeOf v)
  case atStart => exact ⟨l, hc, Below.refl _ _⟩
  case round =>
    obtain ⟨l, rfl, hB⟩ := hrel
    have hsz : w.heap.size ≤ wr.heap.size := hB.size
    cases l with
    | nil =>
      simp only [chain, lossV]
      go_wp2_with (go_at_call 241; refine (Hli.out _).mono ?_; rintro e w' ⟨rfl, rfl⟩)
      go_ret
      exact ⟨rfl, hB.alloc hsz _⟩
    | cons p l =>
      obtain ⟨U, y, hy⟩ := chain_iface l 88 (.agg #[.int .i64 a, .int .i64 b, .int .i64 c])
      simp only [chain, wrapV]
      change chain l (lossV a b c) = _ at hy
      rw [hy]
      have Hy := Lib.hid hy; clear hy
      go_wp2_with (go_at_call 246; refine (unwrap _ _ _ _ _).mono ?_; rintro e w' ⟨rfl, rfl⟩)
      go_roundw
      case rel => exact ⟨l, Hy.out.symm, hB.alloc hsz _⟩
      case measure => exact wrapV_size _ _ _

set_option maxHeartbeats 1000000 in
theorem is_loss_err_no (l : List (ByteArray × Int)) (a b c : Int) (j : Int) (w : World) (v : Value) (hc : v = chain l (lossV a b c)) (hj : j ≠ 6) :
    Calls Tryz.prog 123 #[v, errV j, .bool true] w (Bit false w) := by
  have d47 := fun v1 v2 => run_eql_iface_types (P := Tryz.prog) 197 34 v1 v2 Tryz.underlying37 (by decide)
  have i47 := Tryz.noIs47
  have u47 := Tryz.hasUnwrap47
  have mU := Tryz.methodUnwrap
  have mI := Tryz.methodIs
  have i25 := Tryz.noIs25
  have i29 := Tryz.hasIs29
  have u25 := Tryz.noUnwrap25
  have u29 := Tryz.noUnwrap29
  have x25 := Tryz.noUnwraps25
  have x29 := Tryz.noUnwraps29
  have he := fun v1 v2 => run_eql_iface_types (P := Tryz.prog) 88 34 v1 v2 Tryz.underlying37 (by decide)
  have hli0 := lossIs_kind a b c j
  simp only [show (j == 6) = false from by simpa using hj] at hli0
  unfold errV at hli0
  have Hli := Lib.hid hli0; clear hli0
  unfold errV
  go_enter Tryz.func123, Tryz.ntmps123
  go_wp2
  go_loopw [0] (fun v wr => RelI (lossV a b c) w v wr) (fun v _ => SizeOf.sizeOf v)
  case atStart => exact ⟨l, hc, Below.refl _ _⟩
  case round =>
    obtain ⟨l, rfl, hB⟩ := hrel
    have hsz : w.heap.size ≤ wr.heap.size := hB.size
    cases l with
    | nil =>
      simp only [chain, lossV]
      go_wp2_with (go_at_call 241; refine (Hli.out _).mono ?_; rintro e w' ⟨rfl, rfl⟩)
      go_ret
      exact ⟨rfl, hB.alloc hsz _⟩
    | cons p l =>
      obtain ⟨U, y, hy⟩ := chain_iface l 88 (.agg #[.int .i64 a, .int .i64 b, .int .i64 c])
      simp only [chain, wrapV]
      change chain l (lossV a b c) = _ at hy
      rw [hy]
      have Hy := Lib.hid hy; clear hy
      go_wp2_with (go_at_call 246; refine (unwrap _ _ _ _ _).mono ?_; rintro e w' ⟨rfl, rfl⟩)
      go_roundw
      case rel => exact ⟨l, Hy.out.symm, hB.alloc hsz _⟩
      case measure => exact wrapV_size _ _ _

set_option maxHeartbeats 1000000 in
theorem is_loss_loss_yes (l : List (ByteArray × Int)) (a b c : Int) (x y z : Int) (w : World) (v : Value) (hc : v = chain l (lossV a b c)) (hj : a = x ∧ b = y ∧ c = z) :
    Calls Tryz.prog 123 #[v, lossV x y z, .bool true] w (Bit true w) := by
  have d47 := fun v1 v2 => run_eql_iface_types (P := Tryz.prog) 197 88 v1 v2 Tryz.underlying37 (by decide)
  have i47 := Tryz.noIs47
  have u47 := Tryz.hasUnwrap47
  have mU := Tryz.methodUnwrap
  have mI := Tryz.methodIs
  have i25 := Tryz.noIs25
  have i29 := Tryz.hasIs29
  have u25 := Tryz.noUnwrap25
  have u29 := Tryz.noUnwrap29
  have x25 := Tryz.noUnwraps25
  have x29 := Tryz.noUnwraps29
  obtain ⟨rfl, rfl, rfl⟩ := hj
  have he := eq_loss a b c a b c
  simp only [lossV, beq_self_eq_true, Bool.and_self] at he
  unfold lossV
  go_enter Tryz.func123, Tryz.ntmps123
  go_wp2
  go_loopw [0] (fun v wr => RelI (lossV a b c) w v wr) (fun v _ => SizeOf.sizeOf v)
  case atStart => exact ⟨l, hc, Below.refl _ _⟩
  case round =>
    obtain ⟨l, rfl, hB⟩ := hrel
    have hsz : w.heap.size ≤ wr.heap.size := hB.size
    cases l with
    | nil =>
      simp only [chain, lossV]
      go_wp2
      go_ret
      exact ⟨rfl, hB⟩
    | cons p l =>
      obtain ⟨U, y, hy⟩ := chain_iface l 88 (.agg #[.int .i64 a, .int .i64 b, .int .i64 c])
      simp only [chain, wrapV]
      change chain l (lossV a b c) = _ at hy
      rw [hy]
      have Hy := Lib.hid hy; clear hy
      go_wp2_with (go_at_call 246; refine (unwrap _ _ _ _ _).mono ?_; rintro e w' ⟨rfl, rfl⟩)
      go_roundw
      case rel => exact ⟨l, Hy.out.symm, hB.alloc hsz _⟩
      case measure => exact wrapV_size _ _ _

set_option maxHeartbeats 1000000 in
theorem is_loss_loss_no (l : List (ByteArray × Int)) (a b c : Int) (x y z : Int) (w : World) (v : Value) (hc : v = chain l (lossV a b c)) (hj : ¬ (a = x ∧ b = y ∧ c = z)) :
    Calls Tryz.prog 123 #[v, lossV x y z, .bool true] w (Bit false w) := by
  have d47 := fun v1 v2 => run_eql_iface_types (P := Tryz.prog) 197 88 v1 v2 Tryz.underlying37 (by decide)
  have i47 := Tryz.noIs47
  have u47 := Tryz.hasUnwrap47
  have mU := Tryz.methodUnwrap
  have mI := Tryz.methodIs
  have i25 := Tryz.noIs25
  have i29 := Tryz.hasIs29
  have u25 := Tryz.noUnwrap25
  have u29 := Tryz.noUnwrap29
  have x25 := Tryz.noUnwraps25
  have x29 := Tryz.noUnwraps29
  have he := eq_loss a b c x y z
  rw [show (a == x && b == y && c == z) = false from by simpa [and_assoc] using hj] at he
  unfold lossV at he
  have Hli := Lib.hid (lossIs_loss a b c x y z)
  unfold lossV at Hli
  unfold lossV
  go_enter Tryz.func123, Tryz.ntmps123
  go_wp2
  go_loopw [0] (fun v wr => RelI (lossV a b c) w v wr) (fun v _ => SizeOf.sizeOf v)
  case atStart => exact ⟨l, hc, Below.refl _ _⟩
  case round =>
    obtain ⟨l, rfl, hB⟩ := hrel
    have hsz : w.heap.size ≤ wr.heap.size := hB.size
    cases l with
    | nil =>
      simp only [chain, lossV]
      go_wp2_with (go_at_call 241; refine (Hli.out _).mono ?_; rintro e w' ⟨rfl, rfl⟩)
      go_ret
      exact ⟨rfl, hB.alloc hsz _⟩
    | cons p l =>
      obtain ⟨U, y, hy⟩ := chain_iface l 88 (.agg #[.int .i64 a, .int .i64 b, .int .i64 c])
      simp only [chain, wrapV]
      change chain l (lossV a b c) = _ at hy
      rw [hy]
      have Hy := Lib.hid hy; clear hy
      go_wp2_with (go_at_call 246; refine (unwrap _ _ _ _ _).mono ?_; rintro e w' ⟨rfl, rfl⟩)
      go_roundw
      case rel => exact ⟨l, Hy.out.symm, hB.alloc hsz _⟩
      case measure => exact wrapV_size _ _ _

end Go.Proofs.YtidnmkghmaeniaaGreatDoor
