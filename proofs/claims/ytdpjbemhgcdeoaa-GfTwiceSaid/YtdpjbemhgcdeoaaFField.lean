/-
  stavelaw3.GfField: the walk.
-/
import Derived.Test.YtdpjbemhgcdeoaaFRuns
namespace Go.Proofs.Ytdpjbemhgcdeoaa
open Go.RowKit Gf
theorem u8x {a b : Nat} (ha : a < 256) (hb : b < 256) : bits .xor .u8 (a : Int) (b : Int) = ((a ^^^ b : Nat) : Int) := u8_xor_nat a b ha hb
theorem u8x0 {b : Nat} (hb : b < 256) : bits .xor .u8 0 (b : Int) = (b : Int) := by have := u8_xor_nat 0 b (by omega) hb; rwa [Nat.zero_xor] at this
/-- gf.Mul, its product spelled another way. -/
theorem mul_as (w : World) (b : Nat) (hF : FieldIn w b) (x y z : Nat) (hx : x < 256) (hy : y < 256) (h : mul x y = z) : Calls Try.prog 11 #[.pointer (some ⟨b, 0, none⟩), .int .u8 x, .int .u8 y] w (U8Drew z w) := by
  rw [← h]; exact mul_any w b hF x y hx hy
theorem mul_as1 (w : World) (b : Nat) (hF : FieldIn w b) (x : Nat) (hx : x < 256) : Calls Try.prog 11 #[.pointer (some ⟨b, 0, none⟩), .int .u8 x, .int .u8 1] w (U8Drew x w) :=
  mul_as w b hF x 1 x hx (by omega) (mul_one hx)
theorem mul_as0 (w : World) (b : Nat) (hF : FieldIn w b) (x : Nat) (hx : x < 256) : Calls Try.prog 11 #[.pointer (some ⟨b, 0, none⟩), .int .u8 x, .int .u8 0] w (U8Drew 0 w) :=
  mul_as w b hF x 0 0 hx (by omega) (mul_zero x)
theorem inv_as0 (w : World) (b : Nat) (hF : FieldIn w b) : Calls Try.prog 12 #[.pointer (some ⟨b, 0, none⟩), .int .u8 0] w (U8Same 0 w) := by
  have := inv_any w b hF 0 (by omega); rwa [inv_zero] at this
theorem div_as (w : World) (b : Nat) (hF : FieldIn w b) (x y z : Nat) (hx : x < 256) (hy : y < 256) (h : mul x (inv y) = z) : Calls Try.prog 17 #[.pointer (some ⟨b, 0, none⟩), .int .u8 x, .int .u8 y] w (U8Drew z w) := by
  rw [← h]; exact div_any w b hF x y hx hy
theorem div_as0 (w : World) (b : Nat) (hF : FieldIn w b) (x : Nat) (hx : x < 256) : Calls Try.prog 17 #[.pointer (some ⟨b, 0, none⟩), .int .u8 x, .int .u8 0] w (U8Drew 0 w) :=
  div_as w b hF x 0 0 hx (by omega) (by rw [inv_zero, mul_zero])
theorem not0 {a : Nat} (h : a ≠ 0) : ¬ (a : Int) = 0 := fun e => h (by omega)
set_option maxHeartbeats 1000000 in
theorem field_00 (c : Nat) (w : World) (hc : c < 256) : Calls Try.prog 5 #[.int .u8 0, .int .u8 0, .int .u8 c] w (Bit true w) := by
  have x1 := u8x0 hc
  have x2 : bits .xor .u8 0 0 = 0 := by decide
  go_enter Try.func5, Try.ntmps5
  go_wp2_with fail
  go_at_call 10
  refine (make_any _).mono ?_
  rintro e w' ⟨rfl, hF, hz, hbl⟩
  have HF := Lib.hid hF
  have HZ := Lib.hid hz
  clear hF hz
  go_wp2_with fail
  go_at_call 11
  refine (mul_as _ _ (by repeat (first | exact HF.out | apply FieldIn.drewN)) (0) (0) (0) (by first | assumption | exact mul_lt _ _ | exact inv_lt _ | exact xor_lt hb hc | omega) (by first | assumption | exact mul_lt _ _ | exact inv_lt _ | exact xor_lt hb hc | omega) (by first | rfl | exact zero_mul _ | exact mul_zero _ | exact mul_comm _ _)).mono ?_
  rintro e w' ⟨rfl, k1, rfl⟩
  go_wp2_with fail
  go_at_call 11
  refine (mul_as _ _ (by repeat (first | exact HF.out | apply FieldIn.drewN)) (0) (0) (0) (by first | assumption | exact mul_lt _ _ | exact inv_lt _ | exact xor_lt hb hc | omega) (by first | assumption | exact mul_lt _ _ | exact inv_lt _ | exact xor_lt hb hc | omega) (by first | rfl | exact zero_mul _ | exact mul_zero _ | exact mul_comm _ _)).mono ?_
  rintro e w' ⟨rfl, k2, rfl⟩
  go_wp2_with fail
  go_at_call 11
  refine (mul_as _ _ (by repeat (first | exact HF.out | apply FieldIn.drewN)) (0) (0) (0) (by first | assumption | exact mul_lt _ _ | exact inv_lt _ | exact xor_lt hb hc | omega) (by first | assumption | exact mul_lt _ _ | exact inv_lt _ | exact xor_lt hb hc | omega) (by first | rfl | exact zero_mul _ | exact mul_zero _ | exact mul_comm _ _)).mono ?_
  rintro e w' ⟨rfl, k3, rfl⟩
  go_wp2_with fail
  go_at_call 11
  refine (mul_as _ _ (by repeat (first | exact HF.out | apply FieldIn.drewN)) (0) (c) (0) (by first | assumption | exact mul_lt _ _ | exact inv_lt _ | exact xor_lt hb hc | omega) (by first | assumption | exact mul_lt _ _ | exact inv_lt _ | exact xor_lt hb hc | omega) (by first | rfl | exact zero_mul _ | exact mul_zero _ | exact mul_comm _ _)).mono ?_
  rintro e w' ⟨rfl, k4, rfl⟩
  go_wp2_with fail
  go_at_call 11
  refine (mul_as _ _ (by repeat (first | exact HF.out | apply FieldIn.drewN)) (0) (c) (0) (by first | assumption | exact mul_lt _ _ | exact inv_lt _ | exact xor_lt hb hc | omega) (by first | assumption | exact mul_lt _ _ | exact inv_lt _ | exact xor_lt hb hc | omega) (by first | rfl | exact zero_mul _ | exact mul_zero _ | exact mul_comm _ _)).mono ?_
  rintro e w' ⟨rfl, k5, rfl⟩
  go_wp2_with fail
  go_at_call 11
  refine (mul_as _ _ (by repeat (first | exact HF.out | apply FieldIn.drewN)) (0) (0) (0) (by first | assumption | exact mul_lt _ _ | exact inv_lt _ | exact xor_lt hb hc | omega) (by first | assumption | exact mul_lt _ _ | exact inv_lt _ | exact xor_lt hb hc | omega) (by first | exact zero_mul _ | exact mul_zero _ | exact (mul_assoc ha hb hc).symm)).mono ?_
  rintro e w' ⟨rfl, k6, rfl⟩
  go_wp2_with fail
  go_at_call 11
  refine (mul_as _ _ (by repeat (first | exact HF.out | apply FieldIn.drewN)) (0) (c) (0) (by first | assumption | exact mul_lt _ _ | exact inv_lt _ | exact xor_lt hb hc | omega) (by first | assumption | exact mul_lt _ _ | exact inv_lt _ | exact xor_lt hb hc | omega) (by first | exact zero_mul _ | rfl | exact mul_xor hb hc)).mono ?_
  rintro e w' ⟨rfl, k7, rfl⟩
  go_wp2_with fail
  go_at_call 11
  refine (mul_as _ _ (by repeat (first | exact HF.out | apply FieldIn.drewN)) (0) (0) (0) (by first | assumption | exact mul_lt _ _ | exact inv_lt _ | exact xor_lt hb hc | omega) (by first | assumption | exact mul_lt _ _ | exact inv_lt _ | exact xor_lt hb hc | omega) (by first | rfl | exact zero_mul _ | exact mul_zero _ | exact mul_comm _ _)).mono ?_
  rintro e w' ⟨rfl, k8, rfl⟩
  go_wp2_with fail
  go_at_call 11
  refine (mul_as _ _ (by repeat (first | exact HF.out | apply FieldIn.drewN)) (0) (c) (0) (by first | assumption | exact mul_lt _ _ | exact inv_lt _ | exact xor_lt hb hc | omega) (by first | assumption | exact mul_lt _ _ | exact inv_lt _ | exact xor_lt hb hc | omega) (by first | rfl | exact zero_mul _ | exact mul_zero _ | exact mul_comm _ _)).mono ?_
  rintro e w' ⟨rfl, k9, rfl⟩
  go_wp2_with fail
  go_at_call 11
  refine (mul_as1 _ _ (by repeat (first | exact HF.out | apply FieldIn.drewN)) 0 (by first | assumption | exact mul_lt _ _ | exact inv_lt _ | exact xor_lt hb hc | omega)).mono ?_
  rintro e w' ⟨rfl, k10, rfl⟩
  go_wp2_with fail
  go_at_call 11
  refine (mul_as0 _ _ (by repeat (first | exact HF.out | apply FieldIn.drewN)) 0 (by first | assumption | exact mul_lt _ _ | exact inv_lt _ | exact xor_lt hb hc | omega)).mono ?_
  rintro e w' ⟨rfl, k11, rfl⟩
  go_wp2_with fail
  go_at_call 12
  refine (inv_as0 _ _ (by repeat (first | exact HF.out | apply FieldIn.drewN))).mono ?_
  rintro e w' ⟨rfl, rfl⟩
  go_wp2_with fail
  go_at_call 17
  refine (div_as0 _ _ (by repeat (first | exact HF.out | apply FieldIn.drewN)) 0 (by first | assumption | exact mul_lt _ _ | exact inv_lt _ | exact xor_lt hb hc | omega)).mono ?_
  rintro e w' ⟨rfl, k12, rfl⟩
  go_wp2_with fail
  go_at_call 3
  refine (runs_any _).mono ?_
  rintro e w' ⟨rfl, hb'⟩
  go_wp2
  go_ret
  exact bit rfl (bthen (by repeat (first | exact hbl | apply below_drewN)) hb')
set_option maxHeartbeats 1000000 in
theorem field_01 (b c : Nat) (w : World) (hb : b < 256) (hc : c < 256) (hb0 : b ≠ 0) : Calls Try.prog 5 #[.int .u8 0, .int .u8 b, .int .u8 c] w (Bit true w) := by
  have x1 := u8x hb hc
  have x2 : bits .xor .u8 0 0 = 0 := by decide
  have zb := not0 hb0
  have HB := Lib.hid hb0
  clear hb0
  go_enter Try.func5, Try.ntmps5
  go_wp2_with fail
  go_at_call 10
  refine (make_any _).mono ?_
  rintro e w' ⟨rfl, hF, hz, hbl⟩
  have HF := Lib.hid hF
  have HZ := Lib.hid hz
  clear hF hz
  go_wp2_with fail
  go_at_call 11
  refine (mul_as _ _ (by repeat (first | exact HF.out | apply FieldIn.drewN)) (0) (b) (0) (by first | assumption | exact mul_lt _ _ | exact inv_lt _ | exact xor_lt hb hc | omega) (by first | assumption | exact mul_lt _ _ | exact inv_lt _ | exact xor_lt hb hc | omega) (by first | rfl | exact zero_mul _ | exact mul_zero _ | exact mul_comm _ _)).mono ?_
  rintro e w' ⟨rfl, k1, rfl⟩
  go_wp2_with fail
  go_at_call 11
  refine (mul_as _ _ (by repeat (first | exact HF.out | apply FieldIn.drewN)) (b) (0) (0) (by first | assumption | exact mul_lt _ _ | exact inv_lt _ | exact xor_lt hb hc | omega) (by first | assumption | exact mul_lt _ _ | exact inv_lt _ | exact xor_lt hb hc | omega) (by first | rfl | exact zero_mul _ | exact mul_zero _ | exact mul_comm _ _)).mono ?_
  rintro e w' ⟨rfl, k2, rfl⟩
  go_wp2_with fail
  go_at_call 11
  refine (mul_as _ _ (by repeat (first | exact HF.out | apply FieldIn.drewN)) (0) (b) (0) (by first | assumption | exact mul_lt _ _ | exact inv_lt _ | exact xor_lt hb hc | omega) (by first | assumption | exact mul_lt _ _ | exact inv_lt _ | exact xor_lt hb hc | omega) (by first | rfl | exact zero_mul _ | exact mul_zero _ | exact mul_comm _ _)).mono ?_
  rintro e w' ⟨rfl, k3, rfl⟩
  go_wp2_with fail
  go_at_call 11
  refine (mul_as _ _ (by repeat (first | exact HF.out | apply FieldIn.drewN)) (0) (c) (0) (by first | assumption | exact mul_lt _ _ | exact inv_lt _ | exact xor_lt hb hc | omega) (by first | assumption | exact mul_lt _ _ | exact inv_lt _ | exact xor_lt hb hc | omega) (by first | rfl | exact zero_mul _ | exact mul_zero _ | exact mul_comm _ _)).mono ?_
  rintro e w' ⟨rfl, k4, rfl⟩
  go_wp2_with fail
  go_at_call 11
  refine (mul_as _ _ (by repeat (first | exact HF.out | apply FieldIn.drewN)) (b) (c) (mul b c) (by first | assumption | exact mul_lt _ _ | exact inv_lt _ | exact xor_lt hb hc | omega) (by first | assumption | exact mul_lt _ _ | exact inv_lt _ | exact xor_lt hb hc | omega) (by first | rfl | exact zero_mul _ | exact mul_zero _ | exact mul_comm _ _)).mono ?_
  rintro e w' ⟨rfl, k5, rfl⟩
  go_wp2_with fail
  go_at_call 11
  refine (mul_as _ _ (by repeat (first | exact HF.out | apply FieldIn.drewN)) (0) (mul b c) (0) (by first | assumption | exact mul_lt _ _ | exact inv_lt _ | exact xor_lt hb hc | omega) (by first | assumption | exact mul_lt _ _ | exact inv_lt _ | exact xor_lt hb hc | omega) (by first | exact zero_mul _ | exact mul_zero _ | exact (mul_assoc ha hb hc).symm)).mono ?_
  rintro e w' ⟨rfl, k6, rfl⟩
  go_wp2_with fail
  go_at_call 11
  refine (mul_as _ _ (by repeat (first | exact HF.out | apply FieldIn.drewN)) (0) (b ^^^ c) (0) (by first | assumption | exact mul_lt _ _ | exact inv_lt _ | exact xor_lt hb hc | omega) (by first | assumption | exact mul_lt _ _ | exact inv_lt _ | exact xor_lt hb hc | omega) (by first | exact zero_mul _ | rfl | exact mul_xor hb hc)).mono ?_
  rintro e w' ⟨rfl, k7, rfl⟩
  go_wp2_with fail
  go_at_call 11
  refine (mul_as _ _ (by repeat (first | exact HF.out | apply FieldIn.drewN)) (0) (b) (0) (by first | assumption | exact mul_lt _ _ | exact inv_lt _ | exact xor_lt hb hc | omega) (by first | assumption | exact mul_lt _ _ | exact inv_lt _ | exact xor_lt hb hc | omega) (by first | rfl | exact zero_mul _ | exact mul_zero _ | exact mul_comm _ _)).mono ?_
  rintro e w' ⟨rfl, k8, rfl⟩
  go_wp2_with fail
  go_at_call 11
  refine (mul_as _ _ (by repeat (first | exact HF.out | apply FieldIn.drewN)) (0) (c) (0) (by first | assumption | exact mul_lt _ _ | exact inv_lt _ | exact xor_lt hb hc | omega) (by first | assumption | exact mul_lt _ _ | exact inv_lt _ | exact xor_lt hb hc | omega) (by first | rfl | exact zero_mul _ | exact mul_zero _ | exact mul_comm _ _)).mono ?_
  rintro e w' ⟨rfl, k9, rfl⟩
  go_wp2_with fail
  go_at_call 11
  refine (mul_as1 _ _ (by repeat (first | exact HF.out | apply FieldIn.drewN)) 0 (by first | assumption | exact mul_lt _ _ | exact inv_lt _ | exact xor_lt hb hc | omega)).mono ?_
  rintro e w' ⟨rfl, k10, rfl⟩
  go_wp2_with fail
  go_at_call 11
  refine (mul_as0 _ _ (by repeat (first | exact HF.out | apply FieldIn.drewN)) 0 (by first | assumption | exact mul_lt _ _ | exact inv_lt _ | exact xor_lt hb hc | omega)).mono ?_
  rintro e w' ⟨rfl, k11, rfl⟩
  go_wp2_with fail
  go_at_call 17
  refine (div_as _ _ (by repeat (first | exact HF.out | apply FieldIn.drewN)) 0 b 0 (by first | assumption | exact mul_lt _ _ | exact inv_lt _ | exact xor_lt hb hc | omega) hb (by first | rfl | exact zero_mul _)).mono ?_
  rintro e w' ⟨rfl, k12, rfl⟩
  go_wp2_with fail
  go_at_call 11
  refine (mul_as _ _ (by repeat (first | exact HF.out | apply FieldIn.drewN)) (0) (b) (0) (by first | assumption | exact mul_lt _ _ | exact inv_lt _ | exact xor_lt hb hc | omega) (by first | assumption | exact mul_lt _ _ | exact inv_lt _ | exact xor_lt hb hc | omega) (by first | rfl | exact zero_mul _ | exact mul_zero _ | exact mul_comm _ _)).mono ?_
  rintro e w' ⟨rfl, k13, rfl⟩
  go_wp2_with fail
  go_at_call 12
  refine (inv_as0 _ _ (by repeat (first | exact HF.out | apply FieldIn.drewN))).mono ?_
  rintro e w' ⟨rfl, rfl⟩
  go_wp2_with fail
  go_at_call 17
  refine (div_as0 _ _ (by repeat (first | exact HF.out | apply FieldIn.drewN)) 0 (by first | assumption | exact mul_lt _ _ | exact inv_lt _ | exact xor_lt hb hc | omega)).mono ?_
  rintro e w' ⟨rfl, k14, rfl⟩
  go_wp2_with fail
  go_at_call 3
  refine (runs_any _).mono ?_
  rintro e w' ⟨rfl, hb'⟩
  go_wp2
  go_ret
  exact bit rfl (bthen (by repeat (first | exact hbl | apply below_drewN)) hb')
set_option maxHeartbeats 1000000 in
theorem field_10 (a c : Nat) (w : World) (ha : a < 256) (hc : c < 256) (ha0 : a ≠ 0) : Calls Try.prog 5 #[.int .u8 a, .int .u8 0, .int .u8 c] w (Bit true w) := by
  have x1 := u8x0 hc
  have x2 := u8x0 (mul_lt a c)
  have za := not0 ha0
  have HA := Lib.hid ha0
  clear ha0
  go_enter Try.func5, Try.ntmps5
  go_wp2_with fail
  go_at_call 10
  refine (make_any _).mono ?_
  rintro e w' ⟨rfl, hF, hz, hbl⟩
  have HF := Lib.hid hF
  have HZ := Lib.hid hz
  clear hF hz
  go_wp2_with fail
  go_at_call 11
  refine (mul_as _ _ (by repeat (first | exact HF.out | apply FieldIn.drewN)) (a) (0) (0) (by first | assumption | exact mul_lt _ _ | exact inv_lt _ | exact xor_lt hb hc | omega) (by first | assumption | exact mul_lt _ _ | exact inv_lt _ | exact xor_lt hb hc | omega) (by first | rfl | exact zero_mul _ | exact mul_zero _ | exact mul_comm _ _)).mono ?_
  rintro e w' ⟨rfl, k1, rfl⟩
  go_wp2_with fail
  go_at_call 11
  refine (mul_as _ _ (by repeat (first | exact HF.out | apply FieldIn.drewN)) (0) (a) (0) (by first | assumption | exact mul_lt _ _ | exact inv_lt _ | exact xor_lt hb hc | omega) (by first | assumption | exact mul_lt _ _ | exact inv_lt _ | exact xor_lt hb hc | omega) (by first | rfl | exact zero_mul _ | exact mul_zero _ | exact mul_comm _ _)).mono ?_
  rintro e w' ⟨rfl, k2, rfl⟩
  go_wp2_with fail
  go_at_call 11
  refine (mul_as _ _ (by repeat (first | exact HF.out | apply FieldIn.drewN)) (a) (0) (0) (by first | assumption | exact mul_lt _ _ | exact inv_lt _ | exact xor_lt hb hc | omega) (by first | assumption | exact mul_lt _ _ | exact inv_lt _ | exact xor_lt hb hc | omega) (by first | rfl | exact zero_mul _ | exact mul_zero _ | exact mul_comm _ _)).mono ?_
  rintro e w' ⟨rfl, k3, rfl⟩
  go_wp2_with fail
  go_at_call 11
  refine (mul_as _ _ (by repeat (first | exact HF.out | apply FieldIn.drewN)) (0) (c) (0) (by first | assumption | exact mul_lt _ _ | exact inv_lt _ | exact xor_lt hb hc | omega) (by first | assumption | exact mul_lt _ _ | exact inv_lt _ | exact xor_lt hb hc | omega) (by first | rfl | exact zero_mul _ | exact mul_zero _ | exact mul_comm _ _)).mono ?_
  rintro e w' ⟨rfl, k4, rfl⟩
  go_wp2_with fail
  go_at_call 11
  refine (mul_as _ _ (by repeat (first | exact HF.out | apply FieldIn.drewN)) (0) (c) (0) (by first | assumption | exact mul_lt _ _ | exact inv_lt _ | exact xor_lt hb hc | omega) (by first | assumption | exact mul_lt _ _ | exact inv_lt _ | exact xor_lt hb hc | omega) (by first | rfl | exact zero_mul _ | exact mul_zero _ | exact mul_comm _ _)).mono ?_
  rintro e w' ⟨rfl, k5, rfl⟩
  go_wp2_with fail
  go_at_call 11
  refine (mul_as _ _ (by repeat (first | exact HF.out | apply FieldIn.drewN)) (a) (0) (0) (by first | assumption | exact mul_lt _ _ | exact inv_lt _ | exact xor_lt hb hc | omega) (by first | assumption | exact mul_lt _ _ | exact inv_lt _ | exact xor_lt hb hc | omega) (by first | exact zero_mul _ | exact mul_zero _ | exact (mul_assoc ha hb hc).symm)).mono ?_
  rintro e w' ⟨rfl, k6, rfl⟩
  go_wp2_with fail
  go_at_call 11
  refine (mul_as _ _ (by repeat (first | exact HF.out | apply FieldIn.drewN)) (a) (c) (mul a c) (by first | assumption | exact mul_lt _ _ | exact inv_lt _ | exact xor_lt hb hc | omega) (by first | assumption | exact mul_lt _ _ | exact inv_lt _ | exact xor_lt hb hc | omega) (by first | exact zero_mul _ | rfl | exact mul_xor hb hc)).mono ?_
  rintro e w' ⟨rfl, k7, rfl⟩
  go_wp2_with fail
  go_at_call 11
  refine (mul_as _ _ (by repeat (first | exact HF.out | apply FieldIn.drewN)) (a) (0) (0) (by first | assumption | exact mul_lt _ _ | exact inv_lt _ | exact xor_lt hb hc | omega) (by first | assumption | exact mul_lt _ _ | exact inv_lt _ | exact xor_lt hb hc | omega) (by first | rfl | exact zero_mul _ | exact mul_zero _ | exact mul_comm _ _)).mono ?_
  rintro e w' ⟨rfl, k8, rfl⟩
  go_wp2_with fail
  go_at_call 11
  refine (mul_as _ _ (by repeat (first | exact HF.out | apply FieldIn.drewN)) (a) (c) (mul a c) (by first | assumption | exact mul_lt _ _ | exact inv_lt _ | exact xor_lt hb hc | omega) (by first | assumption | exact mul_lt _ _ | exact inv_lt _ | exact xor_lt hb hc | omega) (by first | rfl | exact zero_mul _ | exact mul_zero _ | exact mul_comm _ _)).mono ?_
  rintro e w' ⟨rfl, k9, rfl⟩
  go_wp2_with fail
  go_at_call 11
  refine (mul_as1 _ _ (by repeat (first | exact HF.out | apply FieldIn.drewN)) a (by first | assumption | exact mul_lt _ _ | exact inv_lt _ | exact xor_lt hb hc | omega)).mono ?_
  rintro e w' ⟨rfl, k10, rfl⟩
  go_wp2_with fail
  go_at_call 11
  refine (mul_as0 _ _ (by repeat (first | exact HF.out | apply FieldIn.drewN)) a (by first | assumption | exact mul_lt _ _ | exact inv_lt _ | exact xor_lt hb hc | omega)).mono ?_
  rintro e w' ⟨rfl, k11, rfl⟩
  go_wp2_with fail
  go_at_call 12
  refine (inv_any _ _ (by repeat (first | exact HF.out | apply FieldIn.drewN)) a ha).mono ?_
  rintro e w' ⟨rfl, rfl⟩
  go_wp2_with fail
  go_at_call 11
  refine (mul_as _ _ (by repeat (first | exact HF.out | apply FieldIn.drewN)) (a) (inv a) (1) (by first | assumption | exact mul_lt _ _ | exact inv_lt _ | exact xor_lt hb hc | omega) (by first | assumption | exact mul_lt _ _ | exact inv_lt _ | exact xor_lt hb hc | omega) (by exact mul_inv ha HA.out)).mono ?_
  rintro e w' ⟨rfl, k12, rfl⟩
  go_wp2_with fail
  go_at_call 12
  refine (inv_as0 _ _ (by repeat (first | exact HF.out | apply FieldIn.drewN))).mono ?_
  rintro e w' ⟨rfl, rfl⟩
  go_wp2_with fail
  go_at_call 17
  refine (div_as0 _ _ (by repeat (first | exact HF.out | apply FieldIn.drewN)) a (by first | assumption | exact mul_lt _ _ | exact inv_lt _ | exact xor_lt hb hc | omega)).mono ?_
  rintro e w' ⟨rfl, k13, rfl⟩
  go_wp2_with fail
  go_at_call 3
  refine (runs_any _).mono ?_
  rintro e w' ⟨rfl, hb'⟩
  go_wp2
  go_ret
  exact bit rfl (bthen (by repeat (first | exact hbl | apply below_drewN)) hb')
set_option maxHeartbeats 1000000 in
theorem field_11 (a b c : Nat) (w : World) (ha : a < 256) (hb : b < 256) (hc : c < 256) (ha0 : a ≠ 0) (hb0 : b ≠ 0) : Calls Try.prog 5 #[.int .u8 a, .int .u8 b, .int .u8 c] w (Bit true w) := by
  have x1 := u8x hb hc
  have x2 := u8x (mul_lt a b) (mul_lt a c)
  have za := not0 ha0
  have HA := Lib.hid ha0
  clear ha0
  have zb := not0 hb0
  have HB := Lib.hid hb0
  clear hb0
  have zm := not0 (mul_ne HA.out HB.out)
  go_enter Try.func5, Try.ntmps5
  go_wp2_with fail
  go_at_call 10
  refine (make_any _).mono ?_
  rintro e w' ⟨rfl, hF, hz, hbl⟩
  have HF := Lib.hid hF
  have HZ := Lib.hid hz
  clear hF hz
  go_wp2_with fail
  go_at_call 11
  refine (mul_as _ _ (by repeat (first | exact HF.out | apply FieldIn.drewN)) (a) (b) (mul a b) (by first | assumption | exact mul_lt _ _ | exact inv_lt _ | exact xor_lt hb hc | omega) (by first | assumption | exact mul_lt _ _ | exact inv_lt _ | exact xor_lt hb hc | omega) (by first | rfl | exact zero_mul _ | exact mul_zero _ | exact mul_comm _ _)).mono ?_
  rintro e w' ⟨rfl, k1, rfl⟩
  go_wp2_with fail
  go_at_call 11
  refine (mul_as _ _ (by repeat (first | exact HF.out | apply FieldIn.drewN)) (b) (a) (mul a b) (by first | assumption | exact mul_lt _ _ | exact inv_lt _ | exact xor_lt hb hc | omega) (by first | assumption | exact mul_lt _ _ | exact inv_lt _ | exact xor_lt hb hc | omega) (by first | rfl | exact zero_mul _ | exact mul_zero _ | exact mul_comm _ _)).mono ?_
  rintro e w' ⟨rfl, k2, rfl⟩
  go_wp2_with fail
  go_at_call 11
  refine (mul_as _ _ (by repeat (first | exact HF.out | apply FieldIn.drewN)) (a) (b) (mul a b) (by first | assumption | exact mul_lt _ _ | exact inv_lt _ | exact xor_lt hb hc | omega) (by first | assumption | exact mul_lt _ _ | exact inv_lt _ | exact xor_lt hb hc | omega) (by first | rfl | exact zero_mul _ | exact mul_zero _ | exact mul_comm _ _)).mono ?_
  rintro e w' ⟨rfl, k3, rfl⟩
  go_wp2_with fail
  go_at_call 11
  refine (mul_as _ _ (by repeat (first | exact HF.out | apply FieldIn.drewN)) (mul a b) (c) (mul (mul a b) c) (by first | assumption | exact mul_lt _ _ | exact inv_lt _ | exact xor_lt hb hc | omega) (by first | assumption | exact mul_lt _ _ | exact inv_lt _ | exact xor_lt hb hc | omega) (by first | rfl | exact zero_mul _ | exact mul_zero _ | exact mul_comm _ _)).mono ?_
  rintro e w' ⟨rfl, k4, rfl⟩
  go_wp2_with fail
  go_at_call 11
  refine (mul_as _ _ (by repeat (first | exact HF.out | apply FieldIn.drewN)) (b) (c) (mul b c) (by first | assumption | exact mul_lt _ _ | exact inv_lt _ | exact xor_lt hb hc | omega) (by first | assumption | exact mul_lt _ _ | exact inv_lt _ | exact xor_lt hb hc | omega) (by first | rfl | exact zero_mul _ | exact mul_zero _ | exact mul_comm _ _)).mono ?_
  rintro e w' ⟨rfl, k5, rfl⟩
  go_wp2_with fail
  go_at_call 11
  refine (mul_as _ _ (by repeat (first | exact HF.out | apply FieldIn.drewN)) (a) (mul b c) (mul (mul a b) c) (by first | assumption | exact mul_lt _ _ | exact inv_lt _ | exact xor_lt hb hc | omega) (by first | assumption | exact mul_lt _ _ | exact inv_lt _ | exact xor_lt hb hc | omega) (by first | exact zero_mul _ | exact mul_zero _ | exact (mul_assoc ha hb hc).symm)).mono ?_
  rintro e w' ⟨rfl, k6, rfl⟩
  go_wp2_with fail
  go_at_call 11
  refine (mul_as _ _ (by repeat (first | exact HF.out | apply FieldIn.drewN)) (a) (b ^^^ c) (mul a b ^^^ mul a c) (by first | assumption | exact mul_lt _ _ | exact inv_lt _ | exact xor_lt hb hc | omega) (by first | assumption | exact mul_lt _ _ | exact inv_lt _ | exact xor_lt hb hc | omega) (by first | exact zero_mul _ | rfl | exact mul_xor hb hc)).mono ?_
  rintro e w' ⟨rfl, k7, rfl⟩
  go_wp2_with fail
  go_at_call 11
  refine (mul_as _ _ (by repeat (first | exact HF.out | apply FieldIn.drewN)) (a) (b) (mul a b) (by first | assumption | exact mul_lt _ _ | exact inv_lt _ | exact xor_lt hb hc | omega) (by first | assumption | exact mul_lt _ _ | exact inv_lt _ | exact xor_lt hb hc | omega) (by first | rfl | exact zero_mul _ | exact mul_zero _ | exact mul_comm _ _)).mono ?_
  rintro e w' ⟨rfl, k8, rfl⟩
  go_wp2_with fail
  go_at_call 11
  refine (mul_as _ _ (by repeat (first | exact HF.out | apply FieldIn.drewN)) (a) (c) (mul a c) (by first | assumption | exact mul_lt _ _ | exact inv_lt _ | exact xor_lt hb hc | omega) (by first | assumption | exact mul_lt _ _ | exact inv_lt _ | exact xor_lt hb hc | omega) (by first | rfl | exact zero_mul _ | exact mul_zero _ | exact mul_comm _ _)).mono ?_
  rintro e w' ⟨rfl, k9, rfl⟩
  go_wp2_with fail
  go_at_call 11
  refine (mul_as1 _ _ (by repeat (first | exact HF.out | apply FieldIn.drewN)) a (by first | assumption | exact mul_lt _ _ | exact inv_lt _ | exact xor_lt hb hc | omega)).mono ?_
  rintro e w' ⟨rfl, k10, rfl⟩
  go_wp2_with fail
  go_at_call 11
  refine (mul_as0 _ _ (by repeat (first | exact HF.out | apply FieldIn.drewN)) a (by first | assumption | exact mul_lt _ _ | exact inv_lt _ | exact xor_lt hb hc | omega)).mono ?_
  rintro e w' ⟨rfl, k11, rfl⟩
  go_wp2_with fail
  go_at_call 12
  refine (inv_any _ _ (by repeat (first | exact HF.out | apply FieldIn.drewN)) a ha).mono ?_
  rintro e w' ⟨rfl, rfl⟩
  go_wp2_with fail
  go_at_call 11
  refine (mul_as _ _ (by repeat (first | exact HF.out | apply FieldIn.drewN)) (a) (inv a) (1) (by first | assumption | exact mul_lt _ _ | exact inv_lt _ | exact xor_lt hb hc | omega) (by first | assumption | exact mul_lt _ _ | exact inv_lt _ | exact xor_lt hb hc | omega) (by exact mul_inv ha HA.out)).mono ?_
  rintro e w' ⟨rfl, k12, rfl⟩
  go_wp2_with fail
  go_at_call 11
  refine (mul_as _ _ (by repeat (first | exact HF.out | apply FieldIn.drewN)) (a) (b) (mul a b) (by first | assumption | exact mul_lt _ _ | exact inv_lt _ | exact xor_lt hb hc | omega) (by first | assumption | exact mul_lt _ _ | exact inv_lt _ | exact xor_lt hb hc | omega) (by first | rfl | exact zero_mul _ | exact mul_zero _ | exact mul_comm _ _)).mono ?_
  rintro e w' ⟨rfl, k13, rfl⟩
  go_wp2_with fail
  go_at_call 17
  refine (div_as _ _ (by repeat (first | exact HF.out | apply FieldIn.drewN)) a b (mul a (inv b)) (by first | assumption | exact mul_lt _ _ | exact inv_lt _ | exact xor_lt hb hc | omega) hb (by first | rfl | exact zero_mul _)).mono ?_
  rintro e w' ⟨rfl, k14, rfl⟩
  go_wp2_with fail
  go_at_call 11
  refine (mul_as _ _ (by repeat (first | exact HF.out | apply FieldIn.drewN)) (mul a (inv b)) (b) (a) (by first | assumption | exact mul_lt _ _ | exact inv_lt _ | exact xor_lt hb hc | omega) (by first | assumption | exact mul_lt _ _ | exact inv_lt _ | exact xor_lt hb hc | omega) (by rw [mul_assoc ha (inv_lt b) hb, mul_comm (inv b) b, mul_inv hb HB.out, mul_one ha])).mono ?_
  rintro e w' ⟨rfl, k15, rfl⟩
  go_wp2_with fail
  go_at_call 12
  refine (inv_as0 _ _ (by repeat (first | exact HF.out | apply FieldIn.drewN))).mono ?_
  rintro e w' ⟨rfl, rfl⟩
  go_wp2_with fail
  go_at_call 17
  refine (div_as0 _ _ (by repeat (first | exact HF.out | apply FieldIn.drewN)) a (by first | assumption | exact mul_lt _ _ | exact inv_lt _ | exact xor_lt hb hc | omega)).mono ?_
  rintro e w' ⟨rfl, k16, rfl⟩
  go_wp2_with fail
  go_at_call 3
  refine (runs_any _).mono ?_
  rintro e w' ⟨rfl, hb'⟩
  go_wp2
  go_ret
  exact bit rfl (bthen (by repeat (first | exact hbl | apply below_drewN)) hb')
theorem field_any (a b c : Nat) (w : World) (ha : a < 256) (hb : b < 256) (hc : c < 256) : Calls Try.prog 5 #[.int .u8 a, .int .u8 b, .int .u8 c] w (Bit true w) := by
  by_cases h1 : a = 0 <;> by_cases h2 : b = 0
  · subst h1; subst h2; exact field_00 c w hc
  · subst h1; exact field_01 b c w hb hc h2
  · subst h2; exact field_10 a c w ha hc h1
  · exact field_11 a b c w ha hb hc h1 h2
end Go.Proofs.Ytdpjbemhgcdeoaa
