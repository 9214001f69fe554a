/-
  stavelaw3.GfLogs: the walk.
-/
import Derived.Test.YtdpjbemhgcdeoaaFField
import Derived.Test.YtdpjbemhgcdeoaaWithinI
namespace Go.Proofs.Ytdpjbemhgcdeoaa
open Go.RowKit Gf
theorem pwI_add (x y : Int) : mul (pwI x) (pwI y) = pwI (x + y) := by
  unfold pwI
  rw [mul_pw, ← pw_mod]
  have h1 : 0 ≤ x % 255 := Int.emod_nonneg x (by omega)
  have h2 : 0 ≤ y % 255 := Int.emod_nonneg y (by omega)
  have h3 : 0 ≤ (x + y) % 255 := Int.emod_nonneg (x + y) (by omega)
  congr 1
  omega
theorem pwI_wrap (x : Int) : pwI (x + 255) = pwI x := by
  unfold pwI; rw [show (x + 255) % 255 = x % 255 by omega]
theorem pwI_succ (x : Int) : pwI (x + 1) = mul 2 (pwI x) := by
  have : pwI 1 = 2 := by decide +kernel
  rw [← this, pwI_add]; congr 1; omega
theorem pwI_lt (x : Int) : pwI x < 256 := pw_lt _
theorem pwI_ne (x : Int) : pwI x ≠ 0 := pw_ne _
theorem exp_as (w : World) (b : Nat) (hF : FieldIn w b) (n : Int) (z : Nat) (h : pwI n = z) : Calls Try.prog 13 #[.pointer (some ⟨b, 0, none⟩), .int .i64 n] w (U8Same z w) := by
  rw [← h]; exact exp_any w b hF n
theorem log_0 (w : World) (b : Nat) (hF : FieldIn w b) : Calls Try.prog 14 #[.pointer (some ⟨b, 0, none⟩), .int .u8 0] w (NumSame (-1) w) := by
  have := log_any w b hF 0 (by omega); rwa [if_pos rfl] at this
theorem log_1 (w : World) (b : Nat) (hF : FieldIn w b) (a : Nat) (ha : a < 256) (h : a ≠ 0) : Calls Try.prog 14 #[.pointer (some ⟨b, 0, none⟩), .int .u8 a] w (NumSame (lg a) w) := by
  have := log_any w b hF a ha; rwa [if_neg h] at this
set_option maxHeartbeats 1000000 in
set_option maxRecDepth 100000 in
theorem logs_0 (n m : Int) (w : World) : Calls Try.prog 6 #[.int .i64 n, .int .i64 m, .int .u8 0] w (Bit true w) := by
  go_enter Try.func6, Try.ntmps6
  go_wp2_with fail
  go_at_call 10
  refine (make_any _).mono ?_
  rintro e w' ⟨rfl, hF, hz, hbl⟩
  have HF := Lib.hid hF
  have HZ := Lib.hid hz
  clear hF hz
  go_wp2_with fail
  go_at_call 18
  refine (within_int _ (-600) 600 _ (by omega) (by omega) (by omega)).mono ?_
  rintro e w' ⟨x, ⟨x1, x2⟩, rfl, rfl⟩
  have zx := not0 (pwI_ne x)
  go_wp2_with fail
  go_at_call 18
  refine (within_int _ (-600) 600 _ (by omega) (by omega) (by omega)).mono ?_
  rintro e w' ⟨y, ⟨y1, y2⟩, rfl, rfl⟩
  go_wp2_with fail
  go_at_call 13
  refine (exp_as _ _ (by repeat (first | exact HF.out | apply FieldIn.drewN)) (x) (pwI x) (rfl)).mono ?_
  rintro e w' ⟨rfl, rfl⟩
  go_wp2_with fail
  go_at_call 13
  refine (exp_as _ _ (by repeat (first | exact HF.out | apply FieldIn.drewN)) (x + 255) (pwI x) (pwI_wrap x)).mono ?_
  rintro e w' ⟨rfl, rfl⟩
  go_wp2_with fail
  go_at_call 13
  refine (exp_as _ _ (by repeat (first | exact HF.out | apply FieldIn.drewN)) (x + 1) (pwI (x + 1)) (rfl)).mono ?_
  rintro e w' ⟨rfl, rfl⟩
  go_wp2_with fail
  go_at_call 13
  refine (exp_as _ _ (by repeat (first | exact HF.out | apply FieldIn.drewN)) (x) (pwI x) (rfl)).mono ?_
  rintro e w' ⟨rfl, rfl⟩
  go_wp2_with fail
  go_at_call 11
  refine (mul_as _ _ (by repeat (first | exact HF.out | apply FieldIn.drewN)) 2 (pwI x) (pwI (x + 1)) (by omega) (pwI_lt _) (pwI_succ x).symm).mono ?_
  rintro e w' ⟨rfl, k1, rfl⟩
  go_wp2_with fail
  go_at_call 13
  refine (exp_as _ _ (by repeat (first | exact HF.out | apply FieldIn.drewN)) (x) (pwI x) (rfl)).mono ?_
  rintro e w' ⟨rfl, rfl⟩
  go_wp2_with fail
  go_at_call 13
  refine (exp_as _ _ (by repeat (first | exact HF.out | apply FieldIn.drewN)) (y) (pwI y) (rfl)).mono ?_
  rintro e w' ⟨rfl, rfl⟩
  go_wp2_with fail
  go_at_call 11
  refine (mul_as _ _ (by repeat (first | exact HF.out | apply FieldIn.drewN)) (pwI x) (pwI y) (pwI (x + y)) (pwI_lt _) (pwI_lt _) (pwI_add x y)).mono ?_
  rintro e w' ⟨rfl, k2, rfl⟩
  go_wp2_with fail
  go_at_call 13
  refine (exp_as _ _ (by repeat (first | exact HF.out | apply FieldIn.drewN)) (x + y) (pwI (x + y)) (rfl)).mono ?_
  rintro e w' ⟨rfl, rfl⟩
  go_wp2_with fail
  go_at_call 13
  refine (exp_as _ _ (by repeat (first | exact HF.out | apply FieldIn.drewN)) (x) (pwI x) (rfl)).mono ?_
  rintro e w' ⟨rfl, rfl⟩
  go_wp2_with fail
  go_at_call 13
  refine (exp_as _ _ (by repeat (first | exact HF.out | apply FieldIn.drewN)) (0) (1) (by decide +kernel)).mono ?_
  rintro e w' ⟨rfl, rfl⟩
  go_wp2_with fail
  go_at_call 14
  refine (log_0 _ _ (by repeat (first | exact HF.out | apply FieldIn.drewN))).mono ?_
  rintro e w' ⟨rfl, rfl⟩
  go_wp2_with fail
  go_at_call 3
  refine (runs_any _).mono ?_
  rintro e w' ⟨rfl, hb'⟩
  go_wp2
  go_ret
  exact bit rfl (bthen (by repeat (first | exact hbl | apply below_drewN)) hb')
set_option maxHeartbeats 1000000 in
set_option maxRecDepth 100000 in
theorem logs_1 (n m : Int) (a : Nat) (ha : a < 256) (ha0 : a ≠ 0) (w : World) : Calls Try.prog 6 #[.int .i64 n, .int .i64 m, .int .u8 a] w (Bit true w) := by
  have za := not0 ha0
  have HA := Lib.hid ha0
  clear ha0
  have hl := lg_lt ha
  have hl1 : (lg a : Int) < 255 := by omega
  go_enter Try.func6, Try.ntmps6
  go_wp2_with fail
  go_at_call 10
  refine (make_any _).mono ?_
  rintro e w' ⟨rfl, hF, hz, hbl⟩
  have HF := Lib.hid hF
  have HZ := Lib.hid hz
  clear hF hz
  go_wp2_with fail
  go_at_call 18
  refine (within_int _ (-600) 600 _ (by omega) (by omega) (by omega)).mono ?_
  rintro e w' ⟨x, ⟨x1, x2⟩, rfl, rfl⟩
  have zx := not0 (pwI_ne x)
  go_wp2_with fail
  go_at_call 18
  refine (within_int _ (-600) 600 _ (by omega) (by omega) (by omega)).mono ?_
  rintro e w' ⟨y, ⟨y1, y2⟩, rfl, rfl⟩
  go_wp2_with fail
  go_at_call 13
  refine (exp_as _ _ (by repeat (first | exact HF.out | apply FieldIn.drewN)) (x) (pwI x) (rfl)).mono ?_
  rintro e w' ⟨rfl, rfl⟩
  go_wp2_with fail
  go_at_call 13
  refine (exp_as _ _ (by repeat (first | exact HF.out | apply FieldIn.drewN)) (x + 255) (pwI x) (pwI_wrap x)).mono ?_
  rintro e w' ⟨rfl, rfl⟩
  go_wp2_with fail
  go_at_call 13
  refine (exp_as _ _ (by repeat (first | exact HF.out | apply FieldIn.drewN)) (x + 1) (pwI (x + 1)) (rfl)).mono ?_
  rintro e w' ⟨rfl, rfl⟩
  go_wp2_with fail
  go_at_call 13
  refine (exp_as _ _ (by repeat (first | exact HF.out | apply FieldIn.drewN)) (x) (pwI x) (rfl)).mono ?_
  rintro e w' ⟨rfl, rfl⟩
  go_wp2_with fail
  go_at_call 11
  refine (mul_as _ _ (by repeat (first | exact HF.out | apply FieldIn.drewN)) 2 (pwI x) (pwI (x + 1)) (by omega) (pwI_lt _) (pwI_succ x).symm).mono ?_
  rintro e w' ⟨rfl, k1, rfl⟩
  go_wp2_with fail
  go_at_call 13
  refine (exp_as _ _ (by repeat (first | exact HF.out | apply FieldIn.drewN)) (x) (pwI x) (rfl)).mono ?_
  rintro e w' ⟨rfl, rfl⟩
  go_wp2_with fail
  go_at_call 13
  refine (exp_as _ _ (by repeat (first | exact HF.out | apply FieldIn.drewN)) (y) (pwI y) (rfl)).mono ?_
  rintro e w' ⟨rfl, rfl⟩
  go_wp2_with fail
  go_at_call 11
  refine (mul_as _ _ (by repeat (first | exact HF.out | apply FieldIn.drewN)) (pwI x) (pwI y) (pwI (x + y)) (pwI_lt _) (pwI_lt _) (pwI_add x y)).mono ?_
  rintro e w' ⟨rfl, k2, rfl⟩
  go_wp2_with fail
  go_at_call 13
  refine (exp_as _ _ (by repeat (first | exact HF.out | apply FieldIn.drewN)) (x + y) (pwI (x + y)) (rfl)).mono ?_
  rintro e w' ⟨rfl, rfl⟩
  go_wp2_with fail
  go_at_call 13
  refine (exp_as _ _ (by repeat (first | exact HF.out | apply FieldIn.drewN)) (x) (pwI x) (rfl)).mono ?_
  rintro e w' ⟨rfl, rfl⟩
  go_wp2_with fail
  go_at_call 13
  refine (exp_as _ _ (by repeat (first | exact HF.out | apply FieldIn.drewN)) (0) (1) (by decide +kernel)).mono ?_
  rintro e w' ⟨rfl, rfl⟩
  go_wp2_with fail
  go_at_call 14
  refine (log_1 _ _ (by repeat (first | exact HF.out | apply FieldIn.drewN)) a ha HA.out).mono ?_
  rintro e w' ⟨rfl, rfl⟩
  go_wp2_with fail
  go_at_call 13
  refine (exp_as _ _ (by repeat (first | exact HF.out | apply FieldIn.drewN)) (lg a) a (by rw [pwI_nat]; exact pw_lg ha HA.out)).mono ?_
  rintro e w' ⟨rfl, rfl⟩
  go_wp2_with fail
  go_at_call 3
  refine (runs_any _).mono ?_
  rintro e w' ⟨rfl, hb'⟩
  go_wp2
  go_ret
  exact bit rfl (bthen (by repeat (first | exact hbl | apply below_drewN)) hb')
theorem logs_any (n m : Int) (a : Nat) (w : World) (ha : a < 256) : Calls Try.prog 6 #[.int .i64 n, .int .i64 m, .int .u8 a] w (Bit true w) := by
  by_cases h : a = 0
  · subst h; exact logs_0 n m w
  · exact logs_1 n m a ha h w
end Go.Proofs.Ytdpjbemhgcdeoaa
