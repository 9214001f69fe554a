/-
  stavelaw3.GfPowers: the walk.
-/
import Derived.Test.YtdpjbemhgcdeoaaFLogs
import Derived.IntWalk
namespace Go.Proofs.Ytdpjbemhgcdeoaa
open Go.RowKit Gf
/-- k factors a. -/
def pows (a : Nat) : Nat → Nat
  | 0 => 1
  | k + 1 => mul (pows a k) a
theorem pows_lt {a : Nat} : ∀ k, pows a k < 256
  | 0 => by show 1 < 256; omega
  | k + 1 => mul_lt _ _
theorem pows_0 {k : Nat} (h : 0 < k) : pows 0 k = 0 := by
  obtain ⟨j, rfl⟩ : ∃ j, k = j + 1 := ⟨k - 1, by omega⟩
  exact mul_zero _
theorem pows_lg {a : Nat} (ha : a < 256) (h : a ≠ 0) (k : Nat) : pows a k = pw (lg a * k) := by
  induction k with
  | zero => rfl
  | succ k ih =>
    show mul (pows a k) a = _
    have h1 : mul (pw (lg a * k)) (pw (lg a)) = pw (lg a * k + lg a) := mul_pw _ _
    rw [pw_lg ha h] at h1
    rw [ih, h1, Nat.mul_succ]
theorem pw_times (n : Nat) : pw (n * 255) = 1 := by rw [← pw_mod, Nat.mul_mod_left]; rfl
theorem pwI_neg_lg {a : Nat} (ha : a < 256) (h : a ≠ 0) : mul (pwI (-(lg a : Int))) a = 1 := by
  have h1 := pwI_add (-(lg a : Int)) (lg a)
  rw [pwI_nat, pw_lg ha h] at h1
  rw [h1, show -(lg a : Int) + lg a = 0 by omega]; decide +kernel
def RelQ (w1 : World) (a n : Nat) (x i : Value) (wr : World) : Prop := ∃ (k d : Nat), k ≤ n ∧ x = .int .u8 (pows a k) ∧ i = .int .i64 k ∧ wr = w1.drewN d
set_option maxHeartbeats 1000000 in
set_option maxRecDepth 100000 in
theorem powers_0 (n : Int) (w : World) : Calls Try.prog 8 #[.int .u8 0, .int .i64 n] w (Bit true w) := by
  go_enter Try.func8, Try.ntmps8
  go_wp2_with fail
  go_at_call 10
  refine (make_any _).mono ?_
  rintro e w' ⟨rfl, hF, hz, hbl⟩
  have HF := Lib.hid hF
  have HZ := Lib.hid hz
  clear hF hz
  go_wp2_with fail
  go_at_call 18
  refine (within_int _ 0 300 _ (by omega) (by omega) (by omega)).mono ?_
  rintro e w' ⟨x, ⟨x1, x2⟩, rfl, rfl⟩
  obtain ⟨n', rfl⟩ := Int.eq_ofNat_of_zero_le x1
  go_wp2_with fail
  go_loopw [7, 8] (fun x i wr => RelQ w' 0 n' x i wr) (fun _ i _ => n' - (intOf i).toNat)
  case atStart => exact ⟨0, 0, by omega, rfl, rfl, drewN_0 _⟩
  case round =>
    obtain ⟨k, d, hk, rfl, rfl, rfl⟩ := hrel
    by_cases hlt : k < n'
    · go_wp2_with fail
      go_at_call 11
      refine (mul_any _ _ (HF.out.drewN _) (pows 0 k) 0 (pows_lt k) (by omega)).mono ?_
      rintro e w' ⟨rfl, d1, rfl⟩
      go_wp2
      go_roundw
      case rel => exact ⟨k + 1, d + d1, by omega, rfl, by go_num, rfl⟩
      case measure => simp [intOf]; omega
    · obtain rfl : k = n' := by omega
      by_cases h0 : 0 < k
      · have hp := pows_0 h0
        rw [hp]
        go_wp2_with fail
        go_at_call 3
        refine (runs_any _).mono ?_
        rintro e w' ⟨rfl, hb'⟩
        go_wp2
        go_ret
        exact bit rfl (bthen (below_drewN hbl _) hb')
      · obtain rfl : k = 0 := by omega
        have hp : pows 0 0 = 1 := rfl
        rw [hp]
        go_wp2_with fail
        go_at_call 3
        refine (runs_any _).mono ?_
        rintro e w' ⟨rfl, hb'⟩
        go_wp2
        go_ret
        exact bit rfl (bthen (below_drewN hbl _) hb')
set_option maxHeartbeats 1000000 in
set_option maxRecDepth 100000 in
theorem powers_1 (a : Nat) (ha : a < 256) (ha0 : a ≠ 0) (n : Int) (w : World) : Calls Try.prog 8 #[.int .u8 a, .int .i64 n] w (Bit true w) := by
  have za := not0 ha0
  have HA := Lib.hid ha0
  clear ha0
  have hl := lg_lt ha
  have hl1 : (lg a : Int) < 255 := by omega
  go_enter Try.func8, Try.ntmps8
  go_wp2_with fail
  go_at_call 10
  refine (make_any _).mono ?_
  rintro e w' ⟨rfl, hF, hz, hbl⟩
  have HF := Lib.hid hF
  have HZ := Lib.hid hz
  clear hF hz
  go_wp2_with fail
  go_at_call 18
  refine (within_int _ 0 300 _ (by omega) (by omega) (by omega)).mono ?_
  rintro e w' ⟨x, ⟨x1, x2⟩, rfl, rfl⟩
  obtain ⟨n', rfl⟩ := Int.eq_ofNat_of_zero_le x1
  go_wp2_with fail
  go_loopw [7, 8] (fun x i wr => RelQ w' a n' x i wr) (fun _ i _ => n' - (intOf i).toNat)
  case atStart => exact ⟨0, 0, by omega, rfl, rfl, drewN_0 _⟩
  case round =>
    obtain ⟨k, d, hk, rfl, rfl, rfl⟩ := hrel
    by_cases hlt : k < n'
    · go_wp2_with fail
      go_at_call 11
      refine (mul_any _ _ (HF.out.drewN _) (pows a k) a (pows_lt k) ha).mono ?_
      rintro e w' ⟨rfl, d1, rfl⟩
      go_wp2
      go_roundw
      case rel => exact ⟨k + 1, d + d1, by omega, rfl, by go_num, rfl⟩
      case measure => simp [intOf]; omega
    · obtain rfl : k = n' := by omega
      obtain ⟨p, hp⟩ : ∃ p, lg a * k = p := ⟨_, rfl⟩
      obtain ⟨q, hq⟩ : ∃ q, lg a * 255 = q := ⟨_, rfl⟩
      have hb1 : lg a * k ≤ 254 * 300 := Nat.mul_le_mul (by omega) (by omega)
      have hm1 : IntKind.i64.wrap ((lg a : Int) * (k : Int)) = (p : Int) := by rw [← hp, ← Int.natCast_mul]; exact IntWalk.i64_in _ (by omega)
      have hm2 : IntKind.i64.wrap ((lg a : Int) * 255) = (q : Int) := by rw [← hq, show ((lg a : Int) * 255) = ((lg a * 255 : Nat) : Int) by simp]; exact IntWalk.i64_in _ (by omega)
      have HP := Lib.hid hp
      have HQ := Lib.hid hq
      clear hp hq hb1
      go_wp2_with fail
      go_at_call 14
      refine (log_1 _ _ (by repeat (first | exact HF.out | apply FieldIn.drewN)) a ha HA.out).mono ?_
      rintro e w' ⟨rfl, rfl⟩
      go_wp2_with fail
      go_at_call 13
      refine (exp_as _ _ (by repeat (first | exact HF.out | apply FieldIn.drewN)) (p : Int) (pows a k) (by rw [pwI_nat, pows_lg ha HA.out, HP.out])).mono ?_
      rintro e w' ⟨rfl, rfl⟩
      go_wp2_with fail
      go_at_call 14
      refine (log_1 _ _ (by repeat (first | exact HF.out | apply FieldIn.drewN)) a ha HA.out).mono ?_
      rintro e w' ⟨rfl, rfl⟩
      go_wp2_with fail
      go_at_call 13
      refine (exp_as _ _ (by repeat (first | exact HF.out | apply FieldIn.drewN)) (q : Int) 1 (by rw [pwI_nat, ← HQ.out, pw_times])).mono ?_
      rintro e w' ⟨rfl, rfl⟩
      go_wp2_with fail
      go_at_call 14
      refine (log_1 _ _ (by repeat (first | exact HF.out | apply FieldIn.drewN)) a ha HA.out).mono ?_
      rintro e w' ⟨rfl, rfl⟩
      go_wp2_with fail
      go_at_call 13
      refine (exp_as _ _ (by repeat (first | exact HF.out | apply FieldIn.drewN)) (-(lg a : Int)) (pwI (-(lg a : Int))) rfl).mono ?_
      rintro e w' ⟨rfl, rfl⟩
      go_wp2_with fail
      go_at_call 11
      refine (mul_as _ _ (by repeat (first | exact HF.out | apply FieldIn.drewN)) (pwI (-(lg a : Int))) a 1 (pwI_lt _) ha (pwI_neg_lg ha HA.out)).mono ?_
      rintro e w' ⟨rfl, k9, rfl⟩
      go_wp2_with fail
      go_at_call 3
      refine (runs_any _).mono ?_
      rintro e w' ⟨rfl, hb'⟩
      go_wp2
      go_ret
      exact bit rfl (bthen (by repeat (first | exact hbl | apply below_drewN)) hb')
theorem powers_any (a : Nat) (n : Int) (w : World) (ha : a < 256) : Calls Try.prog 8 #[.int .u8 a, .int .i64 n] w (Bit true w) := by
  by_cases h : a = 0
  · subst h; exact powers_0 n w
  · exact powers_1 a ha h n w
end Go.Proofs.Ytdpjbemhgcdeoaa
