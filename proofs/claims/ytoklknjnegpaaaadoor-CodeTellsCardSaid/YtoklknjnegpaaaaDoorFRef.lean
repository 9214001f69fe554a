/-
  staveref1.Mul, staveref1.Inv: they answer what the tables answer.
-/
import Derived.Test.YtoklknjnegpaaaaDoorFOps
namespace Go.Proofs.YtoklknjnegpaaaaDoor
open Go.RowKit Gf
/-- One round: the last bit taken, the rest for twice as much. -/
theorem mul_half {x y : Nat} (hx : x < 256) (hy : y < 256) : mul x y = (if y % 2 = 1 then x else 0) ^^^ mul (dbl x) (y / 2) := by
  have h2 : y / 2 < 128 := by omega
  have e1 : dbl (y / 2) = 2 * (y / 2) := by unfold dbl; rw [if_pos (by omega)]
  have e2 : (y % 2) ^^^ dbl (y / 2) = y := by
    rw [e1]
    have h : y % 2 = 0 ∨ y % 2 = 1 := by omega
    rcases h with h | h
    · rw [h]; simp; omega
    · have key : ∀ z : Nat, z < 128 → (2 * z) ^^^ 1 = 2 * z + 1 := by decide +kernel
      rw [h, Nat.xor_comm, key _ h2]; omega
  have e3 : mul (dbl x) (y / 2) = mul x (dbl (y / 2)) := by
    rw [← dbl_mul hx, ← dbl_mul (by omega : y / 2 < 256), mul_comm 2 x, mul_assoc hx (by omega) (by omega)]
  have e4 : (if y % 2 = 1 then x else 0) = mul x (y % 2) := by
    have h : y % 2 = 0 ∨ y % 2 = 1 := by omega
    rcases h with h | h
    · rw [h, mul_zero]; rfl
    · rw [h, mul_one hx]; rfl
  rw [e3, e4, ← mul_xor (by omega) (dbl_lt (by omega)), e2]
def RelR (g : Nat) (xv ov yv : Value) : Prop := ∃ x o y : Nat, x < 256 ∧ o < 256 ∧ y < 256 ∧ xv = .int .i64 x ∧ ov = .int .i64 o ∧ yv = .int .i64 y ∧ o ^^^ mul x y = g
theorem relR_next {g x o y : Nat} {xn on yn : Int} (hx : x < 256) (ho : o < 256) (hy : y < 256) (h : o ^^^ mul x y = g) (e1 : xn = dbl x) (e2 : on = ((o ^^^ (if y % 2 = 1 then x else 0) : Nat) : Int)) (e3 : yn = (y / 2 : Nat)) :
    RelR g (.int .i64 xn) (.int .i64 on) (.int .i64 yn) :=
  ⟨dbl x, o ^^^ (if y % 2 = 1 then x else 0), y / 2, dbl_lt hx, xor_lt ho (by split <;> omega), by omega, by rw [e1], by rw [e2], by rw [e3], by rw [Nat.xor_assoc, ← mul_half hx hy, h]⟩
theorem dbl_low {x : Nat} (h : x < 128) : (x : Int) * 2 = dbl x := by unfold dbl; rw [if_pos (by omega)]; omega
theorem dbl_high {x : Nat} (h : ¬ x < 128) (hx : x < 256) : bits .xor .i64 ((x : Int) * 2) 285 = dbl x := by
  have := i64_xor_nat (2 * x) 285 (by omega) (by omega)
  rw [show ((x : Int) * 2) = ((2 * x : Nat) : Int) by omega]; unfold dbl; rw [if_neg (by omega)]; exact this
theorem i64_and1 (y : Nat) (hy : y < 4294967296) : bits .and .i64 (y : Int) 1 = ((y % 2 : Nat) : Int) := by
  have hx : y &&& 1 = y % 2 := Nat.and_one_is_mod y
  show IntKind.i64.wrap ((BitVec.ofInt 64 (y : Int) &&& BitVec.ofInt 64 ((1 : Nat) : Int)).toNat : Int) = _
  rw [BitVec.toNat_and, ofInt_u64 y (by omega), ofInt_u64 1 (by omega), IntKind.wrap_i64, hx]
  omega
theorem and_odd {y : Nat} (hy : y < 256) (h : y % 2 = 1) : (bits .and .i64 (y : Int) 1 == 1) = true := by rw [i64_and1 y (by omega), h]; rfl
theorem and_even {y : Nat} (hy : y < 256) (h : ¬ y % 2 = 1) : (bits .and .i64 (y : Int) 1 == 1) = false := by rw [i64_and1 y (by omega), show y % 2 = 0 by omega]; rfl
theorem odd_xor {o x y : Nat} (h : y % 2 = 1) (hx : x < 256) (ho : o < 256) : bits .xor .i64 (o : Int) (x : Int) = ((o ^^^ (if y % 2 = 1 then x else 0) : Nat) : Int) := by
  rw [if_pos h]; exact i64_xor_nat o x (by omega) (by omega)
theorem even_xor {o x y : Nat} (h : ¬ y % 2 = 1) : (o : Int) = ((o ^^^ (if y % 2 = 1 then x else 0) : Nat) : Int) := by rw [if_neg h]; simp
set_option maxHeartbeats 1000000 in
set_option maxRecDepth 100000 in
theorem refMul_any (a b : Nat) (w : World) (ha : a < 256) (hb : b < 256) : Calls Tryd.prog 51 #[.int .u8 a, .int .u8 b] w (U8Same (mul a b) w) := by
  go_enter Tryd.func51, Tryd.ntmps51
  go_wp2
  go_loop [5, 6, 7] (fun x o y => RelR (mul a b) x o y) (fun _ _ y => (intOf y).toNat)
  case atStart => exact ⟨a, 0, b, ha, by omega, hb, rfl, rfl, rfl, by simp⟩
  case round =>
    obtain ⟨x, o, y, hx, ho, hy, rfl, rfl, rfl, hrel⟩ := hrel
    have HR := Lib.hid hrel; clear hrel
    by_cases h0 : 0 < y
    · by_cases hx' : x < 128 <;> by_cases hy' : y % 2 = 1
      · have hb1 := and_odd hy hy'
        go_wp2
        go_round
        case rel => exact relR_next hx ho hy HR.out (dbl_low hx') (odd_xor hy' hx ho) (by omega)
        case measure => simp [intOf]; omega
      · have hb1 := and_even hy hy'
        go_wp2
        go_round
        case rel => exact relR_next hx ho hy HR.out (dbl_low hx') (even_xor hy') (by omega)
        case measure => simp [intOf]; omega
      · have hb1 := and_odd hy hy'
        go_wp2
        go_round
        case rel => exact relR_next hx ho hy HR.out (dbl_high hx' hx) (odd_xor hy' hx ho) (by omega)
        case measure => simp [intOf]; omega
      · have hb1 := and_even hy hy'
        go_wp2
        go_round
        case rel => exact relR_next hx ho hy HR.out (dbl_high hx' hx) (even_xor hy') (by omega)
        case measure => simp [intOf]; omega
    · go_wp2
      go_ret
      obtain rfl : y = 0 := by omega
      exact u8Same (by rw [← HR.out, mul_zero, Nat.xor_zero])
/-- What no factor ahead of i has found. -/
def RelI (a : Nat) (iv : Value) : Prop := ∃ i : Nat, 1 ≤ i ∧ i ≤ 256 ∧ iv = .int .i64 i ∧ ∀ j, j < i → mul a j ≠ 1
set_option maxHeartbeats 1000000 in
set_option maxRecDepth 100000 in
theorem refInv_any (a : Nat) (w : World) (ha : a < 256) : Calls Tryd.prog 50 #[.int .u8 a] w (U8Same (inv a) w) := by
  go_enter Tryd.func50, Tryd.ntmps50
  go_wp2
  go_loop [3] (fun i => RelI a i) (fun i => 256 - (intOf i).toNat)
  case atStart => exact ⟨1, by omega, by omega, rfl, fun j hj => by rw [show j = 0 by omega, mul_zero]; omega⟩
  case round =>
    obtain ⟨i, h1, h2, rfl, hno⟩ := hrel
    have HN := Lib.hid hno; clear hno
    by_cases h0 : i < 256
    · by_cases hm : mul a i = 1
      · have hi := inv_only ha h0 hm
        have HI := Lib.hid hi
        have HM := Lib.hid hm
        clear hi hm
        go_wp2_with fail
        go_at_call 51
        refine (refMul_any a i w ha h0).mono ?_
        rintro e w' ⟨rfl, rfl⟩
        have hm := HM.out
        go_wp2
        go_ret
        exact u8Same (by rw [HI.out])
      · have HM := Lib.hid hm
        clear hm
        go_wp2_with fail
        go_at_call 51
        refine (refMul_any a i w ha h0).mono ?_
        rintro e w' ⟨rfl, rfl⟩
        have hm : ((mul a i : Int) == 1) = false := beq_eq_false_iff_ne.2 fun e => HM.out (by omega)
        go_wp2
        go_round
        case rel => exact ⟨i + 1, by omega, by omega, by go_num, fun j hj => by
          by_cases e : j = i
          · subst e; exact HM.out
          · exact HN.out j (by omega)⟩
        case measure => simp [intOf]; omega
    · go_wp2
      go_ret
      have hn := HN.out
      have h0 : a = 0 := by
        by_cases e : a = 0
        · exact e
        · exact absurd (mul_inv ha e) (hn _ (by have := inv_lt a; omega))
      exact u8Same (by rw [h0, inv_zero]; rfl)
end Go.Proofs.YtoklknjnegpaaaaDoor
