/-
  The field with 256 elements, in numbers: powers of 2 and logarithms, products, inverses; that it is a field. Nothing of the program.
-/
import Derived.KernelRfl
namespace Go.Proofs.YtoklknjnegpaaaaDoor.Gf

/-- Twice an element. -/
def dbl (a : Nat) : Nat := if 2 * a < 256 then 2 * a else (2 * a) ^^^ 285
/-- The n-th power of 2. -/
def pw : Nat → Nat
  | 0 => 1
  | n + 1 => dbl (pw n)
def lgT : List Nat := [0, 0, 1, 25, 2, 50, 26, 198, 3, 223, 51, 238, 27, 104, 199, 75, 4, 100, 224, 14, 52, 141, 239, 129, 28, 193, 105, 248, 200, 8, 76, 113, 5, 138, 101, 47, 225, 36, 15, 33, 53, 147, 142, 218, 240, 18, 130, 69, 29, 181, 194, 125, 106, 39, 249, 185, 201, 154, 9, 120, 77, 228, 114, 166, 6, 191, 139, 98, 102, 221, 48, 253, 226, 152, 37, 179, 16, 145, 34, 136, 54, 208, 148, 206, 143, 150, 219, 189, 241, 210, 19, 92, 131, 56, 70, 64, 30, 66, 182, 163, 195, 72, 126, 110, 107, 58, 40, 84, 250, 133, 186, 61, 202, 94, 155, 159, 10, 21, 121, 43, 78, 212, 229, 172, 115, 243, 167, 87, 7, 112, 192, 247, 140, 128, 99, 13, 103, 74, 222, 237, 49, 197, 254, 24, 227, 165, 153, 119, 38, 184, 180, 124, 17, 68, 146, 217, 35, 32, 137, 46, 55, 63, 209, 91, 149, 188, 207, 205, 144, 135, 151, 178, 220, 252, 190, 97, 242, 86, 211, 171, 20, 42, 93, 158, 132, 60, 57, 83, 71, 109, 65, 162, 31, 45, 67, 216, 183, 123, 164, 118, 196, 23, 73, 236, 127, 12, 111, 246, 108, 161, 59, 82, 41, 157, 85, 170, 251, 96, 134, 177, 187, 204, 62, 90, 203, 89, 95, 176, 156, 169, 160, 81, 11, 245, 22, 235, 122, 117, 44, 215, 79, 174, 213, 233, 230, 231, 173, 232, 116, 214, 244, 234, 168, 80, 88, 175]
/-- The logarithm of an element that is not 0. -/
def lg (a : Nat) : Nat := lgT.getD a 0
def mul (a b : Nat) : Nat := if a = 0 ∨ b = 0 then 0 else pw (lg a + lg b)
def inv (a : Nat) : Nat := if a = 0 then 0 else pw (255 - lg a)

/-- The table holds: from the n-th power x on, fuel times. -/
def chk : Nat → Nat → Nat → Bool
  | 0, n, x => n == 255 && x == 1
  | k + 1, n, x => (lgT.getD x 0 == n && x != 0 && decide (x < 256)) && chk k (n + 1) (dbl x)
theorem chk_all : chk 255 0 1 = true := by decide +kernel
theorem chk_step : ∀ (k n : Nat), chk k n (pw n) = true → ∀ i, i < k → (lg (pw (n + i)) = n + i ∧ pw (n + i) ≠ 0 ∧ pw (n + i) < 256) ∧ pw (n + k) = 1
  | 0, n, h, i, hi => by omega
  | k + 1, n, h, i, hi => by
    have h' : ((lgT.getD (pw n) 0 == n && pw n != 0 && decide (pw n < 256)) && chk k (n + 1) (pw (n + 1))) = true := h
    simp only [Bool.and_eq_true, beq_iff_eq, bne_iff_ne, decide_eq_true_eq] at h'
    obtain ⟨⟨⟨h1, h2⟩, h3⟩, h4⟩ := h'
    have hend : pw (n + (k + 1)) = 1 := by
      by_cases hk : k = 0
      · subst hk
        have : ((n + 1 == 255) && (pw (n + 1) == 1)) = true := h4
        simp only [Bool.and_eq_true, beq_iff_eq] at this
        exact this.2
      · have := (chk_step k (n + 1) h4 0 (by omega)).2
        rw [show n + (k + 1) = n + 1 + k by omega]; exact this
    refine ⟨?_, hend⟩
    by_cases hi0 : i = 0
    · subst hi0; exact ⟨h1, h2, h3⟩
    · have := (chk_step k (n + 1) h4 (i - 1) (by omega)).1
      rw [show n + i = n + 1 + (i - 1) by omega]; exact this
theorem lg_pw (i : Nat) (h : i < 255) : lg (pw i) = i := by have := (chk_step 255 0 chk_all i h).1.1; simpa using this
theorem pw_255 : pw 255 = 1 := by have := (chk_step 255 0 chk_all 0 (by omega)).2; simpa using this
def it : Nat → Nat → Nat
  | 0, x => x
  | n + 1, x => dbl (it n x)
theorem pw_add (i j : Nat) : pw (i + j) = it i (pw j) := by
  induction i with
  | zero => simp [it]
  | succ i ih => rw [show i + 1 + j = (i + j) + 1 by omega]; show dbl (pw (i + j)) = dbl (it i (pw j)); rw [ih]
theorem pw_wrap (n : Nat) : pw (n + 255) = pw n := by rw [pw_add, pw_255]; have := pw_add n 0; exact this.symm
theorem pw_mod (n : Nat) : pw (n % 255) = pw n := by
  induction n using Nat.strongRecOn with
  | ind n ih =>
    by_cases h : n < 255
    · rw [Nat.mod_eq_of_lt h]
    · have := ih (n - 255) (by omega)
      rw [show n = n - 255 + 255 by omega, pw_wrap, ← this, Nat.add_mod_right]
theorem pw_ne (n : Nat) : pw n ≠ 0 := by rw [← pw_mod]; have := (chk_step 255 0 chk_all (n % 255) (by omega)).1.2.1; simpa using this
theorem pw_lt (n : Nat) : pw n < 256 := by rw [← pw_mod]; have := (chk_step 255 0 chk_all (n % 255) (by omega)).1.2.2; simpa using this
theorem lg_mod (n : Nat) : lg (pw n) = n % 255 := by rw [← pw_mod, lg_pw _ (by omega)]
theorem pw_inj {i j : Nat} (hi : i < 255) (hj : j < 255) (h : pw i = pw j) : i = j := by have := lg_pw i hi; rw [h, lg_pw j hj] at this; exact this.symm

/-- Each element but 0 is a power of 2. -/
def back : Nat → Bool
  | 0 => true
  | a + 1 => (a == 0 || (pw (lg a) == a && decide (lg a < 255))) && back a
theorem back_all : back 256 = true := by decide +kernel
theorem back_step : ∀ (n a : Nat), back n = true → a < n → a ≠ 0 → pw (lg a) = a ∧ lg a < 255
  | n + 1, a, h, ha, h0 => by
    have h' : ((n == 0 || (pw (lg n) == n && decide (lg n < 255))) && back n) = true := h
    simp only [Bool.and_eq_true, Bool.or_eq_true, beq_iff_eq, decide_eq_true_eq] at h'
    by_cases e : a = n
    · subst e; rcases h'.1 with h1 | h1
      · omega
      · exact h1
    · exact back_step n a h'.2 (by omega) h0
theorem pw_lg {a : Nat} (h : a < 256) (h0 : a ≠ 0) : pw (lg a) = a := (back_step 256 a back_all h h0).1
theorem lg_lt {a : Nat} (h : a < 256) : lg a < 255 := by
  by_cases h0 : a = 0
  · subst h0; decide
  · exact (back_step 256 a back_all h h0).2

theorem dbl_lt {a : Nat} (h : a < 256) : dbl a < 256 := by
  by_cases h0 : a = 0
  · subst h0; decide
  · have := pw_lt (lg a + 1); show dbl a < 256; rw [← pw_lg h h0]; exact this
theorem dbl_xor_all : (List.range 256).all (fun x => (List.range 256).all fun y => dbl (x ^^^ y) == dbl x ^^^ dbl y) = true := by decide +kernel
theorem dbl_xor {x y : Nat} (hx : x < 256) (hy : y < 256) : dbl (x ^^^ y) = dbl x ^^^ dbl y := by
  have := List.all_eq_true.1 (List.all_eq_true.1 dbl_xor_all x (List.mem_range.2 hx)) y (List.mem_range.2 hy)
  exact beq_iff_eq.1 this
theorem xor_lt {x y : Nat} (hx : x < 256) (hy : y < 256) : x ^^^ y < 256 := Nat.xor_lt_two_pow (n := 8) hx hy
theorem it_lt {x : Nat} (hx : x < 256) : ∀ n, it n x < 256
  | 0 => hx
  | n + 1 => dbl_lt (it_lt hx n)
theorem it_xor {x y : Nat} (hx : x < 256) (hy : y < 256) : ∀ n, it n (x ^^^ y) = it n x ^^^ it n y
  | 0 => rfl
  | n + 1 => by show dbl (it n (x ^^^ y)) = dbl (it n x) ^^^ dbl (it n y); rw [it_xor hx hy n, dbl_xor (it_lt hx n) (it_lt hy n)]
theorem it_zero : ∀ n, it n 0 = 0
  | 0 => rfl
  | n + 1 => by show dbl (it n 0) = 0; rw [it_zero n]; rfl
theorem mul_it {a b : Nat} (ha : a ≠ 0) (hb : b < 256) : mul a b = it (lg a) b := by
  unfold mul
  by_cases h0 : b = 0
  · subst h0; rw [if_pos (Or.inr rfl), it_zero]
  · rw [if_neg (by omega), pw_add, pw_lg hb h0]
theorem mul_zero (a : Nat) : mul a 0 = 0 := by simp [mul]
theorem zero_mul (a : Nat) : mul 0 a = 0 := by simp [mul]
theorem mul_lt (a b : Nat) : mul a b < 256 := by
  unfold mul; split
  · omega
  · exact pw_lt _
theorem mul_comm (a b : Nat) : mul a b = mul b a := by unfold mul; rw [Nat.add_comm]; simp only [or_comm]
theorem mul_xor {a b c : Nat} (hb : b < 256) (hc : c < 256) : mul a (b ^^^ c) = mul a b ^^^ mul a c := by
  by_cases h : a = 0
  · subst h; simp [zero_mul]
  · rw [mul_it h (xor_lt hb hc), mul_it h hb, mul_it h hc, it_xor hb hc]
theorem xor_mul {a b c : Nat} (ha : a < 256) (hb : b < 256) : mul (a ^^^ b) c = mul a c ^^^ mul b c := by
  rw [mul_comm, mul_xor ha hb, mul_comm c a, mul_comm c b]
theorem mul_ne {a b : Nat} (ha : a ≠ 0) (hb : b ≠ 0) : mul a b ≠ 0 := by unfold mul; rw [if_neg (by omega)]; exact pw_ne _
theorem mul_pw (i j : Nat) : mul (pw i) (pw j) = pw (i + j) := by
  unfold mul; rw [if_neg (by have := pw_ne i; have := pw_ne j; omega), lg_mod, lg_mod, ← pw_mod, Nat.mod_add_mod, Nat.add_mod_mod, pw_mod]
theorem mul_assoc {a b c : Nat} (ha : a < 256) (hb : b < 256) (hc : c < 256) : mul (mul a b) c = mul a (mul b c) := by
  by_cases h1 : a = 0
  · subst h1; simp [zero_mul]
  by_cases h2 : b = 0
  · subst h2; simp [zero_mul, mul_zero]
  by_cases h3 : c = 0
  · subst h3; simp [mul_zero]
  rw [← pw_lg ha h1, ← pw_lg hb h2, ← pw_lg hc h3, mul_pw, mul_pw, mul_pw, mul_pw, Nat.add_assoc]
theorem mul_one {a : Nat} (ha : a < 256) : mul a 1 = a := by
  by_cases h : a = 0
  · subst h; rw [zero_mul]
  · have h1 : mul a (pw 0) = pw (lg a) := by rw [← pw_lg ha h, mul_pw, pw_lg ha h]; rfl
    rw [pw_lg ha h] at h1; exact h1
theorem inv_lt (a : Nat) : inv a < 256 := by
  unfold inv; split
  · omega
  · exact pw_lt _
theorem inv_zero : inv 0 = 0 := by simp [inv]
theorem inv_ne {a : Nat} (h : a ≠ 0) : inv a ≠ 0 := by unfold inv; rw [if_neg h]; exact pw_ne _
theorem mul_inv {a : Nat} (ha : a < 256) (h : a ≠ 0) : mul a (inv a) = 1 := by
  have hl := lg_lt ha
  unfold inv; rw [if_neg h]
  have h1 : mul (pw (lg a)) (pw (255 - lg a)) = pw 255 := by rw [mul_pw]; congr 1; omega
  rw [pw_lg ha h, pw_255] at h1; exact h1
/-- There is one inverse alone. -/
theorem inv_only {a b : Nat} (ha : a < 256) (hb : b < 256) (h : mul a b = 1) : b = inv a := by
  have h0 : a ≠ 0 := fun e => by rw [e, zero_mul] at h; omega
  have h1 : mul (inv a) (mul a b) = b := by rw [← mul_assoc (inv_lt a) ha hb, mul_comm (inv a) a, mul_inv ha h0, mul_comm, mul_one hb]
  rw [h, mul_one (inv_lt a)] at h1; exact h1.symm
theorem dbl_mul {x : Nat} (hx : x < 256) : mul 2 x = dbl x := by
  have : lg 2 = 1 := by decide
  rw [mul_it (by omega) hx, this]; rfl
end Go.Proofs.YtoklknjnegpaaaaDoor.Gf
