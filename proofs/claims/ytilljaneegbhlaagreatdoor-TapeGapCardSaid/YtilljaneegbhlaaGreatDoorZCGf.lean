import Derived.KernelRfl
import Derived.Test.YtilljaneegbhlaaGreatDoorZKit
import Derived.Laws.BitsAllLaws
import Derived.Test.YtilljaneegbhlaaGreatDoorZBytes
import Derived.Lib.SliceRun
import Derived.Deep.RegionWith
namespace Go.Proofs.YtilljaneegbhlaaGreatDoor.Gf
def dbl (a : Nat) : Nat := if 2 * a < 256 then 2 * a else (2 * a) ^^^ 285
def pw : Nat → Nat
 | 0 => 1
 | n + 1 => dbl (pw n)
def lgT : List Nat := [0, 0, 1, 25, 2, 50, 26, 198, 3, 223, 51, 238, 27, 104, 199, 75, 4, 100, 224, 14, 52, 141, 239, 129, 28, 193, 105, 248, 200, 8, 76, 113, 5, 138, 101, 47, 225, 36, 15, 33, 53, 147, 142, 218, 240, 18, 130, 69, 29, 181, 194, 125, 106, 39, 249, 185, 201, 154, 9, 120, 77, 228, 114, 166, 6, 191, 139, 98, 102, 221, 48, 253, 226, 152, 37, 179, 16, 145, 34, 136, 54, 208, 148, 206, 143, 150, 219, 189, 241, 210, 19, 92, 131, 56, 70, 64, 30, 66, 182, 163, 195, 72, 126, 110, 107, 58, 40, 84, 250, 133, 186, 61, 202, 94, 155, 159, 10, 21, 121, 43, 78, 212, 229, 172, 115, 243, 167, 87, 7, 112, 192, 247, 140, 128, 99, 13, 103, 74, 222, 237, 49, 197, 254, 24, 227, 165, 153, 119, 38, 184, 180, 124, 17, 68, 146, 217, 35, 32, 137, 46, 55, 63, 209, 91, 149, 188, 207, 205, 144, 135, 151, 178, 220, 252, 190, 97, 242, 86, 211, 171, 20, 42, 93, 158, 132, 60, 57, 83, 71, 109, 65, 162, 31, 45, 67, 216, 183, 123, 164, 118, 196, 23, 73, 236, 127, 12, 111, 246, 108, 161, 59, 82, 41, 157, 85, 170, 251, 96, 134, 177, 187, 204, 62, 90, 203, 89, 95, 176, 156, 169, 160, 81, 11, 245, 22, 235, 122, 117, 44, 215, 79, 174, 213, 233, 230, 231, 173, 232, 116, 214, 244, 234, 168, 80, 88, 175]
def lg (a : Nat) : Nat := lgT.getD a 0
def mul (a b : Nat) : Nat := if a = 0 ∨ b = 0 then 0 else pw (lg a + lg b)
def inv (a : Nat) : Nat := if a = 0 then 0 else pw (255 - lg a)
def chk : Nat → Nat → Nat → Bool
 | 0, n, x => n == 255 && x == 1
 | k + 1, n, x => (lgT.getD x 0 == n && x != 0 && decide (x < 256)) && chk k (n + 1) (dbl x)
theorem chk_all : chk 255 0 1 = true := by decide +kernel
theorem chk_step : ∀ (k n : Nat), chk k n (pw n) = true → ∀ i, i < k → (lg (pw (n + i)) = n + i ∧ pw (n + i) ≠ 0 ∧ pw (n + i) < 256) ∧ pw (n + k) = 1
 | 0, n, h, i, hi => by omega
 | k + 1, n, h, i, hi => by
  have h' : ((lgT.getD (pw n) 0 == n && pw n != 0 && decide (pw n < 256)) && chk k (n + 1) (pw (n + 1))) = true := h; simp only [Bool.and_eq_true, beq_iff_eq, bne_iff_ne, decide_eq_true_eq] at h'; obtain ⟨⟨⟨h1, h2⟩, h3⟩, h4⟩ := h'
  have hend : pw (n + (k + 1)) = 1 := by
   by_cases hk : k = 0
   ·subst hk
    have : ((n + 1 == 255) && (pw (n + 1) == 1)) = true := h4; simp only [Bool.and_eq_true, beq_iff_eq] at this; exact this.2
   ·have := (chk_step k (n + 1) h4 0 (by omega)).2
    rw [show n + (k + 1) = n + 1 + k by omega]; exact this
  refine ⟨?_, hend⟩
  by_cases hi0 : i = 0
  ·subst hi0; exact ⟨h1, h2, h3⟩
  ·have := (chk_step k (n + 1) h4 (i - 1) (by omega)).1
   rw [show n + i = n + 1 + (i - 1) by omega]; exact this
theorem lg_pw (i : Nat) (h : i < 255) : lg (pw i) = i := by have := (chk_step 255 0 chk_all i h).1.1; simpa using this
theorem pw_255 : pw 255 = 1 := by have := (chk_step 255 0 chk_all 0 (by omega)).2; simpa using this
def it : Nat → Nat → Nat
 | 0, x => x
 | n + 1, x => dbl (it n x)
theorem pw_add (i j : Nat) : pw (i + j) = it i (pw j) := by
 induction i with
 | zero => simp [it]
 | succ i ih => rw [show i + 1 + j = (i + j) + 1 by omega]; show dbl (pw (i + j)) = dbl (it i (pw j)); rw [ih]
theorem pw_wrap (n : Nat) : pw (n + 255) = pw n := by rw [pw_add, pw_255]; have := pw_add n 0; exact this.symm
theorem pw_mod (n : Nat) : pw (n % 255) = pw n := by
 induction n using Nat.strongRecOn with
 | ind n ih =>
  by_cases h : n < 255
  ·rw [Nat.mod_eq_of_lt h]
  ·have := ih (n - 255) (by omega)
   rw [show n = n - 255 + 255 by omega, pw_wrap, ← this, Nat.add_mod_right]
theorem pw_ne (n : Nat) : pw n ≠ 0 := by rw [← pw_mod]; have := (chk_step 255 0 chk_all (n % 255) (by omega)).1.2.1; simpa using this
theorem pw_lt (n : Nat) : pw n < 256 := by rw [← pw_mod]; have := (chk_step 255 0 chk_all (n % 255) (by omega)).1.2.2; simpa using this
theorem lg_mod (n : Nat) : lg (pw n) = n % 255 := by rw [← pw_mod, lg_pw _ (by omega)]
theorem pw_inj {i j : Nat} (hi : i < 255) (hj : j < 255) (h : pw i = pw j) : i = j := by have := lg_pw i hi; rw [h, lg_pw j hj] at this; exact this.symm
def back : Nat → Bool
 | 0 => true
 | a + 1 => (a == 0 || (pw (lg a) == a && decide (lg a < 255))) && back a
theorem back_all : back 256 = true := by decide +kernel
theorem back_step : ∀ (n a : Nat), back n = true → a < n → a ≠ 0 → pw (lg a) = a ∧ lg a < 255
 | n + 1, a, h, ha, h0 => by
  have h' : ((n == 0 || (pw (lg n) == n && decide (lg n < 255))) && back n) = true := h; simp only [Bool.and_eq_true, Bool.or_eq_true, beq_iff_eq, decide_eq_true_eq] at h'
  by_cases e : a = n
  ·subst e; rcases h'.1 with h1 | h1
   ·omega
   ·exact h1
  ·exact back_step n a h'.2 (by omega) h0
variable {a : Nat}
theorem pw_lg (h : a < 256) (h0 : a ≠ 0) : pw (lg a) = a := (back_step 256 a back_all h h0).1
theorem lg_lt (h : a < 256) : lg a < 255 := by
 by_cases h0 : a = 0
 ·subst h0; decide
 ·exact (back_step 256 a back_all h h0).2
theorem dbl_lt (h : a < 256) : dbl a < 256 := by
 by_cases h0 : a = 0
 ·subst h0; decide
 ·have := pw_lt (lg a + 1); show dbl a < 256; rw [← pw_lg h h0]; exact this
theorem dbl_xor_all : (List.range 256).all (fun x => (List.range 256).all fun y => dbl (x ^^^ y) == dbl x ^^^ dbl y) = true := by decide +kernel
variable {x y : Nat}
theorem dbl_xor (hx : x < 256) (hy : y < 256) : dbl (x ^^^ y) = dbl x ^^^ dbl y := by
 have := List.all_eq_true.1 (List.all_eq_true.1 dbl_xor_all x (List.mem_range.2 hx)) y (List.mem_range.2 hy)
 exact beq_iff_eq.1 this
theorem xor_lt (hx : x < 256) (hy : y < 256) : x ^^^ y < 256 := Nat.xor_lt_two_pow (n := 8) hx hy
theorem it_lt {x : Nat} (hx : x < 256) : ∀ n, it n x < 256
 | 0 => hx
 | n + 1 => dbl_lt (it_lt hx n)
theorem it_xor {x y : Nat} (hx : x < 256) (hy : y < 256) : ∀ n, it n (x ^^^ y) = it n x ^^^ it n y
 | 0 => rfl
 | n + 1 => by show dbl (it n (x ^^^ y)) = dbl (it n x) ^^^ dbl (it n y); rw [it_xor hx hy n, dbl_xor (it_lt hx n) (it_lt hy n)]
theorem it_zero : ∀ n, it n 0 = 0
 | 0 => rfl
 | n + 1 => by show dbl (it n 0) = 0; rw [it_zero n]; rfl
variable {b : Nat}
theorem mul_it (ha : a ≠ 0) (hb : b < 256) : mul a b = it (lg a) b := by
 unfold mul
 by_cases h0 : b = 0
 ·subst h0; rw [if_pos (Or.inr rfl), it_zero]
 ·rw [if_neg (by omega), pw_add, pw_lg hb h0]
theorem mul_zero (a : Nat) : mul a 0 = 0 := by simp [mul]
theorem zero_mul (a : Nat) : mul 0 a = 0 := by simp [mul]
theorem mul_lt (a b : Nat) : mul a b < 256 := by
 unfold mul; split
 ·omega
 ·exact pw_lt _
theorem mul_comm (a b : Nat) : mul a b = mul b a := by unfold mul; rw [Nat.add_comm]; simp only [or_comm]
variable {c : Nat}
theorem mul_xor (hb : b < 256) (hc : c < 256) : mul a (b ^^^ c) = mul a b ^^^ mul a c := by
 by_cases h : a = 0
 ·subst h; simp [zero_mul]
 ·rw [mul_it h (xor_lt hb hc), mul_it h hb, mul_it h hc, it_xor hb hc]
theorem xor_mul (ha : a < 256) (hb : b < 256) : mul (a ^^^ b) c = mul a c ^^^ mul b c := by
 rw [mul_comm, mul_xor ha hb, mul_comm c a, mul_comm c b]
theorem mul_ne (ha : a ≠ 0) (hb : b ≠ 0) : mul a b ≠ 0 := by unfold mul; rw [if_neg (by omega)]; exact pw_ne _
theorem mul_pw (i j : Nat) : mul (pw i) (pw j) = pw (i + j) := by
 unfold mul; rw [if_neg (by have := pw_ne i; have := pw_ne j; omega), lg_mod, lg_mod, ← pw_mod, Nat.mod_add_mod, Nat.add_mod_mod, pw_mod]
theorem mul_assoc (ha : a < 256) (hb : b < 256) (hc : c < 256) : mul (mul a b) c = mul a (mul b c) := by
 by_cases h1 : a = 0
 ·subst h1; simp [zero_mul]
 by_cases h2 : b = 0
 ·subst h2; simp [zero_mul, mul_zero]
 by_cases h3 : c = 0
 ·subst h3; simp [mul_zero]
 rw [← pw_lg ha h1, ← pw_lg hb h2, ← pw_lg hc h3, mul_pw, mul_pw, mul_pw, mul_pw, Nat.add_assoc]
theorem mul_one (ha : a < 256) : mul a 1 = a := by
 by_cases h : a = 0
 ·subst h; rw [zero_mul]
 ·have h1 : mul a (pw 0) = pw (lg a) := by rw [← pw_lg ha h, mul_pw, pw_lg ha h]; rfl
  rw [pw_lg ha h] at h1; exact h1
theorem inv_lt (a : Nat) : inv a < 256 := by
 unfold inv; split
 ·omega
 ·exact pw_lt _
theorem inv_zero : inv 0 = 0 := by simp [inv]
theorem inv_ne (h : a ≠ 0) : inv a ≠ 0 := by unfold inv; rw [if_neg h]; exact pw_ne _
theorem mul_inv (ha : a < 256) (h : a ≠ 0) : mul a (inv a) = 1 := by
 have hl := lg_lt ha
 unfold inv; rw [if_neg h]
 have h1 : mul (pw (lg a)) (pw (255 - lg a)) = pw 255 := by rw [mul_pw]; congr 1; omega
 rw [pw_lg ha h, pw_255] at h1; exact h1
end Go.Proofs.YtilljaneegbhlaaGreatDoor.Gf
namespace Go.Proofs.YtilljaneegbhlaaGreatDoor
open Go.RowKit Gf
set_option maxHeartbeats 1000000
set_option maxRecDepth 100000
def NumSameF (n : Int) (w : World) (e : Ending) (w' : World) : Prop := e = .returned (.int .i64 n) ∧ w = w'
variable {a : Int} {w : World}
theorem numSame {b : Int} (h : a = b) : NumSameF b w (.returned (.int .i64 a)) w := ⟨by rw [h], rfl⟩
theorem i64_xor_nat (a b : Nat) (ha : a < 4294967296) (hb : b < 4294967296) : bits .xor .i64 (a : Int) (b : Int) = ((a ^^^ b : Nat) : Int) := by
 have hx : a ^^^ b < 2 ^ 32 := Nat.xor_lt_two_pow (by omega) (by omega)
 show IntKind.i64.wrap ((BitVec.ofInt 64 (a : Int) ^^^ BitVec.ofInt 64 (b : Int)).toNat : Int) = _
 rw [BitVec.toNat_xor, ofInt_u64 a (by omega), ofInt_u64 b (by omega), IntKind.wrap_i64]
 omega
theorem double_num (x : Nat) (w : World) (hx : x < 256) : Calls Tryz.prog 165 #[.int .i64 x] w (NumSameF (dbl x) w) := by
 by_cases h : x < 128
 ·have hd : ((2 * x : Nat) : Int) = dbl x := by unfold dbl; rw [if_pos (by omega)]
  have H := hI hd; clear hd
  go_enter Tryz.func165, Tryz.ntmps165
  go_wp2
  go_ret; exact numSame (by rw [← H.out]; omega)
 ·have hd : bits .xor .i64 ((x : Int) * 2) 285 = dbl x := by
   have := i64_xor_nat (2 * x) 285 (by omega) (by omega); rw [show ((x : Int) * 2) = ((2 * x : Nat) : Int) by omega]; unfold dbl; rw [if_neg (by omega)]; exact this
  have H := hI hd; clear hd
  go_enter Tryz.func165, Tryz.ntmps165
  go_wp2
  go_ret; exact numSame H.out
structure LaidF (cs : Array Value) (n : Nat) : Prop where
 size : cs.size = 511
 exp : ∀ i, i < n → cs[i]? = some (.int .u8 (pw i))
 none_ : cs[255]? = some (.int .i64 (-1))
 log : ∀ i, i < n → cs[255 + pw i]? = some (.int .i64 i)
theorem LaidF.next {cs : Array Value} {n : Nat} (h : LaidF cs n) (hn : n < 255) : LaidF ((cs.setIfInBounds n (.int .u8 (pw n))).setIfInBounds (255 + pw n) (.int .i64 n)) (n + 1) := by
 have hlt := pw_lt n
 have hne := pw_ne n
 have hs := h.size
 refine ⟨by simp [hs], fun i hi => ?_, ?_, fun i hi => ?_⟩
 ·rw [Array.getElem?_setIfInBounds_ne (by omega)]
  by_cases e : i = n
  ·subst e; rw [Array.getElem?_setIfInBounds_self_of_lt (by omega)]
  ·rw [Array.getElem?_setIfInBounds_ne (by omega)]; exact h.exp i (by omega)
 ·rw [Array.getElem?_setIfInBounds_ne (by omega), Array.getElem?_setIfInBounds_ne (by omega)]; exact h.none_
 ·by_cases e : i = n
  ·subst e; rw [Array.getElem?_setIfInBounds_self_of_lt (by simp; omega)]
  ·have hd : pw i ≠ pw n := fun q => e (pw_inj (by omega) hn q)
   have := pw_lt i; have := pw_ne i; rw [Array.getElem?_setIfInBounds_ne (by omega), Array.getElem?_setIfInBounds_ne (by omega)]; exact h.log i (by omega)
noncomputable def fieldZ : Array Value := ((Tryz.t258.zero).getD undef).cells
theorem fieldZ_eq : Tryz.t258.zero = some (.agg fieldZ) := by kernel_rfl
theorem fieldZ_size : fieldZ.size = 511 := by kernel_rfl
theorem zero_field (w : World) : (zeroValue 258).run Tryz.prog w = .ok (.agg fieldZ) w := by
 simp [zeroValue, Tryz.typeInfo258, fieldZ_eq]
structure FieldIn (w : World) (b : Nat) : Prop where
 exp : ∀ i, i < 255 → w.cell? ⟨b, i, none⟩ = some (.int .u8 (pw i))
 none_ : w.cell? ⟨b, 255, none⟩ = some (.int .i64 (-1))
 log : ∀ a, a < 256 → a ≠ 0 → w.cell? ⟨b, 255 + a, none⟩ = some (.int .i64 (lg a))
variable {b : Nat}
theorem FieldIn.below {w' : World} (h : FieldIn w b) (hl : b < w.heap.size) (hb : Below w.heap.size w w') : FieldIn w' b :=
 ⟨fun i hi => by rw [hb.cell hl]; exact h.exp i hi, by rw [hb.cell hl]; exact h.none_, fun a ha h0 => by rw [hb.cell hl]; exact h.log a ha h0⟩
theorem FieldIn.drewN (h : FieldIn w b) (n : Nat) : FieldIn (w.drewN n) b := ⟨h.exp, h.none_, h.log⟩
theorem fieldIn_new (w : World) {cs : Array Value} (h : LaidF cs 255) : FieldIn (w.alloc (.cells cs 258)) w.heap.size := by
 have key : ∀ i, (w.alloc (.cells cs 258)).cell? ⟨w.heap.size, i, none⟩ = cs[i]? := fun i => by unfold World.cell? World.alloc; rw [Array.getElem?_push_size]; rfl
 refine ⟨fun i hi => by rw [key]; exact h.exp i hi, by rw [key]; exact h.none_, fun a ha h0 => ?_⟩
 rw [key]
 have := h.log (lg a) (lg_lt ha)
 rwa [pw_lg ha h0] at this
def RelMF (w0 : World) (p c : Value) (wr : World) : Prop := ∃ k : Nat, k ≤ 255 ∧ p = .int .i64 (pw k) ∧ c = .int .i64 k ∧ ∃ cs, wr = w0.alloc (.cells cs 258) ∧ LaidF cs k
def NewField (w : World) (e : Ending) (w' : World) : Prop := e = .returned (.pointer (some ⟨w.heap.size, 0, none⟩)) ∧ FieldIn w' w.heap.size ∧ w'.heap.size = w.heap.size + 1 ∧ Below w.heap.size w w'
theorem newField (w : World) {cs : Array Value} (h : LaidF cs 255) : NewField w (.returned (.pointer (some ⟨w.heap.size, 0, none⟩))) (w.alloc (.cells cs 258)) :=
 ⟨rfl, fieldIn_new w h, by simp, one_below _ _⟩
theorem laidF_0 : LaidF (fieldZ.setIfInBounds 255 (.int .i64 (-1))) 0 :=
 ⟨by rw [Array.size_setIfInBounds]; exact fieldZ_size, fun i hi => by omega, by rw [Array.getElem?_setIfInBounds_self_of_lt (by rw [fieldZ_size]; omega)], fun i hi => by omega⟩
theorem fmake_any (w : World) : Calls Tryz.prog 138 #[] w (NewField w) := by
 have hz := zero_field
 have hc : (Value.agg fieldZ).cells = fieldZ := rfl
 obtain ⟨v0, h0⟩ : ∃ v, fieldZ[255]? = some v := ⟨_, Array.getElem?_eq_getElem (by rw [fieldZ_size]; omega)⟩
 go_enter Tryz.func138, Tryz.ntmps138
 go_wp2
 go_loopw [2, 10] (fun p c wr => RelMF w p c wr) (fun _ c _ => 255 - (intOf c).toNat)
 case atStart => exact ⟨0, Nat.zero_le _, rfl, rfl, _, rfl, laidF_0⟩
 case round =>
  obtain ⟨k, hk, rfl, rfl, cs, rfl, hL⟩ := hrel; have HL := hI hL; have hs := hL.size; clear hL hz hc h0; have hpl := pw_lt k
  by_cases hlt : k < 255
  ·obtain ⟨v1, h1⟩ : ∃ v, cs[k]? = some v := ⟨_, Array.getElem?_eq_getElem (by omega)⟩
   obtain ⟨v2, h2⟩ : ∃ v, (cs.setIfInBounds k (.int .u8 (pw k)))[255 + pw k]? = some v := ⟨_, Array.getElem?_eq_getElem (by rw [Array.size_setIfInBounds]; omega)⟩
   go_wp2_with (go_at_call 165; refine (double_num _ _ (pw_lt k)).mono ?_; rintro e w' ⟨rfl, rfl⟩)
   go_roundw
   case rel => exact ⟨k + 1, by omega, rfl, by go_num, _, rfl, HL.out.next hlt⟩
   case measure => simp [intOf]; omega
  ·go_wp2
   obtain rfl : k = 255 := by omega
   go_ret; exact newField w HL.out
def U8Same (n : Nat) (w : World) (e : Ending) (w' : World) : Prop := e = .returned (.int .u8 n) ∧ w = w'
theorem u8Same (h : a = b) : U8Same b w (.returned (.int .u8 a)) w := ⟨by rw [h], rfl⟩
def U8Drew (n : Nat) (w : World) (e : Ending) (w' : World) : Prop := e = .returned (.int .u8 n) ∧ ∃ k, w' = w.drewN k
theorem fdrewN_0 (w : World) : w = w.drewN 0 := by first | rfl | simp [World.drewN]
theorem u8Drew (h : a = b) : U8Drew b w (.returned (.int .u8 a)) w := ⟨by rw [h], 0, fdrewN_0 w⟩
theorem u8Drew' {k : Nat} (h : a = b) : U8Drew b w (.returned (.int .u8 a)) (w.drewN k) := ⟨by rw [h], k, rfl⟩
def pwI (n : Int) : Nat := pw (n % 255).toNat
theorem pwI_nat (n : Nat) : pwI n = pw n := by
 unfold pwI; rw [← pw_mod n]; congr 1
theorem exp_any (w : World) (b : Nat) (hF : FieldIn w b) (n : Int) : Calls Tryz.prog 184 #[.pointer (some ⟨b, 0, none⟩), .int .i64 n] w (U8Same (pwI n) w) := by
 have e0 := Int.tmod_eq_emod (a := n) (b := 255)
 have b1 : n.tmod 255 < 255 := Int.tmod_lt_of_pos n (by omega)
 have b2 : -255 < n.tmod 255 := Int.lt_tmod_of_pos n (by omega)
 have b3 : n % 255 < 255 := Int.emod_lt_of_pos n (by omega)
 have b4 : 0 ≤ n % 255 := Int.emod_nonneg n (by omega)
 have hk : ((n % 255).toNat : Int) = n % 255 := by omega
 have hc := hF.exp (n % 255).toNat (by omega)
 have hr : pwI n = pw (n % 255).toNat := rfl
 generalize (n % 255).toNat = k at hc hr hk
 rw [hr]
 by_cases h : n.tmod 255 < 0
 ·have e : n.tmod 255 + 255 = k := by split at e0 <;> omega
  clear e0 hk hr b3 b4
  go_enter Tryz.func184, Tryz.ntmps184
  go_wp2
  go_ret; exact u8Same rfl
 ·have e : n.tmod 255 = k := by split at e0 <;> omega
  clear e0 hk hr b3 b4; rw [e] at b1 b2 h
  go_enter Tryz.func184, Tryz.ntmps184
  go_wp2
  go_ret; exact u8Same rfl
theorem exp_quiet (w : World) (b n : Nat) (hF : FieldIn (w.drewN n) b) (k : Nat) : Calls Tryz.prog 184 #[.pointer (some ⟨b, 0, none⟩), .int .i64 k] (w.drewN n) fun e w'' => e = .returned (.int .u8 (pw k)) ∧ ∃ m, w'' = w.drewN m :=
 (exp_any _ b hF k).mono fun _ _ ⟨h1, h2⟩ => ⟨by rw [h1, pwI_nat], n, h2.symm⟩
theorem mul_any (w : World) (b : Nat) (hF : FieldIn w b) (x y : Nat) (hx : x < 256) (hy : y < 256) : Calls Tryz.prog 187 #[.pointer (some ⟨b, 0, none⟩), .int .u8 x, .int .u8 y] w (U8Drew (mul x y) w) := by
 by_cases h : x = 0
 ·subst h
  go_enter Tryz.func187, Tryz.ntmps187
  go_wp2
  go_ret; exact u8Drew (by rw [zero_mul]; rfl)
 by_cases h' : y = 0
 ·subst h'
  go_enter Tryz.func187, Tryz.ntmps187
  go_wp2
  go_ret; exact u8Drew (by rw [mul_zero]; rfl)
 have hy0 : ((y : Int) == 0) = false := by simpa using h'
 have hx0 : ((x : Int) == 0) = false := by simpa using h
 have hc := hF.log x hx h
 have hd := hF.log y hy h'
 have lx := lg_lt hx
 have ly := lg_lt hy
 have hr : pw (lg x + lg y) = mul x y := by unfold mul; rw [if_neg (by omega)]
 have HR := hI hr; clear hr
 have HF := hI hF; clear hF
 go_enter Tryz.func187, Tryz.ntmps187
 go_wp2
 go_quiet ((go_at_call 184; exact exp_quiet _ _ _ (HF.out.drewN _) _))
 go_wp2
 go_ret
 exact u8Drew' (by rw [← HR.out])
theorem pwI_neg (l : Nat) (h : l < 255) : pwI (-(l : Int)) = pw (255 - l) := by
 unfold pwI
 by_cases e : l = 0
 ·subst e; exact pw_255.symm
 ·congr 1
  have : (-(l : Int)) % 255 = 255 - l := by omega
  omega
theorem inv_any (w : World) (b : Nat) (hF : FieldIn w b) (x : Nat) (hx : x < 256) : Calls Tryz.prog 166 #[.pointer (some ⟨b, 0, none⟩), .int .u8 x] w (U8Same (inv x) w) := by
 by_cases h : x = 0
 ·subst h
  go_enter Tryz.func166, Tryz.ntmps166
  go_wp2
  go_ret; exact u8Same (by rw [inv_zero]; rfl)
 have hx0 : ((x : Int) == 0) = false := by simpa using h
 have hc := hF.log x hx h
 have lx := lg_lt hx
 have hr : pwI (-(lg x : Int)) = inv x := by rw [pwI_neg _ lx]; unfold inv; rw [if_neg h]
 have HR := hI hr; clear hr
 have HF := hI hF; clear hF
 go_enter Tryz.func166, Tryz.ntmps166
 go_wp2_with (go_at_call 184; refine (exp_any _ _ HF.out _).mono ?_; rintro e w' ⟨rfl, rfl⟩)
 go_ret
 exact u8Same (by rw [HR.out])
end Go.Proofs.YtilljaneegbhlaaGreatDoor
namespace Go.Proofs.YtilljaneegbhlaaGreatDoor
open Go.RowKit
set_option maxHeartbeats 1000000
set_option maxRecDepth 100000
def Cloned (l : List UInt8) (w : World) (e : Ending) (w' : World) : Prop := ∃ v', e = .returned v' ∧ w'.ownsRow w.heap.size 5 1 v' l.length (bytesV l) ∧ Below w.heap.size w w'
theorem cloned {l : List UInt8} {w w2 : World} {v2 : Value} {o : Obj} (hown : w2.ownsRow w.heap.size 5 1 v2 (0 + l.length) ([] ++ bytesV l)) (hg : Grew (w.alloc o) (some w.heap.size) w2 v2.ownBlock) : Cloned l w (.returned v2) w2 :=
 ⟨v2, rfl, by rwa [Nat.zero_add, List.nil_append] at hown, (one_below w o).trans (hg.below (by simp) (fun k hk => by injection hk with hk; omega))⟩
theorem clone_bytes (B : Nat) (v : Value) (l : List UInt8) (w : World) (h : SlB B w v l) (hB : B ≤ w.heap.size) (hl : l.length ≤ 100000) : Calls Tryz.prog 186 #[v] w (Cloned l w) := by
 have H := hI h
 obtain ⟨a, cap, rfl, _⟩ := h.len
 have hn := Lib.run_eql_slice_nil w 37 5 a l.length cap 0 0 Tryz.underlying37
 clear h
 cases a with
 | none =>
  have hl0 : l = [] := by
   rcases H.out with ⟨h, _⟩ | ⟨b, o, cap, h, _⟩
   ·exact h
   ·injection h with h; cases h
  subst hl0; have hn0 := Lib.run_eql_slice_nil w 37 5 none 0 cap 0 0 Tryz.underlying37; clear hn
  go_enter Tryz.func186, Tryz.ntmps186
  go_wp2
  go_ret; exact ⟨_, rfl, World.ownsRow_nil _ _ _ _, Below.refl _ _⟩
 | some a =>
  go_enter Tryz.func186, Tryz.ntmps186
  go_wp2_with (at_builtin; refine wpList_append_bytes _ rfl _ _ rfl w.heap.size _ _ _ rfl (own_new w w.heap.size #[] 5 1 0 (Nat.le_refl _) rfl (by decide)) B _ l rfl (H.out.below ((Below.refl _ _).alloc hB _)) (by omega) (by simp) ?_; intro v2 w2 hown hg; have Hown := hI hown; have Hg := hI hg; clear hown hg); go_ret; exact cloned Hown.out Hg.out
end Go.Proofs.YtilljaneegbhlaaGreatDoor
namespace Go.Proofs.YtilljaneegbhlaaGreatDoor
open Go.RowKit Gf
set_option maxHeartbeats 1000000
set_option maxRecDepth 100000
def addK (ts fs : List UInt8) (x k : Nat) : List UInt8 :=
 (List.range ts.length).map fun i => if i < k ∧ i < fs.length then UInt8.ofNat ((ts.getD i 0).toNat ^^^ mul (fs.getD i 0).toNat x) else ts.getD i 0
def addB (ts fs : List UInt8) (x : Nat) : List UInt8 := addK ts fs x ts.length
theorem addK_length (ts fs : List UInt8) (x k : Nat) : (addK ts fs x k).length = ts.length := by simp [addK]
theorem addK_0 (ts fs : List UInt8) (x : Nat) : addK ts fs x 0 = ts := by
 refine List.ext_getElem (addK_length ..) fun i h1 h2 => ?_
 simp [addK, List.getD, h2]
theorem addK_getD (ts fs : List UInt8) (x k i : Nat) (h : i < ts.length) : (addK ts fs x k).getD i 0 = if i < k ∧ i < fs.length then UInt8.ofNat ((ts.getD i 0).toNat ^^^ mul (fs.getD i 0).toNat x) else ts.getD i 0 := by
 simp [addK, List.getD, h]
theorem addK_all (ts fs : List UInt8) (x k : Nat) (h : k = min ts.length fs.length) : addK ts fs x k = addB ts fs x := by
 refine List.ext_getElem (by simp [addB, addK_length]) fun i h1 h2 => ?_
 rw [addK_length] at h1
 have e1 := addK_getD ts fs x k i h1
 have e2 := addK_getD ts fs x ts.length i h1
 have h3 : (i < k ∧ i < fs.length) ↔ (i < ts.length ∧ i < fs.length) := by omega
 simp only [h3] at e1
 have : (addK ts fs x k).getD i 0 = (addB ts fs x).getD i 0 := by rw [e1]; unfold addB; rw [e2]
 simpa [List.getD, h1, addK_length, addB] using this
theorem addK_set (ts fs : List UInt8) (x k : Nat) (h2 : k < fs.length) :
  (bytesV (addK ts fs x k)).set k (.int .u8 (((ts.getD k 0).toNat ^^^ mul (fs.getD k 0).toNat x : Nat) : Int)) = bytesV (addK ts fs x (k + 1)) := by
 have hz : (ts.getD k 0).toNat ^^^ mul (fs.getD k 0).toNat x < 256 := xor_lt (UInt8.toNat_lt _) (mul_lt _ _)
 refine List.ext_getElem (by simp [bytesV, addK_length]) fun i h3 h4 => ?_
 have hi : i < ts.length := by simpa [bytesV, addK_length] using h4
 have e1 := addK_getD ts fs x k i hi
 have e2 := addK_getD ts fs x (k + 1) i hi
 have g1 : (addK ts fs x k)[i]'(by rw [addK_length]; exact hi) = (addK ts fs x k).getD i 0 := by simp [List.getD, addK_length, hi]
 have g2 : (addK ts fs x (k + 1))[i]'(by rw [addK_length]; exact hi) = (addK ts fs x (k + 1)).getD i 0 := by simp [List.getD, addK_length, hi]
 rw [List.getElem_set]
 simp only [bytesV, List.getElem_map, g1, g2, e1, e2]
 by_cases e : k = i
 ·subst e
  rw [if_pos rfl, if_pos ⟨by omega, h2⟩, UInt8.toNat_ofNat', Nat.mod_eq_of_lt hz]
 ·rw [if_neg e]
  by_cases hc : i < k ∧ i < fs.length
  ·rw [if_pos hc, if_pos ⟨by omega, hc.2⟩]
  ·rw [if_neg hc, if_neg (by omega)]
theorem addB_length (ts fs : List UInt8) (x : Nat) : (addB ts fs x).length = ts.length := addK_length ..
theorem addB_getD (ts fs : List UInt8) (x i : Nat) (h : i < ts.length) : ((addB ts fs x).getD i 0).toNat = if i < fs.length then (ts.getD i 0).toNat ^^^ mul (fs.getD i 0).toNat x else (ts.getD i 0).toNat := by
 have e := addK_getD ts fs x ts.length i h
 show ((addK ts fs x ts.length).getD i 0).toNat = _
 rw [e]
 have hz : (ts.getD i 0).toNat ^^^ mul (fs.getD i 0).toNat x < 256 := xor_lt (UInt8.toNat_lt _) (mul_lt _ _)
 by_cases h2 : i < fs.length
 ·rw [if_pos ⟨h, h2⟩, if_pos h2, UInt8.toNat_ofNat', Nat.mod_eq_of_lt hz]
 ·rw [if_neg (by omega), if_neg h2]
theorem ext_getD {l m : List UInt8} (hl : l.length = m.length) (h : ∀ i, i < m.length → (l.getD i 0).toNat = (m.getD i 0).toNat) : l = m := list_eq_getD hl fun i hi => UInt8.toNat_inj.1 (h i (by omega))
def AddedF (B : Nat) (v : Value) (l : List UInt8) (w : World) (e : Ending) (w' : World) : Prop :=
 e = .returned (.tuple #[]) ∧ w'.ownsRow B 5 1 v l.length (bytesV l) ∧ Grew w v.ownBlock w' v.ownBlock
def RelA (B : Nat) (v : Value) (ts fs : List UInt8) (x m : Nat) (w : World) (c : Value) (wr : World) : Prop :=
 ∃ k : Nat, k ≤ m ∧ c = .int .i64 k ∧ wr.ownsRow B 5 1 v ts.length (bytesV (addK ts fs x k)) ∧ Grew w v.ownBlock wr v.ownBlock
variable {w : World} {b : Nat}
theorem FieldIn.grew {w' : World} {r r' : Option Nat} (h : FieldIn w b) (hg : Grew w r w' r') (hne : r ≠ some b) : FieldIn w' b := by
 have hl : b < w.heap.size := World.block_lt_of_cell? w ⟨b, 255, none⟩ h.none_
 exact ⟨fun i hi => by rw [hg.cell hl (fun e => hne e.symm)]; exact h.exp i hi, by rw [hg.cell hl (fun e => hne e.symm)]; exact h.none_, fun a ha h0 => by rw [hg.cell hl (fun e => hne e.symm)]; exact h.log a ha h0⟩
theorem FieldIn.drew (h : FieldIn w b) : FieldIn w.drew b := ⟨h.exp, h.none_, h.log⟩
variable {B : Nat}
theorem added {m : Nat} {v : Value} {ts fs : List UInt8} {x : Nat} {w2 wr : World} (hm : m = min ts.length fs.length) (hb : Below w.heap.size w w2) (hown : wr.ownsRow B 5 1 v ts.length (bytesV (addK ts fs x m))) (hg : Grew w2 v.ownBlock wr v.ownBlock) :
  AddedF B v (addB ts fs x) w (.returned (.tuple #[])) wr := by
 have hl : (addB ts fs x).length = ts.length := addK_length ..
 exact ⟨rfl, by rw [hl, ← addK_all ts fs x m hm]; exact hown, ((Grew.refl w _).then hb).trans hg⟩
variable {gb n c : Nat}
theorem Grew.set_own {wr : World} (h : Grew w (Value.slice (some ⟨gb, 0, none⟩) n c).ownBlock wr (Value.slice (some ⟨gb, 0, none⟩) n c).ownBlock) (d k : Nat) (u : Value) :
  Grew w (Value.slice (some ⟨gb, 0, none⟩) n c).ownBlock ((wr.drewN d).setCell ⟨gb, k, none⟩ u) (Value.slice (some ⟨gb, 0, none⟩) n c).ownBlock := by
 refine ⟨⟨h.by_.os, h.by_.tape, h.by_.output, ?_, fun j hj hr => ?_⟩, Or.inl rfl⟩
 ·have := ((Below.refl 0 (wr.drewN d)).setCell (p := ⟨gb, k, none⟩) (Nat.zero_le _) u).size
  exact Nat.le_trans h.by_.size this
 ·have hne : j ≠ gb := fun e => hr (by rw [e]; rfl)
  rw [Below.heap_setCell _ _ _ _ hne]; exact h.by_.block j hj hr
theorem relA_own {wr : World} {k : Nat} {xs ys : List Value} {u : Value} (h : wr.ownsRow B 5 1 (.slice (some ⟨gb, 0, none⟩) n c) n xs) (hs : xs.set k u = ys) (d : Nat) :
  ((wr.drewN d).setCell ⟨gb, k, none⟩ u).ownsRow B 5 1 (.slice (some ⟨gb, 0, none⟩) n c) n ys := by
 rw [← hs]; exact own_set (w := wr.drewN d) h k u
theorem add_lt (fb B B' : Nat) (v u : Value) (ts fs : List UInt8) (x : Nat) (w : World) (hF : FieldIn w fb) (hx : x < 256) (hv : w.ownsRow B 5 1 v ts.length (bytesV ts)) (hu : SlB B' w u fs)
  (hB' : B' ≤ w.heap.size) (hne : v.ownBlock ≠ some fb) (ht : ts.length ≤ 100000) (hf : fs.length ≤ 100000) (hlt : fs.length < ts.length) :
  Calls Tryz.prog 173 #[.pointer (some ⟨fb, 0, none⟩), v, u, .int .u8 x] w (AddedF B v (addB ts fs x) w) := by
 obtain ⟨a, cap, rfl, hcap⟩ := hu.len
 have HU := hI hu
 have HV := hI hv
 have HF := hI hF
 have HN := hI hne
 have HL := hI hlt
 obtain ⟨g, c, rfl, hc⟩ := own_slice hv
 clear hu hv hF hne
 go_enter Tryz.func173, Tryz.ntmps173
 go_wp2_with fail
 clear hlt
 refine (clone_bytes B' _ (fs.take fs.length) w (slb_take HU.out (by have := HL.out; omega)) hB' (by rw [List.length_take]; omega)).mono ?_
 rintro e w2 ⟨v2, rfl, hown2, hb2⟩
 have hlm : (fs.take fs.length).length = fs.length := by rw [List.length_take]; have := HL.out; omega
 rw [hlm] at hown2
 have HLM := hI hlm
 have HO2 := hI hown2
 obtain ⟨g2, c2, rfl, hc2⟩ := own_slice hown2
 clear hown2 hlm
 go_wp2_with fail
 go_loopw [21] (fun i wr => RelA B (.slice g ts.length c) ts fs x fs.length w2 i wr) (fun i _ => fs.length - (intOf i).toNat)
 case atStart => exact ⟨0, Nat.zero_le _, rfl, by rw [addK_0]; exact own_below HV.out hb2, Grew.refl _ _⟩
 case round =>
  obtain ⟨k, hk, rfl, hown, hg⟩ := hrel; have HO := hI hown; have HG := hI hg; clear hown hg
  by_cases hkm : k < fs.length
  ·have hkt : k < ts.length := by have := HL.out; omega
   have hkf : k < fs.length := by have := HL.out; omega
   obtain ⟨gb, rfl⟩ := own_addr HV.out (by omega); obtain ⟨gc, rfl⟩ := own_addr HO2.out (by omega); have hgb := (own_lt HV.out).2.1; have hgc := own_lt HO2.out
   have c1 : wr.cell? ⟨gc, k, none⟩ = some (.int .u8 (fs.getD k 0).toNat) := by
    rw [HG.out.cell hgc.2.1 (by simp [Value.ownBlock]; omega)]; refine own_cell HO2.out ?_; rw [bytesV_at (by have := HLM.out; omega)]
    simp [List.getD, hkm]
   have c2 : wr.cell? ⟨gb, k, none⟩ = some (.int .u8 (ts.getD k 0).toNat) := by
    refine own_cell HO.out ?_; rw [bytesV_at (by rw [addK_length]; exact hkt), addK_getD _ _ _ _ _ hkt, if_neg (by omega)]
   have c3 := own_frozen HO.out k; have HF2 := hI ((HF.out.below (World.block_lt_of_cell? w ⟨fb, 255, none⟩ HF.out.none_) hb2).grew HG.out HN.out); have hset := addK_set ts fs x k hkf; have hl1 : (fs.getD k 0).toNat < 256 := UInt8.toNat_lt _; have hl2 : (ts.getD k 0).toNat < 256 := UInt8.toNat_lt _; have hx1 := u8_xor_nat (ts.getD k 0).toNat (mul (fs.getD k 0).toNat x) hl2 (mul_lt _ _); generalize (fs.getD k 0).toNat = fk at *; generalize (ts.getD k 0).toNat = tk at *; have HS := hI hset; clear hset; go_wp2_with fail
   go_region_with (go_at_call 187; refine (mul_any _ _ (by repeat (first | exact HF2.out | apply FieldIn.drewN | apply FieldIn.drew)) _ _ hl1 hx).mono ?_; rintro e w' ⟨rfl, k1, rfl⟩)
   all_goals
    go_wp2_with fail
    go_roundw
    case rel => exact ⟨k + 1, by omega, by go_num, relA_own HO.out HS.out _, HG.out.set_own _ _ _⟩
    case measure => simp [intOf]; omega
  ·obtain rfl : k = fs.length := by omega
   go_wp2_with fail; exact bodyPost_ret (v := .tuple #[]) (by simp [results, Tryz.results173, go_sem]) rfl (added (by have := HL.out; omega) hb2 HO.out HG.out)
theorem add_ge (fb B B' : Nat) (v u : Value) (ts fs : List UInt8) (x : Nat) (w : World) (hF : FieldIn w fb) (hx : x < 256) (hv : w.ownsRow B 5 1 v ts.length (bytesV ts)) (hu : SlB B' w u fs)
  (hB' : B' ≤ w.heap.size) (hne : v.ownBlock ≠ some fb) (ht : ts.length ≤ 100000) (hf : fs.length ≤ 100000) (hlt : ¬ fs.length < ts.length) :
  Calls Tryz.prog 173 #[.pointer (some ⟨fb, 0, none⟩), v, u, .int .u8 x] w (AddedF B v (addB ts fs x) w) := by
 obtain ⟨a, cap, rfl, hcap⟩ := hu.len
 have HU := hI hu
 have HV := hI hv
 have HF := hI hF
 have HN := hI hne
 have HL := hI hlt
 obtain ⟨g, c, rfl, hc⟩ := own_slice hv
 clear hu hv hF hne
 go_enter Tryz.func173, Tryz.ntmps173
 go_wp2_with fail
 clear hlt
 refine (clone_bytes B' _ (fs.take ts.length) w (slb_take HU.out (by have := HL.out; omega)) hB' (by rw [List.length_take]; omega)).mono ?_
 rintro e w2 ⟨v2, rfl, hown2, hb2⟩
 have hlm : (fs.take ts.length).length = ts.length := by rw [List.length_take]; have := HL.out; omega
 rw [hlm] at hown2
 have HLM := hI hlm
 have HO2 := hI hown2
 obtain ⟨g2, c2, rfl, hc2⟩ := own_slice hown2
 clear hown2 hlm
 go_wp2_with fail
 go_loopw [21] (fun i wr => RelA B (.slice g ts.length c) ts fs x ts.length w2 i wr) (fun i _ => ts.length - (intOf i).toNat)
 case atStart => exact ⟨0, Nat.zero_le _, rfl, by rw [addK_0]; exact own_below HV.out hb2, Grew.refl _ _⟩
 case round =>
  obtain ⟨k, hk, rfl, hown, hg⟩ := hrel; have HO := hI hown; have HG := hI hg; clear hown hg
  by_cases hkm : k < ts.length
  ·have hkt : k < ts.length := by have := HL.out; omega
   have hkf : k < fs.length := by have := HL.out; omega
   obtain ⟨gb, rfl⟩ := own_addr HV.out (by omega); obtain ⟨gc, rfl⟩ := own_addr HO2.out (by omega); have hgb := (own_lt HV.out).2.1; have hgc := own_lt HO2.out
   have c1 : wr.cell? ⟨gc, k, none⟩ = some (.int .u8 (fs.getD k 0).toNat) := by
    rw [HG.out.cell hgc.2.1 (by simp [Value.ownBlock]; omega)]; refine own_cell HO2.out ?_; rw [bytesV_at (by have := HLM.out; omega)]
    simp [List.getD, hkm]
   have c2 : wr.cell? ⟨gb, k, none⟩ = some (.int .u8 (ts.getD k 0).toNat) := by
    refine own_cell HO.out ?_; rw [bytesV_at (by rw [addK_length]; exact hkt), addK_getD _ _ _ _ _ hkt, if_neg (by omega)]
   have c3 := own_frozen HO.out k; have HF2 := hI ((HF.out.below (World.block_lt_of_cell? w ⟨fb, 255, none⟩ HF.out.none_) hb2).grew HG.out HN.out); have hset := addK_set ts fs x k hkf; have hl1 : (fs.getD k 0).toNat < 256 := UInt8.toNat_lt _; have hl2 : (ts.getD k 0).toNat < 256 := UInt8.toNat_lt _; have hx1 := u8_xor_nat (ts.getD k 0).toNat (mul (fs.getD k 0).toNat x) hl2 (mul_lt _ _); generalize (fs.getD k 0).toNat = fk at *; generalize (ts.getD k 0).toNat = tk at *; have HS := hI hset; clear hset; go_wp2_with fail
   go_region_with (go_at_call 187; refine (mul_any _ _ (by repeat (first | exact HF2.out | apply FieldIn.drewN | apply FieldIn.drew)) _ _ hl1 hx).mono ?_; rintro e w' ⟨rfl, k1, rfl⟩)
   all_goals
    go_wp2_with fail
    go_roundw
    case rel => exact ⟨k + 1, by omega, by go_num, relA_own HO.out HS.out _, HG.out.set_own _ _ _⟩
    case measure => simp [intOf]; omega
  ·obtain rfl : k = ts.length := by omega
   go_wp2_with fail; exact bodyPost_ret (v := .tuple #[]) (by simp [results, Tryz.results173, go_sem]) rfl (added (by have := HL.out; omega) hb2 HO.out HG.out)
theorem add_any (fb B B' : Nat) (v u : Value) (ts fs : List UInt8) (x : Nat) (w : World) (hF : FieldIn w fb) (hx : x < 256) (hv : w.ownsRow B 5 1 v ts.length (bytesV ts)) (hu : SlB B' w u fs)
  (hB' : B' ≤ w.heap.size) (hne : v.ownBlock ≠ some fb) (ht : ts.length ≤ 100000) (hf : fs.length ≤ 100000) :
  Calls Tryz.prog 173 #[.pointer (some ⟨fb, 0, none⟩), v, u, .int .u8 x] w (AddedF B v (addB ts fs x) w) := by
 by_cases h : fs.length < ts.length
 ·exact add_lt fb B B' v u ts fs x w hF hx hv hu hB' hne ht hf h
 ·exact add_ge fb B B' v u ts fs x w hF hx hv hu hB' hne ht hf h
end Go.Proofs.YtilljaneegbhlaaGreatDoor
