import Derived.KernelRfl
namespace Go.Proofs.YtilljaneegbhlaaGreatDoor.Crc
def poly : Nat := 2197175160
def st (x : Nat) : Nat := (x >>> 1) ^^^ (if x % 2 = 1 then poly else 0)
def sts : Nat → Nat → Nat
 | 0, x => x
 | n + 1, x => sts n (st x)
def tab (b : Nat) : Nat := sts 8 b
def upd (c : Nat) (b : UInt8) : Nat := sts 8 (c ^^^ b.toNat)
def run (c : Nat) (l : List UInt8) : Nat := l.foldl upd c
def ones : Nat := 4294967295
def on (c : Nat) (l : List UInt8) : Nat := run (c ^^^ ones) l ^^^ ones
def sum (l : List UInt8) : Nat := on 0 l
theorem st_xor (x y : Nat) : st (x ^^^ y) = st x ^^^ st y := by
 unfold st
 rw [Nat.shiftRight_xor_distrib]
 have hm : (x ^^^ y) % 2 = (x % 2) ^^^ (y % 2) := Nat.xor_mod_two_pow (n := 1)
 have hx : x % 2 = 0 ∨ x % 2 = 1 := by omega
 have hy : y % 2 = 0 ∨ y % 2 = 1 := by omega
 have key : ∀ a b p : Nat, a ^^^ b = (a ^^^ p) ^^^ (b ^^^ p) := fun a b p => by
  rw [Nat.xor_assoc, ← Nat.xor_assoc p b p, Nat.xor_comm p b, Nat.xor_assoc b p p, Nat.xor_self, Nat.xor_zero]
 rcases hx with hx | hx <;> rcases hy with hy | hy <;> simp only [hm, hx, hy] <;> simp
 ·rw [Nat.xor_assoc]
 ·rw [Nat.xor_assoc, Nat.xor_assoc, Nat.xor_comm poly]
 ·exact key _ _ _
theorem poly_lt : poly < 2 ^ 32 := by decide
variable {x : Nat}
theorem st_lt (h : x < 2 ^ 32) : st x < 2 ^ 32 := by
 unfold st
 refine Nat.xor_lt_two_pow (by rw [Nat.shiftRight_eq_div_pow]; omega) ?_
 split
 ·exact poly_lt
 ·decide
theorem sts_lt : ∀ (n : Nat) {x : Nat}, x < 2 ^ 32 → sts n x < 2 ^ 32
 | 0, _, h => h
 | n + 1, _, h => sts_lt n (st_lt h)
theorem sts_xor : ∀ (n x y : Nat), sts n (x ^^^ y) = sts n x ^^^ sts n y
 | 0, _, _ => rfl
 | n + 1, x, y => by show sts n (st (x ^^^ y)) = _; rw [st_xor, sts_xor n]; rfl
theorem st_0 : st 0 = 0 := by decide
theorem sts_0 : ∀ n, sts n 0 = 0
 | 0 => rfl
 | n + 1 => by show sts n (st 0) = 0; rw [st_0, sts_0 n]
theorem st_ne (h : x < 2 ^ 32) (h0 : st x = 0) : x = 0 := by
 unfold st at h0
 by_cases hx : x % 2 = 1
 ·rw [if_pos hx] at h0
  have hb : ((x >>> 1) ^^^ poly).testBit 31 = true := by
   rw [Nat.testBit_xor, Nat.testBit_lt_two_pow (by rw [Nat.shiftRight_eq_div_pow]; omega)]
   decide
  rw [h0] at hb
  simp at hb
 ·rw [if_neg hx, Nat.xor_zero, Nat.shiftRight_eq_div_pow] at h0
  omega
theorem sts_ne : ∀ (n : Nat) {x : Nat}, x < 2 ^ 32 → sts n x = 0 → x = 0
 | 0, _, _, h => h
 | n + 1, _, hx, h => st_ne hx (sts_ne n (st_lt hx) h)
theorem st_even (x : Nat) : st (2 * x) = x := by
 unfold st
 rw [if_neg (by omega), Nat.xor_zero, Nat.shiftRight_eq_div_pow]; omega
theorem sts_pow : ∀ (n x : Nat), sts n (2 ^ n * x) = x
 | 0, x => by simp [sts]
 | n + 1, x => by show sts n (st (2 ^ (n + 1) * x)) = x; rw [show 2 ^ (n + 1) * x = 2 * (2 ^ n * x) by rw [Nat.pow_succ, Nat.mul_assoc, Nat.mul_left_comm], st_even, sts_pow n]
theorem sts_add : ∀ (m n x : Nat), sts (m + n) x = sts n (sts m x)
 | 0, n, x => by rw [Nat.zero_add]; rfl
 | m + 1, n, x => by rw [show m + 1 + n = (m + n) + 1 by omega]; show sts (m + n) (st x) = _; rw [sts_add m n]; rfl
theorem part (x n : Nat) : x = (2 ^ n * (x / 2 ^ n)) ^^^ (x % 2 ^ n) := by
 have h := Nat.div_add_mod x (2 ^ n)
 have h2 := Nat.two_pow_add_eq_or_of_lt (b := x % 2 ^ n) (i := n) (Nat.mod_lt _ (Nat.two_pow_pos n)) (x / 2 ^ n)
 refine Nat.eq_of_testBit_eq fun i => ?_
 rw [Nat.testBit_xor, Nat.testBit_mod_two_pow, Nat.testBit_two_pow_mul, Nat.testBit_div_two_pow]
 by_cases hi : i < n
 ·simp [hi, show ¬ n ≤ i by omega]
 ·simp only [hi, decide_false, Bool.false_and, Bool.xor_false]
  simp [show n ≤ i by omega]
theorem upd_tab (c : Nat) (b : UInt8) : upd c b = tab ((c % 256) ^^^ b.toNat) ^^^ (c >>> 8) := by
 have h := part c 8
 unfold upd tab
 rw [Nat.shiftRight_eq_div_pow]
 generalize b.toNat = x
 have h8 := sts_pow 8 (c / 2 ^ 8)
 rw [sts_xor 8 c, sts_xor 8 (c % 256), Nat.xor_assoc, Nat.xor_comm (sts 8 x), ← Nat.xor_assoc]
 congr 1
 rw [Nat.xor_comm]
 conv => lhs; rw [h, sts_xor, h8]
theorem u8_lt (b : UInt8) : b.toNat < 256 := UInt8.toNat_lt b
variable {c : Nat}
theorem upd_lt (b : UInt8) (h : c < 2 ^ 32) : upd c b < 2 ^ 32 := sts_lt 8 (Nat.xor_lt_two_pow h (by have := u8_lt b; omega))
theorem run_lt : ∀ (l : List UInt8) {c : Nat}, c < 2 ^ 32 → run c l < 2 ^ 32
 | [], _, h => h
 | b :: l, _, h => run_lt l (upd_lt b h)
theorem run_append (c : Nat) (l m : List UInt8) : run c (l ++ m) = run (run c l) m := by unfold run; rw [List.foldl_append]
theorem ones_lt : ones < 2 ^ 32 := by decide
theorem on_lt (l : List UInt8) (h : c < 2 ^ 32) : on c l < 2 ^ 32 := Nat.xor_lt_two_pow (run_lt l (Nat.xor_lt_two_pow h ones_lt)) ones_lt
theorem sum_lt (l : List UInt8) : sum l < 2 ^ 32 := on_lt l (by decide)
theorem xor_twice (x y : Nat) : (x ^^^ y) ^^^ y = x := by rw [Nat.xor_assoc, Nat.xor_self, Nat.xor_zero]
def xorL : List UInt8 → List UInt8 → List UInt8
 | a :: l, b :: m => (a ^^^ b) :: xorL l m
 | _, _ => []
theorem run_xor : ∀ (l m : List UInt8) (c d : Nat), l.length = m.length → run (c ^^^ d) (xorL l m) = run c l ^^^ run d m
 | [], [], c, d, _ => rfl
 | a :: l, b :: m, c, d, h => by
  have e : upd (c ^^^ d) (a ^^^ b) = upd c a ^^^ upd d b := by
   unfold upd; rw [← sts_xor, UInt8.toNat_xor]
   congr 1
   rw [Nat.xor_assoc, Nat.xor_assoc, ← Nat.xor_assoc d, Nat.xor_comm d, Nat.xor_assoc]
  show run (upd (c ^^^ d) (a ^^^ b)) (xorL l m) = run (upd c a) l ^^^ run (upd d b) m
  rw [e]; exact run_xor l m _ _ (by simpa using h)
 | [], _ :: _, _, _, h => by simp at h
 | _ :: _, [], _, _, h => by simp at h
theorem xorL_length : ∀ (l m : List UInt8), l.length = m.length → (xorL l m).length = l.length
 | [], [], _ => rfl
 | _ :: l, _ :: m, h => by show (xorL l m).length + 1 = _; rw [xorL_length l m (by simpa using h)]; rfl
 | [], _ :: _, h => by simp at h
 | _ :: _, [], h => by simp at h
def le4 (x : Nat) : List UInt8 := [UInt8.ofNat x, UInt8.ofNat (x / 256), UInt8.ofNat (x / 65536), UInt8.ofNat (x / 16777216)]
theorem le4_length (x : Nat) : (le4 x).length = 4 := rfl
theorem ofNat_toNat (x : Nat) : (UInt8.ofNat x).toNat = x % 256 := by rw [UInt8.toNat_ofNat']
def le : Nat → Nat → List UInt8
 | 0, _ => []
 | n + 1, x => UInt8.ofNat x :: le n (x / 256)
theorem le4_eq (x : Nat) : le4 x = le 4 x := by
 show [_, _, _, _] = [_, _, _, _]
 rw [Nat.div_div_eq_div_mul, Nat.div_div_eq_div_mul]
theorem run_le : ∀ (n c x : Nat), x < 2 ^ (8 * n) → run c (le n x) = sts (8 * n) (c ^^^ x)
 | 0, c, x, h => by
  obtain rfl : x = 0 := by simp at h; omega
  exact (Nat.xor_zero c).symm
 | n + 1, c, x, h => by
  show run (sts 8 (c ^^^ (UInt8.ofNat x).toNat)) (le n (x / 256)) = _
  rw [ofNat_toNat, run_le n _ _ (by rw [show 8 * (n + 1) = 8 * n + 8 by omega, Nat.pow_add] at h; omega), show 8 * (n + 1) = 8 + 8 * n by omega, sts_add]
  congr 1
  have h8 := sts_pow 8 (x / 2 ^ 8); have hp := part x 8
  conv => rhs; rw [hp, Nat.xor_comm (2 ^ 8 * _), ← Nat.xor_assoc, sts_xor, h8]
theorem run_le4 (c x : Nat) (hx : x < 2 ^ 32) : run c (le4 x) = sts 32 (c ^^^ x) := by rw [le4_eq]; exact run_le 4 c x hx
def spot (k : Nat) (x m : Nat) : List UInt8 := List.replicate k 0 ++ (le4 x ++ List.replicate m 0)
theorem run_zeros : ∀ (m c : Nat), run c (List.replicate m 0) = sts (8 * m) c
 | 0, c => rfl
 | m + 1, c => by
  show run (upd c 0) (List.replicate m 0) = _
  rw [run_zeros m, show 8 * (m + 1) = 8 + 8 * m by omega, sts_add]; unfold upd; rw [show (0 : UInt8).toNat = 0 by rfl, Nat.xor_zero]
theorem run_spot (k x m : Nat) (hx : x < 2 ^ 32) : run 0 (spot k x m) = sts (32 + 8 * m) x := by
 unfold spot
 rw [run_append, run_append, run_zeros k, sts_0, run_le4 _ _ hx, Nat.zero_xor, run_zeros, sts_add]
theorem run_spot_0 (k x m : Nat) (hx : x < 2 ^ 32) : run 0 (spot k x m) = 0 ↔ x = 0 := by
 rw [run_spot k x m hx]
 refine ⟨sts_ne _ hx, fun h => ?_⟩
 rw [h, sts_0]
theorem xorL_spot_length (L : List UInt8) (k x m : Nat) (h : L.length = k + 4 + m) : L.length = (spot k x m).length := by
 unfold spot; simp [le4_length]; omega
def val4 (f : List UInt8) : Nat := (f.getD 0 0).toNat + 256 * (f.getD 1 0).toNat + 65536 * (f.getD 2 0).toNat + 16777216 * (f.getD 3 0).toNat
theorem val4_lt (f : List UInt8) : val4 f < 2 ^ 32 := by
 unfold val4
 have h0 := u8_lt (f.getD 0 0)
 have h1 := u8_lt (f.getD 1 0)
 have h2 := u8_lt (f.getD 2 0)
 have h3 := u8_lt (f.getD 3 0)
 omega
theorem le4_val4 (f : List UInt8) (h : f.length = 4) : le4 (val4 f) = f := by
 match f, h with
 | [a, b, c, d], _ =>
  unfold le4 val4
  show [_, _, _, _] = [a, b, c, d]
  have ha := u8_lt a; have hb := u8_lt b; have hc := u8_lt c; have hd := u8_lt d
  have key : ∀ (y : UInt8) (n : Nat), n % 256 = y.toNat → UInt8.ofNat n = y := fun y n e => by
   apply UInt8.toNat_inj.1; rw [ofNat_toNat]; exact e
  simp only [List.getD_cons_zero, List.getD_cons_succ]; rw [key a _ (by omega), key b _ (by omega), key c _ (by omega), key d _ (by omega)]
theorem sts_inj {n y : Nat} (hx : x < 2 ^ 32) (hy : y < 2 ^ 32) (h : sts n x = sts n y) : x = y := by
 have h1 : sts n (x ^^^ y) = 0 := by rw [sts_xor, h, Nat.xor_self]
 have h2 := sts_ne n (Nat.xor_lt_two_pow hx hy) h1
 have h3 := congrArg (fun z => z ^^^ y) h2
 simp only [xor_twice, Nat.zero_xor] at h3
 exact h3
theorem sum_turned (l : List UInt8) (k x : Nat) (hx : x < 2 ^ 32) (hk : k ≤ l.length) :
  sum ((xorL (l ++ le4 (sum l)) (spot k x (l.length - k))).take l.length) = val4 ((xorL (l ++ le4 (sum l)) (spot k x (l.length - k))).drop l.length) ↔ x = 0 := by
 have hL : (l ++ le4 (sum l)).length = k + 4 + (l.length - k) := by rw [List.length_append, le4_length]; omega
 have e := run_xor (l ++ le4 (sum l)) (spot k x (l.length - k)) ones 0 (xorL_spot_length _ _ _ _ hL)
 have hlen := xorL_length _ _ (xorL_spot_length _ k x _ hL)
 rw [Nat.xor_zero, run_append, run_le4 _ _ (sum_lt l)] at e
 rw [← run_spot_0 k x (l.length - k) hx]
 generalize run 0 (spot k x (l.length - k)) = d at *
 generalize xorL (l ++ le4 (sum l)) (spot k x (l.length - k)) = T at *
 rw [List.length_append, le4_length] at hlen
 have hf : (T.drop l.length).length = 4 := by rw [List.length_drop]; omega
 rw [← List.take_append_drop l.length T, run_append, ← le4_val4 _ hf, run_le4 _ _ (val4_lt _)] at e
 have hv := val4_lt (T.drop l.length)
 generalize val4 (T.drop l.length) = v at *
 have hm := run_lt (T.take l.length) ones_lt
 have hs : sum l = run ones l ^^^ ones := by unfold sum on; rw [Nat.zero_xor]
 have hs' : sum (T.take l.length) = run ones (T.take l.length) ^^^ ones := by unfold sum on; rw [Nat.zero_xor]
 have hr : run ones l ^^^ sum l = ones := by rw [hs, Nat.xor_comm, Nat.xor_comm (run ones l), xor_twice]
 rw [hr] at e
 rw [hs']
 generalize run ones (T.take l.length) = m at *
 refine ⟨fun h => ?_, fun h => ?_⟩
 ·rw [← h, ← Nat.xor_assoc m, Nat.xor_self, Nat.zero_xor] at e
  have h1 := congrArg (fun z => z ^^^ sts 32 ones) e; rw [Nat.xor_comm (sts 32 ones) d] at h1; simp only [xor_twice, Nat.xor_self] at h1; exact h1.symm
 ·rw [h, Nat.xor_zero] at e
  have h1 := sts_inj (Nat.xor_lt_two_pow hm hv) ones_lt e; rw [← h1, ← Nat.xor_assoc m, Nat.xor_self, Nat.zero_xor]
def turnL (L : List UInt8) (k x : Nat) : Nat → List UInt8
 | 0 => L
 | i + 1 => (turnL L k x i).set (k + i) ((turnL L k x i).getD (k + i) 0 ^^^ UInt8.ofNat (x / 2 ^ (8 * i)))
theorem set_at (A R : List UInt8) (i : Nat) (b : UInt8) : (A ++ R).set (A.length + i) b = A ++ R.set i b := by rw [List.set_append_right _ _ (by omega)]; congr 2; omega
theorem getD_at (A R : List UInt8) (i : Nat) : (A ++ R).getD (A.length + i) 0 = R.getD i 0 := by
 rw [List.getD_eq_getElem?_getD, List.getD_eq_getElem?_getD, List.getElem?_append_right (by omega)]; congr 2; omega
theorem xorL_append : ∀ (A B C D : List UInt8), A.length = C.length → xorL (A ++ B) (C ++ D) = xorL A C ++ xorL B D
 | [], _, [], _, _ => rfl
 | a :: A, B, c :: C, D, h => by show (a ^^^ c) :: xorL (A ++ B) (C ++ D) = _; rw [xorL_append A B C D (by simpa using h)]; rfl
 | [], _, _ :: _, _, h => by simp at h
 | _ :: _, _, [], _, h => by simp at h
theorem xorL_zeros : ∀ (A : List UInt8), xorL A (List.replicate A.length 0) = A
 | [] => rfl
 | a :: A => by show (a ^^^ 0) :: xorL A (List.replicate A.length 0) = _; rw [xorL_zeros A]; simp
theorem turnL_spot (L : List UInt8) (k x m : Nat) (h : L.length = k + 4 + m) : turnL L k x 4 = xorL L (spot k x m) := by
 obtain ⟨A, R, rfl, hA⟩ : ∃ A R, L = A ++ R ∧ A.length = k := ⟨L.take k, L.drop k, (List.take_append_drop k L).symm, by rw [List.length_take]; omega⟩
 subst hA
 rw [List.length_append] at h
 match R, h with
 | a :: b :: c :: d :: B, h =>
  have hB : B.length = m := by simp at h; omega
  subst hB; unfold spot; rw [xorL_append _ _ _ _ (by simp), xorL_zeros]
  show turnL _ _ x (0 + 1 + 1 + 1 + 1) = _
  simp only [turnL, set_at, getD_at]
  show A ++ _ = A ++ (_ :: _ :: _ :: _ :: xorL B (List.replicate B.length 0))
  rw [xorL_zeros]
  simp
 | [], h => simp at h; omega
 | [_], h => simp at h; omega
 | [_, _], h => simp at h; omega
 | [_, _, _], h => simp at h; omega
end Go.Proofs.YtilljaneegbhlaaGreatDoor.Crc
namespace Go.Proofs.YtilljaneegbhlaaGreatDoor.Hf
open Crc
structure Fr where
 k : Int
 s : Int
 t : Int
 g : Int
 d : List UInt8
theorem Fr.same : ∀ {a b : Fr}, a.k = b.k → a.s = b.s → a.t = b.t → a.g = b.g → a.d = b.d → a = b
 | ⟨_, _, _, _, _⟩, ⟨_, _, _, _, _⟩, rfl, rfl, rfl, rfl, rfl => rfl
def Fr.is (f : Fr) : Prop := f.d.length = 108
def zeroF : Fr := ⟨0, 0, 0, 0, List.replicate 108 0⟩
theorem zeroF_is : zeroF.is := by simp [zeroF, Fr.is]
def Right (f : Fr) : Prop := 1 ≤ f.k ∧ f.k ≤ 3 ∧ 0 ≤ f.s ∧ f.s < 8 ∧ 0 ≤ f.t ∧ f.t < 64 ∧ 0 ≤ f.g ∧ f.g ≤ 1152921504606846976
instance (f : Fr) : Decidable (Right f) := by unfold Right; infer_instance
def rightB (f : Fr) : Bool := decide (Right f)
def head (f : Fr) : List UInt8 := [83, 84] ++ [UInt8.ofNat f.k.toNat, UInt8.ofNat f.s.toNat] ++ le 4 f.t.toNat ++ le 8 f.g.toNat ++ f.d
def body (f : Fr) : List UInt8 := head f ++ le 4 (sum (head f))
def put (f : Fr) : List UInt8 := if rightB f = true then body f else []
theorem le_length : ∀ (n x : Nat), (le n x).length = n
 | 0, _ => rfl
 | n + 1, x => by show (le n (x / 256)).length + 1 = _; rw [le_length n]
variable {f : Fr}
theorem head_length (h : f.is) : (head f).length = 124 := by unfold Fr.is at h; unfold head; simp [le_length, h]
theorem body_length (h : f.is) : (body f).length = 128 := by unfold body; rw [List.length_append, head_length h, le_length]
theorem put_yes (h : rightB f = true) : put f = body f := if_pos h
theorem put_no (h : rightB f = false) : put f = [] := if_neg (by simp [h])
def leV : List UInt8 → Nat
 | [] => 0
 | b :: l => b.toNat + 256 * leV l
theorem leV_lt : ∀ (l : List UInt8), leV l < 2 ^ (8 * l.length)
 | [] => by decide
 | b :: l => by
  have h := leV_lt l; have hb := u8_lt b
  show b.toNat + 256 * leV l < 2 ^ (8 * (l.length + 1))
  rw [show 8 * (l.length + 1) = 8 * l.length + 8 by omega, Nat.pow_add]; omega
theorem leV_le : ∀ (n x : Nat), x < 2 ^ (8 * n) → leV (le n x) = x
 | 0, x, h => by simp at h; subst h; rfl
 | n + 1, x, h => by
  show (UInt8.ofNat x).toNat + 256 * leV (le n (x / 256)) = x
  rw [ofNat_toNat, leV_le n _ (by rw [show 8 * (n + 1) = 8 * n + 8 by omega, Nat.pow_add] at h; omega)]; omega
theorem ofNat_of {b : UInt8} {n : Nat} (h : n % 256 = b.toNat) : UInt8.ofNat n = b := by apply UInt8.toNat_inj.1; rw [ofNat_toNat]; exact h
theorem le_leV : ∀ (l : List UInt8), le l.length (leV l) = l
 | [] => rfl
 | b :: l => by
  have hb := u8_lt b
  show UInt8.ofNat (b.toNat + 256 * leV l) :: le l.length ((b.toNat + 256 * leV l) / 256) = _
  rw [ofNat_of (b := b) (by omega), show (b.toNat + 256 * leV l) / 256 = leV l by omega, le_leV l]
theorem leV_append : ∀ (l m : List UInt8), leV (l ++ m) = leV l + 2 ^ (8 * l.length) * leV m
 | [], m => by show leV m = 0 + 2 ^ 0 * leV m; omega
 | b :: l, m => by
  show b.toNat + 256 * leV (l ++ m) = b.toNat + 256 * leV l + 2 ^ (8 * (l.length + 1)) * leV m
  rw [leV_append l m, show 8 * (l.length + 1) = 8 * l.length + 8 by omega, Nat.pow_add, Nat.mul_add, Nat.mul_right_comm, Nat.mul_comm (2 ^ (8 * l.length) * leV m) 256]; omega
def int64 (v : Nat) : Int := if v < 9223372036854775808 then (v : Int) else (v : Int) - 18446744073709551616
def read (b : List UInt8) : Fr := ⟨((b.getD 2 0).toNat : Int), ((b.getD 3 0).toNat : Int), (leV ((b.drop 4).take 4) : Int), int64 (leV ((b.drop 8).take 8)), (b.drop 16).take 108⟩
variable {b : List UInt8}
theorem read_is (h : b.length = 128) : (read b).is := by simp [read, Fr.is, h]
def Good (b : List UInt8) : Prop := b.length = 128 ∧ Right (read b) ∧ body (read b) = b
instance (b : List UInt8) : Decidable (Good b) := by unfold Good; infer_instance
def goodB (b : List UInt8) : Bool := decide (Good b)
def got (b : List UInt8) : Fr := if goodB b = true then read b else zeroF
theorem got_is (b : List UInt8) : (got b).is := by
 unfold got
 split
 ·rename_i h
  exact read_is (of_decide_eq_true h).1
 ·exact zeroF_is
theorem got_no (h : goodB b = false) : got b = zeroF := if_neg (by simp [h])
theorem got_yes (h : goodB b = true) : got b = read b := if_pos h
theorem good_len (h : ¬ b.length = 128) : goodB b = false := decide_eq_false fun e => h e.1
theorem byte_back {n : Int} (h0 : 0 ≤ n) (h1 : n < 256) : ((UInt8.ofNat n.toNat).toNat : Int) = n := by rw [ofNat_toNat]; omega
theorem read_of (a b : UInt8) (T G D S : List UInt8) (hT : T.length = 4) (hG : G.length = 8) (hD : D.length = 108) :
  read ([83, 84, a, b] ++ (T ++ (G ++ (D ++ S)))) = ⟨(a.toNat : Int), (b.toNat : Int), (leV T : Int), int64 (leV G), D⟩ := by
 have e4 : ([83, 84, a, b] ++ (T ++ (G ++ (D ++ S)))).drop 4 = T ++ (G ++ (D ++ S)) := rfl
 have e8 : ([83, 84, a, b] ++ (T ++ (G ++ (D ++ S)))).drop 8 = G ++ (D ++ S) := by
  rw [show 8 = 4 + 4 by rfl, ← List.drop_drop, e4, ← hT, List.drop_left]
 have e16 : ([83, 84, a, b] ++ (T ++ (G ++ (D ++ S)))).drop 16 = D ++ S := by
  rw [show 16 = 8 + 8 by rfl, ← List.drop_drop, e8, ← hG, List.drop_left]
 unfold read
 rw [e4, e8, e16, ← hT, List.take_left, ← hG, List.take_left, ← hD, List.take_left]
 rfl
theorem body_parts (f : Fr) : body f = [83, 84, UInt8.ofNat f.k.toNat, UInt8.ofNat f.s.toNat] ++ (le 4 f.t.toNat ++ (le 8 f.g.toNat ++ (f.d ++ le 4 (sum (head f))))) := by
 unfold body
 conv => lhs; lhs; unfold head
 simp only [List.append_assoc]
 rfl
theorem read_body (hi : f.is) (h : Right f) : read (body f) = f := by
 obtain ⟨k1, k2, s1, s2, t1, t2, g1, g2⟩ := h
 have e4 := leV_le 4 f.t.toNat (by simp; omega)
 have e8 := leV_le 8 f.g.toNat (by simp; omega)
 rw [body_parts, read_of _ _ _ _ _ _ (le_length 4 _) (le_length 8 _) hi, e4, e8]
 refine Fr.same (byte_back (by omega) (by omega)) (byte_back s1 (by omega)) ?_ ?_ rfl
 ·show ((f.t.toNat : Nat) : Int) = f.t
  omega
 ·show int64 f.g.toNat = f.g
  unfold int64; rw [if_pos (by omega)]; omega
theorem good_body (hi : f.is) (h : Right f) : Good (body f) := ⟨body_length hi, by rw [read_body hi h]; exact h, by rw [read_body hi h]⟩
theorem got_put (hi : f.is) (h : rightB f = true) : goodB (put f) = true ∧ got (put f) = f := by
 have hr : Right f := of_decide_eq_true h
 have hg : goodB (put f) = true := by rw [put_yes h]; exact decide_eq_true (good_body hi hr)
 exact ⟨hg, by rw [got_yes hg, put_yes h, read_body hi hr]⟩
theorem put_len (hi : f.is) (h : rightB f = true) : (put f).length = 128 := by rw [put_yes h, body_length hi]
theorem take_one {i : Nat} (h : i < b.length) : (b.drop i).take 1 = [b.getD i 0] := by
 rw [List.drop_eq_getElem_cons h, List.take_succ_cons, List.take_zero]; simp [List.getD, h]
theorem parts (h : b.length = 128) : b.take 124 = b.take 2 ++ [b.getD 2 0, b.getD 3 0] ++ (b.drop 4).take 4 ++ (b.drop 8).take 8 ++ (b.drop 16).take 108 := by
 rw [show (124 : Nat) = 2 + 1 + 1 + 4 + 8 + 108 from rfl, List.take_add, List.take_add, List.take_add, List.take_add, List.take_add, take_one (by omega), take_one (by omega), List.append_assoc (b.take 2) [_] [_]]
 rfl
theorem int64_pos {v : Nat} (hv : v < 18446744073709551616) (h : 0 ≤ int64 v) : (int64 v).toNat = v := by
 unfold int64 at *
 split at h
 ·rename_i hlt; rw [if_pos hlt]; omega
 ·omega
theorem head_read (h : b.length = 128) (hr : Right (read b)) : head (read b) = [83, 84] ++ [b.getD 2 0, b.getD 3 0] ++ (b.drop 4).take 4 ++ (b.drop 8).take 8 ++ (b.drop 16).take 108 := by
 obtain ⟨k1, k2, s1, s2, t1, t2, g1, g2⟩ := hr
 have l4 : ((b.drop 4).take 4).length = 4 := by simp [h]
 have l8 : ((b.drop 8).take 8).length = 8 := by simp [h]
 have e4 := le_leV ((b.drop 4).take 4)
 have e8 := le_leV ((b.drop 8).take 8)
 have v8 := leV_lt ((b.drop 8).take 8)
 rw [l4] at e4
 rw [l8] at e8 v8
 have h8 : (int64 (leV ((b.drop 8).take 8))).toNat = leV ((b.drop 8).take 8) := int64_pos (by simpa using v8) g1
 unfold head
 show [83, 84] ++ [UInt8.ofNat ((b.getD 2 0).toNat : Int).toNat, UInt8.ofNat ((b.getD 3 0).toNat : Int).toNat] ++ le 4 ((leV ((b.drop 4).take 4) : Nat) : Int).toNat ++ le 8 (int64 (leV ((b.drop 8).take 8))).toNat ++ (b.drop 16).take 108 = _
 rw [h8, Int.toNat_natCast, Int.toNat_natCast, Int.toNat_natCast, e4, e8, ofNat_of (b := b.getD 2 0) (by have := u8_lt (b.getD 2 0); omega), ofNat_of (b := b.getD 3 0) (by have := u8_lt (b.getD 3 0); omega)]
theorem app_eq {a c d : List UInt8} (h : a.length = c.length) : a ++ b = c ++ d ↔ a = c ∧ b = d := ⟨fun e => List.append_inj e h, fun ⟨e1, e2⟩ => by rw [e1, e2]⟩
theorem body_read (h : b.length = 128) (hr : Right (read b)) : body (read b) = b ↔ b.take 2 = [83, 84] ∧ sum (b.take 124) = leV (b.drop 124) := by
 have l4 : (b.drop 124).length = 4 := by simp [h]
 have hs := sum_lt (head (read b))
 have hl : leV (le 4 (sum (head (read b)))) = sum (head (read b)) := leV_le 4 _ (by simpa using hs)
 have hv := le_leV (b.drop 124)
 rw [l4] at hv
 have e : body (read b) = b ↔ head (read b) = b.take 124 ∧ le 4 (sum (head (read b))) = b.drop 124 := by
  unfold body
  conv => lhs; rhs; rw [← List.take_append_drop 124 b]
  exact app_eq (by rw [head_length (read_is h)]; simp [h])
 rw [e]
 have e2 : head (read b) = b.take 124 ↔ b.take 2 = [83, 84] := by
  rw [head_read h hr, parts h]; simp only [List.append_assoc]; rw [app_eq (by simp [h])]; exact ⟨fun e => e.1.symm, fun e => ⟨e.symm, rfl⟩⟩
 rw [e2]
 refine ⟨fun ⟨h1, h2⟩ => ⟨h1, ?_⟩, fun ⟨h1, h2⟩ => ⟨h1, ?_⟩⟩
 ·rw [← e2.2 h1, ← h2, hl]
 ·rw [e2.2 h1, h2, hv]
theorem goodB_eq (h : b.length = 128) : goodB b = (decide (b.take 2 = [83, 84]) && decide (sum (b.take 124) = leV (b.drop 124)) && rightB (read b)) := by
 unfold goodB rightB
 by_cases hr : Right (read b)
 ·have := body_read h hr
  simp only [Good, h, hr, this, true_and, decide_true, Bool.and_true, Bool.decide_and]
 ·simp [Good, hr]
theorem le4' (x : Nat) : le 4 x = le4 x := (le4_eq x).symm
theorem leV_val4 {l : List UInt8} (h : l.length = 4) : leV l = val4 l := by
 match l, h with
 | [a, b, c, d], _ =>
  show a.toNat + 256 * (b.toNat + 256 * (c.toNat + 256 * (d.toNat + 256 * 0))) = a.toNat + 256 * b.toNat + 65536 * c.toNat + 16777216 * d.toNat
  omega
theorem burst (hi : f.is) (h : rightB f = true) (k x : Nat) (hk : k ≤ 124) (hx : x < 2 ^ 32) :
  (goodB (turnL (put f) k x 4) = true ↔ x = 0) ∧ (x = 0 → turnL (put f) k x 4 = put f) := by
 rw [put_yes h]
 have hlen := head_length hi
 have hb : (body f).length = k + 4 + (124 - k) := by rw [body_length hi]; omega
 rw [turnL_spot (body f) k x (124 - k) hb]
 have hx0 : x = 0 → xorL (body f) (spot k x (124 - k)) = body f := by
  rintro rfl
  have e : spot k 0 (124 - k) = List.replicate (body f).length 0 := by
   rw [body_length hi]; unfold spot
   show List.replicate k 0 ++ ([0, 0, 0, 0] ++ List.replicate (124 - k) 0) = _
   rw [show ([0, 0, 0, 0] : List UInt8) = List.replicate 4 0 by rfl, List.replicate_append_replicate, List.replicate_append_replicate]
   congr 1; omega
  rw [e, xorL_zeros]
 refine ⟨⟨fun hg => ?_, fun e => ?_⟩, hx0⟩
 ·have ht := sum_turned (head f) k x hx (by omega)
  rw [hlen, ← le4'] at ht; refine ht.1 ?_
  change sum (List.take 124 (xorL (body f) (spot k x (124 - k)))) = val4 (List.drop 124 (xorL (body f) (spot k x (124 - k))))
  have hG : Good _ := of_decide_eq_true hg; have := ((body_read hG.1 hG.2.1).1 hG.2.2).2; rw [this]; exact leV_val4 (by simp [hG.1])
 ·rw [hx0 e]
  exact decide_eq_true (good_body hi (of_decide_eq_true h))
theorem good_zeros : goodB (List.replicate 128 0) = false := by
 rw [goodB_eq (by simp)]
 rfl
end Go.Proofs.YtilljaneegbhlaaGreatDoor.Hf
