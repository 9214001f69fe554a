/-
  A sector's frame in numbers: its bytes, and which bytes are one. Nothing of the program.
-/
import Derived.Test.YtjkponhdpeelpaaKModel
namespace Go.Proofs.Ytjkponhdpeelpaa.Hf
open Crc
structure Fr where
  k : Int
  s : Int
  t : Int
  g : Int
  d : List UInt8
theorem Fr.same : ∀ {a b : Fr}, a.k = b.k → a.s = b.s → a.t = b.t → a.g = b.g → a.d = b.d → a = b
  | ⟨_, _, _, _, _⟩, ⟨_, _, _, _, _⟩, rfl, rfl, rfl, rfl, rfl => rfl
def Fr.is (f : Fr) : Prop := f.d.length = 108
def zeroF : Fr := ⟨0, 0, 0, 0, List.replicate 108 0⟩
theorem zeroF_is : zeroF.is := by simp [zeroF, Fr.is]
def Right (f : Fr) : Prop := 1 ≤ f.k ∧ f.k ≤ 3 ∧ 0 ≤ f.s ∧ f.s < 8 ∧ 0 ≤ f.t ∧ f.t < 64 ∧ 0 ≤ f.g ∧ f.g ≤ 1152921504606846976
instance (f : Fr) : Decidable (Right f) := by unfold Right; infer_instance
def rightB (f : Fr) : Bool := decide (Right f)
def head (f : Fr) : List UInt8 := [83, 84] ++ [UInt8.ofNat f.k.toNat, UInt8.ofNat f.s.toNat] ++ le 4 f.t.toNat ++ le 8 f.g.toNat ++ f.d
def body (f : Fr) : List UInt8 := head f ++ le 4 (sum (head f))
def put (f : Fr) : List UInt8 := if rightB f = true then body f else []
theorem le_length : ∀ (n x : Nat), (le n x).length = n
  | 0, _ => rfl
  | n + 1, x => by show (le n (x / 256)).length + 1 = _; rw [le_length n]
theorem head_length {f : Fr} (h : f.is) : (head f).length = 124 := by unfold Fr.is at h; unfold head; simp [le_length, h]
theorem body_length {f : Fr} (h : f.is) : (body f).length = 128 := by unfold body; rw [List.length_append, head_length h, le_length]
theorem put_yes {f : Fr} (h : rightB f = true) : put f = body f := if_pos h
theorem put_no {f : Fr} (h : rightB f = false) : put f = [] := if_neg (by simp [h])
def leV : List UInt8 → Nat
  | [] => 0
  | b :: l => b.toNat + 256 * leV l
theorem leV_lt : ∀ (l : List UInt8), leV l < 2 ^ (8 * l.length)
  | [] => by decide
  | b :: l => by
    have h := leV_lt l
    have hb := u8_lt b
    show b.toNat + 256 * leV l < 2 ^ (8 * (l.length + 1))
    rw [show 8 * (l.length + 1) = 8 * l.length + 8 by omega, Nat.pow_add]
    omega
theorem leV_le : ∀ (n x : Nat), x < 2 ^ (8 * n) → leV (le n x) = x
  | 0, x, h => by simp at h; subst h; rfl
  | n + 1, x, h => by
    show (UInt8.ofNat x).toNat + 256 * leV (le n (x / 256)) = x
    rw [ofNat_toNat, leV_le n _ (by rw [show 8 * (n + 1) = 8 * n + 8 by omega, Nat.pow_add] at h; omega)]
    omega
theorem ofNat_of {b : UInt8} {n : Nat} (h : n % 256 = b.toNat) : UInt8.ofNat n = b := by apply UInt8.toNat_inj.1; rw [ofNat_toNat]; exact h
theorem le_leV : ∀ (l : List UInt8), le l.length (leV l) = l
  | [] => rfl
  | b :: l => by
    have hb := u8_lt b
    show UInt8.ofNat (b.toNat + 256 * leV l) :: le l.length ((b.toNat + 256 * leV l) / 256) = _
    rw [ofNat_of (b := b) (by omega), show (b.toNat + 256 * leV l) / 256 = leV l by omega, le_leV l]
theorem leV_append : ∀ (l m : List UInt8), leV (l ++ m) = leV l + 2 ^ (8 * l.length) * leV m
  | [], m => by show leV m = 0 + 2 ^ 0 * leV m; omega
  | b :: l, m => by
    show b.toNat + 256 * leV (l ++ m) = b.toNat + 256 * leV l + 2 ^ (8 * (l.length + 1)) * leV m
    rw [leV_append l m, show 8 * (l.length + 1) = 8 * l.length + 8 by omega, Nat.pow_add, Nat.mul_add, Nat.mul_right_comm, Nat.mul_comm (2 ^ (8 * l.length) * leV m) 256]
    omega
/-- A number of eight bytes as an int. -/
def int64 (v : Nat) : Int := if v < 9223372036854775808 then (v : Int) else (v : Int) - 18446744073709551616
def read (b : List UInt8) : Fr := ⟨((b.getD 2 0).toNat : Int), ((b.getD 3 0).toNat : Int), (leV ((b.drop 4).take 4) : Int), int64 (leV ((b.drop 8).take 8)), (b.drop 16).take 108⟩
theorem read_is {b : List UInt8} (h : b.length = 128) : (read b).is := by simp [read, Fr.is, h]
def Good (b : List UInt8) : Prop := b.length = 128 ∧ Right (read b) ∧ body (read b) = b
instance (b : List UInt8) : Decidable (Good b) := by unfold Good; infer_instance
def goodB (b : List UInt8) : Bool := decide (Good b)
def got (b : List UInt8) : Fr := if goodB b = true then read b else zeroF
theorem got_is (b : List UInt8) : (got b).is := by
  unfold got
  split
  · rename_i h
    exact read_is (of_decide_eq_true h).1
  · exact zeroF_is
theorem got_no {b : List UInt8} (h : goodB b = false) : got b = zeroF := if_neg (by simp [h])
theorem got_yes {b : List UInt8} (h : goodB b = true) : got b = read b := if_pos h
theorem good_len {b : List UInt8} (h : ¬ b.length = 128) : goodB b = false := decide_eq_false fun e => h e.1
theorem byte_back {n : Int} (h0 : 0 ≤ n) (h1 : n < 256) : ((UInt8.ofNat n.toNat).toNat : Int) = n := by rw [ofNat_toNat]; omega
theorem read_of (a b : UInt8) (T G D S : List UInt8) (hT : T.length = 4) (hG : G.length = 8) (hD : D.length = 108) :
    read ([83, 84, a, b] ++ (T ++ (G ++ (D ++ S)))) = ⟨(a.toNat : Int), (b.toNat : Int), (leV T : Int), int64 (leV G), D⟩ := by
  have e4 : ([83, 84, a, b] ++ (T ++ (G ++ (D ++ S)))).drop 4 = T ++ (G ++ (D ++ S)) := rfl
  have e8 : ([83, 84, a, b] ++ (T ++ (G ++ (D ++ S)))).drop 8 = G ++ (D ++ S) := by
    rw [show 8 = 4 + 4 by rfl, ← List.drop_drop, e4, ← hT, List.drop_left]
  have e16 : ([83, 84, a, b] ++ (T ++ (G ++ (D ++ S)))).drop 16 = D ++ S := by
    rw [show 16 = 8 + 8 by rfl, ← List.drop_drop, e8, ← hG, List.drop_left]
  unfold read
  rw [e4, e8, e16, ← hT, List.take_left, ← hG, List.take_left, ← hD, List.take_left]
  rfl
theorem body_parts (f : Fr) : body f = [83, 84, UInt8.ofNat f.k.toNat, UInt8.ofNat f.s.toNat] ++ (le 4 f.t.toNat ++ (le 8 f.g.toNat ++ (f.d ++ le 4 (sum (head f))))) := by
  unfold body
  conv => lhs; lhs; unfold head
  simp only [List.append_assoc]
  rfl
theorem read_body {f : Fr} (hi : f.is) (h : Right f) : read (body f) = f := by
  obtain ⟨k1, k2, s1, s2, t1, t2, g1, g2⟩ := h
  have e4 := leV_le 4 f.t.toNat (by simp; omega)
  have e8 := leV_le 8 f.g.toNat (by simp; omega)
  rw [body_parts, read_of _ _ _ _ _ _ (le_length 4 _) (le_length 8 _) hi, e4, e8]
  refine Fr.same (byte_back (by omega) (by omega)) (byte_back s1 (by omega)) ?_ ?_ rfl
  · show ((f.t.toNat : Nat) : Int) = f.t
    omega
  · show int64 f.g.toNat = f.g
    unfold int64; rw [if_pos (by omega)]; omega
theorem good_body {f : Fr} (hi : f.is) (h : Right f) : Good (body f) := ⟨body_length hi, by rw [read_body hi h]; exact h, by rw [read_body hi h]⟩
theorem got_put {f : Fr} (hi : f.is) (h : rightB f = true) : goodB (put f) = true ∧ got (put f) = f := by
  have hr : Right f := of_decide_eq_true h
  have hg : goodB (put f) = true := by rw [put_yes h]; exact decide_eq_true (good_body hi hr)
  exact ⟨hg, by rw [got_yes hg, put_yes h, read_body hi hr]⟩
theorem good_only {b : List UInt8} (h : goodB b = true) : rightB (got b) = true ∧ put (got b) = b := by
  have hg : Good b := of_decide_eq_true h
  have hr : rightB (got b) = true := by rw [got_yes h]; exact decide_eq_true hg.2.1
  exact ⟨hr, by rw [put_yes hr, got_yes h]; exact hg.2.2⟩
theorem put_inj {f g : Fr} (hf : f.is) (hg : g.is) (h : rightB f = true) (h' : rightB g = true) (e : put f = put g) : f = g := by
  rw [← (got_put hf h).2, e, (got_put hg h').2]
theorem put_len {f : Fr} (hi : f.is) (h : rightB f = true) : (put f).length = 128 := by rw [put_yes h, body_length hi]
/-! ### the document's way to tell a good frame -/
theorem take_one {b : List UInt8} {i : Nat} (h : i < b.length) : (b.drop i).take 1 = [b.getD i 0] := by
  rw [List.drop_eq_getElem_cons h, List.take_succ_cons, List.take_zero]; simp [List.getD, h]
theorem parts {b : List UInt8} (h : b.length = 128) : b.take 124 = b.take 2 ++ [b.getD 2 0, b.getD 3 0] ++ (b.drop 4).take 4 ++ (b.drop 8).take 8 ++ (b.drop 16).take 108 := by
  rw [show (124 : Nat) = 2 + 1 + 1 + 4 + 8 + 108 from rfl, List.take_add, List.take_add, List.take_add, List.take_add, List.take_add, take_one (by omega), take_one (by omega), List.append_assoc (b.take 2) [_] [_]]
  rfl
theorem int64_pos {v : Nat} (hv : v < 18446744073709551616) (h : 0 ≤ int64 v) : (int64 v).toNat = v := by
  unfold int64 at *
  split at h
  · rename_i hlt; rw [if_pos hlt]; omega
  · omega
theorem head_read {b : List UInt8} (h : b.length = 128) (hr : Right (read b)) : head (read b) = [83, 84] ++ [b.getD 2 0, b.getD 3 0] ++ (b.drop 4).take 4 ++ (b.drop 8).take 8 ++ (b.drop 16).take 108 := by
  obtain ⟨k1, k2, s1, s2, t1, t2, g1, g2⟩ := hr
  have l4 : ((b.drop 4).take 4).length = 4 := by simp [h]
  have l8 : ((b.drop 8).take 8).length = 8 := by simp [h]
  have e4 := le_leV ((b.drop 4).take 4)
  have e8 := le_leV ((b.drop 8).take 8)
  have v8 := leV_lt ((b.drop 8).take 8)
  rw [l4] at e4
  rw [l8] at e8 v8
  have h8 : (int64 (leV ((b.drop 8).take 8))).toNat = leV ((b.drop 8).take 8) := int64_pos (by simpa using v8) g1
  unfold head
  show [83, 84] ++ [UInt8.ofNat ((b.getD 2 0).toNat : Int).toNat, UInt8.ofNat ((b.getD 3 0).toNat : Int).toNat] ++ le 4 ((leV ((b.drop 4).take 4) : Nat) : Int).toNat ++ le 8 (int64 (leV ((b.drop 8).take 8))).toNat ++ (b.drop 16).take 108 = _
  rw [h8, Int.toNat_natCast, Int.toNat_natCast, Int.toNat_natCast, e4, e8, ofNat_of (b := b.getD 2 0) (by have := u8_lt (b.getD 2 0); omega), ofNat_of (b := b.getD 3 0) (by have := u8_lt (b.getD 3 0); omega)]
theorem app_eq {a b c d : List UInt8} (h : a.length = c.length) : a ++ b = c ++ d ↔ a = c ∧ b = d := ⟨fun e => List.append_inj e h, fun ⟨e1, e2⟩ => by rw [e1, e2]⟩
theorem body_read {b : List UInt8} (h : b.length = 128) (hr : Right (read b)) : body (read b) = b ↔ b.take 2 = [83, 84] ∧ sum (b.take 124) = leV (b.drop 124) := by
  have l4 : (b.drop 124).length = 4 := by simp [h]
  have hs := sum_lt (head (read b))
  have hl : leV (le 4 (sum (head (read b)))) = sum (head (read b)) := leV_le 4 _ (by simpa using hs)
  have hv := le_leV (b.drop 124)
  rw [l4] at hv
  have e : body (read b) = b ↔ head (read b) = b.take 124 ∧ le 4 (sum (head (read b))) = b.drop 124 := by
    unfold body
    conv => lhs; rhs; rw [← List.take_append_drop 124 b]
    exact app_eq (by rw [head_length (read_is h)]; simp [h])
  rw [e]
  have e2 : head (read b) = b.take 124 ↔ b.take 2 = [83, 84] := by
    rw [head_read h hr, parts h]
    simp only [List.append_assoc]
    rw [app_eq (by simp [h])]
    exact ⟨fun e => e.1.symm, fun e => ⟨e.symm, rfl⟩⟩
  rw [e2]
  refine ⟨fun ⟨h1, h2⟩ => ⟨h1, ?_⟩, fun ⟨h1, h2⟩ => ⟨h1, ?_⟩⟩
  · rw [← e2.2 h1, ← h2, hl]
  · rw [e2.2 h1, h2, hv]
theorem goodB_eq {b : List UInt8} (h : b.length = 128) : goodB b = (decide (b.take 2 = [83, 84]) && decide (sum (b.take 124) = leV (b.drop 124)) && rightB (read b)) := by
  unfold goodB rightB
  by_cases hr : Right (read b)
  · have := body_read h hr
    simp only [Good, h, hr, this, true_and, decide_true, Bool.and_true, Bool.decide_and]
  · simp [Good, hr]
/-! ### four bytes beside each other -/
theorem le4' (x : Nat) : le 4 x = le4 x := (le4_eq x).symm
theorem leV_val4 {l : List UInt8} (h : l.length = 4) : leV l = val4 l := by
  match l, h with
  | [a, b, c, d], _ =>
    show a.toNat + 256 * (b.toNat + 256 * (c.toNat + 256 * (d.toNat + 256 * 0))) = a.toNat + 256 * b.toNat + 65536 * c.toNat + 16777216 * d.toNat
    omega
theorem burst {f : Fr} (hi : f.is) (h : rightB f = true) (k x : Nat) (hk : k ≤ 124) (hx : x < 2 ^ 32) :
    (goodB (turnL (put f) k x 4) = true ↔ x = 0) ∧ (x = 0 → turnL (put f) k x 4 = put f) := by
  rw [put_yes h]
  have hlen := head_length hi
  have hb : (body f).length = k + 4 + (124 - k) := by rw [body_length hi]; omega
  rw [turnL_spot (body f) k x (124 - k) hb]
  have hx0 : x = 0 → xorL (body f) (spot k x (124 - k)) = body f := by
    rintro rfl
    have e : spot k 0 (124 - k) = List.replicate (body f).length 0 := by
      rw [body_length hi]
      unfold spot
      show List.replicate k 0 ++ ([0, 0, 0, 0] ++ List.replicate (124 - k) 0) = _
      rw [show ([0, 0, 0, 0] : List UInt8) = List.replicate 4 0 by rfl, List.replicate_append_replicate, List.replicate_append_replicate]
      congr 1; omega
    rw [e, xorL_zeros]
  refine ⟨⟨fun hg => ?_, fun e => ?_⟩, hx0⟩
  · have ht := sum_turned (head f) k x hx (by omega)
    rw [hlen, ← le4'] at ht
    refine ht.1 ?_
    change sum (List.take 124 (xorL (body f) (spot k x (124 - k)))) = val4 (List.drop 124 (xorL (body f) (spot k x (124 - k))))
    have hG : Good _ := of_decide_eq_true hg
    have := ((body_read hG.1 hG.2.1).1 hG.2.2).2
    rw [this]
    exact leV_val4 (by simp [hG.1])
  · rw [hx0 e]
    exact decide_eq_true (good_body hi (of_decide_eq_true h))
theorem good_zeros : goodB (List.replicate 128 0) = false := by
  rw [goodB_eq (by simp)]
  rfl
end Go.Proofs.Ytjkponhdpeelpaa.Hf
