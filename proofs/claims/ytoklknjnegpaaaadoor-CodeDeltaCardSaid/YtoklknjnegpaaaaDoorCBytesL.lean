/-
  What fragments' bytes hang on.
-/
import Derived.Test.YtoklknjnegpaaaaDoorCRuns
namespace Go.Proofs.YtoklknjnegpaaaaDoor
open Go.RowKit Gf Cd
attribute [local go_sem ↓] Go.wp_at_zero Go.wp_at_succ
theorem enc_byte {k n s i x : Nat} {bs : List (List UInt8)} (hi : i < n) (hx : x < s) (h : ∀ j, j < k → (bs.getD j []).length = s) : (((encL k n bs s).getD i []).getD x 0).toNat = dot (cf k i) (fun j => mat bs j x) k := by
  unfold encL
  rw [tabL_getD _ hi]
  exact combo_nat hx k h
theorem madeL_len {k size : Nat} {bl : List UInt8} : ∀ j, j < k → ((madeL k size bl).getD j []).length = size := fun j hj => by rw [madeL_getD hj, tab_length]
/-- One byte of the last block turned. -/
def turnL (k p x : Nat) (bs : List (List UInt8)) : List (List UInt8) := bs.set (k - 1) ((bs.getD (k - 1) []).set p (UInt8.ofNat (((bs.getD (k - 1) []).getD p 0).toNat ^^^ x)))
theorem getD_set_b (l : List UInt8) (p y : Nat) (v : UInt8) (hp : p < l.length) : (l.set p v).getD y 0 = if y = p then v else l.getD y 0 := by
  by_cases e : y = p
  · subst e; rw [if_pos rfl, getD_set_eq _ _ _ _ hp]
  · rw [if_neg e, getD_set_ne _ _ _ _ _ e]
theorem turnL_mat {k p x s : Nat} {bs : List (List UInt8)} (hk : 1 ≤ k) (hl : bs.length = k) (h : ∀ j, j < k → (bs.getD j []).length = s) (hp : p < s) (hx : x < 256) (j y : Nat) : mat (turnL k p x bs) j y = if j = k - 1 ∧ y = p then mat bs j y ^^^ x else mat bs j y := by
  unfold mat turnL
  by_cases e : j = k - 1
  · subst e
    rw [getD_set_eq _ _ _ _ (by omega), getD_set_b _ _ _ _ (by rw [h _ (by omega)]; exact hp)]
    by_cases e2 : y = p
    · subst e2
      rw [if_pos rfl, if_pos ⟨rfl, rfl⟩, UInt8.toNat_ofNat']
      have : ((bs.getD (k - 1) []).getD y 0).toNat ^^^ x < 256 := xor_lt (UInt8.toNat_lt _) hx
      omega
    · rw [if_neg e2, if_neg (by omega)]
  · rw [getD_set_ne _ _ _ _ _ e, if_neg (by omega)]
theorem turnL_length (k p x : Nat) (bs : List (List UInt8)) : (turnL k p x bs).length = bs.length := by unfold turnL; rw [List.length_set]
theorem turnL_len {k p x s : Nat} {bs : List (List UInt8)} (hl : bs.length = k) (h : ∀ j, j < k → (bs.getD j []).length = s) : ∀ j, j < k → ((turnL k p x bs).getD j []).length = s := fun j hj => by
  unfold turnL
  by_cases e : j = k - 1
  · subst e; rw [getD_set_eq _ _ _ _ (by omega), List.length_set, h _ hj]
  · rw [getD_set_ne _ _ _ _ _ e, h _ hj]
theorem dot_turn {k p x s i : Nat} {bs : List (List UInt8)} (hk : 1 ≤ k) (hl : bs.length = k) (h : ∀ j, j < k → (bs.getD j []).length = s) (hp : p < s) (hx : x < 256) (y : Nat) :
    dot (cf k i) (fun j => mat (turnL k p x bs) j y) k = dot (cf k i) (fun j => mat bs j y) k ^^^ (if y = p then mul x (cf k i (k - 1)) else 0) := by
  have e1 : dot (cf k i) (fun j => mat (turnL k p x bs) j y) k = dot (cf k i) (fun j => mat bs j y ^^^ (if j = k - 1 ∧ y = p then x else 0)) k := dot_congr fun j _ => ⟨rfl, by
    show mat (turnL k p x bs) j y = _
    rw [turnL_mat hk hl h hp hx]
    split <;> simp⟩
  rw [e1, dot_v_xor (fun j => mat_bm bs j y) (fun j => by show (if j = k - 1 ∧ y = p then x else 0) < 256; split <;> omega)]
  congr 1
  by_cases e : y = p
  · rw [if_pos e, dot_one (i := k - 1) (by omega) fun j _ hne => by rw [if_neg (by omega), zero_mul], if_pos ⟨rfl, e⟩]
  · rw [if_neg e, dot_zero fun j _ => by rw [if_neg (by omega), zero_mul]]
theorem cf_last {k i : Nat} (hk : 1 ≤ k) (hi : k - 1 ≤ i) : cf k i (k - 1) ≠ 0 := by
  unfold cf
  by_cases e : i < k
  · rw [if_pos e, if_pos (by omega)]; omega
  · rw [if_neg e]; exact inv_ne (xor_ne (by omega))
/-- What the fragments' bytes are, ahead and behind. -/
theorem enc_turn {k n s i p x y : Nat} {bs : List (List UInt8)} (hk : 1 ≤ k) (hl : bs.length = k) (h : ∀ j, j < k → (bs.getD j []).length = s) (hp : p < s) (hx : x < 256) (hi : i < n) (hy : y < s) :
    (y ≠ p → (((encL k n bs s).getD i []).getD y 0).toNat = (((encL k n (turnL k p x bs) s).getD i []).getD y 0).toNat) ∧
    (y = p → k - 1 ≤ i → ((((encL k n bs s).getD i []).getD y 0).toNat = (((encL k n (turnL k p x bs) s).getD i []).getD y 0).toNat ↔ x = 0)) := by
  rw [enc_byte hi hy h, enc_byte hi hy (turnL_len hl h), dot_turn hk hl h hp hx]
  refine ⟨fun e => by rw [if_neg e, Nat.xor_zero], fun e hik => ?_⟩
  rw [if_pos e]
  generalize dot (cf k i) (fun j => mat bs j y) k = d
  constructor
  · intro q
    have h1 : mul x (cf k i (k - 1)) = 0 := by
      have : d ^^^ d = d ^^^ (d ^^^ mul x (cf k i (k - 1))) := by rw [← q]
      rw [Nat.xor_self, ← Nat.xor_assoc, Nat.xor_self, Nat.zero_xor] at this
      exact this.symm
    rcases mul_eq_zero h1 with h2 | h2
    · exact h2
    · exact absurd h2 (cf_last hk hik)
  · intro q; subst q; rw [zero_mul, Nat.xor_zero]
/-- A row of a slice of rows, and one of its bytes. -/
theorem SlBs.byte {B : Nat} {w wr : World} {v : Value} {ls : List (List UInt8)} (h : SlBs B w v ls) (hB : B ≤ w.heap.size) (hb : Below w.heap.size w wr) {i y : Nat} (hi : i < ls.length) (hy : y < (ls.getD i []).length) :
    ∃ b o cap b2 o2 c2, v = .slice (some ⟨b, o, none⟩) ls.length cap ∧ wr.cell? ⟨b, o + i, none⟩ = some (.slice (some ⟨b2, o2, none⟩) (ls.getD i []).length c2) ∧ wr.cell? ⟨b2, o2 + y, none⟩ = some (.int .u8 ((ls.getD i []).getD y 0).toNat) := by
  obtain ⟨b, o, cap, u, e, _, hbB, h1, h2⟩ := h.row hi
  obtain ⟨b2, o2, c2, rfl, h3⟩ := h2.byte hB hb hy
  exact ⟨b, o, cap, b2, o2, c2, e, (hb.cell (p := ⟨b, o + i, none⟩) (show b < w.heap.size by omega)).trans h1, h3⟩
theorem bytesV_set (l : List UInt8) (p z : Nat) (hz : z < 256) : (bytesV l).set p (.int .u8 z) = bytesV (l.set p (UInt8.ofNat z)) := by
  unfold bytesV
  rw [List.map_set, UInt8.toNat_ofNat', Nat.mod_eq_of_lt hz]
theorem encL_length (k n s : Nat) (bs : List (List UInt8)) : (encL k n bs s).length = n := tabL_length ..
theorem encL_len {k n s : Nat} {bs : List (List UInt8)} : ∀ i, i < n → ((encL k n bs s).getD i []).length = s := fun i hi => by unfold encL; rw [tabL_getD _ hi, combo_length]
def RelBo (n : Nat) (w : World) (c : Value) (wr : World) : Prop := ∃ i : Nat, i ≤ n ∧ c = .int .i64 i ∧ Below w.heap.size w wr
end Go.Proofs.YtoklknjnegpaaaaDoor
