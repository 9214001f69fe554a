/-
  Sums of blocks and of fragments.
-/
import Derived.Test.YtoklknjnegpaaaaDoorCBytesL
namespace Go.Proofs.YtoklknjnegpaaaaDoor
open Go.RowKit Gf Cd
/-- The sums of two rows of blocks, as far as they are there: all rows ahead of i, of row i all ahead of j. -/
def zL (X Y : List (List UInt8)) (k s i j : Nat) : List (List UInt8) := tabL k fun r => tab s fun c => if r < i ∨ (r = i ∧ c < j) then mat X r c ^^^ mat Y r c else 0
theorem mat_lt (X : List (List UInt8)) (r c : Nat) : mat X r c < 256 := mat_bm X r c
theorem zL_row {X Y : List (List UInt8)} {k s i j r : Nat} (h : r < k) : (zL X Y k s i j).getD r [] = tab s fun c => if r < i ∨ (r = i ∧ c < j) then mat X r c ^^^ mat Y r c else 0 := tabL_getD _ h
theorem zL_length (X Y : List (List UInt8)) (k s i j : Nat) : (zL X Y k s i j).length = k := tabL_length ..
theorem zL_len {X Y : List (List UInt8)} {k s i j : Nat} : ∀ r, r < k → ((zL X Y k s i j).getD r []).length = s := fun r hr => by rw [zL_row hr, tab_length]
theorem zL_start (X Y : List (List UInt8)) (k s : Nat) : madeL k s [] = zL X Y k s 0 0 := tabL_congr fun r _ => tab_congr fun c _ => by rw [if_neg (by omega)]; rfl
theorem zL_wrap (X Y : List (List UInt8)) (k s i : Nat) : zL X Y k s i s = zL X Y k s (i + 1) 0 := tabL_congr fun r _ => tab_congr fun c hc => by
  by_cases h : r < i ∨ (r = i ∧ c < s)
  · rw [if_pos h, if_pos (by omega)]
  · rw [if_neg h, if_neg (by omega)]
theorem zL_mat {X Y : List (List UInt8)} {k s r c : Nat} (hr : r < k) (hc : c < s) : mat (zL X Y k s k 0) r c = mat X r c ^^^ mat Y r c := by
  show (((zL X Y k s k 0).getD r []).getD c 0).toNat = _
  rw [zL_row hr, tab_nat _ hc (by rw [if_pos (by omega)]; exact xor_lt (mat_lt ..) (mat_lt ..)), if_pos (by omega)]
theorem zL_set {X Y : List (List UInt8)} {k s i j : Nat} (hi : i < k) (hj : j < s) : (zL X Y k s i j).set i (((zL X Y k s i j).getD i []).set j (UInt8.ofNat (mat X i j ^^^ mat Y i j))) = zL X Y k s i (j + 1) := by
  have hz : mat X i j ^^^ mat Y i j < 256 := xor_lt (mat_lt ..) (mat_lt ..)
  refine tabL_set (fun r _ hne => tab_congr fun c _ => ?_) ?_
  · by_cases h : r < i ∨ (r = i ∧ c < j)
    · rw [if_pos h, if_pos (by omega)]
    · rw [if_neg h, if_neg (by omega)]
  · rw [zL_row hi]
    refine list_eq_getD (by rw [tab_length, List.length_set, tab_length]) fun c hc => ?_
    rw [tab_length] at hc
    rw [tab_getD _ hc]
    by_cases e : c = j
    · subst e
      rw [getD_set_eq _ _ _ _ (by rw [tab_length]; exact hc), if_pos (by omega)]
    · rw [getD_set_ne _ _ _ _ _ e, tab_getD _ hc]
      by_cases h : i < i ∨ (i = i ∧ c < j)
      · rw [if_pos h, if_pos (by omega)]
      · rw [if_neg h, if_neg (by omega)]
/-- The fragments of sums are the sums of the fragments. -/
theorem enc_sum {X Y : List (List UInt8)} {k n s i y : Nat} (hX : ∀ j, j < k → (X.getD j []).length = s) (hY : ∀ j, j < k → (Y.getD j []).length = s) (hi : i < n) (hy : y < s) :
    (((encL k n (zL X Y k s k 0) s).getD i []).getD y 0).toNat = (((encL k n X s).getD i []).getD y 0).toNat ^^^ (((encL k n Y s).getD i []).getD y 0).toNat := by
  rw [enc_byte hi hy zL_len, enc_byte hi hy hX, enc_byte hi hy hY, ← dot_v_xor (fun j => mat_bm X j y) (fun j => mat_bm Y j y)]
  exact dot_congr fun j hj => ⟨rfl, zL_mat hj hy⟩
/-- The first k fragments are the blocks. -/
theorem enc_take {X : List (List UInt8)} {k n s : Nat} (hl : X.length = k) (hX : ∀ j, j < k → (X.getD j []).length = s) (hkn : k ≤ n) : (encL k n X s).take k = X := by
  have h1 : ((encL k n X s).take k).length = k := by rw [List.length_take, encL_length]; omega
  refine rows_ext (by omega) fun i hi => ?_
  have hik : i < k := by omega
  rw [show ((encL k n X s).take k).getD i [] = (encL k n X s).getD i [] by simp [List.getD, hik]]
  refine list_eq_getD (by rw [encL_len i (by omega), hX i hik]) fun y hy => ?_
  rw [encL_len i (by omega)] at hy
  apply UInt8.toNat_inj.1
  rw [enc_byte (by omega) hy hX, dot_one (i := i) hik (fun j _ hne => by unfold cf; rw [if_pos hik, if_neg hne, mul_zero])]
  unfold cf
  rw [if_pos hik, if_pos rfl, mul_one (mat_lt ..)]
  rfl
theorem slbs_take {B m cap : Nat} {w : World} {a : Option Addr} {ls : List (List UInt8)} (h : SlBs B w (.slice a ls.length cap) ls) (hm : m ≤ ls.length) : SlBs B w (.slice a m cap) (ls.take m) := by
  have hl : (ls.take m).length = m := by rw [List.length_take]; omega
  rcases Nat.eq_zero_or_pos m with rfl | h0
  · exact Or.inl ⟨rfl, _, _, rfl⟩
  rcases h with ⟨rfl, _⟩ | ⟨b, o, cap', h1, h2, h3, _, h5⟩
  · simp at hm; omega
  · injection h1 with h1 _ h1'
    subst h1 h1'
    refine Or.inr ⟨b, o, cap, by rw [hl], h2, fun y hy => ?_, by omega, by omega⟩
    rw [hl] at hy
    obtain ⟨u, e1, e2⟩ := h3 y (by omega)
    exact ⟨u, e1, by rw [show (ls.take m).getD y [] = ls.getD y [] by simp [List.getD, hy]]; exact e2⟩
/-- The loops' relations. -/
def RelZ (X Y : List (List UInt8)) (k s : Nat) (w3 : World) (v : Value) (us : List Value) (w4 : World) (c : Value) (wr : World) : Prop :=
  ∃ i : Nat, i ≤ k ∧ c = .int .i64 i ∧ OwnLs w3.heap.size wr v us (zL X Y k s i 0) ∧ Below w3.heap.size w4 wr
def RelZj (X Y : List (List UInt8)) (k s i : Nat) (w3 : World) (v : Value) (us : List Value) (w4 : World) (c : Value) (wr : World) : Prop :=
  ∃ j : Nat, j ≤ s ∧ c = .int .i64 j ∧ OwnLs w3.heap.size wr v us (zL X Y k s i j) ∧ Below w3.heap.size w4 wr
theorem relZj_next {X Y : List (List UInt8)} {k s i j g c : Nat} {w3 w4 wr : World} {v : Value} {us : List Value} (hi : i < k) (hj : j < s) (hO : OwnLs w3.heap.size wr v us (zL X Y k s i j)) (hb : Below w3.heap.size w4 wr)
    (hu : us.getD i nilB = .slice (some ⟨g, 0, none⟩) s c) {z : Nat} (hz : mat X i j ^^^ mat Y i j = z) (d : Nat) : RelZj X Y k s i w3 v us w4 (.int .i64 ((j : Int) + 1)) ((wr.setCell ⟨g, j, none⟩ (.int .u8 z)).drewN d) := by
  have hz8 : z < 256 := by rw [← hz]; exact xor_lt (mat_lt ..) (mat_lt ..)
  have hr := hO.each i (by rw [zL_length]; exact hi)
  rw [hu, zL_len i hi] at hr
  have hg : Grew wr (some g) (wr.setCell ⟨g, j, none⟩ (.int .u8 z)) (some g) := ⟨grownBy_set _ _ _ _, Or.inl rfl⟩
  have h1 := own_set hr j (.int .u8 z)
  rw [bytesV_set _ _ _ hz8] at h1
  have h2 := hO.bytes (i := i) (l := ((zL X Y k s i j).getD i []).set j (UInt8.ofNat z)) (by rw [zL_length]; exact hi) (by rw [hu, List.length_set, zL_len i hi]; exact h1) (by rw [hu]; exact hg)
  rw [← hz, zL_set hi hj, hz] at h2
  exact ⟨j + 1, by omega, by go_num, h2.drewN d, below_drewN (hb.setCell (own_lt hr).1 _) d⟩
end Go.Proofs.YtoklknjnegpaaaaDoor
