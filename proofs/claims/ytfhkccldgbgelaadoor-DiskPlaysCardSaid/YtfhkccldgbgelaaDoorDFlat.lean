/-
  Rows of rows laid flat: each of k cells. Lists alone.
-/
import Derived.Test.YtfhkccldgbgelaaDoorDModel
namespace Dk
def flat {α : Type} (n : Nat) (f : Nat → List α) : List α := (List.range n).flatMap f
theorem flat_succ {α : Type} (n : Nat) (f : Nat → List α) : flat (n + 1) f = flat n f ++ f n := by simp [flat, List.range_succ]
theorem flat_length {α : Type} {k : Nat} {f : Nat → List α} (hf : ∀ i, (f i).length = k) : ∀ n, (flat n f).length = k * n
  | 0 => rfl
  | n + 1 => by rw [flat_succ, List.length_append, flat_length hf n, hf, Nat.mul_succ]
theorem flat_at {α : Type} {k : Nat} {f : Nat → List α} (hf : ∀ i, (f i).length = k) {i j : Nat} (hj : j < k) : ∀ {n : Nat}, i < n → (flat n f)[k * i + j]? = (f i)[j]? := by
  intro n
  induction n with
  | zero => intro h; omega
  | succ n ih =>
    intro h
    rw [flat_succ]
    by_cases e : i = n
    · subst e
      rw [List.getElem?_append_right (by rw [flat_length hf]; omega), flat_length hf]
      congr 1; omega
    · have h1 : k * i + k ≤ k * n := by rw [← Nat.mul_succ]; exact Nat.mul_le_mul_left k (by omega)
      rw [List.getElem?_append_left (by rw [flat_length hf]; omega)]
      exact ih (by omega)
theorem flat_ext {α : Type} {k n : Nat} {f : Nat → List α} {l : List α} (hf : ∀ i, (f i).length = k) (hl : l.length = k * n) (h : ∀ i j, i < n → j < k → l[k * i + j]? = (f i)[j]?) : l = flat n f := by
  refine List.ext_getElem? fun p => ?_
  by_cases hp : p < k * n
  · have hk : 0 < k := Nat.pos_of_ne_zero fun e => by subst e; simp at hp
    have e : k * (p / k) + p % k = p := Nat.div_add_mod p k
    have h1 : p / k < n := Nat.div_lt_of_lt_mul hp
    have h2 : p % k < k := Nat.mod_lt _ hk
    have h3 := h _ _ h1 h2
    rw [e] at h3
    rw [h3, ← flat_at hf h2 h1, e]
  · rw [List.getElem?_eq_none (by omega), List.getElem?_eq_none (by rw [flat_length hf]; omega)]
theorem flat_congr {α : Type} {n : Nat} {f g : Nat → List α} (h : ∀ i, i < n → f i = g i) : flat n f = flat n g := by
  unfold flat
  rw [List.flatMap_def, List.flatMap_def]
  congr 1
  exact List.map_congr_left fun i hi => h i (List.mem_range.1 hi)
theorem apart_of {k i j : Nat} (h : i < j) : k * i + k ≤ k * j := by rw [← Nat.mul_succ]; exact Nat.mul_le_mul_left k h
theorem flat_splice {α : Type} {k n : Nat} {f : Nat → List α} (hf : ∀ i, (f i).length = k) {i : Nat} (hi : i < n) {v : List α} (hv : v.length = k) :
    (flat n f).take (k * i) ++ v ++ (flat n f).drop (k * i + k) = flat n (upd f i v) := by
  have hu : ∀ j, (upd f i v j).length = k := fun j => by unfold upd; split; exact hv; exact hf j
  have hn : k * i + k ≤ k * n := apart_of hi
  have ht : ((flat n f).take (k * i)).length = k * i := by rw [List.length_take, flat_length hf]; omega
  refine flat_ext hu (by rw [List.length_append, List.length_append, ht, hv, List.length_drop, flat_length hf]; omega) fun a j ha hj => ?_
  rcases Nat.lt_trichotomy a i with h | h | h
  · have := apart_of (k := k) h
    rw [upd_other _ _ (by omega), List.append_assoc, List.getElem?_append_left (by rw [ht]; omega), List.getElem?_take, if_pos (by omega)]
    exact flat_at hf hj ha
  · subst h
    rw [upd_same, List.append_assoc, List.getElem?_append_right (by rw [ht]; omega), ht, List.getElem?_append_left (by rw [hv]; omega)]
    congr 1; omega
  · have := apart_of (k := k) h
    rw [upd_other _ _ (by omega), List.getElem?_append_right (by rw [List.length_append, ht, hv]; omega), List.length_append, ht, hv, List.getElem?_drop]
    rw [show k * i + k + (k * a + j - (k * i + k)) = k * a + j by omega]
    exact flat_at hf hj ha
theorem flat_set {α : Type} {k n : Nat} {f : Nat → List α} (hf : ∀ i, (f i).length = k) {i j : Nat} (hi : i < n) (hj : j < k) (v : α) :
    (flat n f).set (k * i + j) v = flat n (upd f i ((f i).set j v)) := by
  have hu : ∀ a, (upd f i ((f i).set j v) a).length = k := fun a => by unfold upd; split; rw [List.length_set]; exact hf i; exact hf a
  refine flat_ext hu (by rw [List.length_set, flat_length hf]) fun a b ha hb => ?_
  rw [List.getElem?_set]
  have hn : k * i + k ≤ k * n := apart_of hi
  by_cases e : a = i
  · subst e
    rw [upd_same, List.getElem?_set]
    by_cases e2 : j = b
    · subst e2; rw [if_pos rfl, if_pos rfl, if_pos (by rw [flat_length hf]; omega), if_pos (by rw [hf]; omega)]
    · rw [if_neg (by omega), if_neg e2]; exact flat_at hf hb ha
  · rw [upd_other _ _ e]
    have hne : k * i + j ≠ k * a + b := by
      rcases Nat.lt_or_gt_of_ne e with h | h
      · have := apart_of (k := k) h; omega
      · have := apart_of (k := k) h; omega
    rw [if_neg hne]; exact flat_at hf hb ha
theorem flat_take {α : Type} {k n : Nat} {f : Nat → List α} (hf : ∀ i, (f i).length = k) {i : Nat} (hi : i < n) : ((flat n f).drop (k * i)).take k = f i := by
  refine List.ext_getElem? fun j => ?_
  rw [List.getElem?_take]
  split
  · rename_i hj
    rw [List.getElem?_drop]; exact flat_at hf hj hi
  · rw [List.getElem?_eq_none (by rw [hf]; omega)]
theorem upd_upd {α : Type} (f : Nat → α) (i : Nat) (v w : α) : upd (upd f i v) i w = upd f i w := by
  funext j; unfold upd; split <;> rfl
theorem nodup_bound {α : Type} [DecidableEq α] : ∀ (l m : List α), l.Nodup → (∀ a ∈ l, a ∈ m) → l.length ≤ m.length
  | [], _, _, _ => Nat.zero_le _
  | a :: l, m, hn, h => by
    obtain ⟨ha, hn⟩ := List.nodup_cons.1 hn
    have hm := h a (List.mem_cons_self ..)
    have := nodup_bound l (m.erase a) hn fun b hb => (List.mem_erase_of_ne (fun e : b = a => ha (e ▸ hb))).2 (h b (List.mem_cons_of_mem _ hb))
    rw [List.length_erase_of_mem hm] at this
    have := List.length_pos_of_mem hm
    simp only [List.length_cons]; omega
theorem perm_of_nodup {α : Type} [DecidableEq α] {l m : List α} (hl : l.Nodup) (hm : m.Nodup) (h : ∀ a, a ∈ l ↔ a ∈ m) : l.Perm m := by
  rw [List.perm_iff_count]
  intro a
  rw [hl.count, hm.count]
  by_cases e : a ∈ l
  · rw [if_pos e, if_pos ((h a).1 e)]
  · rw [if_neg e, if_neg (fun x => e ((h a).2 x))]
end Dk
