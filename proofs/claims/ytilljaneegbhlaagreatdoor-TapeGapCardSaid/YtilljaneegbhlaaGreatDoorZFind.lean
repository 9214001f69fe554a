import Derived.KernelRfl
namespace Go.Proofs.YtilljaneegbhlaaGreatDoor
def firstAt {α : Type} (m : α → Bool) : List α → Nat → Int
 | [], _ => -1
 | j :: js, i => if m j then i else firstAt m js (i + 1)
theorem firstAt_skip {α : Type} (m : α → Bool) (d : α) (js : List α) (i : Nat) : ∀ k, k ≤ js.length → (∀ x, x < k → m (js.getD x d) = false) → firstAt m js i = firstAt m (js.drop k) (i + k)
 | 0, _, _ => by simp
 | k + 1, hk, h => by
  rw [firstAt_skip m d js i k (by omega) (fun x hx => h x (by omega))]
  have hlt : k < js.length := by omega
  rw [List.drop_eq_getElem_cons hlt]; have := h k (by omega); rw [show js.getD k d = js[k] from by simp [List.getD, hlt]] at this; simp only [firstAt, this, Bool.false_eq_true, if_false]; rw [show i + k + 1 = i + (k + 1) from by omega]
theorem firstAt_here {α : Type} (m : α → Bool) (d : α) (js : List α) (k : Nat) (hk : k < js.length) (h : ∀ x, x < k → m (js.getD x d) = false) (ht : m (js.getD k d) = true) : firstAt m js 0 = k := by
 rw [firstAt_skip m d js 0 k (by omega) h, List.drop_eq_getElem_cons hk]
 rw [show js.getD k d = js[k] from by simp [List.getD, hk]] at ht
 simp [firstAt, ht]
theorem firstAt_none {α : Type} (m : α → Bool) (d : α) (js : List α) (h : ∀ x, x < js.length → m (js.getD x d) = false) : firstAt m js 0 = -1 := by
 rw [firstAt_skip m d js 0 js.length (Nat.le_refl _) h, List.drop_length]; rfl
theorem firstAt_any {α : Type} (m : α → Bool) (js : List α) : ∀ i, decide (firstAt m js i ≥ 0) = js.any m := by
 induction js with
 | nil => intro i; rfl
 | cons j js ih =>
  intro i; unfold firstAt
  cases h : m j
  ·simp only [Bool.false_eq_true, if_false, List.any_cons, h, Bool.false_or]; exact ih (i + 1)
  ·simp [h]
end Go.Proofs.YtilljaneegbhlaaGreatDoor
