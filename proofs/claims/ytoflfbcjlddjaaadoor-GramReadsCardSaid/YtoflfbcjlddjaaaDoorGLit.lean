/-
  Rows that are told cell by cell, read as fields, values, texts, bytes.
-/
import Derived.Test.YtoflfbcjlddjaaaDoorGGet
import Derived.Test.YtoflfbcjlddjaaaDoorSameB
import Derived.Test.YtoflfbcjlddjaaaDoorGLeast
namespace Go.Proofs.YtoflfbcjlddjaaaDoor
open Go.RowKit

theorem flat_get {α β : Type} (f : α → List β) (n : Nat) (hf : ∀ a, (f a).length = n) (d : α) : ∀ (l : List α) (x j : Nat), x < l.length → j < n → (l.flatMap f)[x * n + j]? = (f (l.getD x d))[j]?
  | [], x, _, hx, _ => by simp at hx
  | a :: l, 0, j, _, hj => by
    rw [List.flatMap_cons, Nat.zero_mul, Nat.zero_add, List.getElem?_append_left (by rw [hf]; exact hj)]; rfl
  | a :: l, x + 1, j, hx, hj => by
    have ih := flat_get f n hf d l x j (by simpa using hx) hj
    rw [List.flatMap_cons, List.getElem?_append_right (by rw [hf, Nat.succ_mul]; omega), hf, show (x + 1) * n + j - n = x * n + j by rw [Nat.succ_mul]; omega, ih]
    rfl
def cellsF (f : Fl) : List Value := [.int .i64 f.k, .int .i64 f.sz, .int .i64 f.lo, .int .i64 f.hi, .int .i64 f.mo]
theorem slf_lit {B b cap : Nat} {W : World} {fs : List Fl} (h : Holds W b (fs.flatMap cellsF)) (hb : b < B) (h0 : 0 < fs.length) (hc : fs.length ≤ cap) : SlF B W (.slice (some ⟨b, 0, none⟩) fs.length cap) fs := by
  refine Or.inr ⟨b, 0, cap, rfl, hb, fun x hx => ?_, h0, hc⟩
  have key := fun (j : Nat) (hj : j < 5) (v : Value) (hv : (cellsF (fs.getD x f0))[j]? = some v) => h (x * 5 + j) v (by rw [flat_get cellsF 5 (fun _ => rfl) f0 fs x j hx hj]; exact hv)
  rw [Nat.zero_add]
  exact ⟨key 0 (by omega) _ rfl, key 1 (by omega) _ rfl, key 2 (by omega) _ rfl, key 3 (by omega) _ rfl, key 4 (by omega) _ rfl⟩
theorem slt_lit {B b cap : Nat} {W : World} {l : List ByteArray} (h : Holds W b (l.map Value.string)) (hb : b < B) (h0 : 0 < l.length) : SlT B W (.slice (some ⟨b, 0, none⟩) l.length cap) l := by
  refine Or.inr ⟨b, 0, cap, rfl, hb, fun x hx => ?_, h0⟩
  rw [Nat.zero_add]
  refine h x _ ?_
  simp [List.getD, hx]
theorem slv_lit {B b cap : Nat} {W : World} {ps : List (Vl × Value)} (h : Holds W b (ps.flatMap cellsP)) (hb : b < B) (h0 : 0 < ps.length) (hT : ∀ p ∈ ps, SlT B W p.2 p.1.l) : SlV B W (.slice (some ⟨b, 0, none⟩) ps.length cap) (ps.map (·.1)) := by
  refine Or.inr ⟨b, 0, cap, by simp, hb, fun x hx => ?_, by simpa using h0⟩
  have hx' : x < ps.length := by simpa using hx
  have hm : (ps.map (·.1)).getD x v0 = (ps.getD x (v0, .nilIface)).1 := by simp [List.getD, hx']
  have key := fun (j : Nat) (hj : j < 3) (v : Value) (hv : (cellsP (ps.getD x (v0, .nilIface)))[j]? = some v) => h (x * 3 + j) v (by rw [flat_get cellsP 3 (fun _ => rfl) (v0, .nilIface) ps x j hx' hj]; exact hv)
  rw [Nat.zero_add, hm]
  exact ⟨key 0 (by omega) _ rfl, key 1 (by omega) _ rfl, _, key 2 (by omega) _ rfl, hT _ (getD_mem ps x _ hx')⟩
theorem slt_own {B : Nat} {w : World} {v : Value} {l : List ByteArray} (h : TextsV B w l v) : SlT w.heap.size w v l := by
  have hh := h
  rcases hh.2 with ⟨rfl, h0⟩ | ⟨g, cap, cur, rfl, _, hg, hle, _⟩
  · obtain rfl := List.eq_nil_of_length_eq_zero h0
    exact Or.inl ⟨rfl, _, _, rfl⟩
  · rcases Nat.eq_zero_or_pos l.length with h0 | h0
    · obtain rfl := List.eq_nil_of_length_eq_zero h0
      exact Or.inl ⟨rfl, _, _, rfl⟩
    · exact slt_lit (holds_own h) (Array.getElem?_eq_some_iff.1 hg).1 h0
theorem slv_own {B : Nat} {w : World} {v : Value} {xs : List Vl} (h : ValsV B w xs v) : SlV w.heap.size w v xs := by
  obtain ⟨ps, rfl, h2, h3⟩ := h
  have hh := h2
  have h0' : ps.length = 0 → ps = [] := List.eq_nil_of_length_eq_zero
  rcases hh.2 with ⟨rfl, h0⟩ | ⟨g, cap, cur, rfl, _, hg, hle, _⟩
  · obtain rfl := h0' h0
    exact Or.inl ⟨rfl, _, _, rfl⟩
  · rcases Nat.eq_zero_or_pos ps.length with h0 | h0
    · obtain rfl := h0' h0
      exact Or.inl ⟨rfl, _, _, rfl⟩
    · exact slv_lit (holds_own h2) (Array.getElem?_eq_some_iff.1 hg).1 h0 fun p hp => slt_own (h3 p hp).1
def okB (x : Vl) : Bool := decide (x.s.size ≤ 100) && decide (x.l.length ≤ 40) && x.l.all fun s => decide (s.size ≤ 100)
theorem ok_all {xs : List Vl} (h : xs.all okB = true) : ∀ x ∈ xs, x.ok := by
  intro x hx
  have := List.all_eq_true.1 h x hx
  simp only [okB, Bool.and_eq_true, decide_eq_true_eq, List.all_eq_true] at this
  exact ⟨this.1.1, this.1.2, this.2⟩
end Go.Proofs.YtoflfbcjlddjaaaDoor
