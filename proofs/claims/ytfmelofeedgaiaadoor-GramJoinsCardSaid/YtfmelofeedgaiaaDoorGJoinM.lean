/-
  Rows behind each other: what Put makes of them, plainly.
-/
import Derived.Test.YtfmelofeedgaiaaDoorGOnlyM
namespace Go.Proofs.YtfmelofeedgaiaaDoor
theorem putErr_iff (fs : List Fl) (xs : List Vl) : putErr fs xs = none ↔ fs.any wrongF = false ∧ xs.length = fs.length ∧ (fs.zip xs).any misfit = false := by
  have h1 := firstAt_any wrongF fs 0
  have h2 := firstAt_any misfit (fs.zip xs) 0
  unfold putErr
  rw [← h1, ← h2]
  by_cases e1 : 0 ≤ firstAt wrongF fs 0
  · simp [e1]
  · by_cases e2 : xs.length = fs.length
    · by_cases e3 : 0 ≤ firstAt misfit (fs.zip xs) 0
      · simp [e1, e2, e3]
      · simp [e1, e2, e3]
    · simp [e1, e2]
theorem join_none {l m : List Fl} {x y : List Vl} (h1 : putErr l x = none) (h2 : putErr m y = none) :
    putErr (l ++ m) (x ++ y) = none ∧ putB (l ++ m) (x ++ y) = putB l x ++ putB m y ∧ leastM (l ++ m) = leastM l + leastM m := by
  obtain ⟨a1, a2, a3⟩ := (putErr_iff l x).1 h1
  obtain ⟨b1, b2, b3⟩ := (putErr_iff m y).1 h2
  have hz : (l ++ m).zip (x ++ y) = l.zip x ++ m.zip y := List.zip_append a2.symm
  have hw : (l ++ m).any wrongF = false := by rw [List.any_append, a1, b1]; rfl
  have neg : ∀ fs : List Fl, fs.any wrongF = false → ¬ 0 ≤ firstAt wrongF fs 0 := fun fs h e => by
    have := firstAt_any wrongF fs 0
    rw [h, decide_eq_true e] at this; cases this
  refine ⟨(putErr_iff _ _).2 ⟨hw, by rw [List.length_append, List.length_append, a2, b2], by rw [hz, List.any_append, a3, b3]; rfl⟩, ?_, ?_⟩
  · unfold putB; rw [hz, List.flatMap_append]
  · unfold leastM
    rw [if_neg (neg _ hw), if_neg (neg _ a1), if_neg (neg _ b1), List.map_append, List.sum_append]
theorem join_some {l m : List Fl} {x y : List Vl} (h : putErr l x ≠ none ∨ putErr m y ≠ none) (hl : x.length = l.length) : putErr (l ++ m) (x ++ y) ≠ none := by
  intro e
  obtain ⟨c1, c2, c3⟩ := (putErr_iff _ _).1 e
  have hz : (l ++ m).zip (x ++ y) = l.zip x ++ m.zip y := List.zip_append hl.symm
  rw [List.any_append, Bool.or_eq_false_iff] at c1
  rw [List.length_append, List.length_append] at c2
  rw [hz, List.any_append, Bool.or_eq_false_iff] at c3
  rcases h with h | h
  · exact h ((putErr_iff _ _).2 ⟨c1.1, hl, c3.1⟩)
  · exact h ((putErr_iff _ _).2 ⟨c1.2, by omega, c3.2⟩)
end Go.Proofs.YtfmelofeedgaiaaDoor
