/-
  What gram.Put answers, plainly.
-/
import Derived.Test.YtoflfbcjlddjaaaDoorGWrong
namespace Go.Proofs.YtoflfbcjlddjaaaDoor

def misfit (p : Fl × Vl) : Bool := !fitsF p.1 p.2
def encP (p : Fl × Vl) : List UInt8 := encF p.1 p.2
/-- The kind of the error, and its place. -/
def putErr (fs : List Fl) (xs : List Vl) : Option (Int × Int) :=
  if 0 ≤ firstAt wrongF fs 0 then some (1, firstAt wrongF fs 0)
  else if xs.length ≠ fs.length then some (1, xs.length)
  else if 0 ≤ firstAt misfit (fs.zip xs) 0 then some (2, firstAt misfit (fs.zip xs) 0)
  else none
def putB (fs : List Fl) (xs : List Vl) : List UInt8 := (fs.zip xs).flatMap encP
theorem right_all (fs : List Fl) (h : ¬ 0 ≤ firstAt wrongF fs 0) : ∀ f ∈ fs, rightF f = true := by
  intro f hf
  have := firstAt_any wrongF fs 0
  rw [decide_eq_false (by omega)] at this
  have := List.any_eq_false.1 this.symm f hf
  simpa [wrongF] using this
theorem fit_all (ps : List (Fl × Vl)) (h : ¬ 0 ≤ firstAt misfit ps 0) : ∀ p ∈ ps, fitsF p.1 p.2 = true := by
  intro f hf
  have := firstAt_any misfit ps 0
  rw [decide_eq_false (by omega)] at this
  have := List.any_eq_false.1 this.symm f hf
  simpa [misfit] using this
theorem right_kind {f : Fl} (h : rightF f = true) : f.k = 1 ∨ f.k = 2 ∨ f.k = 3 := by
  simp only [rightF, decide_eq_true_eq] at h
  omega
theorem right_size {f : Fl} (h : rightF f = true) (h1 : f.k = 1) : ∃ s : Nat, f.sz = s ∧ s ≤ 8 ∧ 1 ≤ s := by
  simp only [rightF, holdsN, decide_eq_true_eq] at h
  exact ⟨f.sz.toNat, by omega, by omega, by omega⟩
/-- The length of what the first k pairs make. -/
theorem flat_take_le {α : Type} (f : α → List UInt8) (l : List α) (k : Nat) : ((l.take k).flatMap f).length ≤ (l.flatMap f).length := by
  conv => rhs; rw [← List.take_append_drop k l]
  rw [List.flatMap_append, List.length_append]
  omega
end Go.Proofs.YtoflfbcjlddjaaaDoor
