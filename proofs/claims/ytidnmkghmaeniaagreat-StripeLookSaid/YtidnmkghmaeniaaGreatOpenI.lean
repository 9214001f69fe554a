/-
  Arguments of type []int, opened.
-/
import Derived.Test.YtidnmkghmaeniaaGreatOpenB
namespace Go.Proofs.YtidnmkghmaeniaaGreat
open Go.ChangeShapes Go.WideShapes Go.RowKit Go.Deep
/-- v is a slice of the numbers l, in blocks ahead of B. -/
def SlI (B : Nat) (w : World) (v : Value) (l : List Int) : Prop :=
  (l = [] ∧ ∃ a cap, v = .slice a 0 cap) ∨ ∃ b o cap, v = .slice (some ⟨b, o, none⟩) l.length cap ∧ b < B ∧ (∀ x, x < l.length → w.cell? ⟨b, o + x, none⟩ = some (.int .i64 (l.getD x 0))) ∧ 0 < l.length
theorem SlI.len {B : Nat} {w : World} {v : Value} {l : List Int} (h : SlI B w v l) : ∃ a cap, v = .slice a l.length cap := by
  rcases h with ⟨rfl, a, cap, h⟩ | ⟨b, o, cap, h1, _⟩
  · exact ⟨a, cap, h⟩
  · exact ⟨_, cap, h1⟩
theorem SlI.num {B : Nat} {w wr : World} {v : Value} {l : List Int} (h : SlI B w v l) (hB : B ≤ w.heap.size) (hb : Below w.heap.size w wr) {k : Nat} (hk : k < l.length) :
    ∃ b o cap, v = .slice (some ⟨b, o, none⟩) l.length cap ∧ wr.cell? ⟨b, o + k, none⟩ = some (.int .i64 (l.getD k 0)) := by
  rcases h with ⟨rfl, _⟩ | ⟨b, o, cap, h1, h2, h3, _⟩
  · simp at hk
  · exact ⟨b, o, cap, h1, by rw [hb.cell (by show b < _; omega)]; exact h3 k hk⟩
section
variable {H : Type} {enc : TypeId × Value → H} {W : World}
theorem Tryz.cells3 : Tryz.prog.cellsOf 3 = 1 := by kernel_rfl
set_option maxRecDepth 100000 in
/-- An argument of type []int. -/
theorem open_nums {base : Nat} {v : Value} {d : DataW H} {p : List MemPlace} (hv : Value.okWide Tryz.prog W .any base 52 v) (h : DataW.Trod enc Tryz.prog W 0 (fun _ => true) true 52 v d p) :
    ∃ bs : List Int, SlI W.heap.size W v bs ∧ bs.length ≤ maxLen := by
  obtain ⟨a0, len, cap, rfl⟩ := okWide_slice Tryz.underlying52 hv
  obtain ⟨fuel, hf⟩ := h
  rcases open_slice1 Tryz.underlying52 Tryz.cells3 hf with ⟨hc, _⟩ | ⟨a, len', cap', m, n, V, D, Pl, hc, _, hl, hm, hmm, _, hall⟩
  · simp only [Value.cells] at hc
    simp at hc
    obtain ⟨rfl, rfl, rfl⟩ := hc
    exact ⟨[], Or.inl ⟨rfl, _, _, rfl⟩, by simp⟩
  · simp only [Value.cells] at hc
    simp at hc
    obtain ⟨rfl, rfl, rfl⟩ := hc
    by_cases h0 : len = 0
    · subst h0; exact ⟨[], Or.inl ⟨rfl, _, _, rfl⟩, by simp⟩
    simp only [if_true] at hmm
    subst hmm
    have hfl : ∀ i, i < len → ∃ c : Int, W.cell? (a.add i) = some (.int .i64 c) := fun i hi => by
      obtain ⟨h1, h2⟩ := hall i (by omega)
      obtain ⟨n', h3, _, h4⟩ := DataW.trod_int Tryz.underlying3 h2
      have e : V i = .int .i64 n' := by simpa using h3
      exact ⟨n', by rw [h1, e]⟩
    obtain ⟨F, hF⟩ := choose_lt hfl
    have hsp := spot_none (hF 0 (by omega))
    have hcell : ∀ i, i < len → W.cell? ⟨a.block, a.off + i, none⟩ = some (.int .i64 (F i)) := fun i hi => by
      have := hF i hi
      rwa [addr_add a hsp] at this
    have hblk : a.block < W.heap.size := World.block_lt_of_cell? W ⟨a.block, a.off + 0, none⟩ (hcell 0 (by omega))
    refine ⟨(List.range len).map F, Or.inr ⟨a.block, a.off, m, ?_, hblk, fun x hx => ?_, by simp; omega⟩, by simp; omega⟩
    · obtain ⟨b, o, sp⟩ := a
      simp only at hsp
      subst hsp
      simp
    · have hx' : x < len := by simpa using hx
      have hg : ((List.range len).map F).getD x 0 = F x := by simp [List.getD, hx']
      rw [hg]
      exact hcell x hx'
end
end Go.Proofs.YtidnmkghmaeniaaGreat
