/-
  Arguments of type []uint64, opened.
-/
import Derived.Test.YtidnmkghmaeniaaGreatDoorOpenB
import Derived.Test.YtidnmkghmaeniaaGreatDoorQS
import Derived.Test.YtidnmkghmaeniaaGreatDoorDWord
namespace Go.Proofs.YtidnmkghmaeniaaGreatDoor
open Go.ChangeShapes Go.WideShapes Go.RowKit Go.Deep
section
variable {H : Type} {enc : TypeId × Value → H} {W : World}
theorem Tryz.cells137 : Tryz.prog.cellsOf 137 = 1 := by kernel_rfl
set_option maxRecDepth 100000 in
/-- An argument of type []uint64. -/
theorem open_u64s {base : Nat} {v : Value} {d : DataW H} {p : List MemPlace} (hv : Value.okWide Tryz.prog W .any base 29 v) (h : DataW.Trod enc Tryz.prog W 0 (fun _ => true) true 29 v d p) :
    ∃ bs : List Nat, SlU W.heap.size W v bs ∧ ∀ x, x < bs.length → bs.getD x 0 < 18446744073709551616 := by
  obtain ⟨a0, len, cap, rfl⟩ := okWide_slice Tryz.underlying29 hv
  obtain ⟨fuel, hf⟩ := h
  rcases open_slice1 Tryz.underlying29 Tryz.cells137 hf with ⟨hc, _⟩ | ⟨a, len', cap', m, n, V, D, Pl, hc, _, hl, hm, hmm, _, hall⟩
  · simp only [Value.cells] at hc
    simp at hc
    obtain ⟨rfl, rfl, rfl⟩ := hc
    exact ⟨[], Or.inl ⟨rfl, _, _, rfl⟩, fun x hx => absurd hx (by simp)⟩
  · simp only [Value.cells] at hc
    simp at hc
    obtain ⟨rfl, rfl, rfl⟩ := hc
    by_cases h0 : len = 0
    · subst h0; exact ⟨[], Or.inl ⟨rfl, _, _, rfl⟩, fun x hx => absurd hx (by simp)⟩
    simp only [if_true] at hmm
    subst hmm
    have hfl : ∀ i, i < len → ∃ c : Nat, W.cell? (a.add i) = some (.int .u64 (c : Int)) ∧ c < 18446744073709551616 := fun i hi => by
      obtain ⟨h1, h2⟩ := hall i (by omega)
      obtain ⟨n', h3, h4, hw⟩ := DataW.trod_int Tryz.underlying137 h2
      have e : V i = .int .u64 n' := by simpa using h3
      have hr := word64_range hw
      obtain ⟨c, rfl⟩ := Int.eq_ofNat_of_zero_le hr.1
      exact ⟨c, by rw [h1, e], by omega⟩
    obtain ⟨F, hF⟩ := choose_lt hfl
    have hsp := spot_none (hF 0 (by omega)).1
    have hcell : ∀ i, i < len → W.cell? ⟨a.block, a.off + i, none⟩ = some (.int .u64 ((F i : Nat) : Int)) := fun i hi => by
      have := (hF i hi).1
      rwa [addr_add a hsp] at this
    have hblk : a.block < W.heap.size := World.block_lt_of_cell? W ⟨a.block, a.off + 0, none⟩ (hcell 0 (by omega))
    refine ⟨(List.range len).map F, Or.inr ⟨a.block, a.off, m, ?_, hblk, by simp; omega, fun x hx => ?_⟩, fun x hx => ?_⟩
    · obtain ⟨b, o, sp⟩ := a
      simp only at hsp
      subst hsp
      simp
    · have hx' : x < len := by simpa using hx
      have hg : ((List.range len).map F).getD x 0 = F x := by simp [List.getD, hx']
      rw [hg]
      exact hcell x hx'
    · have hx' : x < len := by simpa using hx
      have hg : ((List.range len).map F).getD x 0 = F x := by simp [List.getD, hx']
      rw [hg]
      exact (hF x hx').2
end
end Go.Proofs.YtidnmkghmaeniaaGreatDoor
