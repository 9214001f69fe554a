/-
  Arguments of type []byte, opened.
-/
import Derived.Test.YtidnmkghmaeniaaGreatDoorBytes
import Derived.Deep.Slices
import Derived.Deep.Strs
import Derived.OpenShut
namespace Go.Proofs.YtidnmkghmaeniaaGreatDoor
open Go.ChangeShapes Go.WideShapes Go.RowKit Go.Deep

theorem addr_add (a : Addr) (h : a.spot = none) (i : Nat) : a.add i = ⟨a.block, a.off + i, none⟩ := by
  obtain ⟨b, o, s⟩ := a
  simp only at h
  subst h
  unfold Addr.add
  split <;> simp_all
section
variable {H : Type} {enc : TypeId × Value → H} {W : World}
theorem spot_none {a : Addr} {v : Value} (h : W.cell? (a.add 0) = some v) : a.spot = none := by
  have h2 := World.cell?_spot h
  unfold Addr.add at h2
  simpa using h2
theorem Tryz.cells5 : Tryz.prog.cellsOf 5 = 1 := by kernel_rfl
theorem u8_range {n : Int} (h : (Lit.int .u8 n).wf = true) : 0 ≤ n ∧ n ≤ 255 := by
  simp [Lit.wf, IntKind.min, IntKind.max, IntKind.signed, IntKind.bits] at h
  omega
set_option maxRecDepth 100000 in
/-- An argument of type []byte. -/
theorem open_bytes {base : Nat} {v : Value} {d : DataW H} {p : List MemPlace} (hv : Value.okWide Tryz.prog W .any base 106 v) (h : DataW.Trod enc Tryz.prog W 0 (fun _ => true) true 106 v d p) :
    ∃ bs : List UInt8, SlB W.heap.size W v bs ∧ bs.length ≤ maxLen := by
  obtain ⟨a0, len, cap, rfl⟩ := okWide_slice Tryz.underlying106 hv
  obtain ⟨fuel, hf⟩ := h
  rcases open_slice1 Tryz.underlying106 Tryz.cells5 hf with ⟨hc, _⟩ | ⟨a, len', cap', m, n, V, D, Pl, hc, _, hl, hm, hmm, _, hall⟩
  · simp only [Value.cells] at hc
    simp at hc
    obtain ⟨rfl, rfl, rfl⟩ := hc
    exact ⟨[], Or.inl ⟨rfl, _, _, rfl⟩, by simp⟩
  · simp only [Value.cells] at hc
    simp at hc
    obtain ⟨rfl, rfl, rfl⟩ := hc
    by_cases h0 : len = 0
    · subst h0; exact ⟨[], Or.inl ⟨rfl, _, _, rfl⟩, by simp⟩
    simp only [if_true] at hmm
    subst hmm
    have hfl : ∀ i, i < len → ∃ c : UInt8, W.cell? (a.add i) = some (.int .u8 c.toNat) := fun i hi => by
      obtain ⟨h1, h2⟩ := hall i (by omega)
      obtain ⟨n', h3, _, h4⟩ := DataW.trod_int Tryz.underlying5 h2
      have hr := u8_range h4
      have e : V i = .int .u8 n' := by simpa using h3
      refine ⟨UInt8.ofNat n'.toNat, ?_⟩
      rw [h1, e, UInt8.toNat_ofNat']
      have : ((n'.toNat % 2 ^ 8 : Nat) : Int) = n' := by omega
      rw [this]
    obtain ⟨F, hF⟩ := choose_lt hfl
    have hsp := spot_none (hF 0 (by omega))
    have hcell : ∀ i, i < len → W.cell? ⟨a.block, a.off + i, none⟩ = some (.int .u8 (F i).toNat) := fun i hi => by
      have := hF i hi
      rwa [addr_add a hsp] at this
    have hblk : a.block < W.heap.size := World.block_lt_of_cell? W ⟨a.block, a.off + 0, none⟩ (hcell 0 (by omega))
    refine ⟨(List.range len).map F, Or.inr ⟨a.block, a.off, m, ?_, hblk, fun x hx => ?_, by simp; omega, by simp; omega⟩, by simp; omega⟩
    · obtain ⟨b, o, sp⟩ := a
      simp only at hsp
      subst hsp
      simp
    · have hx' : x < len := by simpa using hx
      have hg : ((List.range len).map F).getD x 0 = F x := by simp [List.getD, hx']
      rw [hg]
      exact hcell x hx'
end
end Go.Proofs.YtidnmkghmaeniaaGreatDoor
