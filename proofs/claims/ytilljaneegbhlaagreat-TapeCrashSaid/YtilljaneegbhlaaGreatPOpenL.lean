/-
  Arguments of type [][]byte, opened.
-/
import Derived.Test.YtilljaneegbhlaaGreatZOpenV
import Derived.Test.YtilljaneegbhlaaGreatPA
import Derived.Deep.Matrix
namespace Go.Proofs.YtilljaneegbhlaaGreat
open Go.ChangeShapes Go.WideShapes Go.RowKit Go.Deep
section
variable {H : Type} {enc : TypeId × Value → H} {W : World}
theorem Tryz.cells24 : Tryz.prog.cellsOf 24 = 1 := by kernel_rfl
def rowF (zs : List Int) (n : Nat) : List UInt8 := (zs.take n).map fun z => UInt8.ofNat z.toNat
theorem rowF_length {zs : List Int} {n : Nat} (h : n ≤ zs.length) : (rowF zs n).length = n := by simp [rowF]; omega
theorem rowF_getD {zs : List Int} {n x : Nat} (h : n ≤ zs.length) (hx : x < n) (hw : ∀ z ∈ zs, (Lit.int .u8 z).wf = true) : (((rowF zs n).getD x 0).toNat : Int) = zs.getD x 0 := by
  have h1 : x < zs.length := by omega
  have hr := u8_range (hw zs[x] (List.getElem_mem h1))
  have e : (rowF zs n).getD x 0 = UInt8.ofNat (zs[x]).toNat := by simp [rowF, List.getD, h1, hx]
  rw [e, UInt8.toNat_ofNat']
  simp [List.getD, h1]
  omega
theorem slb_rowF {A : Option Addr} {L C : Nat} {Z : List Int} (hL : L ≤ C) (hz : Z.length = C) (hw : ∀ n ∈ Z, (Lit.int .u8 n).wf = true) (hn : A = none → C = 0)
    (hc : ∀ a', A = some a' → ∀ c, c < C → W.cell? (a'.add c) = some (.int .u8 (Z.getD c 0))) : SlB W.heap.size W (.slice A L C) (rowF Z L) := by
  have hl := rowF_length (zs := Z) (n := L) (by omega)
  by_cases h0 : L = 0
  · subst h0; exact Or.inl ⟨by simp [rowF], _, _, rfl⟩
  cases A with
  | none => have := hn rfl; omega
  | some a =>
    have hsp := spot_none (hc a rfl 0 (by omega))
    have hcell : ∀ i, i < C → W.cell? ⟨a.block, a.off + i, none⟩ = some (.int .u8 (Z.getD i 0)) := fun i hi => by
      have := hc a rfl i hi
      rwa [addr_add a hsp] at this
    refine Or.inr ⟨a.block, a.off, C, ?_, World.block_lt_of_cell? W ⟨a.block, a.off + 0, none⟩ (hcell 0 (by omega)), fun x hx => ?_, by omega, by omega⟩
    · obtain ⟨b, o, sp⟩ := a
      simp only at hsp
      subst hsp
      rw [hl]
    · rw [hl] at hx
      rw [rowF_getD (by omega) hx hw]
      exact hcell x (by omega)
set_option maxRecDepth 100000 in
/-- An argument of type [][]byte. -/
theorem open_lists {base : Nat} {v : Value} {d : DataW H} {p : List MemPlace} (hv : Value.okWide Tryz.prog W .any base 25 v) (h : DataW.Trod enc Tryz.prog W 0 (fun _ => true) true 25 v d p) :
    ∃ ls : List (List UInt8), SlBs W.heap.size W v ls ∧ ls.length ≤ maxLen ∧ ∀ l ∈ ls, l.length ≤ maxLen := by
  obtain ⟨a0, len, cap, rfl⟩ := okWide_slice Tryz.underlying25 hv
  obtain ⟨fuel, hf⟩ := h
  rcases open_int_rows Tryz.underlying25 Tryz.underlying24 Tryz.underlying5 Tryz.cells24 Tryz.cells5 hf with ⟨hc, _⟩ | ⟨a, len', cap', A, L, C, Z, hc, _, hl, hm, _, hall⟩
  · simp only [Value.cells] at hc
    simp at hc
    obtain ⟨rfl, rfl, rfl⟩ := hc
    exact ⟨[], Or.inl ⟨rfl, _, _, rfl⟩, by simp, by simp⟩
  · simp only [Value.cells] at hc
    simp at hc
    obtain ⟨rfl, rfl, rfl⟩ := hc
    by_cases h0 : len = 0
    · subst h0; exact ⟨[], Or.inl ⟨rfl, _, _, rfl⟩, by simp, by simp⟩
    have hsp := spot_none (hall 0 (by omega)).1
    have hcell : ∀ i, i < len → W.cell? ⟨a.block, a.off + i, none⟩ = some (.slice (A i) (L i) (C i)) := fun i hi => by
      have := (hall i (by omega)).1
      rwa [addr_add a hsp] at this
    refine ⟨(List.range len).map fun i => rowF (Z i) (L i), Or.inr ⟨a.block, a.off, cap, ?_, World.block_lt_of_cell? W ⟨a.block, a.off + 0, none⟩ (hcell 0 (by omega)), fun x hx => ?_, by simp; omega, by simp; omega⟩, by simp; omega, fun l hl' => ?_⟩
    · obtain ⟨b, o, sp⟩ := a
      simp only at hsp
      subst hsp
      simp
    · have hx' : x < len := by simpa using hx
      obtain ⟨_, h2, h3, h4, h5, h6, h7⟩ := hall x (by omega)
      refine ⟨_, hcell x hx', ?_⟩
      rw [show (List.map (fun i => rowF (Z i) (L i)) (List.range len)).getD x [] = rowF (Z x) (L x) by simp [List.getD, hx']]
      exact slb_rowF h2 h4 h5 h6 fun a' ha' => (h7 a' ha').2
    · obtain ⟨i, hi, rfl⟩ := List.mem_map.1 hl'
      have hi' := List.mem_range.1 hi
      obtain ⟨_, h2, h3, h4, _⟩ := hall i (by omega)
      rw [rowF_length (by omega)]; omega
end
end Go.Proofs.YtilljaneegbhlaaGreat
