import Derived.Test.YtilljaneegbhlaaGreatZBytes
import Derived.Deep.Slices
import Derived.Deep.Strs
import Derived.OpenShut
import Derived.Test.YtilljaneegbhlaaGreatZQS
namespace Go.Proofs.YtilljaneegbhlaaGreat
open Go.ChangeShapes Go.WideShapes Go.RowKit Go.Deep
theorem addr_add (a : Addr) (h : a.spot = none) (i : Nat) : a.add i = ⟨a.block, a.off + i, none⟩ := by
 obtain ⟨b, o, s⟩ := a
 simp only at h
 subst h
 unfold Addr.add
 split <;> simp_all
section
variable {H : Type} {enc : TypeId × Value → H} {W : World}
variable {v : Value}
theorem spot_none {a : Addr} (h : W.cell? (a.add 0) = some v) : a.spot = none := by
 have h2 := World.cell?_spot h
 unfold Addr.add at h2
 simpa using h2
theorem Tryz.cells5 : Tryz.prog.cellsOf 5 = 1 := by kernel_rfl
theorem u8_range {n : Int} (h : (Lit.int .u8 n).wf = true) : 0 ≤ n ∧ n ≤ 255 := by
 simp [Lit.wf, IntKind.min, IntKind.max, IntKind.signed, IntKind.bits] at h
 omega
set_option maxRecDepth 100000 in
theorem open_bytes {base : Nat} {d : DataW H} {p : List MemPlace} (hv : Value.okWide Tryz.prog W .any base 24 v) (h : DataW.Trod enc Tryz.prog W 0 (fun _ => true) true 24 v d p) :
  ∃ bs : List UInt8, SlB W.heap.size W v bs ∧ bs.length ≤ maxLen := by
 obtain ⟨a0, len, cap, rfl⟩ := okWide_slice Tryz.underlying24 hv
 obtain ⟨fuel, hf⟩ := h
 rcases open_slice1 Tryz.underlying24 Tryz.cells5 hf with ⟨hc, _⟩ | ⟨a, len', cap', m, n, V, D, Pl, hc, _, hl, hm, hmm, _, hall⟩
 ·simp only [Value.cells] at hc
  simp at hc
  obtain ⟨rfl, rfl, rfl⟩ := hc; exact ⟨[], Or.inl ⟨rfl, _, _, rfl⟩, by simp⟩
 ·simp only [Value.cells] at hc
  simp at hc
  obtain ⟨rfl, rfl, rfl⟩ := hc
  by_cases h0 : len = 0
  ·subst h0; exact ⟨[], Or.inl ⟨rfl, _, _, rfl⟩, by simp⟩
  simp only [if_true] at hmm; subst hmm
  have hfl : ∀ i, i < len → ∃ c : UInt8, W.cell? (a.add i) = some (.int .u8 c.toNat) := fun i hi => by
   obtain ⟨h1, h2⟩ := hall i (by omega); obtain ⟨n', h3, _, h4⟩ := DataW.trod_int Tryz.underlying5 h2; have hr := u8_range h4
   have e : V i = .int .u8 n' := by simpa using h3
   refine ⟨UInt8.ofNat n'.toNat, ?_⟩; rw [h1, e, UInt8.toNat_ofNat']
   have : ((n'.toNat % 2 ^ 8 : Nat) : Int) = n' := by omega
   rw [this]
  obtain ⟨F, hF⟩ := choose_lt hfl; have hsp := spot_none (hF 0 (by omega))
  have hcell : ∀ i, i < len → W.cell? ⟨a.block, a.off + i, none⟩ = some (.int .u8 (F i).toNat) := fun i hi => by
   have := hF i hi
   rwa [addr_add a hsp] at this
  have hblk : a.block < W.heap.size := World.block_lt_of_cell? W ⟨a.block, a.off + 0, none⟩ (hcell 0 (by omega)); refine ⟨(List.range len).map F, Or.inr ⟨a.block, a.off, m, ?_, hblk, fun x hx => ?_, by simp; omega, by simp; omega⟩, by simp; omega⟩
  ·obtain ⟨b, o, sp⟩ := a
   simp only at hsp; subst hsp
   simp
  ·have hx' : x < len := by simpa using hx
   have hg : ((List.range len).map F).getD x 0 = F x := by simp [List.getD, hx']
   rw [hg]; exact hcell x hx'
end
def SlI (B : Nat) (w : World) (v : Value) (l : List Int) : Prop :=
 (l = [] ∧ ∃ a cap, v = .slice a 0 cap) ∨ ∃ b o cap, v = .slice (some ⟨b, o, none⟩) l.length cap ∧ b < B ∧ (∀ x, x < l.length → w.cell? ⟨b, o + x, none⟩ = some (.int .i64 (l.getD x 0))) ∧ 0 < l.length
variable {B : Nat} {w : World} {v : Value} {l : List Int}
theorem SlI.len (h : SlI B w v l) : ∃ a cap, v = .slice a l.length cap := by
 rcases h with ⟨rfl, a, cap, h⟩ | ⟨b, o, cap, h1, _⟩
 ·exact ⟨a, cap, h⟩
 ·exact ⟨_, cap, h1⟩
theorem SlI.num {wr : World} (h : SlI B w v l) (hB : B ≤ w.heap.size) (hb : Below w.heap.size w wr) {k : Nat} (hk : k < l.length) :
  ∃ b o cap, v = .slice (some ⟨b, o, none⟩) l.length cap ∧ wr.cell? ⟨b, o + k, none⟩ = some (.int .i64 (l.getD k 0)) := by
 rcases h with ⟨rfl, _⟩ | ⟨b, o, cap, h1, h2, h3, _⟩
 ·simp at hk
 ·exact ⟨b, o, cap, h1, by rw [hb.cell (by show b < _; omega)]; exact h3 k hk⟩
section
variable {H : Type} {enc : TypeId × Value → H} {W : World}
theorem Tryz.cells3 : Tryz.prog.cellsOf 3 = 1 := by kernel_rfl
set_option maxRecDepth 100000 in
theorem open_nums {base : Nat} {v : Value} {d : DataW H} {p : List MemPlace} (hv : Value.okWide Tryz.prog W .any base 56 v) (h : DataW.Trod enc Tryz.prog W 0 (fun _ => true) true 56 v d p) :
  ∃ bs : List Int, SlI W.heap.size W v bs ∧ bs.length ≤ maxLen := by
 obtain ⟨a0, len, cap, rfl⟩ := okWide_slice Tryz.underlying56 hv
 obtain ⟨fuel, hf⟩ := h
 rcases open_slice1 Tryz.underlying56 Tryz.cells3 hf with ⟨hc, _⟩ | ⟨a, len', cap', m, n, V, D, Pl, hc, _, hl, hm, hmm, _, hall⟩
 ·simp only [Value.cells] at hc
  simp at hc
  obtain ⟨rfl, rfl, rfl⟩ := hc; exact ⟨[], Or.inl ⟨rfl, _, _, rfl⟩, by simp⟩
 ·simp only [Value.cells] at hc
  simp at hc
  obtain ⟨rfl, rfl, rfl⟩ := hc
  by_cases h0 : len = 0
  ·subst h0; exact ⟨[], Or.inl ⟨rfl, _, _, rfl⟩, by simp⟩
  simp only [if_true] at hmm; subst hmm
  have hfl : ∀ i, i < len → ∃ c : Int, W.cell? (a.add i) = some (.int .i64 c) := fun i hi => by
   obtain ⟨h1, h2⟩ := hall i (by omega); obtain ⟨n', h3, _, h4⟩ := DataW.trod_int Tryz.underlying3 h2
   have e : V i = .int .i64 n' := by simpa using h3
   exact ⟨n', by rw [h1, e]⟩
  obtain ⟨F, hF⟩ := choose_lt hfl; have hsp := spot_none (hF 0 (by omega))
  have hcell : ∀ i, i < len → W.cell? ⟨a.block, a.off + i, none⟩ = some (.int .i64 (F i)) := fun i hi => by
   have := hF i hi
   rwa [addr_add a hsp] at this
  have hblk : a.block < W.heap.size := World.block_lt_of_cell? W ⟨a.block, a.off + 0, none⟩ (hcell 0 (by omega)); refine ⟨(List.range len).map F, Or.inr ⟨a.block, a.off, m, ?_, hblk, fun x hx => ?_, by simp; omega⟩, by simp; omega⟩
  ·obtain ⟨b, o, sp⟩ := a
   simp only at hsp; subst hsp
   simp
  ·have hx' : x < len := by simpa using hx
   have hg : ((List.range len).map F).getD x 0 = F x := by simp [List.getD, hx']
   rw [hg]; exact hcell x hx'
end
end Go.Proofs.YtilljaneegbhlaaGreat
namespace Go.Proofs.YtilljaneegbhlaaGreat
variable {n : Int}
theorem word32_range (h : (Lit.int .u32 n).wf = true) : 0 ≤ n ∧ n < 4294967296 := by
 simp [Lit.wf, IntKind.min, IntKind.max, IntKind.signed, IntKind.bits] at h
 omega
theorem word64_range (h : (Lit.int .u64 n).wf = true) : 0 ≤ n ∧ n < 18446744073709551616 := by
 simp [Lit.wf, IntKind.min, IntKind.max, IntKind.signed, IntKind.bits] at h
 omega
end Go.Proofs.YtilljaneegbhlaaGreat
namespace Go.Proofs.YtilljaneegbhlaaGreat
open Go.ChangeShapes Go.WideShapes Go.RowKit Go.Deep
section
variable {H : Type} {enc : TypeId × Value → H} {W : World}
theorem Tryz.cells82 : Tryz.prog.cellsOf 82 = 1 := by kernel_rfl
set_option maxRecDepth 100000 in
theorem open_u64s {base : Nat} {v : Value} {d : DataW H} {p : List MemPlace} (hv : Value.okWide Tryz.prog W .any base 55 v) (h : DataW.Trod enc Tryz.prog W 0 (fun _ => true) true 55 v d p) :
  ∃ bs : List Nat, SlU W.heap.size W v bs ∧ ∀ x, x < bs.length → bs.getD x 0 < 18446744073709551616 := by
 obtain ⟨a0, len, cap, rfl⟩ := okWide_slice Tryz.underlying55 hv
 obtain ⟨fuel, hf⟩ := h
 rcases open_slice1 Tryz.underlying55 Tryz.cells82 hf with ⟨hc, _⟩ | ⟨a, len', cap', m, n, V, D, Pl, hc, _, hl, hm, hmm, _, hall⟩
 ·simp only [Value.cells] at hc
  simp at hc
  obtain ⟨rfl, rfl, rfl⟩ := hc; exact ⟨[], Or.inl ⟨rfl, _, _, rfl⟩, fun x hx => absurd hx (by simp)⟩
 ·simp only [Value.cells] at hc
  simp at hc
  obtain ⟨rfl, rfl, rfl⟩ := hc
  by_cases h0 : len = 0
  ·subst h0; exact ⟨[], Or.inl ⟨rfl, _, _, rfl⟩, fun x hx => absurd hx (by simp)⟩
  simp only [if_true] at hmm; subst hmm
  have hfl : ∀ i, i < len → ∃ c : Nat, W.cell? (a.add i) = some (.int .u64 (c : Int)) ∧ c < 18446744073709551616 := fun i hi => by
   obtain ⟨h1, h2⟩ := hall i (by omega); obtain ⟨n', h3, h4, hw⟩ := DataW.trod_int Tryz.underlying82 h2
   have e : V i = .int .u64 n' := by simpa using h3
   have hr := word64_range hw; obtain ⟨c, rfl⟩ := Int.eq_ofNat_of_zero_le hr.1; exact ⟨c, by rw [h1, e], by omega⟩
  obtain ⟨F, hF⟩ := choose_lt hfl; have hsp := spot_none (hF 0 (by omega)).1
  have hcell : ∀ i, i < len → W.cell? ⟨a.block, a.off + i, none⟩ = some (.int .u64 ((F i : Nat) : Int)) := fun i hi => by
   have := (hF i hi).1
   rwa [addr_add a hsp] at this
  have hblk : a.block < W.heap.size := World.block_lt_of_cell? W ⟨a.block, a.off + 0, none⟩ (hcell 0 (by omega)); refine ⟨(List.range len).map F, Or.inr ⟨a.block, a.off, m, ?_, hblk, by simp; omega, fun x hx => ?_⟩, fun x hx => ?_⟩
  ·obtain ⟨b, o, sp⟩ := a
   simp only at hsp; subst hsp
   simp
  ·have hx' : x < len := by simpa using hx
   have hg : ((List.range len).map F).getD x 0 = F x := by simp [List.getD, hx']
   rw [hg]; exact hcell x hx'
  ·have hx' : x < len := by simpa using hx
   have hg : ((List.range len).map F).getD x 0 = F x := by simp [List.getD, hx']
   rw [hg]; exact (hF x hx').2
end
end Go.Proofs.YtilljaneegbhlaaGreat
