/-
  Arguments, opened: slices of fields, of values, of bytes.
-/
import Derived.Test.YtoflfbcjlddjaaaDoorGLit
import Derived.Test.YtoflfbcjlddjaaaDoorOpenB
import Derived.Deep.Slices
import Derived.Deep.Strs
import Derived.OpenShut
namespace Go.Proofs.YtoflfbcjlddjaaaDoor
open Go.ChangeShapes Go.WideShapes Go.RowKit Go.Deep

theorem Tryd.cells46 : Tryd.prog.cellsOf 46 = 5 := by kernel_rfl
theorem Tryd.cells51 : Tryd.prog.cellsOf 51 = 3 := by kernel_rfl
theorem Tryd.cells3 : Tryd.prog.cellsOf 3 = 1 := by kernel_rfl
theorem Tryd.cells9 : Tryd.prog.cellsOf 9 = 1 := by kernel_rfl
theorem Tryd.cells49 : Tryd.prog.cellsOf 49 = 1 := by kernel_rfl
theorem i64_le {n : Int} (h : (Lit.int .i64 n).wf = true) : n ≤ 9223372036854775807 := by
  simp [Lit.wf, IntKind.min, IntKind.max, IntKind.signed, IntKind.bits] at h
  omega

section
variable {H : Type} {enc : TypeId × Value → H} {W : World} {base : Nat} {spare : Nat → Bool} {held : Bool} {fuel : Nat}
set_option maxRecDepth 100000 in
theorem field_of {cs : List Value} {x : DataW H × List MemPlace} (h : DataW.trod enc Tryd.prog W base spare held fuel 46 cs = some x) : ∃ f : Fl, cs = cellsF f ∧ f.hi ≤ 9223372036854775807 := by
  obtain ⟨xs, n, _, _, hl, hlen, hf⟩ := DataW.trod_struct Tryd.underlying46 h
  rw [Tryd.cells46] at hl
  match cs, hl with
  | [c0, c1, c2, c3, c4], _ =>
    have hx : ∀ i, i < 5 → ∃ y, xs[i]? = some y := fun i hi => ⟨xs[i]'(by rw [hlen]; exact hi), List.getElem?_eq_getElem _⟩
    have key : ∀ (c : Value) (i : Nat), i < 5 → DataW.trod enc Tryd.prog W base spare held n 3 [c] = xs[i]? → ∃ m : Int, c = .int .i64 m ∧ m ≤ 9223372036854775807 := fun c i hi hc => by
      obtain ⟨y, hy⟩ := hx i hi
      rw [hy] at hc
      obtain ⟨m, h1, _, h2⟩ := DataW.trod_int Tryd.underlying3 hc
      exact ⟨m, by simpa using h1, i64_le h2⟩
    obtain ⟨m0, rfl, _⟩ := key c0 0 (by omega) (by simpa [Tryd.cells3] using hf 0 _ rfl)
    obtain ⟨m1, rfl, _⟩ := key c1 1 (by omega) (by simpa [Tryd.cells3] using hf 1 _ rfl)
    obtain ⟨m2, rfl, _⟩ := key c2 2 (by omega) (by simpa [Tryd.cells3] using hf 2 _ rfl)
    obtain ⟨m3, rfl, e3⟩ := key c3 3 (by omega) (by simpa [Tryd.cells3] using hf 3 _ rfl)
    obtain ⟨m4, rfl, _⟩ := key c4 4 (by omega) (by simpa [Tryd.cells3] using hf 4 _ rfl)
    exact ⟨⟨m0, m1, m2, m3, m4⟩, rfl, e3⟩
end
section
variable {H : Type} {enc : TypeId × Value → H} {W : World}
set_option maxRecDepth 100000 in
/-- An argument of type []api.Field. -/
theorem open_fields {base : Nat} {v : Value} {d : DataW H} {p : List MemPlace} (hv : Value.okWide Tryd.prog W .any base 22 v) (h : DataW.Trod enc Tryd.prog W 0 (fun _ => true) true 22 v d p) :
    ∃ fs : List Fl, SlF W.heap.size W v fs ∧ fs.length ≤ maxLen ∧ ∀ f ∈ fs, f.hi ≤ 9223372036854775807 := by
  obtain ⟨a0, len, cap, rfl⟩ := okWide_slice Tryd.underlying22 hv
  obtain ⟨fuel, hf⟩ := h
  rcases open_slice Tryd.underlying22 hf with ⟨hc, _⟩ | ⟨a, len', cap', m, n, D, Pl, hc, _, hl, hm, hmm, _, hall⟩
  · simp only [Value.cells] at hc
    simp at hc
    obtain ⟨rfl, rfl, rfl⟩ := hc
    exact ⟨[], Or.inl ⟨rfl, _, _, rfl⟩, by simp, fun f hf => by cases hf⟩
  · simp only [Value.cells] at hc
    simp at hc
    obtain ⟨rfl, rfl, rfl⟩ := hc
    by_cases h0 : len = 0
    · subst h0; exact ⟨[], Or.inl ⟨rfl, _, _, rfl⟩, by simp, fun f hf => by cases hf⟩
    simp only [if_true] at hmm
    subst hmm
    rw [Tryd.cells46] at hall
    have hfl : ∀ i, i < len → ∃ f : Fl, f.hi ≤ 9223372036854775807 ∧ ∀ j u, (cellsF f)[j]? = some u → W.cell? ((a.add (i * 5)).add j) = some u := fun i hi => by
      obtain ⟨cs, h1, h2⟩ := hall i (by omega)
      obtain ⟨f, rfl, hfh⟩ := field_of h2
      obtain ⟨_, _, h3⟩ := World.cells?_some h1
      exact ⟨f, hfh, fun j u hu => by rw [h3 j (by have := (List.getElem?_eq_some_iff.1 hu).1; simpa [cellsF] using this)]; exact hu⟩
    obtain ⟨F, hF⟩ := choose_lt hfl
    have hsp : a.spot = none := by
      have h1 := (hF 0 (by omega)).2 0 _ rfl
      have h2 := World.cell?_spot h1
      rw [Nat.zero_mul] at h2
      unfold Addr.add at h2
      simpa using h2
    have hcell : ∀ i, i < len → ∀ j u, (cellsF (F i))[j]? = some u → W.cell? ⟨a.block, a.off + i * 5 + j, none⟩ = some u := fun i hi j u hu => by
      have := (hF i hi).2 j u hu
      rw [addr_add a hsp, addr_add _ rfl] at this
      exact this
    have hblk : a.block < W.heap.size := World.block_lt_of_cell? W ⟨a.block, a.off + 0 * 5 + 0, none⟩ (hcell 0 (by omega) 0 _ rfl)
    refine ⟨(List.range len).map F, Or.inr ⟨a.block, a.off, m, ?_, hblk, fun x hx => ?_, by simp; omega, by simp; omega⟩, by simp; omega, fun f hf => ?_⟩
    · obtain ⟨b, o, sp⟩ := a
      simp only at hsp
      subst hsp
      simp
    · have hx' : x < len := by simpa using hx
      have hg : ((List.range len).map F).getD x f0 = F x := by simp [List.getD, hx']
      rw [hg]
      have key := hcell x hx'
      exact ⟨key 0 _ rfl, key 1 _ rfl, key 2 _ rfl, key 3 _ rfl, key 4 _ rfl⟩
    · obtain ⟨i, hi, rfl⟩ := List.mem_map.1 hf
      exact (hF i (by simpa using hi)).1
/-- Texts behind a slice's cell. -/
theorem texts_of {fuel : Nat} {c : Value} {x : DataW H × List MemPlace} (h : DataW.trod enc Tryd.prog W 0 (fun _ => true) true fuel 49 [c] = some x) :
    ∃ l : List ByteArray, SlT W.heap.size W c l ∧ l.length ≤ maxLen ∧ ∀ s ∈ l, s.size ≤ maxLen := by
  rcases open_strs Tryd.underlying49 Tryd.underlying9 Tryd.cells9 h with ⟨hc, _⟩ | ⟨a, len, cap, m, Sx, hc, _, hl, hm, hmm, _, hall⟩
  · simp at hc
    subst hc
    exact ⟨[], Or.inl ⟨rfl, _, _, rfl⟩, by simp, fun s hs => by cases hs⟩
  · simp at hc
    subst hc
    by_cases h0 : len = 0
    · subst h0; exact ⟨[], Or.inl ⟨rfl, _, _, rfl⟩, by simp, fun s hs => by cases hs⟩
    simp only [if_true] at hmm
    subst hmm
    have hsp := spot_none (hall 0 (by omega)).1
    have hcell : ∀ i, i < len → W.cell? ⟨a.block, a.off + i, none⟩ = some (.string (Sx i)) := fun i hi => by
      have := (hall i (by omega)).1
      rwa [addr_add a hsp] at this
    have hblk : a.block < W.heap.size := World.block_lt_of_cell? W ⟨a.block, a.off + 0, none⟩ (hcell 0 (by omega))
    refine ⟨(List.range len).map Sx, Or.inr ⟨a.block, a.off, m, ?_, hblk, fun x hx => ?_, by simp; omega⟩, by simp; omega, fun s hs => ?_⟩
    · obtain ⟨b, o, sp⟩ := a
      simp only at hsp
      subst hsp
      simp
    · have hx' : x < len := by simpa using hx
      have hg : ((List.range len).map Sx).getD x ByteArray.empty = Sx x := by simp [List.getD, hx']
      rw [hg]
      exact hcell x hx'
    · obtain ⟨i, hi, rfl⟩ := List.mem_map.1 hs
      exact (hall i (by have := List.mem_range.1 hi; omega)).2
set_option maxRecDepth 100000 in
theorem val_of {fuel : Nat} {cs : List Value} {x : DataW H × List MemPlace} (h : DataW.trod enc Tryd.prog W 0 (fun _ => true) true fuel 51 cs = some x) :
    ∃ (p : Vl × Value), cs = cellsP p ∧ SlT W.heap.size W p.2 p.1.l ∧ p.1.s.size ≤ maxLen ∧ p.1.l.length ≤ maxLen ∧ ∀ s ∈ p.1.l, s.size ≤ maxLen := by
  obtain ⟨xs, n, _, _, hl, hlen, hf⟩ := DataW.trod_struct Tryd.underlying51 h
  rw [Tryd.cells51] at hl
  match cs, hl with
  | [c0, c1, c2], _ =>
    have hx : ∀ i, i < 3 → ∃ y, xs[i]? = some y := fun i hi => ⟨xs[i]'(by rw [hlen]; exact hi), List.getElem?_eq_getElem _⟩
    obtain ⟨y0, e0⟩ := hx 0 (by omega)
    obtain ⟨y1, e1⟩ := hx 1 (by omega)
    obtain ⟨y2, e2⟩ := hx 2 (by omega)
    have g0 : DataW.trod enc Tryd.prog W 0 (fun _ => true) true n 3 [c0] = some y0 := by rw [← e0]; simpa [Tryd.cells3] using hf 0 _ rfl
    have g1 : DataW.trod enc Tryd.prog W 0 (fun _ => true) true n 9 [c1] = some y1 := by rw [← e1]; simpa [Tryd.cells9] using hf 1 _ rfl
    have g2 : DataW.trod enc Tryd.prog W 0 (fun _ => true) true n 49 [c2] = some y2 := by rw [← e2]; simpa [Tryd.cells49] using hf 2 _ rfl
    obtain ⟨m, h1, _⟩ := DataW.trod_int Tryd.underlying3 g0
    obtain ⟨s, h2, _, h3⟩ := DataW.trod_string Tryd.underlying9 g1
    obtain ⟨l, h4, h5, h6⟩ := texts_of g2
    obtain rfl : c0 = .int .i64 m := by simpa using h1
    obtain rfl : c1 = .string s := by simpa using h2
    exact ⟨(⟨m, s, l⟩, c2), rfl, h4, h3, h5, h6⟩
instance : Inhabited (Vl × Value) := ⟨(v0, .nilIface)⟩
set_option maxRecDepth 100000 in
/-- An argument of type []api.Value. -/
theorem open_vals {base : Nat} {v : Value} {d : DataW H} {p : List MemPlace} (hv : Value.okWide Tryd.prog W .any base 23 v) (h : DataW.Trod enc Tryd.prog W 0 (fun _ => true) true 23 v d p) :
    ∃ xs : List Vl, SlV W.heap.size W v xs ∧ xs.length ≤ maxLen ∧ ∀ x ∈ xs, x.s.size ≤ maxLen ∧ x.l.length ≤ maxLen ∧ ∀ s ∈ x.l, s.size ≤ maxLen := by
  obtain ⟨a0, len, cap, rfl⟩ := okWide_slice Tryd.underlying23 hv
  obtain ⟨fuel, hf⟩ := h
  rcases open_slice Tryd.underlying23 hf with ⟨hc, _⟩ | ⟨a, len', cap', m, n, D, Pl, hc, _, hl, hm, hmm, _, hall⟩
  · simp only [Value.cells] at hc
    simp at hc
    obtain ⟨rfl, rfl, rfl⟩ := hc
    exact ⟨[], Or.inl ⟨rfl, _, _, rfl⟩, by simp, fun f hf => by cases hf⟩
  · simp only [Value.cells] at hc
    simp at hc
    obtain ⟨rfl, rfl, rfl⟩ := hc
    by_cases h0 : len = 0
    · subst h0; exact ⟨[], Or.inl ⟨rfl, _, _, rfl⟩, by simp, fun f hf => by cases hf⟩
    simp only [if_true] at hmm
    subst hmm
    rw [Tryd.cells51] at hall
    have hfl : ∀ i, i < len → ∃ q : Vl × Value, (SlT W.heap.size W q.2 q.1.l ∧ q.1.s.size ≤ maxLen ∧ q.1.l.length ≤ maxLen ∧ ∀ s ∈ q.1.l, s.size ≤ maxLen) ∧ ∀ j u, (cellsP q)[j]? = some u → W.cell? ((a.add (i * 3)).add j) = some u := fun i hi => by
      obtain ⟨cs, h1, h2⟩ := hall i (by omega)
      obtain ⟨q, rfl, hq⟩ := val_of h2
      obtain ⟨_, _, h3⟩ := World.cells?_some h1
      exact ⟨q, hq, fun j u hu => by rw [h3 j (by have := (List.getElem?_eq_some_iff.1 hu).1; simpa [cellsP] using this)]; exact hu⟩
    obtain ⟨F, hF⟩ := choose_lt hfl
    have hsp : a.spot = none := by
      have h1 := (hF 0 (by omega)).2 0 _ rfl
      have h2 := World.cell?_spot h1
      rw [Nat.zero_mul] at h2
      unfold Addr.add at h2
      simpa using h2
    have hcell : ∀ i, i < len → ∀ j u, (cellsP (F i))[j]? = some u → W.cell? ⟨a.block, a.off + i * 3 + j, none⟩ = some u := fun i hi j u hu => by
      have := (hF i hi).2 j u hu
      rw [addr_add a hsp, addr_add _ rfl] at this
      exact this
    have hblk : a.block < W.heap.size := World.block_lt_of_cell? W ⟨a.block, a.off + 0 * 3 + 0, none⟩ (hcell 0 (by omega) 0 _ rfl)
    refine ⟨(List.range len).map fun i => (F i).1, Or.inr ⟨a.block, a.off, m, ?_, hblk, fun x hx => ?_, by simp; omega⟩, by simp; omega, fun f hf => ?_⟩
    · obtain ⟨b, o, sp⟩ := a
      simp only at hsp
      subst hsp
      simp
    · have hx' : x < len := by simpa using hx
      have hg : ((List.range len).map fun i => (F i).1).getD x v0 = (F x).1 := by simp [List.getD, hx']
      rw [hg]
      have key := hcell x hx'
      exact ⟨key 0 _ rfl, key 1 _ rfl, (F x).2, key 2 _ rfl, (hF x hx').1.1⟩
    · obtain ⟨i, hi, rfl⟩ := List.mem_map.1 hf
      exact (hF i (by simpa using hi)).1.2
end
end Go.Proofs.YtoflfbcjlddjaaaDoor
