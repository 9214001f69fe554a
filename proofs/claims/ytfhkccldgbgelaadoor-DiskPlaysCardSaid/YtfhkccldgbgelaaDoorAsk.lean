/-
  Slices of calls (stavelaw6.Ask): read, and opened where they are arguments.
-/
import Derived.Test.YtfhkccldgbgelaaDoorOpenB
import Derived.Test.YtfhkccldgbgelaaDoorDWord
import Derived.Deep.Slices
import Derived.Deep.Strs
import Derived.OpenShut
namespace Go.Proofs.YtfhkccldgbgelaaDoor
open Go.ChangeShapes Go.WideShapes Go.RowKit Go.Deep
structure Ak where
  kind : Int
  i : Int
  at_ : Int
  x : Nat
  bits : Nat
  short : Bool
structure Ak.Ok (q : Ak) : Prop where
  x : q.x < 256
  bits : q.bits < 18446744073709551616
  at_ : -9223372036854775808 ≤ q.at_ ∧ q.at_ ≤ 9223372036854775807
def a0 : Ak := ⟨0, 0, 0, 0, 0, false⟩
def cellsA (q : Ak) : List Value := [.int .i64 q.kind, .int .i64 q.i, .int .i64 q.at_, .int .u8 (q.x : Int), .int .u64 (q.bits : Int), .bool q.short]
instance : Inhabited Ak := ⟨a0⟩
structure AkAt (w : World) (b o : Nat) (q : Ak) : Prop where
  kind : w.cell? ⟨b, o, none⟩ = some (.int .i64 q.kind)
  i : w.cell? ⟨b, o + 1, none⟩ = some (.int .i64 q.i)
  at_ : w.cell? ⟨b, o + 2, none⟩ = some (.int .i64 q.at_)
  x : w.cell? ⟨b, o + 3, none⟩ = some (.int .u8 (q.x : Int))
  bits : w.cell? ⟨b, o + 4, none⟩ = some (.int .u64 (q.bits : Int))
  short : w.cell? ⟨b, o + 5, none⟩ = some (.bool q.short)
theorem AkAt.keep {w w' : World} {b o : Nat} {q : Ak} (h : AkAt w b o q) (hb : w'.heap[b]? = w.heap[b]?) : AkAt w' b o q := by
  have e : ∀ i, w'.cell? ⟨b, i, none⟩ = w.cell? ⟨b, i, none⟩ := fun i => World.cell?_of_block (a := ⟨b, i, none⟩) hb
  exact ⟨by rw [e]; exact h.kind, by rw [e]; exact h.i, by rw [e]; exact h.at_, by rw [e]; exact h.x, by rw [e]; exact h.bits, by rw [e]; exact h.short⟩
theorem AkAt.lt {w : World} {b o : Nat} {q : Ak} (h : AkAt w b o q) : b < w.heap.size := World.block_lt_of_cell? w _ h.kind
/-- v is a slice of the calls l, in blocks ahead of B. -/
def SlA (B : Nat) (w : World) (v : Value) (l : List Ak) : Prop :=
  (l = [] ∧ ∃ a cap, v = .slice a 0 cap) ∨ ∃ b o cap, v = .slice (some ⟨b, o, none⟩) l.length cap ∧ b < B ∧ (∀ x, x < l.length → AkAt w b (o + x * 6) (l.getD x a0)) ∧ 0 < l.length
theorem SlA.len {B : Nat} {w : World} {v : Value} {l : List Ak} (h : SlA B w v l) : ∃ a cap, v = .slice a l.length cap := by
  rcases h with ⟨rfl, a, cap, h⟩ | ⟨b, o, cap, h1, _⟩
  · exact ⟨a, cap, h⟩
  · exact ⟨_, cap, h1⟩
/-- One call of it, in a world in which its block is as it was. -/
theorem SlA.at_ {B : Nat} {w wr : World} {a : Option Addr} {n cap : Nat} {l : List Ak} (h : SlA B w (.slice a n cap) l) (hk : ∀ b, b < B → wr.heap[b]? = w.heap[b]?) {k : Nat} (hlt : k < l.length) :
    ∃ b o, a = some ⟨b, o, none⟩ ∧ b < B ∧ AkAt wr b (o + k * 6) (l.getD k a0) := by
  rcases h with ⟨rfl, _⟩ | ⟨b, o, cap', h1, h2, h3, _⟩
  · simp at hlt
  · injection h1 with h1 _ _
    exact ⟨b, o, h1, h2, (h3 k hlt).keep (hk b h2)⟩
section
variable {H : Type} {enc : TypeId × Value → H} {W : World} {base : Nat} {spare : Nat → Bool} {held : Bool} {fuel : Nat}
theorem Tryd.cells45 : Tryd.prog.cellsOf 45 = 6 := by kernel_rfl
theorem Tryd.cellsI3 : Tryd.prog.cellsOf 3 = 1 := by kernel_rfl
theorem Tryd.cellsU5 : Tryd.prog.cellsOf 5 = 1 := by kernel_rfl
theorem Tryd.cellsU31 : Tryd.prog.cellsOf 31 = 1 := by kernel_rfl
theorem Tryd.cellsU4 : Tryd.prog.cellsOf 4 = 1 := by kernel_rfl
theorem i64_range {n : Int} (h : (Lit.int .i64 n).wf = true) : -9223372036854775808 ≤ n ∧ n ≤ 9223372036854775807 := by
  simp [Lit.wf, IntKind.min, IntKind.max, IntKind.signed, IntKind.bits] at h
  omega
set_option maxRecDepth 100000 in
theorem ask_of {cs : List Value} {x : DataW H × List MemPlace} (h : DataW.trod enc Tryd.prog W base spare held fuel 45 cs = some x) : ∃ q : Ak, cs = cellsA q ∧ q.Ok := by
  obtain ⟨xs, n, _, _, hl, hlen, hf⟩ := DataW.trod_struct Tryd.underlying45 h
  rw [Tryd.cells45] at hl
  match cs, hl with
  | [c0, c1, c2, c3, c4, c5], _ =>
    have hx : ∀ i, i < 6 → ∃ y, xs[i]? = some y := fun i hi => ⟨xs[i]'(by rw [hlen]; exact hi), List.getElem?_eq_getElem _⟩
    have key : ∀ (c : Value) (i : Nat), i < 6 → DataW.trod enc Tryd.prog W base spare held n 3 [c] = xs[i]? → ∃ m : Int, c = .int .i64 m ∧ (Lit.int .i64 m).wf = true := fun c i hi hc => by
      obtain ⟨y, hy⟩ := hx i hi
      rw [hy] at hc
      obtain ⟨m, h1, _, h2⟩ := DataW.trod_int Tryd.underlying3 hc
      exact ⟨m, by simpa using h1, h2⟩
    obtain ⟨m0, rfl, _⟩ := key c0 0 (by omega) (by simpa [Tryd.cellsI3] using hf 0 _ rfl)
    obtain ⟨m1, rfl, _⟩ := key c1 1 (by omega) (by simpa [Tryd.cellsI3] using hf 1 _ rfl)
    obtain ⟨m2, rfl, w2⟩ := key c2 2 (by omega) (by simpa [Tryd.cellsI3] using hf 2 _ rfl)
    obtain ⟨y3, e3⟩ := hx 3 (by omega)
    have g3 : DataW.trod enc Tryd.prog W base spare held n 5 [c3] = some y3 := by rw [← e3]; simpa [Tryd.cellsU5] using hf 3 _ rfl
    obtain ⟨m3, h3, _, w3⟩ := DataW.trod_int Tryd.underlying5 g3
    obtain ⟨y4, e4⟩ := hx 4 (by omega)
    have g4 : DataW.trod enc Tryd.prog W base spare held n 31 [c4] = some y4 := by rw [← e4]; simpa [Tryd.cellsU31] using hf 4 _ rfl
    obtain ⟨m4, h4, _, w4⟩ := DataW.trod_int Tryd.underlying31 g4
    obtain ⟨y5, e5⟩ := hx 5 (by omega)
    have g5 : DataW.trod enc Tryd.prog W base spare held n 4 [c5] = some y5 := by rw [← e5]; simpa [Tryd.cellsU4] using hf 5 _ rfl
    obtain ⟨b5, h5, _⟩ := DataW.trod_bool Tryd.underlying4 g5
    obtain rfl : c3 = .int .u8 m3 := by simpa using h3
    obtain rfl : c4 = .int .u64 m4 := by simpa using h4
    obtain rfl : c5 = .bool b5 := by simpa using h5
    obtain ⟨k3, rfl⟩ := Int.eq_ofNat_of_zero_le (u8_range w3).1
    obtain ⟨k4, rfl⟩ := Int.eq_ofNat_of_zero_le (word64_range w4).1
    exact ⟨⟨m0, m1, m2, k3, k4, b5⟩, rfl, by have := (u8_range w3).2; show k3 < 256; omega, by have := (word64_range w4).2; show k4 < _; omega, i64_range w2⟩
end
section
variable {H : Type} {enc : TypeId × Value → H} {W : World}
set_option maxRecDepth 100000 in
/-- An argument of type []Ask. -/
theorem open_asks {base : Nat} {v : Value} {d : DataW H} {p : List MemPlace} (hv : Value.okWide Tryd.prog W .any base 40 v) (h : DataW.Trod enc Tryd.prog W 0 (fun _ => true) true 40 v d p) :
    ∃ l : List Ak, SlA W.heap.size W v l ∧ l.length ≤ maxLen ∧ ∀ q ∈ l, q.Ok := by
  obtain ⟨a0', len, cap, rfl⟩ := okWide_slice Tryd.underlying40 hv
  obtain ⟨fuel, hf⟩ := h
  rcases open_slice Tryd.underlying40 hf with ⟨hc, _⟩ | ⟨a, len', cap', m, n, D, Pl, hc, _, hl, hm, hmm, _, hall⟩
  · simp only [Value.cells] at hc
    simp at hc
    obtain ⟨rfl, rfl, rfl⟩ := hc
    exact ⟨[], Or.inl ⟨rfl, _, _, rfl⟩, by simp, fun f hf => by cases hf⟩
  · simp only [Value.cells] at hc
    simp at hc
    obtain ⟨rfl, rfl, rfl⟩ := hc
    by_cases h0 : len = 0
    · subst h0; exact ⟨[], Or.inl ⟨rfl, _, _, rfl⟩, by simp, fun f hf => by cases hf⟩
    simp only [if_true] at hmm
    subst hmm
    rw [Tryd.cells45] at hall
    have hfl : ∀ i, i < len → ∃ f : Ak, f.Ok ∧ ∀ j u, (cellsA f)[j]? = some u → W.cell? ((a.add (i * 6)).add j) = some u := fun i hi => by
      obtain ⟨cs, h1, h2⟩ := hall i (by omega)
      obtain ⟨f, rfl, hfh⟩ := ask_of h2
      obtain ⟨_, _, h3⟩ := World.cells?_some h1
      exact ⟨f, hfh, fun j u hu => by rw [h3 j (by have := (List.getElem?_eq_some_iff.1 hu).1; simpa [cellsA] using this)]; exact hu⟩
    obtain ⟨F, hF⟩ := choose_lt hfl
    have hsp : a.spot = none := by
      have h1 := (hF 0 (by omega)).2 0 _ rfl
      have h2 := World.cell?_spot h1
      rw [Nat.zero_mul] at h2
      unfold Addr.add at h2
      simpa using h2
    have hcell : ∀ i, i < len → ∀ j u, (cellsA (F i))[j]? = some u → W.cell? ⟨a.block, a.off + i * 6 + j, none⟩ = some u := fun i hi j u hu => by
      have := (hF i hi).2 j u hu
      rw [addr_add a hsp, addr_add _ rfl] at this
      exact this
    have hblk : a.block < W.heap.size := World.block_lt_of_cell? W ⟨a.block, a.off + 0 * 6 + 0, none⟩ (hcell 0 (by omega) 0 _ rfl)
    refine ⟨(List.range len).map F, Or.inr ⟨a.block, a.off, m, ?_, hblk, fun x hx => ?_, by simp; omega⟩, by simp; omega, fun f hf => ?_⟩
    · obtain ⟨b, o, sp⟩ := a
      simp only at hsp
      subst hsp
      simp
    · have hx' : x < len := by simpa using hx
      have hg : ((List.range len).map F).getD x a0 = F x := by simp [List.getD, hx']
      rw [hg]
      have key := hcell x hx'
      exact ⟨key 0 _ rfl, key 1 _ rfl, key 2 _ rfl, key 3 _ rfl, key 4 _ rfl, key 5 _ rfl⟩
    · obtain ⟨i, hi, rfl⟩ := List.mem_map.1 hf
      exact (hF i (by simpa using hi)).1
end
theorem asks_ok {l : List Ak} (h : ∀ q ∈ l, q.Ok) {k : Nat} (hk : k < l.length) : (l.getD k a0).Ok := by
  have e : l.getD k a0 = l[k] := by simp [List.getD, hk]
  rw [e]; exact h _ (List.getElem_mem hk)
end Go.Proofs.YtfhkccldgbgelaaDoor
