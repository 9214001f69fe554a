/-
  The law stavelaw9.SuperPlays (any configuration, any calls: what Put answers, what each disk says, which volume is found, beside the document's own way) returns true for all numbers and calls, and leaves all memory that was there as it was.
  Conditions: none but the row's own; the one package-level variable that it reads, errors.errorType, is tied to the program's text by the card. The card speaks of the pruned copy of the project that the seat names.
-/
import Derived.Test.YtidnmkghmaeniaaGreatDoorOpenU
import Derived.Test.YtidnmkghmaeniaaGreatDoorVTwo
import Derived.Deep.Slices
import Derived.Deep.Strs
import Derived.OpenShut
import Derived.Test.YtidnmkghmaeniaaGreatDoorSVBig
import Derived.Test.YtidnmkghmaeniaaGreatDoorSRuns
import Derived.Deep.RegionHeld3
import Derived.Deep.DeepCutAuto
import Derived.IntWalk
import Derived.Test.YtidnmkghmaeniaaGreatDoorBase
import Derived.Test.YtidnmkghmaeniaaGreatDoorLaw
import Derived.Test.YtidnmkghmaeniaaGreatDoorOpenB
namespace Go.Proofs.YtidnmkghmaeniaaGreatDoor
open Go.ChangeShapes Go.WideShapes Go.RowKit Go.Deep
structure Qa where
  kind : Int
  i : Int
  other : Bool
  w : Wr
  bv : Value
  bits : List Nat
structure Qa.Ok (q : Qa) : Prop where
  bits : ∀ k, k < q.bits.length → q.bits.getD k 0 < 18446744073709551616
def q0 : Qa := ⟨0, 0, false, ⟨0, 0, 0, 0, 0⟩, .slice none 0 0, []⟩
def cellsQ (q : Qa) : List Value := [.int .i64 q.kind, .int .i64 q.i, .bool q.other, .int .i64 q.w.k, .int .i64 q.w.i, .int .i64 q.w.s, .int .i64 q.w.at_, .int .u32 (q.w.x : Int), q.bv]
instance : Inhabited Qa := ⟨q0⟩
structure QaAt (w : World) (b o : Nat) (q : Qa) : Prop where
  c0 : w.cell? ⟨b, o, none⟩ = some (.int .i64 q.kind)
  c1 : w.cell? ⟨b, o + 1, none⟩ = some (.int .i64 q.i)
  c2 : w.cell? ⟨b, o + 2, none⟩ = some (.bool q.other)
  c3 : w.cell? ⟨b, o + 3, none⟩ = some (.int .i64 q.w.k)
  c4 : w.cell? ⟨b, o + 4, none⟩ = some (.int .i64 q.w.i)
  c5 : w.cell? ⟨b, o + 5, none⟩ = some (.int .i64 q.w.s)
  c6 : w.cell? ⟨b, o + 6, none⟩ = some (.int .i64 q.w.at_)
  c7 : w.cell? ⟨b, o + 7, none⟩ = some (.int .u32 (q.w.x : Int))
  c8 : w.cell? ⟨b, o + 8, none⟩ = some q.bv
theorem QaAt.keep {w w' : World} {b o : Nat} {q : Qa} (h : QaAt w b o q) (hb : w'.heap[b]? = w.heap[b]?) : QaAt w' b o q := by
  have e : ∀ i, w'.cell? ⟨b, i, none⟩ = w.cell? ⟨b, i, none⟩ := fun i => World.cell?_of_block (a := ⟨b, i, none⟩) hb
  exact ⟨by rw [e]; exact h.c0, by rw [e]; exact h.c1, by rw [e]; exact h.c2, by rw [e]; exact h.c3, by rw [e]; exact h.c4, by rw [e]; exact h.c5, by rw [e]; exact h.c6, by rw [e]; exact h.c7, by rw [e]; exact h.c8⟩
theorem QaAt.lt {w : World} {b o : Nat} {q : Qa} (h : QaAt w b o q) : b < w.heap.size := World.block_lt_of_cell? w _ h.c0
/-- v is a slice of the calls l, in blocks ahead of B. -/
def SlQ (B : Nat) (w : World) (v : Value) (l : List Qa) : Prop :=
  (l = [] ∧ ∃ a cap, v = .slice a 0 cap) ∨ ∃ b o cap, v = .slice (some ⟨b, o, none⟩) l.length cap ∧ b < B ∧ (∀ x, x < l.length → QaAt w b (o + x * 9) (l.getD x q0)) ∧ 0 < l.length
theorem SlQ.len {B : Nat} {w : World} {v : Value} {l : List Qa} (h : SlQ B w v l) : ∃ a cap, v = .slice a l.length cap := by
  rcases h with ⟨rfl, a, cap, h⟩ | ⟨b, o, cap, h1, _⟩
  · exact ⟨a, cap, h⟩
  · exact ⟨_, cap, h1⟩
/-- One call of it, in a world in which its block is as it was. -/
theorem SlQ.at_ {B : Nat} {w wr : World} {a : Option Addr} {n cap : Nat} {l : List Qa} (h : SlQ B w (.slice a n cap) l) (hk : ∀ b, b < B → wr.heap[b]? = w.heap[b]?) {k : Nat} (hlt : k < l.length) :
    ∃ b o, a = some ⟨b, o, none⟩ ∧ b < B ∧ QaAt wr b (o + k * 9) (l.getD k q0) := by
  rcases h with ⟨rfl, _⟩ | ⟨b, o, cap', h1, h2, h3, _⟩
  · simp at hlt
  · injection h1 with h1 _ _
    exact ⟨b, o, h1, h2, (h3 k hlt).keep (hk b h2)⟩
section
variable {H : Type} {enc : TypeId × Value → H} {W : World}
theorem Tryz.cells33 : Tryz.prog.cellsOf 33 = 9 := by kernel_rfl
theorem Tryz.cellsI3 : Tryz.prog.cellsOf 3 = 1 := by kernel_rfl
theorem Tryz.cellsU28 : Tryz.prog.cellsOf 28 = 1 := by kernel_rfl
theorem Tryz.cellsU29 : Tryz.prog.cellsOf 29 = 1 := by kernel_rfl
theorem Tryz.cellsW31 : Tryz.prog.cellsOf 31 = 6 := by kernel_rfl
theorem Tryz.cellsU4 : Tryz.prog.cellsOf 4 = 1 := by kernel_rfl
set_option maxRecDepth 100000 in
theorem bits_of {fuel : Nat} {c : Value} {x : DataW H × List MemPlace} (h : DataW.trod enc Tryz.prog W 0 (fun _ => true) true fuel 29 [c] = some x) :
    ∃ bs : List Nat, SlU W.heap.size W c bs ∧ ∀ x, x < bs.length → bs.getD x 0 < 18446744073709551616 := by
  have hf := h
  rcases open_slice1 Tryz.underlying29 Tryz.cells137 hf with ⟨hc, _⟩ | ⟨a, len, cap, m, n, V, D, Pl, hc, _, hl, hm, hmm, _, hall⟩
  · simp at hc
    subst hc
    exact ⟨[], Or.inl ⟨rfl, _, _, rfl⟩, fun x hx => absurd hx (by simp)⟩
  · simp at hc
    subst hc
    by_cases h0 : len = 0
    · subst h0; exact ⟨[], Or.inl ⟨rfl, _, _, rfl⟩, fun x hx => absurd hx (by simp)⟩
    simp only [if_true] at hmm
    subst hmm
    have hfl : ∀ i, i < len → ∃ c : Nat, W.cell? (a.add i) = some (.int .u64 (c : Int)) ∧ c < 18446744073709551616 := fun i hi => by
      obtain ⟨h1, h2⟩ := hall i (by omega)
      obtain ⟨n', h3, h4, hw⟩ := DataW.trod_int Tryz.underlying137 h2
      have e : V i = .int .u64 n' := by simpa using h3
      have hr := word64_range hw
      obtain ⟨c, rfl⟩ := Int.eq_ofNat_of_zero_le hr.1
      exact ⟨c, by rw [h1, e], by omega⟩
    obtain ⟨F, hF⟩ := choose_lt hfl
    have hsp := spot_none (hF 0 (by omega)).1
    have hcell : ∀ i, i < len → W.cell? ⟨a.block, a.off + i, none⟩ = some (.int .u64 ((F i : Nat) : Int)) := fun i hi => by
      have := (hF i hi).1
      rwa [addr_add a hsp] at this
    have hblk : a.block < W.heap.size := World.block_lt_of_cell? W ⟨a.block, a.off + 0, none⟩ (hcell 0 (by omega))
    refine ⟨(List.range len).map F, Or.inr ⟨a.block, a.off, m, ?_, hblk, by simp; omega, fun x hx => ?_⟩, fun x hx => ?_⟩
    · obtain ⟨b, o, sp⟩ := a
      simp only at hsp
      subst hsp
      simp
    · have hx' : x < len := by simpa using hx
      have hg : ((List.range len).map F).getD x 0 = F x := by simp [List.getD, hx']
      rw [hg]
      exact hcell x hx'
    · have hx' : x < len := by simpa using hx
      have hg : ((List.range len).map F).getD x 0 = F x := by simp [List.getD, hx']
      rw [hg]
      exact (hF x hx').2
set_option maxRecDepth 100000 in
theorem wear_of {fuel : Nat} {cs : List Value} {x : DataW H × List MemPlace} (h : DataW.trod enc Tryz.prog W 0 (fun _ => true) true fuel 31 cs = some x) :
    ∃ (a : Wr) (bv : Value) (bits : List Nat), cs = [.int .i64 a.k, .int .i64 a.i, .int .i64 a.s, .int .i64 a.at_, .int .u32 (a.x : Int), bv] ∧ SlU W.heap.size W bv bits ∧ ∀ k, k < bits.length → bits.getD k 0 < 18446744073709551616 := by
  obtain ⟨xs, n, _, _, hl, hlen, hf⟩ := DataW.trod_struct Tryz.underlying31 h
  rw [Tryz.cellsW31] at hl
  match cs, hl with
  | [c0, c1, c2, c3, c4, c5], _ =>
    have hx : ∀ i, i < 6 → ∃ y, xs[i]? = some y := fun i hi => ⟨xs[i]'(by rw [hlen]; exact hi), List.getElem?_eq_getElem _⟩
    have key : ∀ (c : Value) (i : Nat), i < 6 → DataW.trod enc Tryz.prog W 0 (fun _ => true) true n 3 [c] = xs[i]? → ∃ m : Int, c = .int .i64 m ∧ (Lit.int .i64 m).wf = true := fun c i hi hc => by
      obtain ⟨y, hy⟩ := hx i hi
      rw [hy] at hc
      obtain ⟨m, h1, _, h2⟩ := DataW.trod_int Tryz.underlying3 hc
      exact ⟨m, by simpa using h1, h2⟩
    obtain ⟨m0, rfl, _⟩ := key c0 0 (by omega) (by simpa [Tryz.cellsI3] using hf 0 _ rfl)
    obtain ⟨m1, rfl, _⟩ := key c1 1 (by omega) (by simpa [Tryz.cellsI3] using hf 1 _ rfl)
    obtain ⟨m2, rfl, _⟩ := key c2 2 (by omega) (by simpa [Tryz.cellsI3] using hf 2 _ rfl)
    obtain ⟨m3, rfl, _⟩ := key c3 3 (by omega) (by simpa [Tryz.cellsI3] using hf 3 _ rfl)
    obtain ⟨y4, e4⟩ := hx 4 (by omega)
    have g4 : DataW.trod enc Tryz.prog W 0 (fun _ => true) true n 28 [c4] = some y4 := by rw [← e4]; simpa [Tryz.cellsU28] using hf 4 _ rfl
    obtain ⟨m4, h4, _, w4⟩ := DataW.trod_int Tryz.underlying28 g4
    obtain ⟨y5, e5⟩ := hx 5 (by omega)
    have g5 : DataW.trod enc Tryz.prog W 0 (fun _ => true) true n 29 [c5] = some y5 := by rw [← e5]; simpa [Tryz.cellsU29] using hf 5 _ rfl
    obtain ⟨bs, hb1, hb2⟩ := bits_of g5
    obtain rfl : c4 = .int .u32 m4 := by simpa using h4
    obtain ⟨k4, rfl⟩ := Int.eq_ofNat_of_zero_le (word32_range w4).1
    exact ⟨⟨m0, m1, m2, m3, k4⟩, c5, bs, rfl, hb1, hb2⟩
set_option maxRecDepth 100000 in
theorem qask_of {fuel : Nat} {cs : List Value} {x : DataW H × List MemPlace} (h : DataW.trod enc Tryz.prog W 0 (fun _ => true) true fuel 33 cs = some x) : ∃ q : Qa, cs = cellsQ q ∧ q.Ok ∧ SlU W.heap.size W q.bv q.bits := by
  obtain ⟨xs, n, _, _, hl, hlen, hf⟩ := DataW.trod_struct Tryz.underlying33 h
  rw [Tryz.cells33] at hl
  match cs, hl with
  | [c0, c1, c2, c3, c4, c5, c6, c7, c8], _ =>
    have hx : ∀ i, i < 4 → ∃ y, xs[i]? = some y := fun i hi => ⟨xs[i]'(by rw [hlen]; exact hi), List.getElem?_eq_getElem _⟩
    have key : ∀ (c : Value) (i : Nat), i < 4 → DataW.trod enc Tryz.prog W 0 (fun _ => true) true n 3 [c] = xs[i]? → ∃ m : Int, c = .int .i64 m ∧ (Lit.int .i64 m).wf = true := fun c i hi hc => by
      obtain ⟨y, hy⟩ := hx i hi
      rw [hy] at hc
      obtain ⟨m, h1, _, h2⟩ := DataW.trod_int Tryz.underlying3 hc
      exact ⟨m, by simpa using h1, h2⟩
    obtain ⟨m0, rfl, _⟩ := key c0 0 (by omega) (by simpa [Tryz.cellsI3] using hf 0 _ rfl)
    obtain ⟨m1, rfl, _⟩ := key c1 1 (by omega) (by simpa [Tryz.cellsI3] using hf 1 _ rfl)
    obtain ⟨y2, e2⟩ := hx 2 (by omega)
    have g2 : DataW.trod enc Tryz.prog W 0 (fun _ => true) true n 4 [c2] = some y2 := by rw [← e2]; simpa [Tryz.cellsU4, Tryz.cellsI3] using hf 2 _ rfl
    obtain ⟨b2, h2, _⟩ := DataW.trod_bool Tryz.underlying4 g2
    obtain ⟨y3, e3⟩ := hx 3 (by omega)
    have g3 : DataW.trod enc Tryz.prog W 0 (fun _ => true) true n 31 [c3, c4, c5, c6, c7, c8] = some y3 := by rw [← e3]; simpa [Tryz.cellsU4, Tryz.cellsI3, Tryz.cellsW31] using hf 3 _ rfl
    obtain ⟨a, bv, bits, hcs, hb1, hb2⟩ := wear_of g3
    obtain rfl : c2 = .bool b2 := by simpa using h2
    simp only [List.cons.injEq] at hcs
    obtain ⟨rfl, rfl, rfl, rfl, rfl, rfl, _⟩ := hcs
    exact ⟨⟨m0, m1, b2, a, c8, bits⟩, rfl, ⟨hb2⟩, hb1⟩
set_option maxRecDepth 100000 in
/-- An argument of type []Ask. -/
theorem open_qasks {base : Nat} {v : Value} {d : DataW H} {p : List MemPlace} (hv : Value.okWide Tryz.prog W .any base 22 v) (h : DataW.Trod enc Tryz.prog W 0 (fun _ => true) true 22 v d p) :
    ∃ l : List Qa, SlQ W.heap.size W v l ∧ l.length ≤ maxLen ∧ ∀ q ∈ l, q.Ok ∧ SlU W.heap.size W q.bv q.bits := by
  obtain ⟨a0', len, cap, rfl⟩ := okWide_slice Tryz.underlying22 hv
  obtain ⟨fuel, hf⟩ := h
  rcases open_slice Tryz.underlying22 hf with ⟨hc, _⟩ | ⟨a, len', cap', m, n, D, Pl, hc, _, hl, hm, hmm, _, hall⟩
  · simp only [Value.cells] at hc
    simp at hc
    obtain ⟨rfl, rfl, rfl⟩ := hc
    exact ⟨[], Or.inl ⟨rfl, _, _, rfl⟩, by simp, fun f hf => by cases hf⟩
  · simp only [Value.cells] at hc
    simp at hc
    obtain ⟨rfl, rfl, rfl⟩ := hc
    by_cases h0 : len = 0
    · subst h0; exact ⟨[], Or.inl ⟨rfl, _, _, rfl⟩, by simp, fun f hf => by cases hf⟩
    simp only [if_true] at hmm
    subst hmm
    rw [Tryz.cells33] at hall
    have hfl : ∀ i, i < len → ∃ f : Qa, (f.Ok ∧ SlU W.heap.size W f.bv f.bits) ∧ ∀ j u, (cellsQ f)[j]? = some u → W.cell? ((a.add (i * 9)).add j) = some u := fun i hi => by
      obtain ⟨cs, h1, h2⟩ := hall i (by omega)
      obtain ⟨f, rfl, hfh⟩ := qask_of h2
      obtain ⟨_, _, h3⟩ := World.cells?_some h1
      exact ⟨f, hfh, fun j u hu => by rw [h3 j (by have := (List.getElem?_eq_some_iff.1 hu).1; simpa [cellsQ] using this)]; exact hu⟩
    obtain ⟨F, hF⟩ := choose_lt hfl
    have hsp : a.spot = none := by
      have h1 := (hF 0 (by omega)).2 0 _ rfl
      have h2 := World.cell?_spot h1
      rw [Nat.zero_mul] at h2
      unfold Addr.add at h2
      simpa using h2
    have hcell : ∀ i, i < len → ∀ j u, (cellsQ (F i))[j]? = some u → W.cell? ⟨a.block, a.off + i * 9 + j, none⟩ = some u := fun i hi j u hu => by
      have := (hF i hi).2 j u hu
      rw [addr_add a hsp, addr_add _ rfl] at this
      exact this
    have hblk : a.block < W.heap.size := World.block_lt_of_cell? W ⟨a.block, a.off + 0 * 9 + 0, none⟩ (hcell 0 (by omega) 0 _ rfl)
    refine ⟨(List.range len).map F, Or.inr ⟨a.block, a.off, m, ?_, hblk, fun x hx => ?_, by simp; omega⟩, by simp; omega, fun f hf => ?_⟩
    · obtain ⟨b, o, sp⟩ := a
      simp only at hsp
      subst hsp
      simp
    · have hx' : x < len := by simpa using hx
      have hg : ((List.range len).map F).getD x q0 = F x := by simp [List.getD, hx']
      rw [hg]
      have key := hcell x hx'
      exact ⟨key 0 _ rfl, key 1 _ rfl, key 2 _ rfl, key 3 _ rfl, key 4 _ rfl, key 5 _ rfl, key 6 _ rfl, key 7 _ rfl, key 8 _ rfl⟩
    · obtain ⟨i, hi, rfl⟩ := List.mem_map.1 hf
      exact (hF i (by simpa using hi)).1
end
theorem qasks_ok {W : World} {l : List Qa} (h : ∀ q ∈ l, q.Ok ∧ SlU W.heap.size W q.bv q.bits) {k : Nat} (hk : k < l.length) : (l.getD k q0).Ok ∧ SlU W.heap.size W (l.getD k q0).bv (l.getD k q0).bits := by
  have e : l.getD k q0 = l[k] := by simp [List.getD, hk]
  rw [e]; exact h _ (List.getElem_mem hk)
end Go.Proofs.YtidnmkghmaeniaaGreatDoor
/-
  stavelaw9.SuperPlays: the walk (written by gensplays.py).
-/
namespace Go.Proofs.YtidnmkghmaeniaaGreatDoor
open Go.RowKit Go.Deep Dk Qk Go.Maps Hf
theorem cfN_of {cf : Cf} (h : CfgOk cf) : ∃ N SC : Nat, cf.n = N ∧ cf.secs = SC ∧ 1 ≤ N ∧ N ≤ 6 ∧ 1 ≤ SC ∧ SC ≤ 128 := by
  obtain ⟨h1, h2, h3, h4, h5, h6⟩ := h
  have hok : CfgOk cf := ⟨h1, h2, h3, h4, h5, h6⟩
  obtain ⟨x1, x2, _⟩ := hok.right.secs
  obtain ⟨N, hN⟩ := Int.eq_ofNat_of_zero_le (show 0 ≤ cf.n by omega)
  obtain ⟨SC, hSC⟩ := Int.eq_ofNat_of_zero_le (show 0 ≤ cf.secs by omega)
  exact ⟨N, SC, hN, hSC, by omega⟩
def cf8 (c : Cf) : Cf := { c with id := 8 }
/-- The law's two configurations. -/
def CfT (cf : Cf) (b : Nat) (w0 wr : World) : Prop := CfB cf b wr ∧ CfB (cf8 cf) (b + 1) wr ∧ b + 1 < wr.heap.size ∧ Below w0.heap.size w0 wr
theorem CfT.lo {cf : Cf} {b lo : Nat} {w0 wr w' : World} (h : CfT cf b w0 wr) (hl : b + 1 < lo) (hw : w0.heap.size ≤ lo) (hb : Below lo wr w') : CfT cf b w0 w' :=
  ⟨h.1.below (by omega) hb, h.2.1.below hl hb, Nat.lt_of_lt_of_le h.2.2.1 hb.size, h.2.2.2.trans (hb.mono hw)⟩
theorem sput_nk (q : Rk) (c : Cf) (i : Int) : (Rk.sput q c i).n = q.n ∧ (Rk.sput q c i).k = q.k := ⟨sput_n q c i, sput_k q c i⟩
theorem alike_self (n k : Nat) : Qk.Alike (newRk n k) (newRk n k) := ⟨rfl, rfl, fun _ _ => rfl, rfl, fun _ => rfl⟩
/-- Both racks, and what was there ahead of them. -/
def SPS (lo T : Nat) (c : Lc) (f : Lf) (N SC : Nat) (w0 wr : World) : Prop := (∃ C E p p', p.n = N ∧ p.k = SC ∧ TW lo (fun k => False ∨ k = T) T c f C E p p' wr) ∧ Below lo w0 wr
/-- Both racks while a call is put. -/
structure SPW (lo T : Nat) (c : Lc) (f : Lf) (Q X : Nat) (a : Qa) (xc : Cf) (w0 : World) (C E : Nat → Nat) (p p' : Rk) (w : World) : Prop where
  px : PX lo (fun k => ((fun k => False ∨ k = T) k ∨ k = Q) ∨ k = X) w c f C E p p'
  tw : TwoAt T c f w
  qa : QaAt w Q 0 a
  xb : CfB xc X w
  le : lo ≤ w.heap.size
  bw : Below lo w0 w
theorem SPW.next {lo T : Nat} {c : Lc} {f : Lf} {Q X : Nat} {a : Qa} {xc : Cf} {w0 w w' : World} {C E C' E' : Nat → Nat} {p p' p1 p2 : Rk} (h : SPW lo T c f Q X a xc w0 C E p p' w) (hp : PX lo (fun k => ((fun k => False ∨ k = T) k ∨ k = Q) ∨ k = X) w' c f C' E' p1 p2) (hk : Kept lo (fun k => ((fun k => False ∨ k = T) k ∨ k = Q) ∨ k = X) w w') : SPW lo T c f Q X a xc w0 C' E' p1 p2 w' :=
  ⟨hp, (hk.keep T (Or.inl (Or.inl (Or.inr rfl)))).trans h.tw, h.qa.keep (hk.keep Q (Or.inl (Or.inr rfl))), (hk.keep X (Or.inr rfl)).trans h.xb, Nat.le_trans h.le hk.below.size, h.bw.trans hk.below⟩
theorem SPW.below {lo T : Nat} {c : Lc} {f : Lf} {Q X : Nat} {a : Qa} {xc : Cf} {w0 w w' : World} {C E : Nat → Nat} {p p' : Rk} (h : SPW lo T c f Q X a xc w0 C E p p' w) (hb : Below w.heap.size w w') : SPW lo T c f Q X a xc w0 C E p p' w' := h.next (h.px.below hb h.le).1 (h.px.below hb h.le).2
theorem SPW.drew {lo T : Nat} {c : Lc} {f : Lf} {Q X : Nat} {a : Qa} {xc : Cf} {w0 w : World} {C E : Nat → Nat} {p p' : Rk} (h : SPW lo T c f Q X a xc w0 C E p p' w) : SPW lo T c f Q X a xc w0 C E p p' w.drew := h.below (Below.drew (Below.refl _ _))
theorem SPW.start {lo T : Nat} {c : Lc} {f : Lf} {C E : Nat → Nat} {p p' : Rk} {w0 w : World} (h : TW lo (fun k => False ∨ k = T) T c f C E p p' w) (hb : Below lo w0 w) (a : Qa) (xc : Cf) : SPW lo T c f w.heap.size (w.heap.size + 1) a xc w0 C E p p' ((w.alloc (.cells (cellsQ a).toArray 33)).alloc (.cells (cfA xc) 24)) := by
  have h1 := one_below w (.cells (cellsQ a).toArray 33)
  have hT1 := h.below h1
  have h2 := one_below (w.alloc (.cells (cellsQ a).toArray 33)) (.cells (cfA xc) 24)
  have hT2 := hT1.below h2
  have hs : (w.alloc (.cells (cellsQ a).toArray 33)).heap.size = w.heap.size + 1 := by simp
  have hc := cfB_new (w.alloc (.cells (cellsQ a).toArray 33)) xc
  rw [hs] at hc
  have hq : QaAt (w.alloc (.cells (cellsQ a).toArray 33)) w.heap.size 0 a := ⟨new_cells w _ _ 0 _ rfl, new_cells w _ _ 1 _ rfl, new_cells w _ _ 2 _ rfl, new_cells w _ _ 3 _ rfl, new_cells w _ _ 4 _ rfl, new_cells w _ _ 5 _ rfl, new_cells w _ _ 6 _ rfl, new_cells w _ _ 7 _ rfl, new_cells w _ _ 8 _ rfl⟩
  exact ⟨(h.px.more h1 h.le (Nat.le_refl _) (by simp)).more h2 hT1.le (by rw [hs]; exact Nat.le_refl _) (by simp), hT2.tw, hq.keep (h2.block _ (by simp)), hc, hT2.le, hb.trans ((h1.trans (h2.mono h1.size)).mono h.le)⟩
theorem SPW.out {lo T : Nat} {c : Lc} {f : Lf} {Q X : Nat} {a : Qa} {xc : Cf} {w0 w : World} {C E : Nat → Nat} {p p' : Rk} {N SC : Nat} (h : SPW lo T c f Q X a xc w0 C E p p' w) (hn : p.n = N) (hk : p.k = SC) (ha : Qk.Alike p p') (hT : Typ w) : SPS lo T c f N SC w0 w :=
  ⟨⟨C, E, p, p', hn, hk, ⟨h.px.less fun _ hk => Or.inl (Or.inl hk), h.tw, h.le, ha, hT⟩⟩, h.bw⟩
set_option maxHeartbeats 16000000 in
set_option maxRecDepth 100000 in
theorem splays_any (w : World) (k_ n_ t_ s_ : Int) (vl : Value) (l : List Qa) (hvl : SlQ w.heap.size w vl l) (hok : ∀ q ∈ l, q.Ok ∧ SlU w.heap.size w q.bv q.bits) (hT : Typ w) : Calls Tryz.prog 3 #[.int .i64 k_, .int .i64 n_, .int .i64 t_, .int .i64 s_, vl] w (Bit true w) := by
  have HT := Lib.hid hT
  have HVL := Lib.hid hvl
  have HOK := Lib.hid hok
  obtain ⟨al, cl, rfl⟩ := hvl.len
  clear hT hvl hok
  go_enter Tryz.func3, Tryz.ntmps3
  go_wp2_with fail
  refine (config_any k_ n_ t_ s_ _).mono ?_
  rintro e w1 ⟨cf, hcf, rfl, hb1⟩
  obtain ⟨N, SC, hN, hSC, hNR⟩ := cfN_of hcf
  have HCF := Lib.hid hcf
  have HN := Lib.hid hN
  have HSC := Lib.hid hSC
  have HNR := Lib.hid hNR
  have H4 := Lib.hid (show CfT cf w1.heap.size w ((w1.alloc (.cells (cfA cf) 24)).alloc (.cells (cfA (cf8 cf)) 24)) from
    ⟨(cfB_new w1 cf).below (B := w1.heap.size + 1) (by omega) ((one_below _ _).mono (by simp)), by have := cfB_new (w1.alloc (.cells (cfA cf) 24)) (cf8 cf); simpa using this, by simp, balloc (balloc hb1 _) _⟩)
  clear hcf hb1 hN hSC hNR
  go_upto_region 4 with (fail)
  unfold cfA cf8 at H4
  generalize (w1.alloc (.cells #[.int .i64 cf.id, .int .i64 cf.k, .int .i64 cf.n, .int .i64 cf.t, .int .i64 cf.s] 24)).alloc (.cells #[.int .i64 8, .int .i64 cf.k, .int .i64 cf.n, .int .i64 cf.t, .int .i64 cf.s] 24) = w4 at *
  generalize w1.heap.size = b at *
  have HNW := Lib.hid (two_new (fun _ => False) cf N SC w4 HCF.out.right HN.out HSC.out HNR.out.1 (by have := HNR.out; omega) HNR.out.2.2.1 HNR.out.2.2.2 (fun _ h => h.elim))
  have H4 := Lib.hid (show CfT cf b w w4 from H4.out)
  obtain ⟨d0, d1, d2, d3, d4⟩ := H4.out.1.cells
  go_wp2_with fail
  refine HNW.out.mono ?_
  rintro e w5 ⟨T, c, f, rfl, htw, ⟨C5, E5, hpx⟩, hb5⟩
  have HC5 := Lib.hid (show CfT cf b w w5 from ⟨H4.out.1.below (by have := H4.out.2.2.1; omega) hb5, H4.out.2.1.below H4.out.2.2.1 hb5, Nat.lt_of_lt_of_le H4.out.2.2.1 hb5.size, bthen H4.out.2.2.2 hb5⟩)
  have HSP5 := Lib.hid (show SPS w4.heap.size T c f N SC w5 w5 from ⟨⟨C5, E5, _, _, rfl, rfl, hpx, htw, hb5.size, alike_self N SC, HT.out.below HC5.out.2.2.2⟩, Below.refl _ _⟩)
  have HLO := Lib.hid (show b + 1 < w4.heap.size ∧ w.heap.size ≤ w4.heap.size from ⟨H4.out.2.2.1, H4.out.2.2.2.size⟩)
  have HCT := Lib.hid (fun (wr : World) (h : SPS w4.heap.size T c f N SC w5 wr) => show CfT cf b w wr from HC5.out.lo HLO.out.1 HLO.out.2 h.2)
  clear htw hpx hb5 d0 d1 d2 d3 d4 HNW
  generalize w4.heap.size = lo at *
  go_wp2_with fail
  go_loopw [14] (fun i wr => ∃ m : Nat, m ≤ l.length ∧ m ≤ 25 ∧ i = .int .i64 m ∧ SPS lo T c f N SC w5 wr) (fun i _ => l.length - (RowKit.intOf i).toNat)
  case atStart => exact ⟨0, Nat.zero_le _, Nat.zero_le _, rfl, HSP5.out⟩
  case round =>
    obtain ⟨m, hm, hm25, rfl, hSP⟩ := hrel
    have HSP := Lib.hid hSP
    have HCW := Lib.hid (HCT.out _ hSP)
    have HGO := Lib.hid (super_runs wr (HT.out.below HCW.out.2.2.2))
    by_cases hlt : m < l.length
    · by_cases hlt25 : m < 25
      · obtain ⟨⟨C, E, p, p', hpn, hpk, hTW⟩, hbw⟩ := hSP
        have HTW := Lib.hid hTW
        have HPN := Lib.hid hpn
        have HPK := Lib.hid hpk
        obtain ⟨bq, o, rfl, hbl, hq⟩ := HVL.out.at_ (wr := wr) (fun b hb' => HCW.out.2.2.2.block b hb') hlt
        have hqo := qasks_ok HOK.out hlt
        generalize l.getD m q0 = a at hq hqo
        have HOA := Lib.hid hqo
        obtain ⟨c0, c1, c2, c3, c4, c5, c6, c7, c8⟩ := hq
        obtain ⟨ba, bcap, hbv⟩ := hqo.2.len
        rw [hbv] at c8
        have i1 : (m : Int) < l.length := by omega
        have i2 : (0 : Int) ≤ m := by omega
        have i3 : (m : Int) < 25 := by omega
        have HBV := Lib.hid hbv
        have HQN := Lib.hid (show QaAt (wr.alloc (.cells #[.int .i64 a.kind, .int .i64 a.i, .bool a.other, .int .i64 a.w.k, .int .i64 a.w.i, .int .i64 a.w.s, .int .i64 a.w.at_, .int .u32 (a.w.x : Int), .slice ba a.bits.length bcap] 33)) wr.heap.size 0 a from ⟨new_cells wr _ _ 0 _ rfl, new_cells wr _ _ 1 _ rfl, new_cells wr _ _ 2 _ rfl, new_cells wr _ _ 3 _ rfl, new_cells wr _ _ 4 _ rfl, new_cells wr _ _ 5 _ rfl, new_cells wr _ _ 6 _ rfl, new_cells wr _ _ 7 _ rfl, by rw [hbv]; exact new_cells wr _ _ 8 _ rfl⟩)
        have HPUT := Lib.hid (fun xc => SPW.start hTW hbw a xc)
        have HTA := Lib.hid (hTW.below (one_below wr (.cells #[.int .i64 a.kind, .int .i64 a.i, .bool a.other, .int .i64 a.w.k, .int .i64 a.w.i, .int .i64 a.w.s, .int .i64 a.w.at_, .int .u32 (a.w.x : Int), .slice ba a.bits.length bcap] 33)))
        have HBA := Lib.hid (show Below lo w5 (wr.alloc (.cells #[.int .i64 a.kind, .int .i64 a.i, .bool a.other, .int .i64 a.w.k, .int .i64 a.w.i, .int .i64 a.w.s, .int .i64 a.w.at_, .int .u32 (a.w.x : Int), .slice ba a.bits.length bcap] 33)) from hbw.trans ((one_below wr _).mono hTW.le))
        have HCA := Lib.hid (show CfT cf b w (wr.alloc (.cells #[.int .i64 a.kind, .int .i64 a.i, .bool a.other, .int .i64 a.w.k, .int .i64 a.w.i, .int .i64 a.w.s, .int .i64 a.w.at_, .int .u32 (a.w.x : Int), .slice ba a.bits.length bcap] 33)) from HC5.out.lo HLO.out.1 HLO.out.2 HBA.out)
        unfold cellsQ at HPUT
        rw [hbv] at HPUT
        clear hTW hpn hpk hbw hqo hbv hm hm25
        go_upto_if 53 with (fail)
        clear c0 c1 c2 c3 c4 c5 c6 c7 c8
        go_cut [16] from 53 to 79 (fun _ wx => SPS lo T c f N SC w5 wx)
        case first =>
          obtain ⟨c0, c1, c2, c3, c4, c5, c6, c7, c8⟩ := HQN.out
          rw [HBV.out] at c8
          have HYP := HPUT.out
          clear HPUT
          have hys : (wr.alloc (.cells #[.int .i64 a.kind, .int .i64 a.i, .bool a.other, .int .i64 a.w.k, .int .i64 a.w.i, .int .i64 a.w.s, .int .i64 a.w.at_, .int .u32 (a.w.x : Int), .slice ba a.bits.length bcap] 33)).heap.size = wr.heap.size + 1 := by simp
          generalize wr.alloc (.cells #[.int .i64 a.kind, .int .i64 a.i, .bool a.other, .int .i64 a.w.k, .int .i64 a.w.i, .int .i64 a.w.s, .int .i64 a.w.at_, .int .u32 (a.w.x : Int), .slice ba a.bits.length bcap] 33) = y0 at *
          by_cases hk1 : a.kind = 1
          · have e1 : (a.kind == 1) = true := by simp; omega
            clear hk1
            obtain ⟨d0, d1, d2, d3, d4⟩ := HCA.out.1.cells
            obtain ⟨g0, g1, g2, g3, g4⟩ := (HCA.out.2.1.below (B := y0.heap.size) HCA.out.2.2.1 (one_below y0 (.cells #[.int .i64 cf.id, .int .i64 cf.k, .int .i64 cf.n, .int .i64 cf.t, .int .i64 cf.s] 24))).cells
            unfold cf8 at g0 g1 g2 g3 g4
            generalize wr.heap.size = Q at *
            by_cases ho : a.other = true
            · rw [ho] at c2
              clear ho
              go_wp2_with fail
              have HY := Lib.hid (HYP (cf8 cf))
              rw [show cfA (cf8 cf) = #[.int .i64 8, .int .i64 cf.k, .int .i64 cf.n, .int .i64 cf.t, .int .i64 cf.s] from rfl] at HY
              clear HYP c0 c1 c2 c3 c4 c5 c6 c7 c8 d0 d1 d2 d3 d4 g0 g1 g2 g3 g4
              generalize y0.alloc (.cells #[.int .i64 8, .int .i64 cf.k, .int .i64 cf.n, .int .i64 cf.t, .int .i64 cf.s] 24) = y1 at *
              have HYD := Lib.hid HY.out.drew
              have HAL := Lib.hid (alike_sput HTA.out.al (cf8 cf) a.i)
              have CP := Lib.hid (sput_any y1.drew HYD.out.px.prog (cf8 cf) a.i)
              have CK := Lib.hid (fun W hT => kind_serr p (cf8 cf) a.i W hT)
              have CV := Lib.hid (fun (W : World) (C' E' : Nat → Nat) (h : SPW lo T c f Q (Q + 1) a (cf8 cf) w5 C' E' (Rk.sput p (cf8 cf) a.i) p' W) => vput_any W h.px h.le (cf8 cf) a.i)
              have hsc := HAL.out.2
              rw [hsc] at CV
              clear hsc
              generalize Rk.serr p (cf8 cf) a.i = er at *
              generalize Rk.scode p (cf8 cf) a.i = sc at CK CV
              rw [show cfA (cf8 cf) = #[.int .i64 8, .int .i64 cf.k, .int .i64 cf.n, .int .i64 cf.t, .int .i64 cf.s] from rfl] at CP CV
              have t0 : ∀ w', (TwoAt T c f w' ∧ QaAt w' Q 0 a ∧ CfB (cf8 cf) (Q + 1) w') → w'.cell? ⟨T, 0, none⟩ = some (.pointer (some ⟨c.r, 0, none⟩)) := fun w' h => by rw [cell_of_row w' T 0 _ _ _ h.1]; rfl
              have t1 : ∀ w', (TwoAt T c f w' ∧ QaAt w' Q 0 a ∧ CfB (cf8 cf) (Q + 1) w') → w'.cell? ⟨T, 1, none⟩ = some (.pointer (some ⟨f.t, 0, none⟩)) := fun w' h => by rw [cell_of_row w' T 1 _ _ _ h.1]; rfl
              have a1 : ∀ w', (TwoAt T c f w' ∧ QaAt w' Q 0 a ∧ CfB (cf8 cf) (Q + 1) w') → w'.cell? ⟨Q, 1, none⟩ = some (.int .i64 a.i) := fun w' h => h.2.1.c1
              have x0 : ∀ w', (TwoAt T c f w' ∧ QaAt w' Q 0 a ∧ CfB (cf8 cf) (Q + 1) w') → w'.cell? ⟨Q + 1, 0, none⟩ = some (.int .i64 8) := fun w' h => h.2.2.cell 0
              have x1 : ∀ w', (TwoAt T c f w' ∧ QaAt w' Q 0 a ∧ CfB (cf8 cf) (Q + 1) w') → w'.cell? ⟨Q + 1, 1, none⟩ = some (.int .i64 cf.k) := fun w' h => h.2.2.cell 1
              have x2 : ∀ w', (TwoAt T c f w' ∧ QaAt w' Q 0 a ∧ CfB (cf8 cf) (Q + 1) w') → w'.cell? ⟨Q + 1, 2, none⟩ = some (.int .i64 cf.n) := fun w' h => h.2.2.cell 2
              have x3 : ∀ w', (TwoAt T c f w' ∧ QaAt w' Q 0 a ∧ CfB (cf8 cf) (Q + 1) w') → w'.cell? ⟨Q + 1, 3, none⟩ = some (.int .i64 cf.t) := fun w' h => h.2.2.cell 3
              have x4 : ∀ w', (TwoAt T c f w' ∧ QaAt w' Q 0 a ∧ CfB (cf8 cf) (Q + 1) w') → w'.cell? ⟨Q + 1, 4, none⟩ = some (.int .i64 cf.s) := fun w' h => h.2.2.cell 4
              go_wp2_with fail
              refine wp_region_noPanic ?_
              refine wp_region_held_drew (S := (fun w' => TwoAt T c f w' ∧ QaAt w' Q 0 a ∧ CfB (cf8 cf) (Q + 1) w')) (by kernel_rfl) (show TwoAt T c f y1.drew ∧ QaAt y1.drew Q 0 a ∧ CfB (cf8 cf) (Q + 1) y1.drew from ⟨HYD.out.tw, HYD.out.qa, HYD.out.xb⟩) (fun hHeld => ?_)
              refine wpAnyH_take (i := 0) (oi := ⟨some 58, _, _, _, _, _⟩) (v := ?_) rfl (by kernel_rfl) (by kernel_rfl) (by kernel_rfl) (fun _ _ _ h => h) (Or.inl ⟨by rfl, ?_⟩) hHeld ?_
              rotate_left
              · intro w hSw; (go_simp; try with_reducible rfl)
              simp only [Act.put, List.setIfInBounds_toArray, List.set_cons_zero, List.set_cons_succ]
              refine wpAnyH_take (i := 1) (oi := ⟨some 59, _, _, _, _, _⟩) (v := ?_) rfl (by kernel_rfl) (by kernel_rfl) (by kernel_rfl) (fun _ _ _ h => h) (Or.inl ⟨by rfl, ?_⟩) hHeld ?_
              rotate_left
              · intro w hSw; (go_simp; try with_reducible rfl)
              simp only [Act.put, List.setIfInBounds_toArray, List.set_cons_zero, List.set_cons_succ]
              refine wpAnyH_take (i := 2) (oi := ⟨some 60, _, _, _, _, _⟩) (v := ?_) rfl (by kernel_rfl) (by kernel_rfl) (by kernel_rfl) (fun _ _ _ h => h) (Or.inl ⟨by rfl, ?_⟩) hHeld ?_
              rotate_left
              · intro w hSw; (go_simp; try with_reducible rfl)
              simp only [Act.put, List.setIfInBounds_toArray, List.set_cons_zero, List.set_cons_succ]
              refine wpAnyH_take (i := 3) (oi := ⟨some 61, _, _, _, _, _⟩) (v := ?_) rfl (by kernel_rfl) (by kernel_rfl) (by kernel_rfl) (fun _ _ _ h => h) (Or.inl ⟨by rfl, ?_⟩) hHeld ?_
              rotate_left
              · intro w hSw; (go_simp; try with_reducible rfl)
              simp only [Act.put, List.setIfInBounds_toArray, List.set_cons_zero, List.set_cons_succ]
              refine wpAnyH_take (i := 4) (oi := ⟨some 62, _, _, _, _, _⟩) (v := ?_) rfl (by kernel_rfl) (by kernel_rfl) (by kernel_rfl) (fun _ _ _ h => h) (Or.inl ⟨by rfl, ?_⟩) hHeld ?_
              rotate_left
              · intro w hSw; (go_simp; try with_reducible rfl)
              simp only [Act.put, List.setIfInBounds_toArray, List.set_cons_zero, List.set_cons_succ]
              refine wpAnyH_take (i := 5) (oi := ⟨some 63, _, _, _, _, _⟩) (v := ?_) rfl (by kernel_rfl) (by kernel_rfl) (by kernel_rfl) (fun _ _ _ h => h) (Or.inl ⟨by rfl, ?_⟩) hHeld ?_
              rotate_left
              · intro w hSw; (go_simp; try with_reducible rfl)
              simp only [Act.put, List.setIfInBounds_toArray, List.set_cons_zero, List.set_cons_succ]
              refine wpAnyH_take (i := 6) (oi := ⟨some 64, _, _, _, _, _⟩) (v := ?_) rfl (by kernel_rfl) (by kernel_rfl) (by kernel_rfl) (fun _ _ _ h => h) (Or.inl ⟨by rfl, ?_⟩) hHeld ?_
              rotate_left
              · intro w hSw; (go_simp; try with_reducible rfl)
              simp only [Act.put, List.setIfInBounds_toArray, List.set_cons_zero, List.set_cons_succ]
              refine wpAnyH_take (i := 9) (oi := ⟨some 67, _, _, _, _, _⟩) (v := ?_) rfl (by kernel_rfl) (by kernel_rfl) (by kernel_rfl) (fun _ _ _ h => h) (Or.inl ⟨by rfl, ?_⟩) hHeld ?_
              rotate_left
              · intro w hSw; (go_simp; try with_reducible rfl)
              simp only [Act.put, List.setIfInBounds_toArray, List.set_cons_zero, List.set_cons_succ]
              refine wpAnyH_take (i := 10) (oi := ⟨some 68, _, _, _, _, _⟩) (v := ?_) rfl (by kernel_rfl) (by kernel_rfl) (by kernel_rfl) (fun _ _ _ h => h) (Or.inl ⟨by rfl, ?_⟩) hHeld ?_
              rotate_left
              · intro w hSw; (go_simp; try with_reducible rfl)
              simp only [Act.put, List.setIfInBounds_toArray, List.set_cons_zero, List.set_cons_succ]
              refine wpAnyH_take (i := 11) (oi := ⟨some 69, _, _, _, _, _⟩) (v := ?_) rfl (by kernel_rfl) (by kernel_rfl) (by kernel_rfl) (fun _ _ _ h => h) (Or.inl ⟨by rfl, ?_⟩) hHeld ?_
              rotate_left
              · intro w hSw; (go_simp; try with_reducible rfl)
              simp only [Act.put, List.setIfInBounds_toArray, List.set_cons_zero, List.set_cons_succ]
              refine wpAnyH_take (i := 12) (oi := ⟨some 70, _, _, _, _, _⟩) (v := ?_) rfl (by kernel_rfl) (by kernel_rfl) (by kernel_rfl) (fun _ _ _ h => h) (Or.inl ⟨by rfl, ?_⟩) hHeld ?_
              rotate_left
              · intro w hSw; (go_simp; try with_reducible rfl)
              simp only [Act.put, List.setIfInBounds_toArray, List.set_cons_zero, List.set_cons_succ]
              refine wpAnyH_take (i := 13) (oi := ⟨some 71, _, _, _, _, _⟩) (v := ?_) rfl (by kernel_rfl) (by kernel_rfl) (by kernel_rfl) (fun _ _ _ h => h) (Or.inl ⟨by rfl, ?_⟩) hHeld ?_
              rotate_left
              · intro w hSw; (go_simp; try with_reducible rfl)
              simp only [Act.put, List.setIfInBounds_toArray, List.set_cons_zero, List.set_cons_succ]
              refine wpAnyH_take (i := 14) (oi := ⟨some 72, _, _, _, _, _⟩) (v := ?_) rfl (by kernel_rfl) (by kernel_rfl) (by kernel_rfl) (fun _ _ _ h => h) (Or.inl ⟨by rfl, ?_⟩) hHeld ?_
              rotate_left
              · intro w hSw; (go_simp; try with_reducible rfl)
              simp only [Act.put, List.setIfInBounds_toArray, List.set_cons_zero, List.set_cons_succ]
              refine wpAnyH_take (i := 15) (oi := ⟨some 73, _, _, _, _, _⟩) (v := ?_) rfl (by kernel_rfl) (by kernel_rfl) (by kernel_rfl) (fun _ _ _ h => h) (Or.inl ⟨by rfl, ?_⟩) hHeld ?_
              rotate_left
              · intro w hSw; (go_simp; try with_reducible rfl)
              simp only [Act.put, List.setIfInBounds_toArray, List.set_cons_zero, List.set_cons_succ]
              refine wpAnyH_ready (rs := [7]) (by kernel_rfl) (by simp) (AllReadyH.cons rfl (fun K hK => ?_) AllReadyH.nil)
              go_simp
              refine CP.out.mono ?_
              rintro e z2 ⟨rfl, hr2, hc2⟩
              have HZ2 := Lib.hid (HYD.out.next (HYD.out.px.prog_step hr2 hc2 (sput_nk _ _ _).1 (sput_nk _ _ _).2 HYD.out.le).1 (HYD.out.px.prog_step hr2 hc2 (sput_nk _ _ _).1 (sput_nk _ _ _).2 HYD.out.le).2)
              have hs2 : TwoAt T c f z2 ∧ QaAt z2 Q 0 a ∧ CfB (cf8 cf) (Q + 1) z2 := ⟨HZ2.out.tw, HZ2.out.qa, HZ2.out.xb⟩
              clear hr2 hc2
              refine hK.out _ _ hs2 (fun _ => ?_)
              clear hK K
              refine wpAnyH_ready (rs := [8]) (by kernel_rfl) (by simp) (AllReadyH.cons rfl (fun K hK => ?_) AllReadyH.nil)
              go_simp
              refine (CK.out z2 (HT.out.below (HC5.out.lo HLO.out.1 HLO.out.2 HZ2.out.bw).2.2.2)).mono ?_
              rintro e z3 ⟨rfl, hb3⟩
              have HZ3 := Lib.hid (HZ2.out.below hb3)
              have hs3 : TwoAt T c f z3 ∧ QaAt z3 Q 0 a ∧ CfB (cf8 cf) (Q + 1) z3 := ⟨HZ3.out.tw, HZ3.out.qa, HZ3.out.xb⟩
              clear hb3
              refine hK.out _ _ hs3 (fun _ => ?_)
              clear hK K
              refine wpAnyH_ready (rs := [16]) (by kernel_rfl) (by simp) (AllReadyH.cons rfl (fun K hK => ?_) AllReadyH.nil)
              go_simp
              refine (CV.out z3 _ _ HZ3.out).mono ?_
              rintro e z4 ⟨rfl, ⟨C6, E6, hp6⟩, hk6⟩
              have HZ4 := Lib.hid (HZ3.out.next hp6 hk6)
              have hs4 : TwoAt T c f z4 ∧ QaAt z4 Q 0 a ∧ CfB (cf8 cf) (Q + 1) z4 := ⟨HZ4.out.tw, HZ4.out.qa, HZ4.out.xb⟩
              clear hp6 hk6
              refine hK.out _ _ hs4 (fun _ => ?_)
              clear hK K
              refine wpAnyH_take (i := 17) (oi := ⟨some 75, _, _, _, _, _⟩) (v := ?_) rfl (by kernel_rfl) (by kernel_rfl) (by kernel_rfl) (fun _ _ _ h => h) (Or.inl ⟨by rfl, ?_⟩) hs4 ?_
              rotate_left
              · intro w hSw; (go_simp; try with_reducible rfl)
              simp only [Act.put, List.setIfInBounds_toArray, List.set_cons_zero, List.set_cons_succ]
              refine wpAnyH_done (by kernel_rfl) ?_ _
              refine NoPanic.normal ?_
              clear t0 t1 a1 x0 x1 x2 x3 x4 hHeld hs2 hs3 hs4
              go_wp2_with fail
              go_meet
              exact HZ4.out.out ((sput_nk _ _ _).1.trans HPN.out) ((sput_nk _ _ _).2.trans HPK.out) HAL.out.1 (HT.out.below (HC5.out.lo HLO.out.1 HLO.out.2 HZ4.out.bw).2.2.2)
            · have ho' : a.other = false := by simpa using ho
              rw [ho'] at c2
              clear ho ho'
              go_wp2_with fail
              have HY := Lib.hid (HYP cf)
              rw [show cfA cf = #[.int .i64 cf.id, .int .i64 cf.k, .int .i64 cf.n, .int .i64 cf.t, .int .i64 cf.s] from rfl] at HY
              clear HYP c0 c1 c2 c3 c4 c5 c6 c7 c8 d0 d1 d2 d3 d4 g0 g1 g2 g3 g4
              generalize y0.alloc (.cells #[.int .i64 cf.id, .int .i64 cf.k, .int .i64 cf.n, .int .i64 cf.t, .int .i64 cf.s] 24) = y1 at *
              have HYD := Lib.hid HY.out.drew
              have HAL := Lib.hid (alike_sput HTA.out.al cf a.i)
              have CP := Lib.hid (sput_any y1.drew HYD.out.px.prog cf a.i)
              have CK := Lib.hid (fun W hT => kind_serr p cf a.i W hT)
              have CV := Lib.hid (fun (W : World) (C' E' : Nat → Nat) (h : SPW lo T c f Q (Q + 1) a cf w5 C' E' (Rk.sput p cf a.i) p' W) => vput_any W h.px h.le cf a.i)
              have hsc := HAL.out.2
              rw [hsc] at CV
              clear hsc
              generalize Rk.serr p cf a.i = er at *
              generalize Rk.scode p cf a.i = sc at CK CV
              rw [show cfA cf = #[.int .i64 cf.id, .int .i64 cf.k, .int .i64 cf.n, .int .i64 cf.t, .int .i64 cf.s] from rfl] at CP CV
              have t0 : ∀ w', (TwoAt T c f w' ∧ QaAt w' Q 0 a ∧ CfB cf (Q + 1) w') → w'.cell? ⟨T, 0, none⟩ = some (.pointer (some ⟨c.r, 0, none⟩)) := fun w' h => by rw [cell_of_row w' T 0 _ _ _ h.1]; rfl
              have t1 : ∀ w', (TwoAt T c f w' ∧ QaAt w' Q 0 a ∧ CfB cf (Q + 1) w') → w'.cell? ⟨T, 1, none⟩ = some (.pointer (some ⟨f.t, 0, none⟩)) := fun w' h => by rw [cell_of_row w' T 1 _ _ _ h.1]; rfl
              have a1 : ∀ w', (TwoAt T c f w' ∧ QaAt w' Q 0 a ∧ CfB cf (Q + 1) w') → w'.cell? ⟨Q, 1, none⟩ = some (.int .i64 a.i) := fun w' h => h.2.1.c1
              have x0 : ∀ w', (TwoAt T c f w' ∧ QaAt w' Q 0 a ∧ CfB cf (Q + 1) w') → w'.cell? ⟨Q + 1, 0, none⟩ = some (.int .i64 cf.id) := fun w' h => h.2.2.cell 0
              have x1 : ∀ w', (TwoAt T c f w' ∧ QaAt w' Q 0 a ∧ CfB cf (Q + 1) w') → w'.cell? ⟨Q + 1, 1, none⟩ = some (.int .i64 cf.k) := fun w' h => h.2.2.cell 1
              have x2 : ∀ w', (TwoAt T c f w' ∧ QaAt w' Q 0 a ∧ CfB cf (Q + 1) w') → w'.cell? ⟨Q + 1, 2, none⟩ = some (.int .i64 cf.n) := fun w' h => h.2.2.cell 2
              have x3 : ∀ w', (TwoAt T c f w' ∧ QaAt w' Q 0 a ∧ CfB cf (Q + 1) w') → w'.cell? ⟨Q + 1, 3, none⟩ = some (.int .i64 cf.t) := fun w' h => h.2.2.cell 3
              have x4 : ∀ w', (TwoAt T c f w' ∧ QaAt w' Q 0 a ∧ CfB cf (Q + 1) w') → w'.cell? ⟨Q + 1, 4, none⟩ = some (.int .i64 cf.s) := fun w' h => h.2.2.cell 4
              go_wp2_with fail
              refine wp_region_noPanic ?_
              refine wp_region_held_drew (S := (fun w' => TwoAt T c f w' ∧ QaAt w' Q 0 a ∧ CfB cf (Q + 1) w')) (by kernel_rfl) (show TwoAt T c f y1.drew ∧ QaAt y1.drew Q 0 a ∧ CfB cf (Q + 1) y1.drew from ⟨HYD.out.tw, HYD.out.qa, HYD.out.xb⟩) (fun hHeld => ?_)
              refine wpAnyH_take (i := 0) (oi := ⟨some 58, _, _, _, _, _⟩) (v := ?_) rfl (by kernel_rfl) (by kernel_rfl) (by kernel_rfl) (fun _ _ _ h => h) (Or.inl ⟨by rfl, ?_⟩) hHeld ?_
              rotate_left
              · intro w hSw; (go_simp; try with_reducible rfl)
              simp only [Act.put, List.setIfInBounds_toArray, List.set_cons_zero, List.set_cons_succ]
              refine wpAnyH_take (i := 1) (oi := ⟨some 59, _, _, _, _, _⟩) (v := ?_) rfl (by kernel_rfl) (by kernel_rfl) (by kernel_rfl) (fun _ _ _ h => h) (Or.inl ⟨by rfl, ?_⟩) hHeld ?_
              rotate_left
              · intro w hSw; (go_simp; try with_reducible rfl)
              simp only [Act.put, List.setIfInBounds_toArray, List.set_cons_zero, List.set_cons_succ]
              refine wpAnyH_take (i := 2) (oi := ⟨some 60, _, _, _, _, _⟩) (v := ?_) rfl (by kernel_rfl) (by kernel_rfl) (by kernel_rfl) (fun _ _ _ h => h) (Or.inl ⟨by rfl, ?_⟩) hHeld ?_
              rotate_left
              · intro w hSw; (go_simp; try with_reducible rfl)
              simp only [Act.put, List.setIfInBounds_toArray, List.set_cons_zero, List.set_cons_succ]
              refine wpAnyH_take (i := 3) (oi := ⟨some 61, _, _, _, _, _⟩) (v := ?_) rfl (by kernel_rfl) (by kernel_rfl) (by kernel_rfl) (fun _ _ _ h => h) (Or.inl ⟨by rfl, ?_⟩) hHeld ?_
              rotate_left
              · intro w hSw; (go_simp; try with_reducible rfl)
              simp only [Act.put, List.setIfInBounds_toArray, List.set_cons_zero, List.set_cons_succ]
              refine wpAnyH_take (i := 4) (oi := ⟨some 62, _, _, _, _, _⟩) (v := ?_) rfl (by kernel_rfl) (by kernel_rfl) (by kernel_rfl) (fun _ _ _ h => h) (Or.inl ⟨by rfl, ?_⟩) hHeld ?_
              rotate_left
              · intro w hSw; (go_simp; try with_reducible rfl)
              simp only [Act.put, List.setIfInBounds_toArray, List.set_cons_zero, List.set_cons_succ]
              refine wpAnyH_take (i := 5) (oi := ⟨some 63, _, _, _, _, _⟩) (v := ?_) rfl (by kernel_rfl) (by kernel_rfl) (by kernel_rfl) (fun _ _ _ h => h) (Or.inl ⟨by rfl, ?_⟩) hHeld ?_
              rotate_left
              · intro w hSw; (go_simp; try with_reducible rfl)
              simp only [Act.put, List.setIfInBounds_toArray, List.set_cons_zero, List.set_cons_succ]
              refine wpAnyH_take (i := 6) (oi := ⟨some 64, _, _, _, _, _⟩) (v := ?_) rfl (by kernel_rfl) (by kernel_rfl) (by kernel_rfl) (fun _ _ _ h => h) (Or.inl ⟨by rfl, ?_⟩) hHeld ?_
              rotate_left
              · intro w hSw; (go_simp; try with_reducible rfl)
              simp only [Act.put, List.setIfInBounds_toArray, List.set_cons_zero, List.set_cons_succ]
              refine wpAnyH_take (i := 9) (oi := ⟨some 67, _, _, _, _, _⟩) (v := ?_) rfl (by kernel_rfl) (by kernel_rfl) (by kernel_rfl) (fun _ _ _ h => h) (Or.inl ⟨by rfl, ?_⟩) hHeld ?_
              rotate_left
              · intro w hSw; (go_simp; try with_reducible rfl)
              simp only [Act.put, List.setIfInBounds_toArray, List.set_cons_zero, List.set_cons_succ]
              refine wpAnyH_take (i := 10) (oi := ⟨some 68, _, _, _, _, _⟩) (v := ?_) rfl (by kernel_rfl) (by kernel_rfl) (by kernel_rfl) (fun _ _ _ h => h) (Or.inl ⟨by rfl, ?_⟩) hHeld ?_
              rotate_left
              · intro w hSw; (go_simp; try with_reducible rfl)
              simp only [Act.put, List.setIfInBounds_toArray, List.set_cons_zero, List.set_cons_succ]
              refine wpAnyH_take (i := 11) (oi := ⟨some 69, _, _, _, _, _⟩) (v := ?_) rfl (by kernel_rfl) (by kernel_rfl) (by kernel_rfl) (fun _ _ _ h => h) (Or.inl ⟨by rfl, ?_⟩) hHeld ?_
              rotate_left
              · intro w hSw; (go_simp; try with_reducible rfl)
              simp only [Act.put, List.setIfInBounds_toArray, List.set_cons_zero, List.set_cons_succ]
              refine wpAnyH_take (i := 12) (oi := ⟨some 70, _, _, _, _, _⟩) (v := ?_) rfl (by kernel_rfl) (by kernel_rfl) (by kernel_rfl) (fun _ _ _ h => h) (Or.inl ⟨by rfl, ?_⟩) hHeld ?_
              rotate_left
              · intro w hSw; (go_simp; try with_reducible rfl)
              simp only [Act.put, List.setIfInBounds_toArray, List.set_cons_zero, List.set_cons_succ]
              refine wpAnyH_take (i := 13) (oi := ⟨some 71, _, _, _, _, _⟩) (v := ?_) rfl (by kernel_rfl) (by kernel_rfl) (by kernel_rfl) (fun _ _ _ h => h) (Or.inl ⟨by rfl, ?_⟩) hHeld ?_
              rotate_left
              · intro w hSw; (go_simp; try with_reducible rfl)
              simp only [Act.put, List.setIfInBounds_toArray, List.set_cons_zero, List.set_cons_succ]
              refine wpAnyH_take (i := 14) (oi := ⟨some 72, _, _, _, _, _⟩) (v := ?_) rfl (by kernel_rfl) (by kernel_rfl) (by kernel_rfl) (fun _ _ _ h => h) (Or.inl ⟨by rfl, ?_⟩) hHeld ?_
              rotate_left
              · intro w hSw; (go_simp; try with_reducible rfl)
              simp only [Act.put, List.setIfInBounds_toArray, List.set_cons_zero, List.set_cons_succ]
              refine wpAnyH_take (i := 15) (oi := ⟨some 73, _, _, _, _, _⟩) (v := ?_) rfl (by kernel_rfl) (by kernel_rfl) (by kernel_rfl) (fun _ _ _ h => h) (Or.inl ⟨by rfl, ?_⟩) hHeld ?_
              rotate_left
              · intro w hSw; (go_simp; try with_reducible rfl)
              simp only [Act.put, List.setIfInBounds_toArray, List.set_cons_zero, List.set_cons_succ]
              refine wpAnyH_ready (rs := [7]) (by kernel_rfl) (by simp) (AllReadyH.cons rfl (fun K hK => ?_) AllReadyH.nil)
              go_simp
              refine CP.out.mono ?_
              rintro e z2 ⟨rfl, hr2, hc2⟩
              have HZ2 := Lib.hid (HYD.out.next (HYD.out.px.prog_step hr2 hc2 (sput_nk _ _ _).1 (sput_nk _ _ _).2 HYD.out.le).1 (HYD.out.px.prog_step hr2 hc2 (sput_nk _ _ _).1 (sput_nk _ _ _).2 HYD.out.le).2)
              have hs2 : TwoAt T c f z2 ∧ QaAt z2 Q 0 a ∧ CfB cf (Q + 1) z2 := ⟨HZ2.out.tw, HZ2.out.qa, HZ2.out.xb⟩
              clear hr2 hc2
              refine hK.out _ _ hs2 (fun _ => ?_)
              clear hK K
              refine wpAnyH_ready (rs := [8]) (by kernel_rfl) (by simp) (AllReadyH.cons rfl (fun K hK => ?_) AllReadyH.nil)
              go_simp
              refine (CK.out z2 (HT.out.below (HC5.out.lo HLO.out.1 HLO.out.2 HZ2.out.bw).2.2.2)).mono ?_
              rintro e z3 ⟨rfl, hb3⟩
              have HZ3 := Lib.hid (HZ2.out.below hb3)
              have hs3 : TwoAt T c f z3 ∧ QaAt z3 Q 0 a ∧ CfB cf (Q + 1) z3 := ⟨HZ3.out.tw, HZ3.out.qa, HZ3.out.xb⟩
              clear hb3
              refine hK.out _ _ hs3 (fun _ => ?_)
              clear hK K
              refine wpAnyH_ready (rs := [16]) (by kernel_rfl) (by simp) (AllReadyH.cons rfl (fun K hK => ?_) AllReadyH.nil)
              go_simp
              refine (CV.out z3 _ _ HZ3.out).mono ?_
              rintro e z4 ⟨rfl, ⟨C6, E6, hp6⟩, hk6⟩
              have HZ4 := Lib.hid (HZ3.out.next hp6 hk6)
              have hs4 : TwoAt T c f z4 ∧ QaAt z4 Q 0 a ∧ CfB cf (Q + 1) z4 := ⟨HZ4.out.tw, HZ4.out.qa, HZ4.out.xb⟩
              clear hp6 hk6
              refine hK.out _ _ hs4 (fun _ => ?_)
              clear hK K
              refine wpAnyH_take (i := 17) (oi := ⟨some 75, _, _, _, _, _⟩) (v := ?_) rfl (by kernel_rfl) (by kernel_rfl) (by kernel_rfl) (fun _ _ _ h => h) (Or.inl ⟨by rfl, ?_⟩) hs4 ?_
              rotate_left
              · intro w hSw; (go_simp; try with_reducible rfl)
              simp only [Act.put, List.setIfInBounds_toArray, List.set_cons_zero, List.set_cons_succ]
              refine wpAnyH_done (by kernel_rfl) ?_ _
              refine NoPanic.normal ?_
              clear t0 t1 a1 x0 x1 x2 x3 x4 hHeld hs2 hs3 hs4
              go_wp2_with fail
              go_meet
              exact HZ4.out.out ((sput_nk _ _ _).1.trans HPN.out) ((sput_nk _ _ _).2.trans HPK.out) HAL.out.1 (HT.out.below (HC5.out.lo HLO.out.1 HLO.out.2 HZ4.out.bw).2.2.2)
          · have e1 : (a.kind == 1) = false := by simp; omega
            clear hk1
            have HWR := Lib.hid (two_wear (K := (fun k => False ∨ k = T)) y0 HTA.out.px HTA.out.tw (Or.inr rfl) HTA.out.le HTA.out.al a.w ba a.bits.length bcap a.bits (by
              have := (HOA.out.2.below HCA.out.2.2.2).wider (B' := lo) HLO.out.2
              rwa [HBV.out] at this) HOA.out.1.bits)
            unfold wrC at HWR
            go_wp2_with fail
            refine HWR.out.mono ?_
            rintro e w6 ⟨rfl, ⟨C6, E6, p1, p2, hn6, hk6, ha6, hp6⟩, hkp⟩
            have HS6 := Lib.hid (show SPS lo T c f N SC w5 w6 from ⟨⟨C6, E6, p1, p2, hn6.trans HPN.out, hk6.trans HPK.out, hp6, (hkp.keep T (Or.inr rfl)).trans HTA.out.tw, Nat.le_trans HTA.out.le hkp.below.size, ha6, HT.out.below (HC5.out.lo HLO.out.1 HLO.out.2 (HBA.out.trans hkp.below)).2.2.2⟩, HBA.out.trans hkp.below⟩)
            clear hn6 hk6 ha6 hp6 hkp c0 c1 c2 c3 c4 c5 c6 c7 c8
            go_wp2_with fail
            go_meet
            exact HS6.out
        case rest =>
          have hSP2 := hcut
          obtain ⟨⟨C2, E2, q, q', hqn, hqk, hTW2⟩, hbw2⟩ := hSP2
          have HW := Lib.hid hTW2
          have HQN2 := Lib.hid hqn
          have HQK2 := Lib.hid hqk
          have HBW2 := Lib.hid hbw2
          have HC2 := Lib.hid (HC5.out.lo HLO.out.1 HLO.out.2 hbw2)
          clear hTW2 hqn hqk hbw2 hcut HPUT HTW HTA HBA HCA HQN HOA HBV
          obtain ⟨w2, hw2⟩ : ∃ w2, w2 = wc := ⟨_, rfl⟩
          subst hw2
          have HG1 := Lib.hid (fun (w' : World) (h : TW lo (fun k => False ∨ k = T) T c f C2 E2 q q' w') (j : Int) => sget_any w' h.px.prog j)
          have HG2 := Lib.hid (fun (w' : World) (h : TW lo (fun k => False ∨ k = T) T c f C2 E2 q q' w') (j : Int) => show Calls Tryz.prog 16 #[.pointer (some ⟨f.t, 0, none⟩), .int .i64 j] w' (CfBit (cfOf q j) (cfHas q j) w') from by
            have := vsuper_any w' h.px h.le j
            rwa [alike_cfOf HW.out.al, alike_has HW.out.al] at this)
          unfold CfBit at HG1 HG2
          go_wp2_with fail
          go_loopw [17] (fun i wr => ∃ s : Nat, s ≤ N + 2 ∧ i = .int .i64 ((s : Int) - 1) ∧ Below w2.heap.size w2 wr) (fun i _ => N + 2 - (RowKit.intOf i + 1).toNat)
          case atStart => exact ⟨0, by omega, by go_num, Below.refl _ _⟩
          case round =>
            obtain ⟨s, hs, rfl, hb⟩ := hrel
            have HWS := Lib.hid (HW.out.below hb)
            have HBS := Lib.hid hb
            have HCS := Lib.hid (show CfT cf b w wr from ⟨HC2.out.1.below (B := w2.heap.size) (by have := HC2.out.2.2.1; omega) hb, HC2.out.2.1.below HC2.out.2.2.1 hb, Nat.lt_of_lt_of_le HC2.out.2.2.1 hb.size, bthen HC2.out.2.2.2 hb⟩)
            have d2 := HCS.out.1.cell 2
            rw [show (cfA cf)[2]? = some (.int .i64 cf.n) from rfl, HN.out] at d2
            have hN6 : N ≤ 6 := HNR.out.2.1
            clear hb
            by_cases hlt2 : s < N + 2
            · have hji : (s : Int) - 1 ≤ N := by omega
              have hw : IntKind.i64.wrap ((s : Int) - 1 + 1) = (s : Int) := by rw [IntWalk.i64_in _ (by omega)]; omega
              have t0 := HWS.out.c0
              have HGA := Lib.hid (HG1.out _ HWS.out ((s : Int) - 1))
              have HGB := Lib.hid (fun W h => HG2.out W h ((s : Int) - 1))
              generalize cfOf q ((s : Int) - 1) = cg at *
              generalize cfHas q ((s : Int) - 1) = hg at *
              unfold cfA at HGA HGB
              have hnc := neql_conf cg cg
              unfold cfA at hnc
              rw [decide_eq_true rfl] at hnc
              have hgd := guard_conf
              go_wp2_with fail
              refine HGA.out.mono ?_
              rintro e z3 ⟨rfl, hb3⟩
              have HW3 := Lib.hid ((HWS.out.below hb3).below (one_below z3 (.cells #[.int .i64 cg.id, .int .i64 cg.k, .int .i64 cg.n, .int .i64 cg.t, .int .i64 cg.s] 24)))
              have HB3 := Lib.hid (show Below w2.heap.size w2 (z3.alloc (.cells #[.int .i64 cg.id, .int .i64 cg.k, .int .i64 cg.n, .int .i64 cg.t, .int .i64 cg.s] 24)) from balloc (bthen HBS.out hb3) _)
              have HX3 := Lib.hid (show CfB cg z3.heap.size (z3.alloc (.cells #[.int .i64 cg.id, .int .i64 cg.k, .int .i64 cg.n, .int .i64 cg.t, .int .i64 cg.s] 24)) ∧ z3.heap.size < (z3.alloc (.cells #[.int .i64 cg.id, .int .i64 cg.k, .int .i64 cg.n, .int .i64 cg.t, .int .i64 cg.s] 24)).heap.size from ⟨cfB_new z3 cg, by simp⟩)
              clear hb3 t0 d2
              have t1 := HW3.out.c1
              go_wp2_with fail
              generalize z3.alloc (.cells #[.int .i64 cg.id, .int .i64 cg.k, .int .i64 cg.n, .int .i64 cg.t, .int .i64 cg.s] 24) = y3 at *
              generalize z3.heap.size = b3 at *
              refine (HGB.out _ HW3.out).mono ?_
              rintro e z4 ⟨rfl, hb4⟩
              have HB4 := Lib.hid (show Below w2.heap.size w2 (z4.alloc (.cells #[.int .i64 cg.id, .int .i64 cg.k, .int .i64 cg.n, .int .i64 cg.t, .int .i64 cg.s] 24)) from balloc (bthen HB3.out hb4) _)
              obtain ⟨x0, x1, x2, x3, x4⟩ := ((HX3.out.1.below HX3.out.2 hb4).below (B := z4.heap.size) (Nat.lt_of_lt_of_le HX3.out.2 hb4.size) (one_below z4 (.cells #[.int .i64 cg.id, .int .i64 cg.k, .int .i64 cg.n, .int .i64 cg.t, .int .i64 cg.s] 24))).cells
              obtain ⟨v0, v1, v2, v3, v4⟩ := (cfB_new z4 cg).cells
              unfold cfA at v0 v1 v2 v3 v4
              clear hb4 t1
              go_wp2_with fail
              go_roundw
              case rel => exact ⟨s + 1, by omega, by go_num, HB4.out⟩
              case measure => simp [RowKit.intOf]; omega
            · have hji : ¬ (s : Int) - 1 ≤ N := by omega
              have HFA := Lib.hid (sfind_any wr HWS.out.px.prog)
              have HFB := Lib.hid (fun (w' : World) (h : TW lo (fun k => False ∨ k = T) T c f C2 E2 q q' w') => show Calls Tryz.prog 18 #[.pointer (some ⟨f.t, 0, none⟩)] w' (CfNum (fndC q) (fcodeF q) w') from by
                have := vfind_any w' h.px h.le
                rwa [alike_fndC HW.out.al, alike_fcode HW.out.al] at this)
              have HFK := Lib.hid (fun W hT => kind_ferr q W hT)
              unfold CfErr at HFA
              unfold CfNum at HFB
              generalize fndC q = cg at *
              generalize ferr q = er at *
              generalize fcodeF q = fc at *
              unfold cfA at HFA HFB
              have hnc := neql_conf cg cg
              unfold cfA at hnc
              rw [decide_eq_true rfl] at hnc
              have hgd := guard_conf
              have t0 := HWS.out.c0
              go_wp2_with fail
              refine HFA.out.mono ?_
              rintro e z3 ⟨rfl, hb3⟩
              have HW3 := Lib.hid ((HWS.out.below hb3).below (one_below z3 (.cells #[.int .i64 cg.id, .int .i64 cg.k, .int .i64 cg.n, .int .i64 cg.t, .int .i64 cg.s] 24)))
              have HB3 := Lib.hid (show Below w2.heap.size w2 (z3.alloc (.cells #[.int .i64 cg.id, .int .i64 cg.k, .int .i64 cg.n, .int .i64 cg.t, .int .i64 cg.s] 24)) from balloc (bthen HBS.out hb3) _)
              have HX3 := Lib.hid (show CfB cg z3.heap.size (z3.alloc (.cells #[.int .i64 cg.id, .int .i64 cg.k, .int .i64 cg.n, .int .i64 cg.t, .int .i64 cg.s] 24)) ∧ z3.heap.size < (z3.alloc (.cells #[.int .i64 cg.id, .int .i64 cg.k, .int .i64 cg.n, .int .i64 cg.t, .int .i64 cg.s] 24)).heap.size from ⟨cfB_new z3 cg, by simp⟩)
              clear hb3 t0 d2
              have t1 := HW3.out.c1
              go_wp2_with fail
              generalize z3.alloc (.cells #[.int .i64 cg.id, .int .i64 cg.k, .int .i64 cg.n, .int .i64 cg.t, .int .i64 cg.s] 24) = y3 at *
              generalize z3.heap.size = b3 at *
              refine (HFB.out _ HW3.out).mono ?_
              rintro e z4 ⟨rfl, hb4⟩
              have HW4 := Lib.hid ((HW3.out.below hb4).below (one_below z4 (.cells #[.int .i64 cg.id, .int .i64 cg.k, .int .i64 cg.n, .int .i64 cg.t, .int .i64 cg.s] 24)))
              have HB4 := Lib.hid (show Below w2.heap.size w2 (z4.alloc (.cells #[.int .i64 cg.id, .int .i64 cg.k, .int .i64 cg.n, .int .i64 cg.t, .int .i64 cg.s] 24)) from balloc (bthen HB3.out hb4) _)
              obtain ⟨x0, x1, x2, x3, x4⟩ := ((HX3.out.1.below HX3.out.2 hb4).below (B := z4.heap.size) (Nat.lt_of_lt_of_le HX3.out.2 hb4.size) (one_below z4 (.cells #[.int .i64 cg.id, .int .i64 cg.k, .int .i64 cg.n, .int .i64 cg.t, .int .i64 cg.s] 24))).cells
              obtain ⟨v0, v1, v2, v3, v4⟩ := (cfB_new z4 cg).cells
              unfold cfA at v0 v1 v2 v3 v4
              clear hb4 t1
              go_wp2_with (first
                | (go_at_call 11; refine (HFK.out _ HW4.out.ty).mono ?_; rintro e z5 ⟨rfl, hb5⟩; have HW5 := Lib.hid (HW4.out.below hb5); have HB5 := Lib.hid (bthen HB4.out hb5); clear hb5)
                | (go_at_call 19; refine (two_same _ HW5.out).mono ?_; rintro e z6 ⟨rfl, hb6⟩; have HW6 := Lib.hid (HW5.out.below hb6); have HB6 := Lib.hid (bthen HB5.out hb6); clear hb6))
              go_roundw
              case rel => exact ⟨m + 1, hlt, by omega, by go_num, ⟨⟨C2, E2, q, q', HQN2.out, HQK2.out, HW6.out⟩, HBW2.out.trans (HB6.out.mono HW.out.le)⟩⟩
              case measure => simp [RowKit.intOf]; omega
      · have i1 : (m : Int) < l.length := by omega
        have i3 : ¬ (m : Int) < 25 := by omega
        clear hSP hm hm25
        go_wp2_with (go_at_call 20; refine HGO.out.mono ?_; rintro e w9 ⟨rfl, hb9⟩)
        go_ret
        exact bit rfl (bthen HCW.out.2.2.2 hb9)
    · have i1 : ¬ (m : Int) < l.length := by omega
      clear hSP hm hm25
      go_wp2_with (go_at_call 20; refine HGO.out.mono ?_; rintro e w9 ⟨rfl, hb9⟩)
      go_ret
      exact bit rfl (bthen HCW.out.2.2.2 hb9)
end Go.Proofs.YtidnmkghmaeniaaGreatDoor
/-
  The law stavelaw9.SuperPlays (any configuration, any calls: what Put answers, what each disk says, which volume is found, beside the document's own way) returns true for all numbers and calls, and leaves all memory that was there as it was.
  Conditions: none but the row's own; the one package-level variable that it reads, errors.errorType, is tied to the program's text by the card. The card speaks of the pruned copy of the project that the seat names.
-/
namespace Go.Proofs.YtidnmkghmaeniaaGreatDoor.superPlays
open Go.ChangeShapes Go.WideShapes Go.ChangeAt Go.RowKit

set_option maxRecDepth 100000 in
theorem contract (H : Type) (enc : TypeId × Value → H) (W : World) (base : Nat) (args : Array Value) (ds gs : List (DataW H)) (before : List MemPlace)
    (hval : ∀ (j : Nat) t v, Tryz.f3.params[j]? = some t → args[j]? = some v → Value.okWide Tryz.prog W .any base t v)
    (hW : DataW.Whole enc Tryz.prog Tryz.f3.params.toList Rows.superPlaysSpec.vars false W args.toList ds gs before) (hL : laidMetH Tryz.prog Rows.superPlaysRow.laid W) :
    Calls Tryz.prog 3 args W fun e W' => ∃ v, e = .returned v ∧ Rows.superPlaysSpec.post enc Tryz.prog Tryz.f3 false true false false W args v W' := by
  have hW' := hW
  obtain ⟨p, q, hA0, hV, rfl, hfz, hnd⟩ := hW
  have hA : DataW.TrodAll enc Tryz.prog W 0 (fun _ => true) true Tryz.f3.params.toList args.toList ds p := hA0
  rw [Tryz.params3] at hA hval
  obtain ⟨v0, vs0, d0, ds0, p0, q0, hargs, rfl, rfl, h0, r0⟩ := trodAll_cons hA
  obtain ⟨v1, vs1, d1, ds1, p1, q1, rfl, rfl, rfl, h1, r1⟩ := trodAll_cons r0
  obtain ⟨v2, vs2, d2, ds2, p2, q2, rfl, rfl, rfl, h2, r2⟩ := trodAll_cons r1
  obtain ⟨v3, vs3, d3, ds3, p3, q3, rfl, rfl, rfl, h3, r3⟩ := trodAll_cons r2
  obtain ⟨v4, vs4, d4, ds4, p4, q4, rfl, rfl, rfl, h4, r4⟩ := trodAll_cons r3
  obtain ⟨rfl, rfl, rfl⟩ := trodAll_nil r4
  obtain rfl : args = #[v0, v1, v2, v3, v4] := Array.ext' hargs
  obtain ⟨k_, rfl, rfl, rfl, _⟩ := open_int Tryz.underlying3 (hval 0 3 v0 (by simp) (by simp)) h0
  obtain ⟨n_, rfl, rfl, rfl, _⟩ := open_int Tryz.underlying3 (hval 1 3 v1 (by simp) (by simp)) h1
  obtain ⟨t_, rfl, rfl, rfl, _⟩ := open_int Tryz.underlying3 (hval 2 3 v2 (by simp) (by simp)) h2
  obtain ⟨s_, rfl, rfl, rfl, _⟩ := open_int Tryz.underlying3 (hval 3 3 v3 (by simp) (by simp)) h3
  have hv4 := (hval 4 22 v4 (by simp) (by simp))
  obtain ⟨l, hsl, _, hol⟩ := open_qasks hv4 h4
  obtain ⟨rfl, rfl⟩ := trodVars_none hV
  clear hA0
  have hw : Calls Tryz.prog 3 #[.int .i64 k_, .int .i64 n_, .int .i64 t_, .int .i64 s_, v4] W (Bit true W) := splays_any W k_ n_ t_ s_ v4 l hsl hol (handle_of_laid hL)
  refine hw.mono fun e W' ⟨he, hg⟩ => ?_
  subst he
  exact ⟨_, rfl, law_post Tryz.laidOut (by kernel_rfl) (by kernel_rfl) (by kernel_rfl) Tryz.underlying4 hW' hg rfl rfl rfl⟩

theorem reads (os : Os) {H : Type} (enc : TypeId × Value → H) : ∃ places, DataW.whole enc Tryz.prog ((laidWorld os).forCall (fun _ _ => 0) ⟨#[], #[.int .i64 0, .int .i64 0, .int .i64 0, .int .i64 0, .slice none 0 0], []⟩).memory Tryz.f3.params.toList Rows.superPlaysSpec.vars false (#[.int .i64 0, .int .i64 0, .int .i64 0, .int .i64 0, .slice none 0 0] : Array Value).toList 8 = some ([.lit (.int .i64 0), .lit (.int .i64 0), .lit (.int .i64 0), .lit (.int .i64 0), .nil], [], places) :=
  ⟨[], by kernel_rfl⟩

set_option maxRecDepth 100000 in
theorem lifted (os : Os) (started : os.Started) (H : Type) (enc : TypeId × Value → H) (F : Stop.Interp) :
    ReturnsInHanded {} Tryz.checked os 3 .any ((OpenSpec.ofChange Rows.superPlaysSpec).preRow enc Tryz.prog Tryz.f3 Rows.superPlaysRow.domain false Rows.superPlaysRow.laid) (((OpenSpec.ofChange Rows.superPlaysSpec).at F).post enc Tryz.prog Tryz.f3 false true false false) := by
  obtain ⟨places, hx⟩ := reads os enc
  refine returnsInHanded_of_row (C := Tryz.checked) (s := OpenSpec.ofChange Rows.superPlaysSpec) Tryz.own started (by kernel_rfl) Tryz.func3
    (witness_row_at (enc := enc) (C := Tryz.checked) false (laidWorld os) #[.int .i64 0, .int .i64 0, .int .i64 0, .int .i64 0, .slice none 0 0] rfl (by kernel_rfl) (by kernel_rfl) (by kernel_rfl)
      (OpenSpec.preRow_of_cond 8 hx (by kernel_rfl) (fun k hk => by cases hk) (by kernel_rfl) (laidWorld_met os _))) ?_
  intro W base args ds gs before hval hW _ _ _ hL _ _
  exact contract H enc W base args ds gs before hval hW hL

theorem said : Rows.SuperPlaysSaid :=
  OpenClaim.holds_of_cond 3 Tryz.f3 rfl rfl rfl rfl rfl rfl rfl ⟨rfl, rfl, rfl, rfl, rfl⟩ rfl rfl rfl rfl rfl (by kernel_rfl) Tryz.func3 (by kernel_rfl)
    (of_decide_eq_true (by kernel_rfl)) (by unfold Func.isWrapper; first | (rw [if_pos (by decide +kernel)]; kernel_rfl) | (rw [if_neg (by decide +kernel)]; exact ⟨rfl, rfl⟩))
    (fun os started H enc _ F => by rw [OpenClaim.pre_eq_preRow]; exact lifted os started H enc F)

theorem plain (f : FuncId) (fn : Func) (hf : Tryz.pinned.checked.prog.funcNamed "stave/stavelaw9.SuperPlays" = some f) (hfn : Tryz.pinned.checked.prog.funcs[f]? = some fn) :
    true = Tryz.pinned.checked.prog.looks [] ∧ ∀ (j : Nat) t, fn.params[j]? = some t → Tryz.pinned.checked.prog.wantsStandIn t = false := by
  obtain rfl : f = 3 := Option.some.inj ((show Tryz.prog.funcNamed "stave/stavelaw9.SuperPlays" = some 3 by kernel_rfl).symm.trans hf) |>.symm
  obtain rfl : fn = Tryz.f3 := (Option.some.inj (Tryz.func3.symm.trans hfn)).symm
  have hall : (Tryz.f3.params.toList.all fun t => !Tryz.prog.wantsStandIn t) = true := by kernel_rfl
  refine ⟨by kernel_rfl, fun j t ht => ?_⟩
  have := List.all_eq_true.1 hall t (by simpa using Array.mem_of_getElem? ht)
  have h2 : Tryz.prog.wantsStandIn t = false := by simpa using this
  exact h2

end Go.Proofs.YtidnmkghmaeniaaGreatDoor.superPlays
namespace Go.Proofs.YtidnmkghmaeniaaGreatDoor
theorem SuperPlays_card : Rows.SuperPlaysCardSaid :=
  Claim7.holds_tied_plain_at .later [] _ _ _ _ superPlays.said (fun _ h => by cases h) (by kernel_rfl) (fun _ h => by cases h) superPlays_row_tie rfl ⟨rfl, rfl⟩ (by kernel_rfl) rfl superPlays.plain (by kernel_rfl)
#print axioms SuperPlays_card
end Go.Proofs.YtidnmkghmaeniaaGreatDoor
