/-
  Two rows of bytes that one statement makes, in whatever order: p, q := append([]byte{}, a..), append([]byte{}, b..).
-/
import Derived.Test.YtbokangpcjeofaaGreatDoorBytes
namespace Go.Proofs.YtbokangpcjeofaaGreatDoor
open Go.RowKit
/-- The row of buildSlice, no cell long. -/
def Empty (B : Nat) (w : World) (g : Nat) : Prop := w.ownsRow B 5 1 (.slice (some ⟨g, 0, none⟩) 0 0) 0 []
theorem empty_new (B : Nat) (w wx : World) (hB : B ≤ w.heap.size) (h : wx.heap = (w.alloc (.cells #[] 5)).heap) : Empty B wx w.heap.size := by
  refine ⟨rfl, Or.inr ⟨w.heap.size, 0, #[], rfl, hB, ?_, Nat.le_refl _, Nat.zero_le _, rfl, rfl⟩⟩
  rw [h]; exact heap_alloc_new w _
theorem empty_new' (B : Nat) (w wx : World) (g : Nat) (hg : g = w.heap.size) (hB : B ≤ w.heap.size) (h : wx.heap = (w.alloc (.cells #[] 5)).heap) : Empty B wx g := by
  rw [hg]; exact empty_new B w wx hB h
theorem Empty.lt {B g : Nat} {w : World} (h : Empty B w g) : B ≤ g ∧ g < w.heap.size := by have := own_lt h; exact ⟨this.1, this.2.1⟩
theorem Empty.push {B g : Nat} {w wx : World} (h : Empty B w g) (o : Obj) (hx : wx.heap = (w.alloc o).heap) : Empty B wx g := by
  have h1 := own_below h (one_below w o)
  obtain ⟨a, b⟩ := h1
  exact ⟨a, by rw [hx]; exact b⟩
theorem SlB.heap {B : Nat} {w wx : World} {v : Value} {l : List UInt8} (h : SlB B w v l) (w1 : World) (hb : Below w1.heap.size w w1) (hB : B ≤ w1.heap.size) (hx : wx.heap = w1.heap) : SlB B wx v l := by
  refine h.mono fun b o hlt => ?_
  have h1 := hb.cell (p := ⟨b, o, none⟩) (show b < w1.heap.size by omega)
  unfold World.cell? at *
  rw [hx]; exact h1
theorem Grew.ne {w w' : World} {r r' : Option Nat} (h : Grew w r w' r') {g : Nat} (hg : g < w.heap.size) (hr : r ≠ some g) : r' ≠ some g := by
  rcases h.own with e | e
  · rw [e]; exact hr
  · intro e'; have := e g e'; omega
/-- Both rows, apart. -/
structure Twin (w1 : World) (v u : Value) (l m : List UInt8) (w : World) : Prop where
  fst : w.ownsRow w1.heap.size 5 1 v l.length (bytesV l)
  snd : w.ownsRow w1.heap.size 5 1 u m.length (bytesV m)
  apart : v.ownBlock = none ∨ v.ownBlock ≠ u.ownBlock
  apart' : u.ownBlock = none ∨ u.ownBlock ≠ v.ownBlock
  below : Below w1.heap.size w1 w
theorem Twin.swap {w1 w : World} {v u : Value} {l m : List UInt8} (h : Twin w1 v u l m w) : Twin w1 u v m l w := ⟨h.snd, h.fst, h.apart', h.apart, h.below⟩
/-- Behind the first of the two. -/
structure One (w1 : World) (v : Value) (l : List UInt8) (w : World) : Prop where
  fst : w.ownsRow w1.heap.size 5 1 v l.length (bytesV l)
  below : Below w1.heap.size w1 w
theorem one_of {w1 wx w2 : World} {v2 : Value} {g : Nat} {l : List UInt8} (hb : Below w1.heap.size w1 wx) (he : Empty w1.heap.size wx g) (hown : w2.ownsRow w1.heap.size 5 1 v2 (0 + l.length) ([] ++ bytesV l)) (hg : Grew wx (some g) w2 v2.ownBlock) : One w1 v2 l w2 := by
  rw [Nat.zero_add, List.nil_append] at hown
  exact ⟨hown, hb.trans (hg.below hb.size fun k hk => by injection hk with hk; have := he.lt; omega)⟩
/-- The other row, not yet written, stays. -/
theorem Empty.kept {w1 wx w2 : World} {r' : Option Nat} {g g' : Nat} (he : Empty w1.heap.size wx g') (hg : Grew wx (some g) w2 r') (hne : g' ≠ g) : Empty w1.heap.size w2 g' ∧ r' ≠ some g' :=
  ⟨World.ownsRow.kept he hg.by_ (Or.inr fun e => hne (by injection e)), hg.ne he.lt.2 fun e => hne (by injection e with e; exact e.symm)⟩
theorem twin_of {w1 wx w2 : World} {v u : Value} {g : Nat} {l m : List UInt8} (h1 : One w1 v l wx) (he : Empty w1.heap.size wx g) (hne : v.ownBlock ≠ some g) (hown : w2.ownsRow w1.heap.size 5 1 u (0 + m.length) ([] ++ bytesV m)) (hg : Grew wx (some g) w2 u.ownBlock) : Twin w1 v u l m w2 := by
  have h2 := one_of h1.below he hown hg
  have hap : v.ownBlock = none ∨ v.ownBlock ≠ u.ownBlock := by
    cases hv : v.ownBlock with
    | none => exact Or.inl rfl
    | some k =>
      have hk := (own_block h1.fst hv).2
      refine Or.inr fun e => ?_
      exact hg.ne hk (fun e' => hne (by rw [hv]; exact e'.symm)) e.symm
  refine ⟨World.ownsRow.kept h1.fst hg.by_ (Or.inr hne), h2.fst, hap, ?_, h2.below⟩
  rcases hap with h | h
  · rw [h]
    cases hu : u.ownBlock with
    | none => exact Or.inl rfl
    | some k => exact Or.inr (by simp)
  · exact Or.inr fun e => h e.symm
theorem one_push {w1 w wx : World} {v : Value} {l : List UInt8} (h : One w1 v l w) (o : Obj) (hx : wx.heap = (w.alloc o).heap) (hb : Below w1.heap.size w1 wx) : One w1 v l wx := by
  have h1 := own_below h.fst (one_below w o)
  obtain ⟨a, b⟩ := h1
  exact ⟨⟨a, by rw [hx]; exact b⟩, hb⟩
theorem one_ne {w1 w : World} {v : Value} {l : List UInt8} (h : One w1 v l w) : v.ownBlock ≠ some w.heap.size := fun e => by have := (own_block h.fst e).2; omega
theorem Twin.below_ {w1 w w' : World} {v u : Value} {l m : List UInt8} (h : Twin w1 v u l m w) (hb : Below w.heap.size w w') : Twin w1 v u l m w' :=
  ⟨own_below h.fst hb, own_below h.snd hb, h.apart, h.apart', h.below.trans (hb.mono h.below.size)⟩
theorem Twin.fst_to {w1 w w' : World} {v u : Value} {l l' m : List UInt8} (h : Twin w1 v u l m w) (ha : w'.ownsRow w1.heap.size 5 1 v l'.length (bytesV l')) (hg : Grew w v.ownBlock w' v.ownBlock) : Twin w1 v u l' m w' :=
  ⟨ha, World.ownsRow.kept h.snd hg.by_ h.apart', h.apart, h.apart', h.below.trans (hg.below h.below.size fun _ hk => (own_block h.fst hk).1)⟩
theorem Twin.snd_to {w1 w w' : World} {v u : Value} {l m m' : List UInt8} (h : Twin w1 v u l m w) (ha : w'.ownsRow w1.heap.size 5 1 u m'.length (bytesV m')) (hg : Grew w u.ownBlock w' u.ownBlock) : Twin w1 v u l m' w' :=
  (h.swap.fst_to ha hg).swap
end Go.Proofs.YtbokangpcjeofaaGreatDoor
