/-
  super.read.
-/
import Derived.Test.YtidnmkghmaeniaaGreatSBase
import Derived.RegionTactic
import Derived.BigRegion
import Derived.Test.YtidnmkghmaeniaaGreatHGet
import Derived.Test.YtidnmkghmaeniaaGreatHRef
import Derived.Deep.RegionHeld3
namespace Go.Proofs.YtidnmkghmaeniaaGreat
open Go.RowKit Go.Deep Crc Dk Qk Go.Maps Hf
/-- The superblock's bytes lie in a block. -/
def DaB (d : List UInt8) (b : Nat) (w : World) : Prop := d.length = 108 ∧ w.heap[b]? = some (.cells (bytesV d).toArray 38 (0, 0))
theorem DaB.below {d : List UInt8} {b B : Nat} {w w' : World} (h : DaB d b w) (hb : b < B) (hB : Below B w w') : DaB d b w' := ⟨h.1, by rw [hB.block b hb]; exact h.2⟩
theorem DaB.cell {d : List UInt8} {b k : Nat} {w : World} (h : DaB d b w) (hk : k < 108) : w.cell? ⟨b, k, none⟩ = some (.int .u8 ((d.getD k 0).toNat : Int)) := by
  rw [cell_of_row _ b k _ _ (0, 0) h.2]
  have := bytesV_at (l := d) (i := k) (by have := h.1; omega)
  simpa using this
/-- The first k bytes of the number have been read. -/
def readP (d : List UInt8) (k : Nat) : Cf := ⟨(leV (d.take k) : Int), ((d.getD 4 0).toNat : Int), ((d.getD 5 0).toNat : Int), ((d.getD 6 0).toNat : Int), ((d.getD 7 0).toNat : Int)⟩
theorem readP_done (d : List UInt8) : readP d 4 = readC d := rfl
def RelRd (d : List UInt8) (w : World) (x : Value) (wr : World) : Prop :=
  ∃ k : Nat, k ≤ 4 ∧ x = .int .i64 k ∧ DaB d w.heap.size wr ∧ CfB zeroC (w.heap.size + 1) wr ∧ CfB (readP d k) (w.heap.size + 2) wr ∧ Below w.heap.size w wr
def CfOut (c : Cf) (w : World) (e : Ending) (w' : World) : Prop := e = .returned (.agg (cfA c)) ∧ Below w.heap.size w w'
theorem read_or (d : List UInt8) (hd : d.length = 108) {k : Nat} (hk : k < 4) : bits .or .i64 (leV (d.take k) : Int) (wrap64 (((d.getD k 0).toNat : Int) * 2 ^ (8 * k))) = (leV (d.take (k + 1)) : Int) := by
  have h := or_next (l := d.take 4) (k := k) (by rw [List.length_take]; omega) (by rw [List.length_take]; omega)
  have e1 : (d.take 4).take k = d.take k := by rw [List.take_take, Nat.min_eq_left (by omega)]
  have e2 : (d.take 4).take (k + 1) = d.take (k + 1) := by rw [List.take_take, Nat.min_eq_left (by omega)]
  have e3 : (d.take 4).getD k 0 = d.getD k 0 := by simp [List.getD, hk]
  rw [e1, e2, e3] at h
  have l1 := leV_lt (d.take k)
  have l2 := leV_lt (d.take (k + 1))
  rw [List.length_take] at l1 l2
  have p1 : 2 ^ (8 * min k d.length) ≤ 2 ^ 32 := Nat.pow_le_pow_right (by decide) (by omega)
  have p2 : 2 ^ (8 * min (k + 1) d.length) ≤ 2 ^ 32 := Nat.pow_le_pow_right (by decide) (by omega)
  have i1 : int64 (leV (d.take k)) = (leV (d.take k) : Int) := if_pos (by omega)
  have i2 : int64 (leV (d.take (k + 1))) = (leV (d.take (k + 1)) : Int) := if_pos (by omega)
  rw [i1, i2] at h
  exact h
end Go.Proofs.YtidnmkghmaeniaaGreat
/-
  super.Get (written by gensget.py).
-/
namespace Go.Proofs.YtidnmkghmaeniaaGreat
open Go.RowKit Go.Deep Crc Dk Qk Go.Maps Hf
/-- The bytes of a frame, loaded from within it. -/
def szDa : Nat := 108
theorem szDa_run (w : World) : (sizeOf 38).run Tryz.prog w = .ok szDa w := by go_simp; rfl
theorem FrIn.loadD {f : Fr} {b : Nat} {w' : World} (h : FrIn f b w') : (loadCellsFrom ⟨b, 4, none⟩ 0 szDa #[]).run Tryz.prog w' = .ok (bytesV f.d).toArray w' := by
  have hl : (bytesV f.d).length = 108 := by rw [bytesV_length]; exact h.1
  have := run_loadCells_list (P := Tryz.prog) w' ⟨b, 4, none⟩ (bytesV f.d) (fun j v hv => by
    rw [Addr.add_mid]
    refine h.2 (4 + j) v ?_
    unfold frC
    rw [List.getElem?_append_right (by simp)]
    simpa using hv)
  rw [hl] at this
  exact this
/-- A frame, a configuration, and the place of the answer. -/
def GtS (f : Fr) (b1 : Nat) (cf : Cf) (b2 b0 : Nat) (w w' : World) : Prop := FrIn f b1 w' ∧ CfB cf b2 w' ∧ CfB zeroC b0 w' ∧ b1 < w'.heap.size ∧ b2 < w'.heap.size ∧ b0 < w'.heap.size ∧ Below w.heap.size w w'
theorem GtS.drew {f : Fr} {b1 : Nat} {cf : Cf} {b2 b0 : Nat} {w w' : World} (h : GtS f b1 cf b2 b0 w w') : GtS f b1 cf b2 b0 w w'.drew := ⟨h.1, h.2.1, h.2.2.1, h.2.2.2.1, h.2.2.2.2.1, h.2.2.2.2.2.1, h.2.2.2.2.2.2.drew⟩
theorem GtS.then {f : Fr} {b1 : Nat} {cf : Cf} {b2 b0 : Nat} {w w1 w2 : World} (h : GtS f b1 cf b2 b0 w w1) (hb : Below w1.heap.size w1 w2) : GtS f b1 cf b2 b0 w w2 :=
  ⟨h.1.below h.2.2.2.1 hb, h.2.1.below h.2.2.2.2.1 hb, h.2.2.1.below h.2.2.2.2.2.1 hb, Nat.lt_of_lt_of_le h.2.2.2.1 hb.size, Nat.lt_of_lt_of_le h.2.2.2.2.1 hb.size, Nat.lt_of_lt_of_le h.2.2.2.2.2.1 hb.size, bthen h.2.2.2.2.2.2 hb⟩
def CfBit (c : Cf) (b : Bool) (w : World) (e : Ending) (w' : World) : Prop := e = .returned (.tuple #[.agg (cfA c), .bool b]) ∧ Below w.heap.size w w'
theorem cfB_new (w : World) (c : Cf) : CfB c w.heap.size (w.alloc (.cells (cfA c) 23)) := heap_alloc_new w _
/-- Behind the answer's block: the rack's Get. -/
def SgS (b0 : Nat) (w w' : World) : Prop := CfB zeroC b0 w' ∧ b0 < w'.heap.size ∧ Below w.heap.size w w'
theorem sgS_new (w : World) : SgS w.heap.size w (w.alloc (.cells (cfA zeroC) 23)) := ⟨cfB_new w zeroC, by simp, one_below _ _⟩
theorem SgS.then {b0 : Nat} {w w1 w2 : World} (h : SgS b0 w w1) (hb : Below w1.heap.size w1 w2) : SgS b0 w w2 := ⟨h.1.below h.2.1 hb, Nat.lt_of_lt_of_le h.2.1 hb.size, bthen h.2.2 hb⟩
end Go.Proofs.YtidnmkghmaeniaaGreat
