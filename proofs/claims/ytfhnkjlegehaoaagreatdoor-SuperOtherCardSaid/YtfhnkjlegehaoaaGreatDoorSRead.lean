/-
  super.read.
-/
import Derived.Test.YtfhnkjlegehaoaaGreatDoorSSmall
import Derived.RegionTactic
import Derived.BigRegion
namespace Go.Proofs.YtfhnkjlegehaoaaGreatDoor
open Go.RowKit Go.Deep Crc Dk Qk Go.Maps Hf
/-- The superblock's bytes lie in a block. -/
def DaB (d : List UInt8) (b : Nat) (w : World) : Prop := d.length = 108 ∧ w.heap[b]? = some (.cells (bytesV d).toArray 70 (0, 0))
theorem DaB.below {d : List UInt8} {b B : Nat} {w w' : World} (h : DaB d b w) (hb : b < B) (hB : Below B w w') : DaB d b w' := ⟨h.1, by rw [hB.block b hb]; exact h.2⟩
theorem DaB.cell {d : List UInt8} {b k : Nat} {w : World} (h : DaB d b w) (hk : k < 108) : w.cell? ⟨b, k, none⟩ = some (.int .u8 ((d.getD k 0).toNat : Int)) := by
  rw [cell_of_row _ b k _ _ (0, 0) h.2]
  have := bytesV_at (l := d) (i := k) (by have := h.1; omega)
  simpa using this
/-- The first k bytes of the number have been read. -/
def readP (d : List UInt8) (k : Nat) : Cf := ⟨(leV (d.take k) : Int), ((d.getD 4 0).toNat : Int), ((d.getD 5 0).toNat : Int), ((d.getD 6 0).toNat : Int), ((d.getD 7 0).toNat : Int)⟩
theorem readP_done (d : List UInt8) : readP d 4 = readC d := rfl
def RelRd (d : List UInt8) (w : World) (x : Value) (wr : World) : Prop :=
  ∃ k : Nat, k ≤ 4 ∧ x = .int .i64 k ∧ DaB d w.heap.size wr ∧ CfB zeroC (w.heap.size + 1) wr ∧ CfB (readP d k) (w.heap.size + 2) wr ∧ Below w.heap.size w wr
def CfOut (c : Cf) (w : World) (e : Ending) (w' : World) : Prop := e = .returned (.agg (cfA c)) ∧ Below w.heap.size w w'
theorem read_or (d : List UInt8) (hd : d.length = 108) {k : Nat} (hk : k < 4) : bits .or .i64 (leV (d.take k) : Int) (wrap64 (((d.getD k 0).toNat : Int) * 2 ^ (8 * k))) = (leV (d.take (k + 1)) : Int) := by
  have h := or_next (l := d.take 4) (k := k) (by rw [List.length_take]; omega) (by rw [List.length_take]; omega)
  have e1 : (d.take 4).take k = d.take k := by rw [List.take_take, Nat.min_eq_left (by omega)]
  have e2 : (d.take 4).take (k + 1) = d.take (k + 1) := by rw [List.take_take, Nat.min_eq_left (by omega)]
  have e3 : (d.take 4).getD k 0 = d.getD k 0 := by simp [List.getD, hk]
  rw [e1, e2, e3] at h
  have l1 := leV_lt (d.take k)
  have l2 := leV_lt (d.take (k + 1))
  rw [List.length_take] at l1 l2
  have p1 : 2 ^ (8 * min k d.length) ≤ 2 ^ 32 := Nat.pow_le_pow_right (by decide) (by omega)
  have p2 : 2 ^ (8 * min (k + 1) d.length) ≤ 2 ^ 32 := Nat.pow_le_pow_right (by decide) (by omega)
  have i1 : int64 (leV (d.take k)) = (leV (d.take k) : Int) := if_pos (by omega)
  have i2 : int64 (leV (d.take (k + 1))) = (leV (d.take (k + 1)) : Int) := if_pos (by omega)
  rw [i1, i2] at h
  exact h
set_option maxHeartbeats 2000000 in
set_option maxRecDepth 100000 in
theorem sread_any (d : List UInt8) (w : World) (hd : d.length = 108) : Calls Tryz.prog 62 #[.agg (bytesV d).toArray] w (CfOut (readC d) w) := by
  have hc : (Value.agg (bytesV d).toArray).cells = (bytesV d).toArray := rfl
  have hl : (bytesV d).length = 108 := by rw [bytesV_length, hd]
  have at_ : ∀ (i : Nat) (hi : i < (bytesV d).length), (bytesV d)[i]'hi = .int .u8 ((d.getD i 0).toNat : Int) := fun i hi => by
    have h1 := bytesV_at (l := d) (i := i) (by omega)
    rw [List.getElem?_eq_getElem hi] at h1
    exact Option.some.inj h1
  have b4 := at_ 4 (by omega)
  have b5 := at_ 5 (by omega)
  have b6 := at_ 6 (by omega)
  have b7 := at_ 7 (by omega)
  have y4 := u8_lt (d.getD 4 0)
  have y5 := u8_lt (d.getD 5 0)
  have y6 := u8_lt (d.getD 6 0)
  have y7 := u8_lt (d.getD 7 0)
  have HB0 := Lib.hid (show RelRd d w (.int .i64 0) (((w.alloc (.cells (bytesV d).toArray 70)).alloc (.cells (cfA zeroC) 23)).alloc (.cells (cfA (readP d 0)) 23)) from by
    refine ⟨0, by omega, rfl, ?_, ?_, ?_, balloc (balloc (one_below _ _) _) _⟩
    · exact (show DaB d w.heap.size (w.alloc (.cells (bytesV d).toArray 70)) from ⟨hd, heap_alloc_new w _⟩).below (B := w.heap.size + 1) (by omega) ((balloc (one_below _ _) _).mono (by simp))
    · have := (show CfB zeroC (w.alloc (.cells (bytesV d).toArray 70)).heap.size ((w.alloc (.cells (bytesV d).toArray 70)).alloc (.cells (cfA zeroC) 23)) from heap_alloc_new _ _)
      exact (show CfB zeroC (w.heap.size + 1) _ by simpa using this).below (B := w.heap.size + 2) (by omega) ((one_below _ _).mono (by simp))
    · have := (show CfB (readP d 0) ((w.alloc (.cells (bytesV d).toArray 70)).alloc (.cells (cfA zeroC) 23)).heap.size (((w.alloc (.cells (bytesV d).toArray 70)).alloc (.cells (cfA zeroC) 23)).alloc (.cells (cfA (readP d 0)) 23)) from heap_alloc_new _ _)
      simpa using this)
  clear at_
  have hr0 : cfA (readP d 0) = #[.int .i64 0, .int .i64 ((d.getD 4 0).toNat : Int), .int .i64 ((d.getD 5 0).toNat : Int), .int .i64 ((d.getD 6 0).toNat : Int), .int .i64 ((d.getD 7 0).toNat : Int)] := rfl
  rw [hr0] at HB0
  clear hr0
  generalize (d.getD 4 0).toNat = x4 at *
  generalize (d.getD 5 0).toNat = x5 at *
  generalize (d.getD 6 0).toNat = x6 at *
  generalize (d.getD 7 0).toNat = x7 at *
  go_enter Tryz.func62, Tryz.ntmps62
  go_wp2_with fail
  go_loopw [18] (fun x wr => RelRd d w x wr) (fun x _ => 4 - (intOf x).toNat)
  case atStart => exact HB0.out
  case round =>
    obtain ⟨j, hj, rfl, hda, hzz, hcc, hb⟩ := hrel
    by_cases hlt : j < 4
    · have e0 := hcc.cell 0
      have e1 := hda.cell (k := j) (by omega)
      have e2 := frozen_of_row wr (w.heap.size + 2) 0 _ _ hcc
      have e3 : (j : Int) < 108 := by omega
      have yj := u8_lt (d.getD j 0)
      have HOR := Lib.hid (read_or d hd hlt)
      have HN := Lib.hid (show RelRd d w (.int .i64 ((j : Int) + 1)) (wr.setCell ⟨w.heap.size + 2, 0, none⟩ (.int .i64 (leV (d.take (j + 1)) : Int))) from by
        refine ⟨j + 1, by omega, by go_num, hda.below (B := w.heap.size + 2) (by omega) ((Below.refl (w.heap.size + 2) wr).setCell (Nat.le_refl _) _), hzz.below (B := w.heap.size + 2) (by omega) ((Below.refl (w.heap.size + 2) wr).setCell (Nat.le_refl _) _), ?_, hb.setCell (Nat.le_add_right _ _) _⟩
        exact heap_setCell_same wr (w.heap.size + 2) 0 _ _ _ hcc)
      generalize (d.getD j 0).toNat = y at *
      clear hda hzz hcc hb
      go_wp2_with fail
      go_region
      go_wp2_with fail
      go_roundw
      case rel =>
        have e : bits BinOp.or IntKind.i64 (readP d j).id (wrap64 ((y : Int) * 2 ^ (8 * j))) = (leV (d.take (j + 1)) : Int) := HOR.out
        rw [e]
        obtain ⟨k, hk, h1, h2, h3, h4, h5⟩ := HN.out
        exact ⟨k, hk, h1, h2.below (B := w.heap.size + 2) (by omega) (Below.refl _ _).drew, h3.below (B := w.heap.size + 2) (by omega) (Below.refl _ _).drew, h4.below (B := w.heap.size + 3) (by omega) (Below.refl _ _).drew, h5.drew⟩
      case measure => simp [intOf]; omega
    · obtain rfl : j = 4 := by omega
      obtain ⟨e0, e1, e2, e3, e4⟩ := hcc.cells
      obtain ⟨z0, z1, z2, z3, z4⟩ := hzz.cells
      obtain ⟨q0, q1, q2, q3, q4⟩ := hzz.free
      have HZF := Lib.hid (hzz.fill (readP d 4)).cells
      have HBF := Lib.hid (fillC_below hb (Nat.le_succ w.heap.size) (readP d 4))
      clear hda hzz hcc hb
      go_wp2_with fail
      obtain ⟨g0, g1, g2, g3, g4⟩ := HZF.out
      exact bodyPost_ret (v := .agg (cfA (readP d 4))) (by simp [results, Tryz.results62, go_sem, g0, g1, g2, g3, g4]) rfl ⟨rfl, HBF.out⟩
end Go.Proofs.YtfhnkjlegehaoaaGreatDoor
