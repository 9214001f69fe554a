/-
  stavekeep.Block and Frame of any numbers: the bytes told by a function.
-/
import Derived.Test.YtdcpgpgomnpefaaGreatDoorHGet
namespace Go.Proofs.YtdcpgpgomnpefaaGreatDoor
open Go.RowKit Crc Hf
def szBk : Nat := 108
theorem szBk_run (w : World) : (sizeOf 134).run Tryz.prog w = .ok szBk w := by go_simp; rfl
theorem zero_block (w : World) : (zeroValue 134).run Tryz.prog w = .ok (.agg (bytesV (List.replicate 108 0)).toArray) w := by
  have h : (Tryz.prog.info? 134).map (fun i => (i.zero, i.size)) = some (some (.agg (bytesV (List.replicate 108 0)).toArray), 108) := by kernel_rfl
  exact (zero_of_info h).1 w
/-- A block's bytes lie in block b, and may be written. -/
def BIn (d : List UInt8) (b : Nat) (w : World) : Prop := d.length = 108 ∧ w.heap[b]? = some (.cells (bytesV d).toArray 134 (0, 0))
theorem BIn.cell {d : List UInt8} {b : Nat} {w : World} (h : BIn d b w) {i : Nat} (hi : i < 108) : w.cell? ⟨b, i, none⟩ = some (.int .u8 ((d.getD i 0).toNat : Int)) := by
  rw [cell_of_row _ b i _ _ (0, 0) h.2]
  have := bytesV_at (l := d) (i := i) (by have := h.1; omega)
  simpa using this
theorem BIn.free {d : List UInt8} {b : Nat} {w : World} (h : BIn d b w) (i : Nat) : w.frozen? ⟨b, i, none⟩ = false := by
  unfold World.frozen?
  rw [h.2]
  simp
theorem BIn.set {d : List UInt8} {b : Nat} {w : World} (h : BIn d b w) (i : Nat) (v : Int) (h0 : 0 ≤ v) (h1 : v < 256) : BIn (d.set i (UInt8.ofNat v.toNat)) b (w.setCell ⟨b, i, none⟩ (.int .u8 v)) := by
  refine ⟨by rw [List.length_set]; exact h.1, ?_⟩
  show (w.heap.modify b _)[b]? = _
  rw [Array.getElem?_modify, if_pos rfl, h.2]
  show some (Obj.cells ((bytesV d).toArray.setIfInBounds i (.int .u8 v)) _ _) = _
  congr 2
  simp only [List.setIfInBounds_toArray]
  congr 1
  rw [← bytesV_set, ofNat_toNat, show ((v.toNat % 256 : Nat) : Int) = v by omega]
theorem BIn.load {d : List UInt8} {b : Nat} {w : World} (h : BIn d b w) : (loadCellsFrom ⟨b, 0, none⟩ 0 szBk #[]).run Tryz.prog w = .ok (bytesV d).toArray w := by
  have hl : (bytesV d).length = 108 := by rw [bytesV_length]; exact h.1
  have := run_loadCells_list (P := Tryz.prog) w ⟨b, 0, none⟩ (bytesV d) (fun j v hv => by
    rw [Addr.add_mid, Nat.zero_add, cell_of_row _ b j _ _ (0, 0) h.2]; simpa using hv)
  rw [hl] at this
  exact this
theorem BIn.store {d e : List UInt8} {b : Nat} {w : World} (h : BIn d b w) (he : e.length = 108) : (storeCells ⟨b, 0, none⟩ (bytesV e) 0).run Tryz.prog w = .ok () (w.setRow b (bytesV e).toArray) := by
  have hd := h.1
  have hs := run_storeCells_at Tryz.prog b 0 134 (bytesV e) 0 (bytesV d).toArray w h.2 (by simp [bytesV_length, hd, he]) (fun v hv => by obtain ⟨c, _, rfl⟩ := List.mem_map.1 hv; rfl)
  simp only [Nat.add_zero, Nat.zero_add, List.take_zero, List.nil_append] at hs
  rw [hs, bytesV_length, he, List.drop_of_length_le (by simp [bytesV_length, hd]), List.append_nil]
theorem BIn.stored {d e : List UInt8} {b : Nat} {w : World} (h : BIn d b w) (he : e.length = 108) : BIn e b (w.setRow b (bytesV e).toArray) := ⟨he, setRow_heap w b _ _ _ _ h.2⟩
theorem BIn.below {d : List UInt8} {b B : Nat} {w w' : World} (h : BIn d b w) (hb : b < B) (hB : Below B w w') : BIn d b w' := ⟨h.1, by rw [hB.block b hb]; exact h.2⟩
theorem bin_new (w : World) : BIn (List.replicate 108 0) w.heap.size (w.alloc (.cells (bytesV (List.replicate 108 0)).toArray 134)) := ⟨by simp, heap_alloc_new w _⟩
/-- The number that byte i of a block is made of. -/
def blkV (n : Int) (i : Nat) : Int := wrap64 (wrap64 (n * ((i : Int) + 3)) + (i : Int) / 8) % 256
def blkB (n : Int) (i : Nat) : UInt8 := UInt8.ofNat (blkV n i).toNat
/-- The first k bytes of the block of n. -/
def blkP (n : Int) (k : Nat) : List UInt8 := (List.range 108).map fun i => if i < k then blkB n i else 0
def blkL (n : Int) : List UInt8 := blkP n 108
theorem blkP_length (n : Int) (k : Nat) : (blkP n k).length = 108 := by simp [blkP]
theorem blkL_length (n : Int) : (blkL n).length = 108 := blkP_length n 108
theorem blkP_zero (n : Int) : blkP n 0 = List.replicate 108 0 := by
  refine List.ext_getElem (by simp [blkP]) fun i h1 h2 => ?_
  rw [List.getElem_replicate]
  simp [blkP]
theorem blkP_succ {n : Int} {k : Nat} (hk : k < 108) : (blkP n k).set k (blkB n k) = blkP n (k + 1) := by
  refine List.ext_getElem (by simp [blkP]) fun i h1 h2 => ?_
  have hi : i < 108 := by simpa [blkP] using h2
  by_cases e : i = k
  · subst e; simp [blkP]
  · rw [List.getElem_set_ne (fun q => e q.symm)]
    simp only [blkP, List.getElem_map, List.getElem_range]
    by_cases h : i < k
    · rw [if_pos h, if_pos (by omega)]
    · rw [if_neg h, if_neg (by omega)]
/-- The block of n is answered. -/
def BlockB (n : Int) (w : World) (e : Ending) (w' : World) : Prop := e = .returned (.agg (bytesV (blkL n)).toArray) ∧ Below w.heap.size w w'
def RelBl (n : Int) (w : World) (i : Value) (wr : World) : Prop := ∃ k : Nat, k ≤ 108 ∧ i = .int .i64 k ∧ BIn (List.replicate 108 0) w.heap.size wr ∧ BIn (blkP n k) (w.heap.size + 1) wr ∧ Below w.heap.size w wr
set_option maxHeartbeats 2000000 in
set_option maxRecDepth 100000 in
theorem block_any (n : Int) (w : World) : Calls Tryz.prog 75 #[.int .i64 n] w (BlockB n w) := by
  have hz := szBk_run
  have hz0 := zero_block
  have hc : (Value.agg (bytesV (List.replicate 108 0)).toArray).cells = (bytesV (List.replicate 108 0)).toArray := rfl
  generalize hO : (bytesV (List.replicate 108 0)).toArray = O at *
  have HO := Lib.hid hO
  clear hO
  go_enter Tryz.func75, Tryz.ntmps75
  go_wp2_with fail
  go_loopw [5] (fun i wr => RelBl n w i wr) (fun i _ => 108 - (intOf i).toNat)
  case atStart =>
    refine ⟨0, Nat.zero_le _, rfl, ?_, ?_, balloc (one_below _ _) _⟩
    · rw [← HO.out]; exact (bin_new w).below (by simp) (one_below _ _)
    · rw [blkP_zero, ← HO.out]; have := bin_new (w.alloc (.cells (bytesV (List.replicate 108 0)).toArray 134)); simpa using this
  case round =>
    obtain ⟨k, hk, rfl, h0, hd, hb⟩ := hrel
    by_cases hlt : k < 108
    · have c1 := hd.cell hlt
      have c2 := hd.free k
      have HN := Lib.hid (fun (v : Int) (hv : v = blkV n k) (hv0 : 0 ≤ v) (hv1 : v < 256) => (show RelBl n w (.int .i64 ((k : Int) + 1)) (wr.setCell ⟨w.heap.size + 1, k, none⟩ (.int .u8 v)) from
        ⟨k + 1, by omega, by go_num, h0.below (Nat.lt_succ_self _) ((Below.refl (w.heap.size + 1) wr).setCell (Nat.le_refl _) _), by
          have := hd.set k v hv0 hv1
          rw [show UInt8.ofNat v.toNat = blkB n k by rw [hv]; rfl, blkP_succ hlt] at this
          exact this, hb.setCell (Nat.le_succ _) _⟩))
      generalize ((blkP n k).getD k 0).toNat = y at *
      clear h0 hd hb
      go_wp2_with fail
      go_roundw
      case rel => exact HN.out _ rfl (Int.emod_nonneg _ (by decide)) (Int.emod_lt_of_pos _ (by decide))
      case measure => simp [intOf]; omega
    · have hd1 := hd.1
      obtain rfl : k = 108 := by omega
      have hdl : (bytesV (blkP n 108)).length = szBk := by rw [bytesV_length, hd1]; rfl
      have hl1 := hd.load
      have hs1 := h0.store hd1
      have HL := Lib.hid (h0.stored hd1).load
      have HB := Lib.hid hb
      have hcd : (Value.agg (bytesV (blkP n 108)).toArray).cells = (bytesV (blkP n 108)).toArray := rfl
      clear h0 hd hb hk hlt
      generalize hbd : bytesV (blkP n 108) = D at *
      have HBD := Lib.hid hbd
      clear hbd
      go_wp2_with fail
      have hl2 := HL.out
      exact bodyPost_ret (v := .agg D.toArray) (by simp [results, Tryz.results75, go_sem, hz, hl2]) rfl ⟨by rw [← HBD.out]; rfl, setRow_below HB.out (Nat.le_refl _) _⟩
theorem wpList_val {P : Program} {w : World} {ops : Array Oper} {rest : List Oper} {o : Oper} {a : Act} {Q : Exit → Act → World → Prop} (hg : o.guard = none) (v : Value) (hr : (execOp a.eval o).run P w = .ok (.value v) w)
    (h : wpList P ops Q rest (a.put o.dst v) w) : wpList P ops Q (o :: rest) a w :=
  wpList_plain hg fun _ hK => by
    unfold Oper.wp
    rw [hr]
    exact hK _ _ h
/-- The frame of numbers. -/
def frK (k s t g n : Int) : Fr := ⟨k, s, t, g, blkL n⟩
theorem frK_is (k s t g n : Int) : (frK k s t g n).is := blkL_length n
def FrameK (f : Fr) (w : World) (e : Ending) (w' : World) : Prop := e = .returned (.agg (frA f)) ∧ Below w.heap.size w w'
end Go.Proofs.YtdcpgpgomnpefaaGreatDoor
