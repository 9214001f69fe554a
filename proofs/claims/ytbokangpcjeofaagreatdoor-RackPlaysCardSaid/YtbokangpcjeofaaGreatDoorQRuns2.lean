/-
  stavelaw8.sector: a sector all of one byte.
-/
import Derived.Test.YtbokangpcjeofaaGreatDoorDStep
import Derived.Test.YtbokangpcjeofaaGreatDoorHGet
import Derived.Test.YtbokangpcjeofaaGreatDoorQS
import Derived.Test.YtbokangpcjeofaaGreatDoorHRef
import Derived.Deep.RegionHeld3
namespace Go.Proofs.YtbokangpcjeofaaGreatDoor
open Go.RowKit Go.Deep Dk Go.Maps
def secL (x : Nat) : Sec := tab 128 fun _ => x
theorem secL_length (x : Nat) : (secL x).length = 128 := tab_length _ _
theorem secL_zer : secL 0 = zer := by decide +kernel
def RelSec (x : Nat) (w0 : World) (c : Value) (wr : World) : Prop :=
  ∃ k : Nat, k ≤ 128 ∧ c = .int .i64 k ∧ wr.ownsRow w0.heap.size 5 1 (.slice (some ⟨w0.heap.size, 0, none⟩) 128 128) 128 (bytesV (tab 128 fun p => if p < k then x else 0)) ∧ Below w0.heap.size w0 wr
/-- A new slice with these bytes. -/
def NewSl (l : List UInt8) (w : World) (e : Ending) (w' : World) : Prop := ∃ v, e = .returned v ∧ NewRow l w v w' ∧ Below w.heap.size w w'
set_option maxHeartbeats 1000000 in
set_option maxRecDepth 100000 in
theorem sector_any (x : Nat) (hx : x < 256) (w : World) : Calls Tryz.prog 12 #[.int .u8 (x : Int)] w (NewSl (secL x) w) := by
  have hmk : ∀ w, (Instr.makeSlice 38 (.int .i64 128) (.int .i64 128)).run Tryz.prog w = .ok (.slice (some ⟨w.heap.size, 0, none⟩) 128 128) (w.alloc (.cells (madeCells #[.int .u8 0] 128) 5)) := make_u8 128 (by omega)
  have HM := Lib.hid (made_own w w.heap.size 128 (Nat.le_refl _) (by omega))
  have hz : (zeros 128) = tab 128 fun p => if p < 0 then x else 0 := by rw [zeros_tab]; exact tab_congr fun i _ => rfl
  rw [hz] at HM
  generalize hcs : madeCells #[.int .u8 0] 128 = cs at hmk HM
  clear hz hcs
  go_enter Tryz.func12, Tryz.ntmps12
  go_wp2
  go_loopw [8] (fun c wr => RelSec x w c wr) (fun c _ => 128 - (RowKit.intOf c).toNat)
  case atStart => exact ⟨0, by omega, rfl, HM.out, one_below _ _⟩
  case round =>
    obtain ⟨k, hk, rfl, hown, hb⟩ := hrel
    have HO := Lib.hid hown
    have HB := Lib.hid hb
    by_cases hlt : k < 128
    · obtain ⟨v0, hv0⟩ : ∃ v, (bytesV (tab 128 fun p => if p < k then x else 0))[k]? = some v := ⟨_, List.getElem?_eq_getElem (by rw [bytesV_length, tab_length]; exact hlt)⟩
      have hc := own_cell hown hv0
      have hf := own_frozen hown k
      have HS := Lib.hid (own_set hown k (.int .u8 (x : Int)))
      rw [tab_set hx (g := fun p => if p < k + 1 then x else 0) (fun j _ hj => by
        by_cases h : j < k
        · rw [if_pos h, if_pos (by omega)]
        · rw [if_neg h, if_neg (by omega)]) (by rw [if_pos (by omega)])] at HS
      have HB2 := Lib.hid (hb.setCell (p := ⟨w.heap.size, k, none⟩) (Nat.le_refl _) (.int .u8 (x : Int)))
      clear hown hb hv0
      go_wp2
      go_roundw
      case rel => exact ⟨k + 1, by omega, by go_num, HS.out, HB2.out⟩
      case measure => simp [RowKit.intOf]; omega
    · obtain rfl : k = 128 := by omega
      clear hown hb
      go_wp2
      go_ret
      have e : (tab 128 fun p => if p < 128 then x else 0) = secL x := tab_congr fun i hi => if_pos hi
      have h := HO.out
      rw [e] at h
      refine ⟨_, rfl, ⟨w.heap.size, by rw [secL_length]; rfl, Nat.le_refl _, (own_lt h).2.1, holds_own h⟩, HB.out⟩
end Go.Proofs.YtbokangpcjeofaaGreatDoor
/-
  stavekeep.Block and Frame of any numbers: the bytes told by a function.
-/
namespace Go.Proofs.YtbokangpcjeofaaGreatDoor
open Go.RowKit Crc Hf
def szBk : Nat := 108
theorem szBk_run (w : World) : (sizeOf 95).run Tryz.prog w = .ok szBk w := by go_simp; rfl
theorem zero_block (w : World) : (zeroValue 95).run Tryz.prog w = .ok (.agg (bytesV (List.replicate 108 0)).toArray) w := by
  have h : (Tryz.prog.info? 95).map (fun i => (i.zero, i.size)) = some (some (.agg (bytesV (List.replicate 108 0)).toArray), 108) := by kernel_rfl
  exact (zero_of_info h).1 w
/-- A block's bytes lie in block b, and may be written. -/
def BIn (d : List UInt8) (b : Nat) (w : World) : Prop := d.length = 108 ∧ w.heap[b]? = some (.cells (bytesV d).toArray 95 (0, 0))
theorem BIn.cell {d : List UInt8} {b : Nat} {w : World} (h : BIn d b w) {i : Nat} (hi : i < 108) : w.cell? ⟨b, i, none⟩ = some (.int .u8 ((d.getD i 0).toNat : Int)) := by
  rw [cell_of_row _ b i _ _ (0, 0) h.2]
  have := bytesV_at (l := d) (i := i) (by have := h.1; omega)
  simpa using this
theorem BIn.free {d : List UInt8} {b : Nat} {w : World} (h : BIn d b w) (i : Nat) : w.frozen? ⟨b, i, none⟩ = false := by
  unfold World.frozen?
  rw [h.2]
  simp
theorem BIn.set {d : List UInt8} {b : Nat} {w : World} (h : BIn d b w) (i : Nat) (v : Int) (h0 : 0 ≤ v) (h1 : v < 256) : BIn (d.set i (UInt8.ofNat v.toNat)) b (w.setCell ⟨b, i, none⟩ (.int .u8 v)) := by
  refine ⟨by rw [List.length_set]; exact h.1, ?_⟩
  show (w.heap.modify b _)[b]? = _
  rw [Array.getElem?_modify, if_pos rfl, h.2]
  show some (Obj.cells ((bytesV d).toArray.setIfInBounds i (.int .u8 v)) _ _) = _
  congr 2
  simp only [List.setIfInBounds_toArray]
  congr 1
  rw [← bytesV_set, ofNat_toNat, show ((v.toNat % 256 : Nat) : Int) = v by omega]
theorem BIn.load {d : List UInt8} {b : Nat} {w : World} (h : BIn d b w) : (loadCellsFrom ⟨b, 0, none⟩ 0 szBk #[]).run Tryz.prog w = .ok (bytesV d).toArray w := by
  have hl : (bytesV d).length = 108 := by rw [bytesV_length]; exact h.1
  have := run_loadCells_list (P := Tryz.prog) w ⟨b, 0, none⟩ (bytesV d) (fun j v hv => by
    rw [Addr.add_mid, Nat.zero_add, cell_of_row _ b j _ _ (0, 0) h.2]; simpa using hv)
  rw [hl] at this
  exact this
theorem BIn.store {d e : List UInt8} {b : Nat} {w : World} (h : BIn d b w) (he : e.length = 108) : (storeCells ⟨b, 0, none⟩ (bytesV e) 0).run Tryz.prog w = .ok () (w.setRow b (bytesV e).toArray) := by
  have hd := h.1
  have hs := run_storeCells_at Tryz.prog b 0 95 (bytesV e) 0 (bytesV d).toArray w h.2 (by simp [bytesV_length, hd, he]) (fun v hv => by obtain ⟨c, _, rfl⟩ := List.mem_map.1 hv; rfl)
  simp only [Nat.add_zero, Nat.zero_add, List.take_zero, List.nil_append] at hs
  rw [hs, bytesV_length, he, List.drop_of_length_le (by simp [bytesV_length, hd]), List.append_nil]
theorem BIn.stored {d e : List UInt8} {b : Nat} {w : World} (h : BIn d b w) (he : e.length = 108) : BIn e b (w.setRow b (bytesV e).toArray) := ⟨he, setRow_heap w b _ _ _ _ h.2⟩
theorem BIn.below {d : List UInt8} {b B : Nat} {w w' : World} (h : BIn d b w) (hb : b < B) (hB : Below B w w') : BIn d b w' := ⟨h.1, by rw [hB.block b hb]; exact h.2⟩
theorem bin_new (w : World) : BIn (List.replicate 108 0) w.heap.size (w.alloc (.cells (bytesV (List.replicate 108 0)).toArray 95)) := ⟨by simp, heap_alloc_new w _⟩
/-- The number that byte i of a block is made of. -/
def blkV (n : Int) (i : Nat) : Int := wrap64 (wrap64 (n * ((i : Int) + 3)) + (i : Int) / 8) % 256
def blkB (n : Int) (i : Nat) : UInt8 := UInt8.ofNat (blkV n i).toNat
/-- The first k bytes of the block of n. -/
def blkP (n : Int) (k : Nat) : List UInt8 := (List.range 108).map fun i => if i < k then blkB n i else 0
def blkL (n : Int) : List UInt8 := blkP n 108
theorem blkP_length (n : Int) (k : Nat) : (blkP n k).length = 108 := by simp [blkP]
theorem blkL_length (n : Int) : (blkL n).length = 108 := blkP_length n 108
theorem blkP_zero (n : Int) : blkP n 0 = List.replicate 108 0 := by
  refine List.ext_getElem (by simp [blkP]) fun i h1 h2 => ?_
  rw [List.getElem_replicate]
  simp [blkP]
theorem blkP_succ {n : Int} {k : Nat} (hk : k < 108) : (blkP n k).set k (blkB n k) = blkP n (k + 1) := by
  refine List.ext_getElem (by simp [blkP]) fun i h1 h2 => ?_
  have hi : i < 108 := by simpa [blkP] using h2
  by_cases e : i = k
  · subst e; simp [blkP]
  · rw [List.getElem_set_ne (fun q => e q.symm)]
    simp only [blkP, List.getElem_map, List.getElem_range]
    by_cases h : i < k
    · rw [if_pos h, if_pos (by omega)]
    · rw [if_neg h, if_neg (by omega)]
/-- The block of n is answered. -/
def BlockB (n : Int) (w : World) (e : Ending) (w' : World) : Prop := e = .returned (.agg (bytesV (blkL n)).toArray) ∧ Below w.heap.size w w'
def RelBl (n : Int) (w : World) (i : Value) (wr : World) : Prop := ∃ k : Nat, k ≤ 108 ∧ i = .int .i64 k ∧ BIn (List.replicate 108 0) w.heap.size wr ∧ BIn (blkP n k) (w.heap.size + 1) wr ∧ Below w.heap.size w wr
set_option maxHeartbeats 2000000 in
set_option maxRecDepth 100000 in
theorem block_any (n : Int) (w : World) : Calls Tryz.prog 51 #[.int .i64 n] w (BlockB n w) := by
  have hz := szBk_run
  have hz0 := zero_block
  have hc : (Value.agg (bytesV (List.replicate 108 0)).toArray).cells = (bytesV (List.replicate 108 0)).toArray := rfl
  generalize hO : (bytesV (List.replicate 108 0)).toArray = O at *
  have HO := Lib.hid hO
  clear hO
  go_enter Tryz.func51, Tryz.ntmps51
  go_wp2_with fail
  go_loopw [5] (fun i wr => RelBl n w i wr) (fun i _ => 108 - (intOf i).toNat)
  case atStart =>
    refine ⟨0, Nat.zero_le _, rfl, ?_, ?_, balloc (one_below _ _) _⟩
    · rw [← HO.out]; exact (bin_new w).below (by simp) (one_below _ _)
    · rw [blkP_zero, ← HO.out]; have := bin_new (w.alloc (.cells (bytesV (List.replicate 108 0)).toArray 95)); simpa using this
  case round =>
    obtain ⟨k, hk, rfl, h0, hd, hb⟩ := hrel
    by_cases hlt : k < 108
    · have c1 := hd.cell hlt
      have c2 := hd.free k
      have HN := Lib.hid (fun (v : Int) (hv : v = blkV n k) (hv0 : 0 ≤ v) (hv1 : v < 256) => (show RelBl n w (.int .i64 ((k : Int) + 1)) (wr.setCell ⟨w.heap.size + 1, k, none⟩ (.int .u8 v)) from
        ⟨k + 1, by omega, by go_num, h0.below (Nat.lt_succ_self _) ((Below.refl (w.heap.size + 1) wr).setCell (Nat.le_refl _) _), by
          have := hd.set k v hv0 hv1
          rw [show UInt8.ofNat v.toNat = blkB n k by rw [hv]; rfl, blkP_succ hlt] at this
          exact this, hb.setCell (Nat.le_succ _) _⟩))
      generalize ((blkP n k).getD k 0).toNat = y at *
      clear h0 hd hb
      go_wp2_with fail
      go_roundw
      case rel => exact HN.out _ rfl (Int.emod_nonneg _ (by decide)) (Int.emod_lt_of_pos _ (by decide))
      case measure => simp [intOf]; omega
    · have hd1 := hd.1
      obtain rfl : k = 108 := by omega
      have hdl : (bytesV (blkP n 108)).length = szBk := by rw [bytesV_length, hd1]; rfl
      have hl1 := hd.load
      have hs1 := h0.store hd1
      have HL := Lib.hid (h0.stored hd1).load
      have HB := Lib.hid hb
      have hcd : (Value.agg (bytesV (blkP n 108)).toArray).cells = (bytesV (blkP n 108)).toArray := rfl
      clear h0 hd hb hk hlt
      generalize hbd : bytesV (blkP n 108) = D at *
      have HBD := Lib.hid hbd
      clear hbd
      go_wp2_with fail
      have hl2 := HL.out
      exact bodyPost_ret (v := .agg D.toArray) (by simp [results, Tryz.results51, go_sem, hz, hl2]) rfl ⟨by rw [← HBD.out]; rfl, setRow_below HB.out (Nat.le_refl _) _⟩
theorem wpList_val {P : Program} {w : World} {ops : Array Oper} {rest : List Oper} {o : Oper} {a : Act} {Q : Exit → Act → World → Prop} (hg : o.guard = none) (v : Value) (hr : (execOp a.eval o).run P w = .ok (.value v) w)
    (h : wpList P ops Q rest (a.put o.dst v) w) : wpList P ops Q (o :: rest) a w :=
  wpList_plain hg fun _ hK => by
    unfold Oper.wp
    rw [hr]
    exact hK _ _ h
/-- The frame of numbers. -/
def frK (k s t g n : Int) : Fr := ⟨k, s, t, g, blkL n⟩
theorem frK_is (k s t g n : Int) : (frK k s t g n).is := blkL_length n
def FrameK (f : Fr) (w : World) (e : Ending) (w' : World) : Prop := e = .returned (.agg (frA f)) ∧ Below w.heap.size w w'
set_option maxHeartbeats 2000000 in
set_option maxRecDepth 100000 in
theorem frame_any (k s t g n : Int) (w : World) : Calls Tryz.prog 11 #[.int .i64 k, .int .i64 s, .int .i64 t, .int .i64 g, .int .i64 n] w (FrameK (frK k s t g n) w) := by
  have CB : ∀ w, Calls Tryz.prog 51 #[.int .i64 n] w fun e w' => e = .returned (.agg (bytesV (blkL n)).toArray) ∧ Below w.heap.size w w' := fun w => block_any n w
  have HFI := Lib.hid (frK_is k s t g n)
  have HBU : ∀ w : World, (Instr.build 42 #[(0, .int .i64 k), (1, .int .i64 s), (2, .int .i64 t), (3, .int .i64 g), (4, .agg (bytesV (blkL n)).toArray)]).run Tryz.prog w = .ok (.agg (frA (frK k s t g n))) w := fun w => run_build_frame k s t g (blkL n) (blkL_length n) w
  revert CB HBU
  generalize (bytesV (blkL n)).toArray = D
  intro CB HBU
  have CB := Lib.hid CB
  have HBU := Lib.hid HBU
  generalize frK k s t g n = F at *
  have hz := szFr_run
  have hz0 := zero_frame
  have hc : (Value.agg (frA zeroF)).cells = frA zeroF := rfl
  have hsz : (frC zeroF).length = szFr := frC_length zeroF_is
  have HZ := Lib.hid (zin_new w)
  have HB0 := Lib.hid (one_below w (.cells (frA zeroF) 42))
  have hfs : (frC F).length = szFr := frC_length HFI.out
  have hcF : (Value.agg (frA F)).cells = frA F := rfl
  go_enter Tryz.func11, Tryz.ntmps11
  go_wp2_with (first
    | ((with_reducible refine (CB.out _).mono ?_); rintro e w2 ⟨rfl, hb⟩; have hst := (HZ.out.below (by simp) hb).store F HFI.out; have HL := Lib.hid ((HZ.out.below (by simp) hb).load F HFI.out); have HB := Lib.hid (bthen HB0.out hb); clear hb)
    | (refine wpList_val (o := ⟨some 17, _, _, _, _, _⟩) rfl (.agg (frA F)) (run_build_op rfl ?_ (HBU.out _)) ?_; · go_simp))
  have hl2 := HL.out
  exact bodyPost_ret (v := .agg (frA F)) (by simp [results, Tryz.results11, go_sem, hz, hl2]) rfl ⟨rfl, setRow_below HB.out (Nat.le_refl _) _⟩
end Go.Proofs.YtbokangpcjeofaaGreatDoor
/-
  stavelaw8.RackRuns: the chapter's runs.
-/

namespace Go.Proofs.YtbokangpcjeofaaGreatDoor
open Go.RowKit Go.Deep Dk Qk Go.Maps Hf
def rq1 : Rk := (newRk 2 3).arm 2
def rq2 (l : Sec) : Rk := ⟨2, 3, upd (fun _ => new 3) 0 ((new 3).write 1 l), false, 1⟩
def rq3 (l m : Sec) : Rk := ⟨2, 3, upd (upd (fun _ => new 3) 0 ((new 3).write 1 l)) 1 ((new 3).write 1 m), false, 0⟩
def rq4 (l m : Sec) : Rk := ⟨2, 3, upd (upd (fun _ => new 3) 0 ((new 3).write 1 l)) 1 ((new 3).write 1 m), true, 0⟩
theorem rq2_eq {l : Sec} (h : l.length = 128) : rq1.write 0 1 l = rq2 l ∧ rq1.wcode 0 1 l.length = 0 := by
  obtain ⟨e1, e2⟩ := write_goes (q := rq1) (i := 0) (sec := 1) (l := l) rfl ⟨by decide, by decide, h⟩ (by decide)
  exact ⟨e1.trans rfl, e2⟩
theorem rq3_eq {l m : Sec} (h : m.length = 128) : (rq2 l).write 1 1 m = rq3 l m ∧ (rq2 l).wcode 1 1 m.length = 0 := by
  obtain ⟨e1, e2⟩ := write_goes (q := rq2 l) (i := 1) (sec := 1) (l := m) rfl ⟨by decide, (show (1 : Int) < 3 by decide), h⟩ (show ¬ (1 : Int) = 0 by decide)
  exact ⟨e1.trans rfl, e2⟩
theorem rq4_eq (l m : Sec) : (rq3 l m).flush 0 = rq4 l m ∧ (rq3 l m).fcode 0 = 5 := by
  obtain ⟨e1, e2⟩ := flush_last (q := rq3 l m) (i := 0) rfl rfl
  exact ⟨e1.trans rfl, e2⟩
def rq5 (l m : Sec) : Rk := (rq4 l m).boot fun i => [1].getD i 0
theorem qval_at {q : Rk} {i k : Nat} (h1 : i < q.n) (h2 : q.off = false) (h3 : (q.s i).dead = false) (h4 : k < (q.s i).n) : qval q (i : Int) (k : Int) = (q.s i).read k ∧ qrcode q (i : Int) (k : Int) = 0 := by
  have hh : q.has (i : Int) := ⟨by omega, by omega⟩
  have hn : inN (q.s i) (k : Int) := ⟨by omega, by omega⟩
  constructor
  · unfold qval
    rw [if_pos ⟨hh, h2⟩]
    unfold rval
    rw [Int.toNat_natCast, Int.toNat_natCast, if_pos ⟨h3, hn⟩]
  · unfold qrcode
    rw [if_pos hh, h2, if_neg (show ¬ false = true by decide)]
    unfold rcode
    rw [Int.toNat_natCast, h3, if_neg (show ¬ false = true by decide), if_pos hn]
theorem ks_one (l : Sec) : ((new 3).write 1 l).ks = [1] := rfl
theorem crash_one (l : Sec) : (((new 3).write 1 l).crash 1).read 1 = l := by
  show (((new 3).write 1 l).crash 1).st 1 = l
  rw [St.crash_st, ks_one, if_pos (by decide)]
  rfl
theorem rq5_0 (l m : Sec) : qval (rq5 l m) 0 1 = l ∧ qrcode (rq5 l m) 0 1 = 0 := by
  have h := qval_at (q := rq5 l m) (i := 0) (k := 1) (show 0 < 2 by decide) rfl (St.stores_dead _ _) (by rw [show ((rq5 l m).s 0).n = 3 from St.stores_n _ _]; decide)
  exact ⟨h.1.trans (crash_one l), h.2⟩
theorem rq5_1 (l m : Sec) : qval (rq5 l m) 1 1 = zer ∧ qrcode (rq5 l m) 1 1 = 0 := by
  have h := qval_at (q := rq5 l m) (i := 1) (k := 1) (show 1 < 2 by decide) rfl (St.stores_dead _ _) (by rw [show ((rq5 l m).s 1).n = 3 from St.stores_n _ _]; decide)
  exact ⟨h.1.trans (St.crash_none (s := (new 3).write 1 m) 1), h.2⟩
def rF : Fr := frK 3 0 1 2 3
theorem rF_right : rightB rF = true := by decide
theorem rq5_get (m : Sec) : qgot (rq5 (put rF) m) 0 1 3 0 1 = rF ∧ qfound (rq5 (put rF) m) 0 1 3 0 1 = true := by
  obtain ⟨e1, e2⟩ := rq5_0 (put rF) m
  obtain ⟨g1, g2⟩ := got_put (frK_is 3 0 1 2 3) rF_right
  have hf : qfound (rq5 (put rF) m) 0 1 3 0 1 = true := by
    unfold qfound
    rw [e1, e2, show goodB (put rF) = true from g1, show got (put rF) = rF from g2]
    rfl
  unfold qgot
  rw [hf, if_pos rfl, e1]
  exact ⟨g2, rfl⟩
theorem rq5_none (l m : Sec) : qfound (rq5 l m) 1 1 3 0 (-1) = false ∧ qgot (rq5 l m) 1 1 3 0 (-1) = zeroF := by
  obtain ⟨e1, e2⟩ := rq5_1 l m
  have hf : qfound (rq5 l m) 1 1 3 0 (-1) = false := by
    unfold qfound
    rw [e1, e2, show goodB zer = false from good_zeros, Bool.false_and, Bool.and_false]
  unfold qgot
  rw [hf]
  exact ⟨rfl, rfl⟩
/-- A rack, and a frame in a block of its own. -/
structure RSt (w0 : World) (c : Lc) (q : Rk) (f : Fr) (b : Nat) (w : World) : Prop where
  qs : QS w0 c q w
  fr : FrIn f b w
  lt : b < w.heap.size
theorem RSt.drew {w0 w : World} {c : Lc} {q : Rk} {f : Fr} {b : Nat} (h : RSt w0 c q f b w) : RSt w0 c q f b w.drew := ⟨h.qs.drew, h.fr, h.lt⟩
theorem RSt.below {w0 w w' : World} {c : Lc} {q : Rk} {f : Fr} {b : Nat} (h : RSt w0 c q f b w) (hb : Below w.heap.size w w') : RSt w0 c q f b w' := ⟨h.qs.below hb, h.fr.below h.lt hb, Nat.lt_of_lt_of_le h.lt hb.size⟩
theorem slu_one (w : World) : SlU (w.alloc (.cells #[.int .u64 1] 106)).heap.size (w.alloc (.cells #[.int .u64 1] 106)) (.slice (some ⟨w.heap.size, 0, none⟩) 1 1) [1] :=
  Or.inr ⟨w.heap.size, 0, 1, rfl, by simp, by decide, fun x hx => by
    obtain rfl : x = 0 := by simp at hx; omega
    exact new_cells w _ _ 0 _ rfl⟩
set_option maxHeartbeats 4000000 in
set_option maxRecDepth 100000 in
theorem rack_runs (w : World) (hT : Typ w) : Calls Tryz.prog 39 #[] w (Bit true w) := by
  have HT := Lib.hid hT
  have HN := Lib.hid (show Calls Tryz.prog 6 #[.int .i64 2, .int .i64 3] w (QNew w 2 3) from qs_new 2 3 w (by omega) (by omega) (by omega) (by omega))
  have hz := szFr_run
  have hz0 := zero_frame
  have hc0 : (Value.agg (frA zeroF)).cells = frA zeroF := rfl
  have hcf : (Value.agg (frA rF)).cells = frA rF := rfl
  have hsz : (frC zeroF).length = szFr := frC_length zeroF_is
  have hsf : (frC rF).length = szFr := frC_length (frK_is 3 0 1 2 3)
  have hst0 : ∀ W : World, (storeCells ⟨W.heap.size, 0, none⟩ (frC zeroF) 0).run Tryz.prog (W.alloc (.cells (frA zeroF) 42)) = .ok () (W.alloc (.cells (frA zeroF) 42)) := fun W => storeCells_frame zeroF_is zeroF_is W
  have hstf : ∀ W : World, (storeCells ⟨W.heap.size, 0, none⟩ (frC rF) 0).run Tryz.prog (W.alloc (.cells (frA zeroF) 42)) = .ok () (W.alloc (.cells (frA rF) 42)) := fun W => storeCells_frame zeroF_is (frK_is 3 0 1 2 3) W
  have HFI := Lib.hid (frK_is 3 0 1 2 3)
  clear hT
  go_enter Tryz.func39, Tryz.ntmps39
  go_wp2_with fail
  refine HN.out.mono ?_
  rintro e w1 ⟨c, rfl, h1⟩
  have H1 := Lib.hid h1
  clear h1
  have CF := Lib.hid (fun w => show Calls Tryz.prog 11 #[.int .i64 3, .int .i64 0, .int .i64 1, .int .i64 2, .int .i64 3] w (FrameK rF w) from frame_any 3 0 1 2 3 w)
  go_wp2_with fail
  refine (CF.out w1).mono ?_
  rintro e w2 ⟨rfl, hb2⟩
  have H2 := Lib.hid (H1.out.below hb2)
  clear hb2
  go_wp2_with fail
  refine (put_any rF w2 HFI.out).mono ?_
  rintro e w3 ⟨v3, rfl, ho3, hb3⟩
  have H3 := Lib.hid (H2.out.below hb3)
  have HL := Lib.hid (show (put rF).length = 128 from put_len HFI.out rF_right)
  have HV3 := Lib.hid (show RowN w2.heap.size w3 v3 (put rF) from rowN_own ho3)
  have HFAR := Lib.hid (show Far w2.heap.size c 2 from H2.out.rack.far)
  clear hb3 ho3
  have HGET := Lib.hid (rq5_get (secL 9))
  have HNONE := Lib.hid (rq5_none (put rF) (secL 9))
  generalize put rF = L at *
  go_wp2_with fail
  refine (H3.out.arm 2 (by omega) (by omega)).mono ?_
  rintro e w4 ⟨rfl, h4, hc4⟩
  have H4 := Lib.hid (show QS w c rq1 w4 from h4)
  have HV4 := Lib.hid (HV3.out.rc HFAR.out hc4)
  have HW5 := Lib.hid (show Calls Tryz.prog 13 #[.pointer (some ⟨c.r, 0, none⟩), .int .i64 0, .int .i64 1, v3] w4 (QN w c 2 (rq2 L) .nilIface w4) from by
    have := H4.out.write 0 1 v3 L HV4.out.slb
    rwa [(rq2_eq HL.out).1, (rq2_eq HL.out).2, evs_zero] at this)
  clear h4 hc4
  go_wp2_with fail
  refine HW5.out.mono ?_
  rintro e w5 ⟨rfl, h5, _⟩
  have H5 := Lib.hid h5
  clear h5
  go_wp2_with fail
  refine (sector_any 9 (by omega) w5).mono ?_
  rintro e w6 ⟨v6, rfl, hv6, hb6⟩
  have H6 := Lib.hid (H5.out.below hb6)
  have HW7 := Lib.hid (show Calls Tryz.prog 13 #[.pointer (some ⟨c.r, 0, none⟩), .int .i64 1, .int .i64 1, v6] w6 (QN w c 2 (rq3 L (secL 9)) .nilIface w6) from by
    have := H6.out.write 1 1 v6 (secL 9) hv6.slb
    rwa [(rq3_eq (secL_length 9)).1, (rq3_eq (secL_length 9)).2, evs_zero] at this)
  clear hv6 hb6
  go_wp2_with fail
  refine HW7.out.mono ?_
  rintro e w7 ⟨rfl, h7, _⟩
  have H7 := Lib.hid h7
  have HW8 := Lib.hid (show Calls Tryz.prog 15 #[.pointer (some ⟨c.r, 0, none⟩), .int .i64 0] w7 (QN w c 2 (rq4 L (secL 9)) (evs opQFlush 5 0) w7) from by
    have := h7.flush 0
    rwa [(rq4_eq L (secL 9)).1, (rq4_eq L (secL 9)).2] at this)
  rw [evs_some _ _ (by decide)] at HW8
  unfold wrapV errV at HW8
  clear h7
  go_wp2_with fail
  refine HW8.out.mono ?_
  rintro e w8 ⟨rfl, h8, _⟩
  have H8 := Lib.hid h8
  have HO8 := Lib.hid (show Calls Tryz.prog 34 #[.pointer (some ⟨c.r, 0, none⟩)] w8 (BitSame true w8) from h8.off)
  clear h8
  go_wp2_with fail
  refine HO8.out.mono ?_
  rintro e w' ⟨rfl, rfl⟩
  have HB9 := Lib.hid (show Calls Tryz.prog 19 #[.pointer (some ⟨c.r, 0, none⟩), .slice (some ⟨w8.heap.size, 0, none⟩) 1 1] (w8.alloc (.cells #[.int .u64 1] 106)) (QN w c 2 (rq5 L (secL 9)) (.tuple #[]) (w8.alloc (.cells #[.int .u64 1] 106))) from
    (H8.out.below (one_below w8 _)).boot _ [1] (slu_one w8) (fun x hx => by obtain rfl : x = 0 := by simp at hx; omega
                                                                            decide))
  go_wp2_with fail
  refine HB9.out.mono ?_
  rintro e w9 ⟨rfl, h9, _⟩
  have H9 := Lib.hid h9
  have HG10 := Lib.hid (show Calls Tryz.prog 29 #[.pointer (some ⟨c.r, 0, none⟩), .int .i64 0, .int .i64 1, .int .i64 3, .int .i64 0, .int .i64 1] w9 (FrameBit rF true w9) from by
    have := h9.get 0 1 3 0 1
    rwa [HGET.out.1, HGET.out.2] at this)
  clear h9
  go_wp2_with fail
  refine HG10.out.mono ?_
  rintro e w10 ⟨rfl, hb10⟩
  have H10 := Lib.hid (show RSt w c (rq5 L (secL 9)) rF w10.heap.size (w10.alloc (.cells (frA rF) 42)) from ⟨(H9.out.below hb10).below (one_below w10 _), frIn_new w10 rF HFI.out, by simp⟩)
  clear hb10
  go_wp2_with fail
  clear hstf
  generalize w10.heap.size = b at *
  generalize w10.alloc (.cells (frA rF) 42) = W10 at *
  have HG11 := Lib.hid (show Calls Tryz.prog 29 #[.pointer (some ⟨c.r, 0, none⟩), .int .i64 1, .int .i64 1, .int .i64 3, .int .i64 0, .int .i64 (-1)] W10 (FrameBit zeroF false W10) from by
    have := H10.out.qs.get 1 1 3 0 (-1)
    rwa [HNONE.out.1, HNONE.out.2] at this)
  refine HG11.out.mono ?_
  rintro e w11 ⟨rfl, hb11⟩
  have h11 := (H10.out.below hb11).below (one_below w11 (.cells (frA zeroF) 42))
  clear hb11
  go_wp2_with fail
  clear hst0
  generalize w11.alloc (.cells (frA zeroF) 42) = W11 at *
  have hla : ∀ w', RSt w c (rq5 L (secL 9)) rF b w' → (loadCellsFrom ⟨b, 0, none⟩ 0 szFr #[]).run Tryz.prog w' = .ok (frA rF) w' := fun w' h => h.fr.load
  have CK : ∀ w', RSt w c (rq5 L (secL 9)) rF b w' → Calls Tryz.prog 8 #[wrapV opQFlush 0 (errV 5)] w' (Num 5 w') := fun w' h => kind_err [(opQFlush, 0)] 5 w' _ rfl (HT.out.below h.qs.base)
  unfold wrapV errV at CK
  have CK := Lib.hid CK
  have CO := Lib.hid (fun w' (h : RSt w c (rq5 L (secL 9)) rF b w') => show Calls Tryz.prog 34 #[.pointer (some ⟨c.r, 0, none⟩)] w' (BitSame false w') from h.qs.off)
  have hgd := guard_frame
  have heq := eql_yes (show rF.is from HFI.out) (show rF.is from HFI.out) rfl
  go_region_held3 (fun w' => RSt w c (rq5 L (secL 9)) rF b w') (repeat (first | assumption | refine RSt.drew ?_)) (first
    | (go_at_call 8; (with_reducible refine (CK.out _ ?_).mono ?_); (repeat (first | assumption | refine RSt.drew ?_)); rintro e w12 ⟨rfl, hb12⟩; have h12 := RSt.below ‹_› hb12)
    | (go_at_call 34; (with_reducible refine (CO.out _ ?_).mono ?_); (repeat (first | assumption | refine RSt.drew ?_)); rintro e w' ⟨rfl, rfl⟩)
    | (go_at_call 11; (with_reducible refine (CF.out _).mono ?_); rintro e w13 ⟨rfl, hb13⟩; have h13 := RSt.below h12 hb13))
  go_wp2_with fail
  go_ret
  exact bit rfl h13.qs.base
end Go.Proofs.YtbokangpcjeofaaGreatDoor
