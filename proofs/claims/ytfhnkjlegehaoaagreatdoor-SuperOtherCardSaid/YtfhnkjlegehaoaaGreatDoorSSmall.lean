/-
  super.Sectors, Fits, superblock, read.
-/
import Derived.Test.YtfhnkjlegehaoaaGreatDoorSRight
import Derived.Test.YtfhnkjlegehaoaaGreatDoorQMore
import Derived.Test.YtfhnkjlegehaoaaGreatDoorHPut
namespace Go.Proofs.YtfhnkjlegehaoaaGreatDoor
open Go.RowKit Go.Deep Crc Dk Qk Go.Maps Hf
set_option maxHeartbeats 1000000 in
set_option maxRecDepth 100000 in
theorem ssectors_any (c : Cf) (w : World) (h : CfRight c) : Calls Tryz.prog 14 #[.agg (cfA c)] w (Num c.secs w) := by
  obtain ⟨a1, a2, a3, a4⟩ := h.secs
  have HS := Lib.hid (show (1 : Int) + c.s * c.k + c.t = c.secs from rfl)
  obtain ⟨_, _, _, _, _, b1, b2, _, _⟩ := h
  go_enter Tryz.func14, Tryz.ntmps14
  go_wp2_with fail
  go_ret
  refine num ?_ (one_below _ _)
  exact HS.out
/-- A frame in a block of its own, whole. -/
def FrB (f : Fr) (b : Nat) (w : World) : Prop := f.is ∧ w.heap[b]? = some (.cells (frA f) 72 (0, 0))
theorem FrB.fin {f : Fr} {b : Nat} {w : World} (h : FrB f b w) : FrIn f b w := ⟨h.1, fun j v hv => by rw [cell_of_row _ b j _ _ (0, 0) h.2]; simpa [frA] using hv⟩
theorem FrB.below {f : Fr} {b B : Nat} {w w' : World} (h : FrB f b w) (hb : b < B) (hB : Below B w w') : FrB f b w' := ⟨h.1, by rw [hB.block b hb]; exact h.2⟩
theorem FrB.free {f : Fr} {b : Nat} {w : World} (h : FrB f b w) (i : Nat) : w.frozen? ⟨b, i, none⟩ = false := frozen_of_row w b i _ _ h.2
theorem FrB.byte {f : Fr} {b k : Nat} {w : World} (h : FrB f b w) (hk : k < 108) : w.cell? ⟨b, 4 + k, none⟩ = some (.int .u8 ((f.d.getD k 0).toNat : Int)) := by
  have hi : f.d.length = 108 := h.1
  refine h.fin.2 (4 + k) _ ?_
  unfold frC
  rw [List.getElem?_append_right (by simp)]
  simpa using bytesV_at (l := f.d) (i := k) (by omega)
def Fr.setD (f : Fr) (k : Nat) (x : UInt8) : Fr := ⟨f.k, f.s, f.t, f.g, f.d.set k x⟩
theorem bytesV_setB (l : List UInt8) (k : Nat) (x : UInt8) : (bytesV l).set k (.int .u8 (x.toNat : Int)) = bytesV (l.set k x) := by simp [bytesV, List.map_set]
theorem FrB.set {f : Fr} {b : Nat} {w : World} (h : FrB f b w) (k : Nat) (x : UInt8) : FrB (Fr.setD f k x) b (w.setCell ⟨b, 4 + k, none⟩ (.int .u8 (x.toNat : Int))) := by
  have hi : f.d.length = 108 := h.1
  refine ⟨by show (f.d.set k x).length = 108; rw [List.length_set]; exact hi, ?_⟩
  show (w.heap.modify b _)[b]? = _
  rw [Array.getElem?_modify, if_pos rfl, h.2]
  show some (Obj.cells ((frC f).toArray.setIfInBounds (4 + k) (.int .u8 (x.toNat : Int))) _ _) = _
  congr 2
  simp only [List.setIfInBounds_toArray]
  congr 1
  unfold frC Fr.setD
  rw [List.set_append_right _ _ (by simp)]
  rw [← bytesV_setB]
  simp
def FrOut (f : Fr) (w : World) (e : Ending) (w' : World) : Prop := e = .returned (.agg (frA f)) ∧ Below w.heap.size w w'
theorem frB_new (w : World) (f : Fr) (h : f.is) : FrB f w.heap.size (w.alloc (.cells (frA f) 72)) := ⟨h, heap_alloc_new w _⟩
/-- A superblock's bytes as they are laid. -/
def supP (n k : Nat) : List UInt8 := le k n ++ List.replicate (108 - k) 0
theorem supP_next (n : Nat) {k : Nat} (h : k < 108) : (supP n k).set k (UInt8.ofNat (n / 2 ^ (8 * k))) = supP n (k + 1) := by
  unfold supP
  have e := set_at (le k n) (List.replicate (108 - k) 0) 0 (UInt8.ofNat (n / 2 ^ (8 * k)))
  rw [le_length, Nat.add_zero] at e
  rw [e, show 108 - k = (108 - (k + 1)) + 1 by omega, List.replicate_succ, List.set_cons_zero, le_succ]
  simp
theorem supP_done (n : Nat) (a b c d : UInt8) : ((((supP n 4).set 4 a).set 5 b).set 6 c).set 7 d = le 4 n ++ ([a, b, c, d] ++ List.replicate 100 0) := rfl
def supQ (n : Nat) (i : Int) (k : Nat) : Fr := ⟨1, i, 0, 1, supP n k⟩
theorem sup_byte (n k : Nat) : (n : Int) / 2 ^ (8 * k) % 256 = ((UInt8.ofNat (n / 2 ^ (8 * k))).toNat : Int) := by
  rw [ofNat_toNat]
  have e : ((n : Int) / 2 ^ (8 * k)) = ((n / 2 ^ (8 * k) : Nat) : Int) := by
    rw [Int.natCast_ediv, Int.natCast_pow]; rfl
  rw [e]; rfl
/-- The configuration lies in a block. -/
def CfB (c : Cf) (b : Nat) (w : World) : Prop := w.heap[b]? = some (.cells (cfA c) 23 (0, 0))
theorem CfB.below {c : Cf} {b B : Nat} {w w' : World} (h : CfB c b w) (hb : b < B) (hB : Below B w w') : CfB c b w' := by unfold CfB; rw [hB.block b hb]; exact h
theorem CfB.cell {c : Cf} {b : Nat} {w : World} (h : CfB c b w) (i : Nat) : w.cell? ⟨b, i, none⟩ = (cfA c)[i]? := by rw [cell_of_row _ b i _ _ (0, 0) h]
/-- Another configuration is stored cell by cell. -/
abbrev fillC (c : Cf) (b : Nat) (w : World) : World := ((((w.setCell ⟨b, 0, none⟩ (.int .i64 c.id)).setCell ⟨b, 1, none⟩ (.int .i64 c.k)).setCell ⟨b, 2, none⟩ (.int .i64 c.n)).setCell ⟨b, 3, none⟩ (.int .i64 c.t)).setCell ⟨b, 4, none⟩ (.int .i64 c.s)
theorem CfB.fill {c : Cf} {b : Nat} {w : World} (h : CfB c b w) (c' : Cf) : CfB c' b (fillC c' b w) := by
  have h0 := heap_setCell_same w b 0 _ _ (.int .i64 c'.id) h
  have h1 := heap_setCell_same _ b 1 _ _ (.int .i64 c'.k) h0
  have h2 := heap_setCell_same _ b 2 _ _ (.int .i64 c'.n) h1
  have h3 := heap_setCell_same _ b 3 _ _ (.int .i64 c'.t) h2
  have h4 := heap_setCell_same _ b 4 _ _ (.int .i64 c'.s) h3
  exact h4
theorem fillC_below {B b : Nat} {w0 w : World} (h : Below B w0 w) (hb : B ≤ b) (c : Cf) : Below B w0 (fillC c b w) :=
  ((((h.setCell (p := ⟨b, 0, none⟩) hb _).setCell (p := ⟨b, 1, none⟩) hb _).setCell (p := ⟨b, 2, none⟩) hb _).setCell (p := ⟨b, 3, none⟩) hb _).setCell (p := ⟨b, 4, none⟩) hb _
/-- What the end of a function reads. -/
theorem CfB.cells {c : Cf} {b : Nat} {w : World} (h : CfB c b w) : w.cell? ⟨b, 0, none⟩ = some (.int .i64 c.id) ∧ w.cell? ⟨b, 1, none⟩ = some (.int .i64 c.k) ∧ w.cell? ⟨b, 2, none⟩ = some (.int .i64 c.n) ∧ w.cell? ⟨b, 3, none⟩ = some (.int .i64 c.t) ∧ w.cell? ⟨b, 4, none⟩ = some (.int .i64 c.s) :=
  ⟨h.cell 0, h.cell 1, h.cell 2, h.cell 3, h.cell 4⟩
theorem CfB.free {c : Cf} {b : Nat} {w : World} (h : CfB c b w) : w.frozen? ⟨b, 0, none⟩ = false ∧ w.frozen? ⟨b, 1, none⟩ = false ∧ w.frozen? ⟨b, 2, none⟩ = false ∧ w.frozen? ⟨b, 3, none⟩ = false ∧ w.frozen? ⟨b, 4, none⟩ = false :=
  ⟨frozen_of_row w b 0 _ _ h, frozen_of_row w b 1 _ _ h, frozen_of_row w b 2 _ _ h, frozen_of_row w b 3 _ _ h, frozen_of_row w b 4 _ _ h⟩
def RelSB (c : Cf) (n : Nat) (i : Int) (w : World) (t : Value) (wr : World) : Prop :=
  ∃ k : Nat, k ≤ 4 ∧ t = .int .i64 k ∧ FrB (supQ n i k) (w.heap.size + 2) wr ∧ ZIn (w.heap.size + 1) wr ∧ CfB c w.heap.size wr ∧ Below w.heap.size w wr
theorem supQ_is (n : Nat) (i : Int) {k : Nat} (h : k ≤ 108) : (supQ n i k).is := by
  show (supP n k).length = 108
  unfold supP; simp [le_length]; omega
theorem supQ_zero (n : Nat) (i : Int) : supQ n i 0 = ⟨1, i, 0, 1, List.replicate 108 0⟩ := rfl
set_option maxHeartbeats 2000000 in
set_option maxRecDepth 100000 in
theorem superblock_any (c : Cf) (i : Int) (w : World) (h : CfRight c) : Calls Tryz.prog 40 #[.agg (cfA c), .int .i64 i] w (FrOut (supF c i) w) := by
  obtain ⟨id, k, n, t, s⟩ := c
  obtain ⟨a1, a2, a3, a4, a5, a6, a7, a8, a9⟩ := h
  simp only at a1 a2 a3 a4 a5 a6 a7 a8 a9
  obtain ⟨id, rfl⟩ := Int.eq_ofNat_of_zero_le (show 0 ≤ id by omega)
  obtain ⟨k, rfl⟩ := Int.eq_ofNat_of_zero_le (show 0 ≤ k by omega)
  obtain ⟨n, rfl⟩ := Int.eq_ofNat_of_zero_le (show 0 ≤ n by omega)
  obtain ⟨t, rfl⟩ := Int.eq_ofNat_of_zero_le (show 0 ≤ t by omega)
  obtain ⟨s, rfl⟩ := Int.eq_ofNat_of_zero_le (show 0 ≤ s by omega)
  have hz := szFr_run
  have hz0 := zero_frame
  have hc : (Value.agg (frA zeroF)).cells = frA zeroF := rfl
  have hsz : (frC zeroF).length = szFr := frC_length zeroF_is
  have h0 := supQ_is id i (Nat.zero_le 108)
  have hbd : ((((frC zeroF).set 0 (.int .i64 1)).set 1 (.int .i64 i)).set 3 (.int .i64 1)) = frC (supQ id i 0) := rfl
  have hst0 : (storeCells ⟨w.heap.size + 1 + 1, 0, none⟩ (frC (supQ id i 0)) 0).run Tryz.prog (((w.alloc (.cells (cfA ⟨id, k, n, t, s⟩) 23)).alloc (.cells (frA zeroF) 72)).alloc (.cells (frA zeroF) 72)) = .ok () (((w.alloc (.cells (cfA ⟨id, k, n, t, s⟩) 23)).alloc (.cells (frA zeroF) 72)).alloc (.cells (frA (supQ id i 0)) 72)) := by
    have := storeCells_frame zeroF_is h0 ((w.alloc (.cells (cfA ⟨id, k, n, t, s⟩) 23)).alloc (.cells (frA zeroF) 72))
    simpa using this
  have HB0 := Lib.hid (show RelSB ⟨id, k, n, t, s⟩ id i w (.int .i64 0) (((w.alloc (.cells (cfA ⟨id, k, n, t, s⟩) 23)).alloc (.cells (frA zeroF) 72)).alloc (.cells (frA (supQ id i 0)) 72)) from by
    refine ⟨0, by omega, rfl, ?_, ?_, ?_, balloc (balloc (one_below _ _) _) _⟩
    · have := frB_new ((w.alloc (.cells (cfA ⟨id, k, n, t, s⟩) 23)).alloc (.cells (frA zeroF) 72)) _ h0
      simpa using this
    · have := (zin_new (w.alloc (.cells (cfA ⟨id, k, n, t, s⟩) 23))).below (B := w.heap.size + 2) (by simp) (Below.refl _ _)
      refine (show ZIn (w.heap.size + 1) _ by simpa using this).below (B := w.heap.size + 2) (by omega) ?_
      exact (one_below _ _).mono (by simp)
    · exact (show CfB _ w.heap.size (w.alloc (.cells (cfA ⟨id, k, n, t, s⟩) 23)) from heap_alloc_new w _).below (B := w.heap.size + 1) (by omega) ((balloc (one_below _ _) _).mono (by simp)))
  clear h0
  go_enter Tryz.func40, Tryz.ntmps40
  go_wp2_with fail
  go_loopw [9] (fun x wr => RelSB ⟨id, k, n, t, s⟩ id i w x wr) (fun x _ => 4 - (intOf x).toNat)
  case atStart => exact HB0.out
  case round =>
    obtain ⟨j, hj, rfl, hf, hzz, hcc, hb⟩ := hrel
    by_cases hlt : j < 4
    · have e0 := hcc.cell 0
      have e1 := hf.byte (k := j) (by omega)
      have e2 := hf.free (4 + j)
      have HN := Lib.hid (fun (v : Int) (hv : v = (id : Int) / 2 ^ (8 * j) % 256) => (show RelSB ⟨id, k, n, t, s⟩ id i w (.int .i64 ((j : Int) + 1)) (wr.setCell ⟨w.heap.size + 2, 4 + j, none⟩ (.int .u8 v)) from by
        subst hv
        rw [sup_byte]
        have hn := hf.set j (UInt8.ofNat (id / 2 ^ (8 * j)))
        have eq : Fr.setD (supQ id i j) j (UInt8.ofNat (id / 2 ^ (8 * j))) = supQ id i (j + 1) := by
          show (⟨1, i, 0, 1, (supP id j).set j _⟩ : Fr) = ⟨1, i, 0, 1, supP id (j + 1)⟩
          rw [supP_next id (by omega)]
        rw [eq] at hn
        exact ⟨j + 1, by omega, by go_num, hn, hzz.below (B := w.heap.size + 2) (by omega) ((Below.refl (w.heap.size + 2) wr).setCell (Nat.le_refl _) _), hcc.below (B := w.heap.size + 2) (by omega) ((Below.refl (w.heap.size + 2) wr).setCell (Nat.le_refl _) _), hb.setCell (Nat.le_add_right _ _) _⟩))
      generalize ((supQ id i j).d.getD j 0).toNat = y at *
      clear hf hzz hcc hb
      go_wp2_with fail
      go_roundw
      case rel => exact HN.out _ rfl
      case measure => simp [intOf]; omega
    · obtain rfl : j = 4 := by omega
      have e1 := hcc.cell 1
      have e2 := hcc.cell 2
      have e3 := hcc.cell 3
      have e4 := hcc.cell 4
      have s1 := hf.set 4 (UInt8.ofNat k)
      have s2 := s1.set 5 (UInt8.ofNat n)
      have s3 := s2.set 6 (UInt8.ofNat t)
      have s4 := s3.set 7 (UInt8.ofNat s)
      have eq : Fr.setD (Fr.setD (Fr.setD (Fr.setD (supQ id i 4) 4 (UInt8.ofNat k)) 5 (UInt8.ofNat n)) 6 (UInt8.ofNat t)) 7 (UInt8.ofNat s) = supF ⟨id, k, n, t, s⟩ i := by
        show (⟨1, i, 0, 1, ((((supP id 4).set 4 _).set 5 _).set 6 _).set 7 _⟩ : Fr) = _
        rw [supP_done]
        rfl
      rw [eq] at s4
      have nb : ∀ x : Nat, x ≤ 64 → ((UInt8.ofNat x).toNat : Int) = (x : Int) := fun x hx => by rw [ofNat_toNat]; omega
      rw [nb k (by omega), nb n (by omega), nb t (by omega), nb s (by omega)] at s4
      simp only [Nat.reduceAdd] at s4
      have hbl : Below (w.heap.size + 2) wr ((((wr.setCell ⟨w.heap.size + 2, 8, none⟩ (.int .u8 (k : Int))).setCell ⟨w.heap.size + 2, 9, none⟩ (.int .u8 (n : Int))).setCell ⟨w.heap.size + 2, 10, none⟩ (.int .u8 (t : Int))).setCell ⟨w.heap.size + 2, 11, none⟩ (.int .u8 (s : Int))) :=
        ((((Below.refl (w.heap.size + 2) wr).setCell (p := ⟨w.heap.size + 2, 8, none⟩) (Nat.le_refl _) _).setCell (p := ⟨w.heap.size + 2, 9, none⟩) (Nat.le_refl _) _).setCell (p := ⟨w.heap.size + 2, 10, none⟩) (Nat.le_refl _) _).setCell (p := ⟨w.heap.size + 2, 11, none⟩) (Nat.le_refl _) _
      have hzW := hzz.below (by omega) hbl
      have HFI := Lib.hid (supF_is ⟨id, k, n, t, s⟩ i)
      have hl1 := s4.fin.load
      have hs1 := hzW.store _ HFI.out
      have HL2 := Lib.hid (hzW.load _ HFI.out)
      have HBE := Lib.hid (setRow_below (hb.trans (hbl.mono (Nat.le_add_right _ _))) (Nat.le_succ w.heap.size) (frA (supF ⟨id, k, n, t, s⟩ i)))
      have hcF : (Value.agg (frA (supF ⟨id, k, n, t, s⟩ i))).cells = frA (supF ⟨id, k, n, t, s⟩ i) := rfl
      have hsF : (frC (supF ⟨id, k, n, t, s⟩ i)).length = szFr := frC_length HFI.out
      have z0 := hf.free 8
      have z1 := hf.free 9
      have z2 := hf.free 10
      have z3 := hf.free 11
      have b0 := hf.byte (k := 4) (by omega)
      have b1 := hf.byte (k := 5) (by omega)
      have b2 := hf.byte (k := 6) (by omega)
      have b3 := hf.byte (k := 7) (by omega)
      simp only [Nat.reduceAdd] at b0 b1 b2 b3
      generalize ((supQ id i 4).d.getD 4 0).toNat = y0 at *
      generalize ((supQ id i 4).d.getD 5 0).toNat = y1 at *
      generalize ((supQ id i 4).d.getD 6 0).toNat = y2 at *
      generalize ((supQ id i 4).d.getD 7 0).toNat = y3 at *
      clear s1 s2 s3 s4 hf hzz hcc hb hbd hst0 hbl hzW eq nb
      generalize supF ⟨id, k, n, t, s⟩ i = F at *
      go_wp2_with fail
      have hl2 := HL2.out
      exact bodyPost_ret (v := .agg (frA F)) (by simp [results, Tryz.results40, go_sem, hz, hl2]) rfl ⟨rfl, HBE.out⟩
end Go.Proofs.YtfhnkjlegehaoaaGreatDoor
