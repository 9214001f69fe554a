import Derived.Test.YtilljaneegbhlaaGreatDoorZSBase
import Derived.RegionTactic
import Derived.BigRegion
import Derived.Test.YtilljaneegbhlaaGreatDoorZHGet
import Derived.Test.YtilljaneegbhlaaGreatDoorZHRef
import Derived.Deep.RegionHeld3
namespace Go.Proofs.YtilljaneegbhlaaGreatDoor
open Go.RowKit Go.Deep Crc Dk Qk Go.Maps Hf
set_option maxHeartbeats 8000000
set_option maxRecDepth 100000
def DaB (d : List UInt8) (b : Nat) (w : World) : Prop := d.length = 108 ∧ w.heap[b]? = some (.cells (bytesV d).toArray 86 (0, 0))
variable {d : List UInt8} {b : Nat} {w w' : World}
theorem DaB.below {B : Nat} (h : DaB d b w) (hb : b < B) (hB : Below B w w') : DaB d b w' := ⟨h.1, by rw [hB.block b hb]; exact h.2⟩
theorem DaB.cell {k : Nat} (h : DaB d b w) (hk : k < 108) : w.cell? ⟨b, k, none⟩ = some (.int .u8 ((d.getD k 0).toNat : Int)) := by
 rw [cell_of_row _ b k _ _ (0, 0) h.2]
 have := bytesV_at (l := d) (i := k) (by have := h.1; omega)
 simpa using this
def readP (d : List UInt8) (k : Nat) : Cf := ⟨(leV (d.take k) : Int), ((d.getD 4 0).toNat : Int), ((d.getD 5 0).toNat : Int), ((d.getD 6 0).toNat : Int), ((d.getD 7 0).toNat : Int)⟩
def RelRd (d : List UInt8) (w : World) (x : Value) (wr : World) : Prop :=
 ∃ k : Nat, k ≤ 4 ∧ x = .int .i64 k ∧ DaB d w.heap.size wr ∧ CfB zeroC (w.heap.size + 1) wr ∧ CfB (readP d k) (w.heap.size + 2) wr ∧ Below w.heap.size w wr
def CfOut (c : Cf) (w : World) (e : Ending) (w' : World) : Prop := e = .returned (.agg (cfA c)) ∧ Below w.heap.size w w'
theorem read_or (d : List UInt8) (hd : d.length = 108) {k : Nat} (hk : k < 4) : bits .or .i64 (leV (d.take k) : Int) (wrap64 (((d.getD k 0).toNat : Int) * 2 ^ (8 * k))) = (leV (d.take (k + 1)) : Int) := by
 have h := or_next (l := d.take 4) (k := k) (by rw [List.length_take]; omega) (by rw [List.length_take]; omega)
 have e1 : (d.take 4).take k = d.take k := by rw [List.take_take, Nat.min_eq_left (by omega)]
 have e2 : (d.take 4).take (k + 1) = d.take (k + 1) := by rw [List.take_take, Nat.min_eq_left (by omega)]
 have e3 : (d.take 4).getD k 0 = d.getD k 0 := by simp [List.getD, hk]
 rw [e1, e2, e3] at h
 have l1 := leV_lt (d.take k)
 have l2 := leV_lt (d.take (k + 1))
 rw [List.length_take] at l1 l2
 have p1 : 2 ^ (8 * min k d.length) ≤ 2 ^ 32 := Nat.pow_le_pow_right (by decide) (by omega)
 have p2 : 2 ^ (8 * min (k + 1) d.length) ≤ 2 ^ 32 := Nat.pow_le_pow_right (by decide) (by omega)
 have i1 : int64 (leV (d.take k)) = (leV (d.take k) : Int) := if_pos (by omega)
 have i2 : int64 (leV (d.take (k + 1))) = (leV (d.take (k + 1)) : Int) := if_pos (by omega)
 rw [i1, i2] at h
 exact h
theorem sread_any (d : List UInt8) (w : World) (hd : d.length = 108) : Calls Tryz.prog 131 #[.agg (bytesV d).toArray] w (CfOut (readC d) w) := by
 have hc : (Value.agg (bytesV d).toArray).cells = (bytesV d).toArray := rfl
 have hl : (bytesV d).length = 108 := by rw [bytesV_length, hd]
 have at_ : ∀ (i : Nat) (hi : i < (bytesV d).length), (bytesV d)[i]'hi = .int .u8 ((d.getD i 0).toNat : Int) := fun i hi => by
  have h1 := bytesV_at (l := d) (i := i) (by omega); rw [List.getElem?_eq_getElem hi] at h1; exact Option.some.inj h1
 have b4 := at_ 4 (by omega)
 have b5 := at_ 5 (by omega)
 have b6 := at_ 6 (by omega)
 have b7 := at_ 7 (by omega)
 have y4 := u8_lt (d.getD 4 0)
 have y5 := u8_lt (d.getD 5 0)
 have y6 := u8_lt (d.getD 6 0)
 have y7 := u8_lt (d.getD 7 0)
 have HB0 := hI (show RelRd d w (.int .i64 0) (((w.alloc (.cells (bytesV d).toArray 86)).alloc (.cells (cfA zeroC) 24)).alloc (.cells (cfA (readP d 0)) 24)) from by
  refine ⟨0, by omega, rfl, ?_, ?_, ?_, balloc (balloc (one_below _ _) _) _⟩
  ·exact (show DaB d w.heap.size (w.alloc (.cells (bytesV d).toArray 86)) from ⟨hd, heap_alloc_new w _⟩).below (B := w.heap.size + 1) (by omega) ((balloc (one_below _ _) _).mono (by simp))
  ·have := (show CfB zeroC (w.alloc (.cells (bytesV d).toArray 86)).heap.size ((w.alloc (.cells (bytesV d).toArray 86)).alloc (.cells (cfA zeroC) 24)) from heap_alloc_new _ _)
   exact (show CfB zeroC (w.heap.size + 1) _ by simpa using this).below (B := w.heap.size + 2) (by omega) ((one_below _ _).mono (by simp))
  ·have := (show CfB (readP d 0) ((w.alloc (.cells (bytesV d).toArray 86)).alloc (.cells (cfA zeroC) 24)).heap.size (((w.alloc (.cells (bytesV d).toArray 86)).alloc (.cells (cfA zeroC) 24)).alloc (.cells (cfA (readP d 0)) 24)) from heap_alloc_new _ _)
   simpa using this)
 clear at_
 have hr0 : cfA (readP d 0) = #[.int .i64 0, .int .i64 ((d.getD 4 0).toNat : Int), .int .i64 ((d.getD 5 0).toNat : Int), .int .i64 ((d.getD 6 0).toNat : Int), .int .i64 ((d.getD 7 0).toNat : Int)] := rfl
 rw [hr0] at HB0
 clear hr0
 generalize (d.getD 4 0).toNat = x4 at *
 generalize (d.getD 5 0).toNat = x5 at *
 generalize (d.getD 6 0).toNat = x6 at *
 generalize (d.getD 7 0).toNat = x7 at *
 go_enter Tryz.func131, Tryz.ntmps131
 go_wp2_with fail
 go_loopw [18] (fun x wr => RelRd d w x wr) (fun x _ => 4 - (intOf x).toNat)
 case atStart => exact HB0.out
 case round =>
  obtain ⟨j, hj, rfl, hda, hzz, hcc, hb⟩ := hrel
  by_cases hlt : j < 4
  ·have e0 := hcc.cell 0
   have e1 := hda.cell (k := j) (by omega); have e2 := frozen_of_row wr (w.heap.size + 2) 0 _ _ hcc
   have e3 : (j : Int) < 108 := by omega
   have yj := u8_lt (d.getD j 0); have HOR := hI (read_or d hd hlt)
   have HN := hI (show RelRd d w (.int .i64 ((j : Int) + 1)) (wr.setCell ⟨w.heap.size + 2, 0, none⟩ (.int .i64 (leV (d.take (j + 1)) : Int))) from by
    refine ⟨j + 1, by omega, by go_num, hda.below (B := w.heap.size + 2) (by omega) ((Below.refl (w.heap.size + 2) wr).setCell (Nat.le_refl _) _), hzz.below (B := w.heap.size + 2) (by omega) ((Below.refl (w.heap.size + 2) wr).setCell (Nat.le_refl _) _), ?_, hb.setCell (Nat.le_add_right _ _) _⟩
    exact heap_setCell_same wr (w.heap.size + 2) 0 _ _ _ hcc)
   generalize (d.getD j 0).toNat = y at *; clear hda hzz hcc hb; go_wp2_with fail
   go_region
   go_wp2_with fail
   go_roundw
   case rel =>
    have e : bits BinOp.or IntKind.i64 (readP d j).id (wrap64 ((y : Int) * 2 ^ (8 * j))) = (leV (d.take (j + 1)) : Int) := HOR.out; rw [e]; obtain ⟨k, hk, h1, h2, h3, h4, h5⟩ := HN.out; exact ⟨k, hk, h1, h2.below (B := w.heap.size + 2) (by omega) (Below.refl _ _).drew, h3.below (B := w.heap.size + 2) (by omega) (Below.refl _ _).drew, h4.below (B := w.heap.size + 3) (by omega) (Below.refl _ _).drew, h5.drew⟩
   case measure => simp [intOf]; omega
  ·obtain rfl : j = 4 := by omega
   obtain ⟨e0, e1, e2, e3, e4⟩ := hcc.cells; obtain ⟨z0, z1, z2, z3, z4⟩ := hzz.cells; obtain ⟨q0, q1, q2, q3, q4⟩ := hzz.free; have HZF := hI (hzz.fill (readP d 4)).cells; have HBF := hI (fillC_below hb (Nat.le_succ w.heap.size) (readP d 4)); clear hda hzz hcc hb; go_wp2_with fail; obtain ⟨g0, g1, g2, g3, g4⟩ := HZF.out; exact bodyPost_ret (v := .agg (cfA (readP d 4))) (by simp [results, Tryz.results131, go_sem, g0, g1, g2, g3, g4]) rfl ⟨rfl, HBF.out⟩
def szDa : Nat := 108
theorem szDa_run (w : World) : (sizeOf 86).run Tryz.prog w = .ok szDa w := by go_simp; rfl
variable {f : Fr}
theorem FrIn.loadD (h : FrIn f b w') : (loadCellsFrom ⟨b, 4, none⟩ 0 szDa #[]).run Tryz.prog w' = .ok (bytesV f.d).toArray w' := by
 have hl : (bytesV f.d).length = 108 := by rw [bytesV_length]; exact h.1
 have := run_loadCells_list (P := Tryz.prog) w' ⟨b, 4, none⟩ (bytesV f.d) (fun j v hv => by
  rw [Addr.add_mid]; refine h.2 (4 + j) v ?_; unfold frC; rw [List.getElem?_append_right (by simp)]
  simpa using hv)
 rw [hl] at this
 exact this
def GtS (f : Fr) (b1 : Nat) (cf : Cf) (b2 b0 : Nat) (w w' : World) : Prop := FrIn f b1 w' ∧ CfB cf b2 w' ∧ CfB zeroC b0 w' ∧ b1 < w'.heap.size ∧ b2 < w'.heap.size ∧ b0 < w'.heap.size ∧ Below w.heap.size w w'
variable {b1 b2 b0 : Nat}
theorem GtS.drew {cf : Cf} (h : GtS f b1 cf b2 b0 w w') : GtS f b1 cf b2 b0 w w'.drew := ⟨h.1, h.2.1, h.2.2.1, h.2.2.2.1, h.2.2.2.2.1, h.2.2.2.2.2.1, h.2.2.2.2.2.2.drew⟩
variable {w1 w2 : World}
theorem GtS.then {cf : Cf} (h : GtS f b1 cf b2 b0 w w1) (hb : Below w1.heap.size w1 w2) : GtS f b1 cf b2 b0 w w2 :=
 ⟨h.1.below h.2.2.2.1 hb, h.2.1.below h.2.2.2.2.1 hb, h.2.2.1.below h.2.2.2.2.2.1 hb, Nat.lt_of_lt_of_le h.2.2.2.1 hb.size, Nat.lt_of_lt_of_le h.2.2.2.2.1 hb.size, Nat.lt_of_lt_of_le h.2.2.2.2.2.1 hb.size, bthen h.2.2.2.2.2.2 hb⟩
def CfBit (c : Cf) (b : Bool) (w : World) (e : Ending) (w' : World) : Prop := e = .returned (.tuple #[.agg (cfA c), .bool b]) ∧ Below w.heap.size w w'
theorem cfB_new (w : World) (c : Cf) : CfB c w.heap.size (w.alloc (.cells (cfA c) 24)) := heap_alloc_new w _
def SgS (b0 : Nat) (w w' : World) : Prop := CfB zeroC b0 w' ∧ b0 < w'.heap.size ∧ Below w.heap.size w w'
theorem sgS_new (w : World) : SgS w.heap.size w (w.alloc (.cells (cfA zeroC) 24)) := ⟨cfB_new w zeroC, by simp, one_below _ _⟩
theorem SgS.then (h : SgS b0 w w1) (hb : Below w1.heap.size w1 w2) : SgS b0 w w2 := ⟨h.1.below h.2.1 hb, Nat.lt_of_lt_of_le h.2.1 hb.size, bthen h.2.2 hb⟩
theorem sget_none (w : World) (r : Value) (i : Int) (hg : ∀ w' : World, Below w.heap.size w w' → Calls Tryz.prog 120 #[r, .int .i64 i, .int .i64 0, .int .i64 1, .int .i64 i, .int .i64 0] w' (FrameBit zeroF false w')) :
  Calls Tryz.prog 115 #[r, .int .i64 i] w (CfBit zeroC false w) := by
 have H0 := hI (sgS_new w)
 have HG := hI (hg _ H0.out.2.2)
 have hz := szFr_run
 have hz0 := zero_frame
 have hc : (Value.agg (frA zeroF)).cells = frA zeroF := rfl
 have hsz : (frC zeroF).length = szFr := frC_length zeroF_is
 have hst : ∀ W : World, (storeCells ⟨W.heap.size, 0, none⟩ (frC zeroF) 0).run Tryz.prog (W.alloc (.cells (frA zeroF) 151)) = .ok () (W.alloc (.cells (frA zeroF) 151)) := fun W => storeCells_frame zeroF_is zeroF_is W
 clear hg
 go_enter Tryz.func115, Tryz.ntmps115
 go_wp2_with fail
 refine HG.out.mono ?_
 rintro e w1 ⟨rfl, hb1⟩
 have h1 := (SgS.then H0.out hb1).then (one_below w1 (.cells (frA zeroF) 151))
 obtain ⟨z0, z1, z2, z3, z4⟩ := h1.1.cells
 obtain ⟨q0, q1, q2, q3, q4⟩ := h1.1.free
 have HF := hI (h1.1.fill ⟨0, 0, 0, 0, 0⟩).cells
 have HB := hI (fillC_below h1.2.2 (Nat.le_refl w.heap.size) zeroC)
 clear hb1 h1
 go_wp2_with fail
 obtain ⟨g0, g1, g2, g3, g4⟩ := HF.out
 exact bodyPost_ret (v := .tuple #[.agg (cfA ⟨0, 0, 0, 0, 0⟩), .bool false]) (by simp [results, Tryz.results115, go_sem, g0, g1, g2, g3, g4]) rfl ⟨rfl, HB.out⟩
theorem sget_wrong (w : World) (r : Value) (i : Int) (f : Fr) (hi : f.is) (hg : ∀ w' : World, Below w.heap.size w w' → Calls Tryz.prog 120 #[r, .int .i64 i, .int .i64 0, .int .i64 1, .int .i64 i, .int .i64 0] w' (FrameBit f true w')) (hr : ¬ CfRight (readC f.d)) :
  Calls Tryz.prog 115 #[r, .int .i64 i] w (CfBit zeroC false w) := by
 have H0 := hI (sgS_new w)
 have HG := hI (hg _ H0.out.2.2)
 have hz := szFr_run
 have hz0 := zero_frame
 have hzd := szDa_run
 have hcz : (Value.agg (frA zeroF)).cells = frA zeroF := rfl
 have hcf : (Value.agg (frA f)).cells = frA f := rfl
 have hsz : (frC zeroF).length = szFr := frC_length zeroF_is
 have hsf : (frC f).length = szFr := frC_length hi
 have hst : ∀ W : World, (storeCells ⟨W.heap.size, 0, none⟩ (frC f) 0).run Tryz.prog (W.alloc (.cells (frA zeroF) 151)) = .ok () (W.alloc (.cells (frA f) 151)) := fun W => storeCells_frame zeroF_is hi W
 have CRD := hI (fun w => sread_any f.d w hi)
 have CR := hI (fun w => sright_any (readC f.d) w)
 have HI := hI hi
 rw [show cfRightB (readC f.d) = false from decide_eq_false hr] at CR
 clear hr
 clear hg hi
 go_enter Tryz.func115, Tryz.ntmps115
 go_wp2_with fail
 refine HG.out.mono ?_
 rintro e w1 ⟨rfl, hb1⟩
 have H1 := hI (SgS.then H0.out hb1)
 have hd2 := (frIn_new w1 f HI.out).loadD
 clear hb1
 go_wp2_with fail
 clear hst
 have H2 := hI (SgS.then H1.out (one_below w1 (.cells (frA f) 151)))
 have HF2 := hI (frIn_new w1 f HI.out)
 have hl2 : w1.heap.size < (w1.alloc (.cells (frA f) 151)).heap.size := by simp
 clear hd2
 generalize w1.alloc (.cells (frA f) 151) = w2 at *
 generalize w1.heap.size = b1 at *
 refine (CRD.out w2).mono ?_
 rintro e w3 ⟨rfl, hb3⟩
 generalize readC f.d = cf at *
 have h3 : GtS f b1 cf w3.heap.size w.heap.size w (w3.alloc (.cells (cfA cf) 24)) :=
  ⟨(HF2.out.below hl2 hb3).below (Nat.lt_of_lt_of_le hl2 hb3.size) (one_below _ _), cfB_new w3 cf, ((H2.out.then hb3).then (one_below _ _)).1, Nat.lt_of_lt_of_le (Nat.lt_of_lt_of_le hl2 hb3.size) (by simp), by simp, ((H2.out.then hb3).then (one_below _ _)).2.1, ((H2.out.then hb3).then (one_below _ _)).2.2⟩
 have H3 := hI h3
 clear hb3 hl2 h3
 go_wp2_with fail
 have h3 := H3.out
 generalize w3.alloc (.cells (cfA cf) 24) = w4 at *
 generalize w3.heap.size = b2 at *
 have d0 : ∀ w', GtS f b1 cf b2 w.heap.size w w' → w'.cell? ⟨b2, 0, none⟩ = some (.int .i64 cf.id) := fun w' h => h.2.1.cell 0
 have d1 : ∀ w', GtS f b1 cf b2 w.heap.size w w' → w'.cell? ⟨b2, 1, none⟩ = some (.int .i64 cf.k) := fun w' h => h.2.1.cell 1
 have d2 : ∀ w', GtS f b1 cf b2 w.heap.size w w' → w'.cell? ⟨b2, 2, none⟩ = some (.int .i64 cf.n) := fun w' h => h.2.1.cell 2
 have d3 : ∀ w', GtS f b1 cf b2 w.heap.size w w' → w'.cell? ⟨b2, 3, none⟩ = some (.int .i64 cf.t) := fun w' h => h.2.1.cell 3
 have d4 : ∀ w', GtS f b1 cf b2 w.heap.size w w' → w'.cell? ⟨b2, 4, none⟩ = some (.int .i64 cf.s) := fun w' h => h.2.1.cell 4
 have hla : ∀ w', GtS f b1 cf b2 w.heap.size w w' → (loadCellsFrom ⟨b1, 0, none⟩ 0 szFr #[]).run Tryz.prog w' = .ok (frA f) w' := fun w' h => h.1.load
 refine wp_region_noPanic ?_
 refine wp_region_held_drew (S := (fun w' => GtS f b1 cf b2 w.heap.size w w')) (by kernel_rfl) h3.drew (fun hHeld => ?_)
 refine hT 0 ⟨some 22, _, _, _, _, _⟩ rfl hHeld ?_
 simp only [hP]
 refine hC 1 rfl fun K hK => ?_
 go_simp
 refine (CR.out _).mono ?_
 rintro e w4 ⟨rfl, hb4⟩
 have h4 := GtS.then hHeld hb4
 clear hb4
 refine hK.out _ _ h4 (fun _ => ?_)
 clear hK K
 refine hT 2 ⟨some 24, _, _, _, _, _⟩ rfl h4 ?_
 simp only [hP]
 refine hT 3 ⟨some 25, _, _, _, _, _⟩ rfl h4 ?_
 simp only [hP]
 refine hU 4 ⟨some 26, _, _, _, _, _⟩ rfl h4 ?_
 simp only [hP]
 refine hU 5 ⟨some 27, _, _, _, _, _⟩ rfl h4 ?_
 simp only [hP]
 refine hU 6 ⟨some 28, _, _, _, _, _⟩ rfl h4 ?_
 simp only [hP]
 refine hU 7 ⟨some 29, _, _, _, _, _⟩ rfl h4 ?_
 simp only [hP]
 refine hU 8 ⟨some 30, _, _, _, _, _⟩ rfl h4 ?_
 simp only [hP]
 refine hT 9 ⟨some 31, _, _, _, _, _⟩ rfl h4 ?_
 simp only [hP]
 refine wpAnyH_done (by kernel_rfl) ?_ _
 refine NoPanic.normal ?_
 obtain ⟨z0, z1, z2, z3, z4⟩ := h4.2.2.1.cells
 obtain ⟨q0, q1, q2, q3, q4⟩ := h4.2.2.1.free
 obtain ⟨y0, y1, y2, y3, y4⟩ := h4.2.1.cells
 have HF := hI (h4.2.2.1.fill ⟨0, 0, 0, 0, 0⟩).cells
 have HB := hI (fillC_below h4.2.2.2.2.2.2 (Nat.le_refl w.heap.size) ⟨0, 0, 0, 0, 0⟩)
 clear d0 d1 d2 d3 d4 hla h4
 go_wp2_with fail
 obtain ⟨g0, g1, g2, g3, g4⟩ := HF.out
 exact bodyPost_ret (v := .tuple #[.agg (cfA ⟨0, 0, 0, 0, 0⟩), .bool false]) (by simp [results, Tryz.results115, go_sem, g0, g1, g2, g3, g4]) rfl ⟨rfl, HB.out⟩
theorem sget_other (w : World) (r : Value) (i : Int) (f : Fr) (hi : f.is) (hg : ∀ w' : World, Below w.heap.size w w' → Calls Tryz.prog 120 #[r, .int .i64 i, .int .i64 0, .int .i64 1, .int .i64 i, .int .i64 0] w' (FrameBit f true w')) (hr : CfRight (readC f.d)) (hn : ¬ f = supF (readC f.d) i) :
  Calls Tryz.prog 115 #[r, .int .i64 i] w (CfBit zeroC false w) := by
 have H0 := hI (sgS_new w)
 have HG := hI (hg _ H0.out.2.2)
 have hz := szFr_run
 have hz0 := zero_frame
 have hzd := szDa_run
 have hcz : (Value.agg (frA zeroF)).cells = frA zeroF := rfl
 have hcf : (Value.agg (frA f)).cells = frA f := rfl
 have hsz : (frC zeroF).length = szFr := frC_length zeroF_is
 have hsf : (frC f).length = szFr := frC_length hi
 have hst : ∀ W : World, (storeCells ⟨W.heap.size, 0, none⟩ (frC f) 0).run Tryz.prog (W.alloc (.cells (frA zeroF) 151)) = .ok () (W.alloc (.cells (frA f) 151)) := fun W => storeCells_frame zeroF_is hi W
 have CRD := hI (fun w => sread_any f.d w hi)
 have CR := hI (fun w => sright_any (readC f.d) w)
 have HI := hI hi
 rw [show cfRightB (readC f.d) = true from decide_eq_true hr] at CR
 have CB := hI (fun w => superblock_any (readC f.d) i w hr)
 have heq : ∀ w, (binOp .neq 151 (.agg (frA f)) (.agg (frA (supF (readC f.d) i)))).run Tryz.prog w = .ok (.bool true) w := fun w => by
  rw [neql_frames f _ hi (supF_is _ _), show frEq f (supF (readC f.d) i) = false by rw [← Bool.not_eq_true, frEq_iff]; exact hn]; rfl
 have hgd := guard_frame
 have hcg : (Value.agg (frA (supF (readC f.d) i))).cells = frA (supF (readC f.d) i) := rfl
 clear hr hn
 generalize supF (readC f.d) i = g at *
 clear hg hi
 go_enter Tryz.func115, Tryz.ntmps115
 go_wp2_with fail
 refine HG.out.mono ?_
 rintro e w1 ⟨rfl, hb1⟩
 have H1 := hI (SgS.then H0.out hb1)
 have hd2 := (frIn_new w1 f HI.out).loadD
 clear hb1
 go_wp2_with fail
 clear hst
 have H2 := hI (SgS.then H1.out (one_below w1 (.cells (frA f) 151)))
 have HF2 := hI (frIn_new w1 f HI.out)
 have hl2 : w1.heap.size < (w1.alloc (.cells (frA f) 151)).heap.size := by simp
 clear hd2
 generalize w1.alloc (.cells (frA f) 151) = w2 at *
 generalize w1.heap.size = b1 at *
 refine (CRD.out w2).mono ?_
 rintro e w3 ⟨rfl, hb3⟩
 generalize readC f.d = cf at *
 have h3 : GtS f b1 cf w3.heap.size w.heap.size w (w3.alloc (.cells (cfA cf) 24)) :=
  ⟨(HF2.out.below hl2 hb3).below (Nat.lt_of_lt_of_le hl2 hb3.size) (one_below _ _), cfB_new w3 cf, ((H2.out.then hb3).then (one_below _ _)).1, Nat.lt_of_lt_of_le (Nat.lt_of_lt_of_le hl2 hb3.size) (by simp), by simp, ((H2.out.then hb3).then (one_below _ _)).2.1, ((H2.out.then hb3).then (one_below _ _)).2.2⟩
 have H3 := hI h3
 clear hb3 hl2 h3
 go_wp2_with fail
 have h3 := H3.out
 generalize w3.alloc (.cells (cfA cf) 24) = w4 at *
 generalize w3.heap.size = b2 at *
 have d0 : ∀ w', GtS f b1 cf b2 w.heap.size w w' → w'.cell? ⟨b2, 0, none⟩ = some (.int .i64 cf.id) := fun w' h => h.2.1.cell 0
 have d1 : ∀ w', GtS f b1 cf b2 w.heap.size w w' → w'.cell? ⟨b2, 1, none⟩ = some (.int .i64 cf.k) := fun w' h => h.2.1.cell 1
 have d2 : ∀ w', GtS f b1 cf b2 w.heap.size w w' → w'.cell? ⟨b2, 2, none⟩ = some (.int .i64 cf.n) := fun w' h => h.2.1.cell 2
 have d3 : ∀ w', GtS f b1 cf b2 w.heap.size w w' → w'.cell? ⟨b2, 3, none⟩ = some (.int .i64 cf.t) := fun w' h => h.2.1.cell 3
 have d4 : ∀ w', GtS f b1 cf b2 w.heap.size w w' → w'.cell? ⟨b2, 4, none⟩ = some (.int .i64 cf.s) := fun w' h => h.2.1.cell 4
 have hla : ∀ w', GtS f b1 cf b2 w.heap.size w w' → (loadCellsFrom ⟨b1, 0, none⟩ 0 szFr #[]).run Tryz.prog w' = .ok (frA f) w' := fun w' h => h.1.load
 refine wp_region_noPanic ?_
 refine wp_region_held_drew (S := (fun w' => GtS f b1 cf b2 w.heap.size w w')) (by kernel_rfl) h3.drew (fun hHeld => ?_)
 refine hT 0 ⟨some 22, _, _, _, _, _⟩ rfl hHeld ?_
 simp only [hP]
 refine hC 1 rfl fun K hK => ?_
 go_simp
 refine (CR.out _).mono ?_
 rintro e w4 ⟨rfl, hb4⟩
 have h4 := GtS.then hHeld hb4
 clear hb4
 refine hK.out _ _ h4 (fun _ => ?_)
 clear hK K
 refine hT 2 ⟨some 24, _, _, _, _, _⟩ rfl h4 ?_
 simp only [hP]
 refine hT 3 ⟨some 25, _, _, _, _, _⟩ rfl h4 ?_
 simp only [hP]
 refine hT 4 ⟨some 26, _, _, _, _, _⟩ rfl h4 ?_
 simp only [hP]
 refine hT 5 ⟨some 27, _, _, _, _, _⟩ rfl h4 ?_
 simp only [hP]
 refine hT 6 ⟨some 28, _, _, _, _, _⟩ rfl h4 ?_
 simp only [hP]
 refine hC 7 rfl fun K hK => ?_
 go_simp
 refine (CB.out _).mono ?_
 rintro e w5 ⟨rfl, hb5⟩
 have h5 := GtS.then h4 hb5
 clear hb5
 refine hK.out _ _ h5 (fun _ => ?_)
 clear hK K
 refine hT 8 ⟨some 30, _, _, _, _, _⟩ rfl h5 ?_
 simp only [hP]
 refine hT 9 ⟨some 31, _, _, _, _, _⟩ rfl h5 ?_
 simp only [hP]
 refine wpAnyH_done (by kernel_rfl) ?_ _
 refine NoPanic.normal ?_
 obtain ⟨z0, z1, z2, z3, z4⟩ := h5.2.2.1.cells
 obtain ⟨q0, q1, q2, q3, q4⟩ := h5.2.2.1.free
 obtain ⟨y0, y1, y2, y3, y4⟩ := h5.2.1.cells
 have HF := hI (h5.2.2.1.fill ⟨0, 0, 0, 0, 0⟩).cells
 have HB := hI (fillC_below h5.2.2.2.2.2.2 (Nat.le_refl w.heap.size) ⟨0, 0, 0, 0, 0⟩)
 clear d0 d1 d2 d3 d4 hla h5
 go_wp2_with fail
 obtain ⟨g0, g1, g2, g3, g4⟩ := HF.out
 exact bodyPost_ret (v := .tuple #[.agg (cfA ⟨0, 0, 0, 0, 0⟩), .bool false]) (by simp [results, Tryz.results115, go_sem, g0, g1, g2, g3, g4]) rfl ⟨rfl, HB.out⟩
theorem sget_yes (w : World) (r : Value) (i : Int) (f : Fr) (hi : f.is) (hg : ∀ w' : World, Below w.heap.size w w' → Calls Tryz.prog 120 #[r, .int .i64 i, .int .i64 0, .int .i64 1, .int .i64 i, .int .i64 0] w' (FrameBit f true w')) (hr : CfRight (readC f.d)) (hn : f = supF (readC f.d) i) :
  Calls Tryz.prog 115 #[r, .int .i64 i] w (CfBit (readC f.d) true w) := by
 have H0 := hI (sgS_new w)
 have HG := hI (hg _ H0.out.2.2)
 have hz := szFr_run
 have hz0 := zero_frame
 have hzd := szDa_run
 have hcz : (Value.agg (frA zeroF)).cells = frA zeroF := rfl
 have hcf : (Value.agg (frA f)).cells = frA f := rfl
 have hsz : (frC zeroF).length = szFr := frC_length zeroF_is
 have hsf : (frC f).length = szFr := frC_length hi
 have hst : ∀ W : World, (storeCells ⟨W.heap.size, 0, none⟩ (frC f) 0).run Tryz.prog (W.alloc (.cells (frA zeroF) 151)) = .ok () (W.alloc (.cells (frA f) 151)) := fun W => storeCells_frame zeroF_is hi W
 have CRD := hI (fun w => sread_any f.d w hi)
 have CR := hI (fun w => sright_any (readC f.d) w)
 have HI := hI hi
 rw [show cfRightB (readC f.d) = true from decide_eq_true hr] at CR
 have CB := hI (fun w => superblock_any (readC f.d) i w hr)
 have heq : ∀ w, (binOp .neq 151 (.agg (frA f)) (.agg (frA (supF (readC f.d) i)))).run Tryz.prog w = .ok (.bool false) w := fun w => neql_yes hi (supF_is _ _) hn w
 have hgd := guard_frame
 have hcg : (Value.agg (frA (supF (readC f.d) i))).cells = frA (supF (readC f.d) i) := rfl
 clear hr hn
 generalize supF (readC f.d) i = g at *
 clear hg hi
 go_enter Tryz.func115, Tryz.ntmps115
 go_wp2_with fail
 refine HG.out.mono ?_
 rintro e w1 ⟨rfl, hb1⟩
 have H1 := hI (SgS.then H0.out hb1)
 have hd2 := (frIn_new w1 f HI.out).loadD
 clear hb1
 go_wp2_with fail
 clear hst
 have H2 := hI (SgS.then H1.out (one_below w1 (.cells (frA f) 151)))
 have HF2 := hI (frIn_new w1 f HI.out)
 have hl2 : w1.heap.size < (w1.alloc (.cells (frA f) 151)).heap.size := by simp
 clear hd2
 generalize w1.alloc (.cells (frA f) 151) = w2 at *
 generalize w1.heap.size = b1 at *
 refine (CRD.out w2).mono ?_
 rintro e w3 ⟨rfl, hb3⟩
 generalize readC f.d = cf at *
 have h3 : GtS f b1 cf w3.heap.size w.heap.size w (w3.alloc (.cells (cfA cf) 24)) :=
  ⟨(HF2.out.below hl2 hb3).below (Nat.lt_of_lt_of_le hl2 hb3.size) (one_below _ _), cfB_new w3 cf, ((H2.out.then hb3).then (one_below _ _)).1, Nat.lt_of_lt_of_le (Nat.lt_of_lt_of_le hl2 hb3.size) (by simp), by simp, ((H2.out.then hb3).then (one_below _ _)).2.1, ((H2.out.then hb3).then (one_below _ _)).2.2⟩
 have H3 := hI h3
 clear hb3 hl2 h3
 go_wp2_with fail
 have h3 := H3.out
 generalize w3.alloc (.cells (cfA cf) 24) = w4 at *
 generalize w3.heap.size = b2 at *
 have d0 : ∀ w', GtS f b1 cf b2 w.heap.size w w' → w'.cell? ⟨b2, 0, none⟩ = some (.int .i64 cf.id) := fun w' h => h.2.1.cell 0
 have d1 : ∀ w', GtS f b1 cf b2 w.heap.size w w' → w'.cell? ⟨b2, 1, none⟩ = some (.int .i64 cf.k) := fun w' h => h.2.1.cell 1
 have d2 : ∀ w', GtS f b1 cf b2 w.heap.size w w' → w'.cell? ⟨b2, 2, none⟩ = some (.int .i64 cf.n) := fun w' h => h.2.1.cell 2
 have d3 : ∀ w', GtS f b1 cf b2 w.heap.size w w' → w'.cell? ⟨b2, 3, none⟩ = some (.int .i64 cf.t) := fun w' h => h.2.1.cell 3
 have d4 : ∀ w', GtS f b1 cf b2 w.heap.size w w' → w'.cell? ⟨b2, 4, none⟩ = some (.int .i64 cf.s) := fun w' h => h.2.1.cell 4
 have hla : ∀ w', GtS f b1 cf b2 w.heap.size w w' → (loadCellsFrom ⟨b1, 0, none⟩ 0 szFr #[]).run Tryz.prog w' = .ok (frA f) w' := fun w' h => h.1.load
 refine wp_region_noPanic ?_
 refine wp_region_held_drew (S := (fun w' => GtS f b1 cf b2 w.heap.size w w')) (by kernel_rfl) h3.drew (fun hHeld => ?_)
 refine hT 0 ⟨some 22, _, _, _, _, _⟩ rfl hHeld ?_
 simp only [hP]
 refine hC 1 rfl fun K hK => ?_
 go_simp
 refine (CR.out _).mono ?_
 rintro e w4 ⟨rfl, hb4⟩
 have h4 := GtS.then hHeld hb4
 clear hb4
 refine hK.out _ _ h4 (fun _ => ?_)
 clear hK K
 refine hT 2 ⟨some 24, _, _, _, _, _⟩ rfl h4 ?_
 simp only [hP]
 refine hT 3 ⟨some 25, _, _, _, _, _⟩ rfl h4 ?_
 simp only [hP]
 refine hT 4 ⟨some 26, _, _, _, _, _⟩ rfl h4 ?_
 simp only [hP]
 refine hT 5 ⟨some 27, _, _, _, _, _⟩ rfl h4 ?_
 simp only [hP]
 refine hT 6 ⟨some 28, _, _, _, _, _⟩ rfl h4 ?_
 simp only [hP]
 refine hC 7 rfl fun K hK => ?_
 go_simp
 refine (CB.out _).mono ?_
 rintro e w5 ⟨rfl, hb5⟩
 have h5 := GtS.then h4 hb5
 clear hb5
 refine hK.out _ _ h5 (fun _ => ?_)
 clear hK K
 refine hT 8 ⟨some 30, _, _, _, _, _⟩ rfl h5 ?_
 simp only [hP]
 refine hT 9 ⟨some 31, _, _, _, _, _⟩ rfl h5 ?_
 simp only [hP]
 refine wpAnyH_done (by kernel_rfl) ?_ _
 refine NoPanic.normal ?_
 obtain ⟨z0, z1, z2, z3, z4⟩ := h5.2.2.1.cells
 obtain ⟨q0, q1, q2, q3, q4⟩ := h5.2.2.1.free
 obtain ⟨y0, y1, y2, y3, y4⟩ := h5.2.1.cells
 have HF := hI (h5.2.2.1.fill cf).cells
 have HB := hI (fillC_below h5.2.2.2.2.2.2 (Nat.le_refl w.heap.size) cf)
 clear d0 d1 d2 d3 d4 hla h5
 go_wp2_with fail
 obtain ⟨g0, g1, g2, g3, g4⟩ := HF.out
 exact bodyPost_ret (v := .tuple #[.agg (cfA cf), .bool true]) (by simp [results, Tryz.results115, go_sem, g0, g1, g2, g3, g4]) rfl ⟨rfl, HB.out⟩
theorem sget_any {lo : Nat} {c : Lc} {q : Rk} (w : World) (h : RackIn lo w c q) (i : Int) : Calls Tryz.prog 115 #[.pointer (some ⟨c.r, 0, none⟩), .int .i64 i] w (CfBit (cfOf q i) (cfHas q i) w) := by
 have hg := fun (w' : World) (hb : Below w.heap.size w w') => qget_any w' (h.below hb) i 0 1 i 0
 cases hf : qfound q i 0 1 i 0 with
 | false =>
  have e1 : cfHas q i = false := by unfold cfHas; rw [hf]; rfl
  have e2 : qgot q i 0 1 i 0 = zeroF := by unfold qgot; rw [hf]; rfl
  rw [e1, cfOf_no e1]; rw [hf, e2] at hg; exact sget_none w _ i hg
 | true =>
  have hi := qgot_is q i 0 1 i 0; rw [hf] at hg
  by_cases hr : CfRight (readC (qgot q i 0 1 i 0).d)
  ·by_cases hn : qgot q i 0 1 i 0 = supF (readC (qgot q i 0 1 i 0).d) i
   ·have e1 : cfHas q i = true := by
     unfold cfHas supGood; rw [hf, (frEq_iff _ _).2 hn, show cfRightB _ = true from decide_eq_true hr]; rfl
    have e2 : cfOf q i = readC (qgot q i 0 1 i 0).d := if_pos e1; rw [e1, e2]; exact sget_yes w _ i _ hi hg hr hn
   ·have e1 : cfHas q i = false := by
     unfold cfHas supGood; rw [hf, show frEq _ _ = false by rw [← Bool.not_eq_true, frEq_iff]; exact hn, show cfRightB _ = true from decide_eq_true hr]; rfl
    rw [e1, cfOf_no e1]; exact sget_other w _ i _ hi hg hr hn
  ·have e1 : cfHas q i = false := by
    unfold cfHas supGood; rw [hf, show cfRightB _ = false from decide_eq_false hr]; rfl
   rw [e1, cfOf_no e1]; exact sget_wrong w _ i _ hi hg hr
end Go.Proofs.YtilljaneegbhlaaGreatDoor
