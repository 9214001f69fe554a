/-
  stavelaw10.JournalRuns: the chapter's runs.
-/
import Derived.Test.YtidnmkghmaeniaaGreatDoorJGet
namespace Go.Proofs.YtidnmkghmaeniaaGreatDoor
open Go.RowKit Go.Deep Crc Dk Qk Go.Maps Hf
def cJ : Cf := ⟨9, 1, 2, 1, 2⟩
def xJ : Rc := ⟨3, 0, blks 5 1⟩
def jq0 : Rk := newRk 2 4
def jq1 : Rk := Rk.jblank jq0 cJ 0
def jq2 : Rk := Rk.jblank jq1 cJ 1
def jq3 : Rk := Rk.jlog jq2 cJ xJ
def jq4 : Rk := Rk.rotten jq3 0 2 0 1
def jq5 : Rk := Rk.rotten jq4 1 2 0 1
set_option maxRecDepth 100000 in
theorem jx_in : RcIn cJ 1 xJ := ⟨blks_is 5 1, blks_length 5 1, by decide, by decide, by decide, by decide, Or.inr ⟨by decide, by decide⟩⟩
theorem jwl0 : Wl jq0 cJ := wl_new (by decide) (by decide) (by decide) (by decide) (by decide)
theorem jnr0 : NoRot jq0 := fun _ _ _ => rfl
set_option maxRecDepth 100000 in
theorem j1 : Rk.jblankC jq0 cJ 0 = 0 ∧ Wl jq1 cJ ∧ SlotIs jq1 cJ 0 (blankR cJ) ∧ NoRot jq1 := by
  obtain ⟨a1, a2, a3, a4, a5, a6⟩ := jwl0.blank (s := 0) (by decide)
  exact ⟨a1, a2, a4, a6 jnr0⟩
set_option maxRecDepth 100000 in
theorem j2 : Rk.jblankC jq1 cJ 1 = 0 ∧ Wl jq2 cJ ∧ SlotIs jq2 cJ 0 (blankR cJ) ∧ NoRot jq2 := by
  obtain ⟨_, h2, h3, h4⟩ := j1
  obtain ⟨a1, a2, a3, a4, a5, a6⟩ := h2.blank (s := 1) (by decide)
  exact ⟨a1, a2, a5 0 _ (by decide) h3, a6 h4⟩
set_option maxRecDepth 100000 in
theorem j3 : Rk.jlogC jq2 cJ xJ = 0 ∧ Wl jq3 cJ ∧ SlotIs jq3 cJ 0 (blankR cJ) ∧ SlotIs jq3 cJ 1 xJ ∧ NoRot jq3 := by
  obtain ⟨_, h2, h3, h4⟩ := j2
  obtain ⟨a1, a2, a3, a4, a5, a6⟩ := h2.log (s := 1) (by decide) jx_in (by decide)
  exact ⟨a1, a2, a5 0 _ (by decide) h3, a4, a6 h4⟩
theorem jn1 : jq1.n = 2 ∧ jq1.k = 4 := ⟨jblank_n jq0 cJ 0, jblank_k jq0 cJ 0⟩
theorem jn2 : jq2.n = 2 ∧ jq2.k = 4 := ⟨(jblank_n jq1 cJ 1).trans jn1.1, (jblank_k jq1 cJ 1).trans jn1.2⟩
theorem jn3 : jq3.n = 2 ∧ jq3.k = 4 := ⟨(jlog_n jq2 cJ xJ).trans jn2.1, (jlog_k jq2 cJ xJ).trans jn2.2⟩
set_option maxRecDepth 100000 in
theorem jt1 : jcode jq3 cJ 1 = 0 ∧ jnewest jq3 cJ 1 = 3 ∧ jwhole jq3 cJ 1 = true ∧ jrecR jq3 cJ 1 = xJ := j3.2.2.2.1.told j3.2.1 (by decide) jx_in
set_option maxRecDepth 100000 in
theorem jt0 : jcode jq3 cJ 0 = 0 ∧ jnewest jq3 cJ 0 = 0 ∧ jwhole jq3 cJ 0 = true ∧ jrecR jq3 cJ 0 = blankR cJ := j3.2.2.1.told j3.2.1 (by decide) (blank_in j3.2.1.right 0)
theorem jslot_nil {q : Rk} {c : Cf} {s : Int} (h : jcode q c s = 0) : jslotV q c s = .nilIface := by
  unfold jcode at h
  unfold jslotV
  split at h
  · rename_i h1
    rw [if_pos h1]
    split at h
    · rename_i h2; rw [if_pos h2]
    · cases h
  · cases h
set_option maxRecDepth 100000 in
theorem jr4 : Rk.rots jq3 0 2 0 1 = true ∧ Wl jq4 cJ ∧ jq4.n = 2 ∧ jq4.k = 4 ∧ goodB ((jq4.s 0).read 2) = false ∧ (jq4.s 1).read 2 = put (jF xJ 0) ∧ (jq4.s 1).rot 2 = false := by
  obtain ⟨n3, k3⟩ := jn3
  obtain ⟨_, h2, _, h4, h5⟩ := j3
  obtain ⟨a1, a2, a3, a4, a5, a6⟩ := h2.rot (d := 0) (p := 2) (a := 0) (x := 1) (by rw [n3]; decide) (by rw [k3]; decide) (h5 0 2 (by rw [n3]; decide)) (by decide) (by decide)
  obtain ⟨b1, b2⟩ := a6 1 2 (Or.inl (by decide))
  refine ⟨a1, a2, a3.trans n3, a4.trans k3, ?_, b1.trans (h4 1 0 (by rw [n3]; decide) (by decide)), b2.trans (h5 1 2 (by rw [n3]; decide))⟩
  show goodB (((Rk.rotten jq3 ((0 : Nat) : Int) ((2 : Nat) : Int) ((0 : Nat) : Int) 1).s 0).read 2) = false
  rw [a5, show (jq3.s 0).read 2 = put (jF xJ 0) from h4 0 0 (by rw [n3]; decide) (by decide)]
  exact rot_bad (jF_is jx_in.is 0) (jx_in.frame h2.right (by decide)) (by decide) (by decide) (by decide)
set_option maxRecDepth 100000 in
theorem jr5 : Rk.rots jq4 1 2 0 1 = true ∧ Wl jq5 cJ ∧ jq5.n = 2 ∧ goodB ((jq5.s 0).read 2) = false ∧ goodB ((jq5.s 1).read 2) = false := by
  obtain ⟨_, h2, n4, k4, g0, g1, g2⟩ := jr4
  obtain ⟨a1, a2, a3, a4, a5, a6⟩ := h2.rot (d := 1) (p := 2) (a := 0) (x := 1) (by rw [n4]; decide) (by rw [k4]; decide) g2 (by decide) (by decide)
  obtain ⟨b1, _⟩ := a6 0 2 (Or.inl (by decide))
  refine ⟨a1, a2, a3.trans n4, ?_, ?_⟩
  · show goodB (((Rk.rotten jq4 ((1 : Nat) : Int) ((2 : Nat) : Int) ((0 : Nat) : Int) 1).s 0).read 2) = false
    rw [b1]; exact g0
  · show goodB (((Rk.rotten jq4 ((1 : Nat) : Int) ((2 : Nat) : Int) ((0 : Nat) : Int) 1).s 1).read 2) = false
    rw [a5, g1]
    exact rot_bad (jF_is jx_in.is 0) (jx_in.frame h2.right (by decide)) (by decide) (by decide) (by decide)
set_option maxRecDepth 100000 in
theorem jt5 : jslotV jq5 cJ 1 = wrapV opJSlot 1 (lossV 1 0 1) := by
  obtain ⟨_, h2, n5, g0, g1⟩ := jr5
  have hh := has_slot (s := 1) h2.fits (by decide)
  obtain ⟨_, hno⟩ := slot_lost (i := 0) hh (by decide) fun d hd _ => jfr_bad (by decide) (Or.inr (Or.inr (by
    rw [n5] at hd
    have : d = 0 ∨ d = 1 := by omega
    rcases this with rfl | rfl
    · exact g0
    · exact g1)))
  exact jslotV_loss hh hno
set_option maxHeartbeats 8000000 in
set_option maxRecDepth 100000 in
theorem journal_runs (w : World) (hT : Typ w) : Calls Tryz.prog 30 #[] w (Bit true w) := by
  have HT := Lib.hid hT
  obtain ⟨w1, hw1⟩ : ∃ w1, w1 = w.alloc (.cells (cfA cJ) 24) := ⟨_, rfl⟩
  have H1 := Lib.hid (show CfB cJ w.heap.size w1 ∧ w.heap.size < w1.heap.size ∧ Below w.heap.size w w1 by rw [hw1]; exact ⟨cfB_new w cJ, by simp, one_below _ _⟩)
  have HN := Lib.hid (show Calls Tryz.prog 42 #[.int .i64 2, .int .i64 4] w1 (QNew w1 2 4) from qs_new 2 4 w1 (by omega) (by omega) (by omega) (by omega))
  have hcR : (w.alloc (.cells #[.int .i64 9, .int .i64 1, .int .i64 2, .int .i64 1, .int .i64 2] 24)) = w1 := hw1.symm
  clear hT hw1
  go_enter Tryz.func30, Tryz.ntmps30
  go_wp2_with fail
  clear hcR
  refine HN.out.mono ?_
  rintro e w2 ⟨c, rfl, h2⟩
  have H2 := Lib.hid h2
  have CB := Lib.hid (show Calls Tryz.prog 24 #[.int .i64 1, .int .i64 5] w2 (BlksNew (blks 5 1) w2) from blocks_any 1 5 w2 (by decide))
  clear h2
  go_wp2_with fail
  refine CB.out.mono ?_
  rintro e w3 ⟨v, rfl, hv, hb3⟩
  have HJ4 := Lib.hid (show JW w1 c cJ w.heap.size w2.heap.size 2 jq0 (w3.alloc (.cells (rcA xJ.q xJ.t v) 61)) from JW.made H2.out H1.out.1 H1.out.2.1 (balloc hb3 _))
  have HX4 := Lib.hid (show RcB w2.heap.size xJ v w3.heap.size (w3.alloc (.cells (rcA xJ.q xJ.t v) 61)) from rcB_new (blks_is 5 1) hb3.size hv)
  obtain ⟨gv, cv, rfl, -⟩ := own_slice' hv
  have hlen : (blks 5 1).length = 1 := blks_length 5 1
  clear hv hb3
  obtain ⟨w4, hw4⟩ : ∃ w4, w4 = (w3.alloc (.cells (rcA xJ.q xJ.t (.slice gv (blks 5 1).length cv)) 61)) := ⟨_, rfl⟩
  rw [← hw4] at HJ4 HX4
  have hcR : (w3.alloc (.cells #[.int .i64 3, .int .i64 0, .slice gv (blks 5 1).length cv] 61)) = w4 := hw4.symm
  clear hw4
  rw [hlen] at hcR HX4
  have hcJ : (Value.agg #[.int .i64 cJ.id, .int .i64 cJ.k, .int .i64 cJ.n, .int .i64 cJ.t, .int .i64 cJ.s] : Value) = .agg (cfA cJ) := rfl
  have cfg : ∀ (q : Rk) (w' : World), JW w1 c cJ w.heap.size w2.heap.size 2 q w' → w'.cell? ⟨w.heap.size, 0, none⟩ = some (.int .i64 9) ∧ w'.cell? ⟨w.heap.size, 1, none⟩ = some (.int .i64 1) ∧ w'.cell? ⟨w.heap.size, 2, none⟩ = some (.int .i64 2) ∧ w'.cell? ⟨w.heap.size, 3, none⟩ = some (.int .i64 1) ∧ w'.cell? ⟨w.heap.size, 4, none⟩ = some (.int .i64 2) := fun _ _ h => CfB.cells h.cfg
  have HCF := Lib.hid cfg
  have rcd : ∀ (w' : World), RcB w2.heap.size xJ (.slice gv 1 cv) w3.heap.size w' → w'.cell? ⟨w3.heap.size, 0, none⟩ = some (.int .i64 3) ∧ w'.cell? ⟨w3.heap.size, 1, none⟩ = some (.int .i64 0) ∧ w'.cell? ⟨w3.heap.size, 2, none⟩ = some (.slice gv 1 cv) := fun _ h => h.cells
  have HRC := Lib.hid rcd
  clear cfg rcd
  have B1 := Lib.hid (show Calls Tryz.prog 21 #[.pointer (some ⟨c.r, 0, none⟩), .agg #[.int .i64 9, .int .i64 1, .int .i64 2, .int .i64 1, .int .i64 2], .int .i64 0] w4 (JN w1 c cJ w.heap.size w2.heap.size 2 jq1 .nilIface w4) from by
    have := HJ4.out.blank 0
    rwa [jblank_nil j1.1] at this)
  obtain ⟨d0, d1, d2, d3, d4⟩ := HCF.out _ _ HJ4.out
  go_wp2_with fail
  clear hcR
  refine B1.out.mono ?_
  rintro e w5 ⟨rfl, hj5, hc5⟩
  have HJ5 := Lib.hid hj5
  have HX5 := Lib.hid (HX4.out.rc HJ5.out.far hc5)
  have B2 := Lib.hid (show Calls Tryz.prog 21 #[.pointer (some ⟨c.r, 0, none⟩), .agg #[.int .i64 9, .int .i64 1, .int .i64 2, .int .i64 1, .int .i64 2], .int .i64 1] w5 (JN w1 c cJ w.heap.size w2.heap.size 2 jq2 .nilIface w5) from by
    have := hj5.blank 1
    rwa [jblank_nil j2.1] at this)
  clear d0 d1 d2 d3 d4
  obtain ⟨d0, d1, d2, d3, d4⟩ := HCF.out _ _ hj5
  clear hj5 hc5
  go_wp2_with fail
  refine B2.out.mono ?_
  rintro e w6 ⟨rfl, hj6, hc6⟩
  have HJ6 := Lib.hid hj6
  have HX6 := Lib.hid (HX5.out.rc HJ6.out.far hc6)
  have B3 := Lib.hid (show Calls Tryz.prog 25 #[.pointer (some ⟨c.r, 0, none⟩), .agg #[.int .i64 9, .int .i64 1, .int .i64 2, .int .i64 1, .int .i64 2], .agg #[.int .i64 3, .int .i64 0, .slice gv 1 cv]] w6 (JN w1 c cJ w.heap.size w2.heap.size 2 jq3 .nilIface w6) from by
    have := hj6.log HX6.out
    rwa [jlog_nil j3.1] at this)
  clear d0 d1 d2 d3 d4
  obtain ⟨d0, d1, d2, d3, d4⟩ := HCF.out _ _ hj6
  obtain ⟨x0, x1, x2⟩ := HRC.out _ HX6.out
  clear hj6 hc6
  go_wp2_with fail
  refine B3.out.mono ?_
  rintro e w7 ⟨rfl, hj7, hc7⟩
  have HJ7 := Lib.hid hj7
  have HX7 := Lib.hid (HX6.out.rc HJ7.out.far hc7)
  have B4 := Lib.hid (show Calls Tryz.prog 27 #[.pointer (some ⟨c.r, 0, none⟩), .agg #[.int .i64 9, .int .i64 1, .int .i64 2, .int .i64 1, .int .i64 2], .int .i64 1] w7 (SlotOut jq3 cJ 1 w7) from hj7.slot 1)
  unfold SlotOut at B4
  rw [jt1.2.2.2, jt1.2.2.1, jt1.2.1, jslot_nil jt1.1] at B4
  clear d0 d1 d2 d3 d4 x0 x1 x2
  obtain ⟨d0, d1, d2, d3, d4⟩ := HCF.out _ _ hj7
  clear hj7 hc7
  go_wp2_with fail
  refine B4.out.mono ?_
  rintro e w8 ⟨va, rfl, hva, hb8⟩
  have HA9 := Lib.hid (show RcB w2.heap.size xJ va w8.heap.size (w8.alloc (.cells (rcA xJ.q xJ.t va) 61)) from rcB_new (blks_is 5 1) (Nat.le_trans HJ7.out.bB hb8.size) (own_base hva HJ7.out.bB))
  have HJ9 := Lib.hid (show JW w1 c cJ w.heap.size w2.heap.size 2 jq3 (w8.alloc (.cells (rcA xJ.q xJ.t va) 61)) from HJ7.out.below (balloc hb8 _))
  have HX9 := Lib.hid (HX7.out.below (balloc hb8 (.cells (rcA xJ.q xJ.t va) 61)))
  have hva' : w8.ownsRow w7.heap.size 81 108 va (blks 5 1).length ((blks 5 1).map bytesV).flatten := hva
  obtain ⟨ga, ca, rfl, -⟩ := own_slice' hva'
  rw [hlen] at HA9 HJ9 HX9
  clear hva hva' hb8 d0 d1 d2 d3 d4
  have hq3 : (Value.agg (rcA xJ.q xJ.t (.slice ga (blks 5 1).length ca))) = .agg #[.int .i64 3, .int .i64 0, .slice ga 1 ca] := by rw [hlen]; rfl
  rw [hq3]
  clear hq3
  obtain ⟨w9, hw9⟩ : ∃ w9, w9 = (w8.alloc (.cells (rcA xJ.q xJ.t (.slice ga 1 ca)) 61)) := ⟨_, rfl⟩
  rw [← hw9] at HA9 HJ9 HX9
  have hcR : (w8.alloc (.cells #[.int .i64 3, .int .i64 0, .slice ga 1 ca] 61)) = w9 := hw9.symm
  clear hw9
  have B5 := Lib.hid (show Calls Tryz.prog 27 #[.pointer (some ⟨c.r, 0, none⟩), .agg #[.int .i64 9, .int .i64 1, .int .i64 2, .int .i64 1, .int .i64 2], .int .i64 0] w9 (SlotOut jq3 cJ 0 w9) from HJ9.out.slot 0)
  unfold SlotOut at B5
  rw [jt0.2.2.2, jt0.2.2.1, jt0.2.1, jslot_nil jt0.1] at B5
  obtain ⟨d0, d1, d2, d3, d4⟩ := HCF.out _ _ HJ9.out
  go_wp2_with fail
  clear hcR
  refine B5.out.mono ?_
  rintro e w10 ⟨vb, rfl, hvb, hb10⟩
  have HB11 := Lib.hid (show RcB w2.heap.size (blankR cJ) vb w10.heap.size (w10.alloc (.cells (rcA (blankR cJ).q (blankR cJ).t vb) 61)) from rcB_new (blankR_is cJ) (Nat.le_trans HJ9.out.bB hb10.size) (own_base hvb HJ9.out.bB))
  have HJ11 := Lib.hid (HJ9.out.below (balloc hb10 (.cells (rcA (blankR cJ).q (blankR cJ).t vb) 61)))
  have HX11 := Lib.hid (HX9.out.below (balloc hb10 (.cells (rcA (blankR cJ).q (blankR cJ).t vb) 61)))
  have HA11 := Lib.hid (HA9.out.below (balloc hb10 (.cells (rcA (blankR cJ).q (blankR cJ).t vb) 61)))
  obtain ⟨gb, cb, rfl, -⟩ := own_slice' hvb
  generalize (blankR cJ).b.length = lb at *
  clear hvb hb10 d0 d1 d2 d3 d4
  have hq0 : (Value.agg (rcA (blankR cJ).q (blankR cJ).t (.slice gb lb cb))) = .agg #[.int .i64 0, .int .i64 0, .slice gb lb cb] := rfl
  rw [hq0]
  clear hq0
  obtain ⟨w11, hw11⟩ : ∃ w11, w11 = (w10.alloc (.cells (rcA (blankR cJ).q (blankR cJ).t (.slice gb lb cb)) 61)) := ⟨_, rfl⟩
  rw [← hw11] at HB11 HJ11 HX11 HA11
  have hcR : (w10.alloc (.cells #[.int .i64 0, .int .i64 0, .slice gb lb cb] 61)) = w11 := hw11.symm
  clear hw11
  have B6 := Lib.hid (show Calls Tryz.prog 46 #[.pointer (some ⟨c.r, 0, none⟩), .int .i64 0, .int .i64 2, .int .i64 0, .int .u32 1] w11 (JN w1 c cJ w.heap.size w2.heap.size 2 jq4 (.bool true) w11) from by
    have := HJ11.out.rot 0 2 0 1
    rwa [jr4.1] at this)
  go_wp2_with fail
  clear hcR
  refine B6.out.mono ?_
  rintro e w12 ⟨rfl, hj12, hc12⟩
  have HJ12 := Lib.hid hj12
  have HX12 := Lib.hid (HX11.out.rc HJ12.out.far hc12)
  have HA12 := Lib.hid (HA11.out.rc HJ12.out.far hc12)
  have HB12 := Lib.hid (HB11.out.rc HJ12.out.far hc12)
  have B7 := Lib.hid (show Calls Tryz.prog 46 #[.pointer (some ⟨c.r, 0, none⟩), .int .i64 1, .int .i64 2, .int .i64 0, .int .u32 1] w12 (JN w1 c cJ w.heap.size w2.heap.size 2 jq5 (.bool true) w12) from by
    have := hj12.rot 1 2 0 1
    rwa [jr5.1] at this)
  clear hj12 hc12
  go_wp2_with fail
  refine B7.out.mono ?_
  rintro e w13 ⟨rfl, hj13, hc13⟩
  have HJ13 := Lib.hid hj13
  have HX13 := Lib.hid (HX12.out.rc HJ13.out.far hc13)
  have HA13 := Lib.hid (HA12.out.rc HJ13.out.far hc13)
  have HB13 := Lib.hid (HB12.out.rc HJ13.out.far hc13)
  have B8 := Lib.hid (show Calls Tryz.prog 27 #[.pointer (some ⟨c.r, 0, none⟩), .agg #[.int .i64 9, .int .i64 1, .int .i64 2, .int .i64 1, .int .i64 2], .int .i64 1] w13 (SlotOut jq5 cJ 1 w13) from hj13.slot 1)
  unfold SlotOut at B8
  rw [jt5] at B8
  generalize jrecR jq5 cJ 1 = xz at *
  generalize jwhole jq5 cJ 1 = wz at *
  generalize jnewest jq5 cJ 1 = nz at *
  obtain ⟨d0, d1, d2, d3, d4⟩ := HCF.out _ _ hj13
  clear hj13 hc13
  unfold wrapV lossV at B8
  go_wp2_with fail
  refine B8.out.mono ?_
  rintro e w14 ⟨vz, rfl, hvz, hb14⟩
  obtain ⟨gz, cz, rfl, -⟩ := own_slice' hvz
  have HL15 := Lib.hid (balloc hb14 (.cells (rcA xz.q xz.t (.slice gz xz.b.length cz)) 61))
  have HJ15 := Lib.hid (HJ13.out.below HL15.out)
  have CL := Lib.hid (lost_loss [(opJSlot, 1)] 1 0 1 (w14.alloc (.cells (rcA xz.q xz.t (.slice gz xz.b.length cz)) 61)) _ rfl (HT.out.below (bthen H1.out.2.2 HJ15.out.qs.base)))
  unfold chain chain wrapV lossV at CL
  clear hvz hb14 d0 d1 d2 d3 d4
  go_wp2_with fail
  refine CL.out.mono ?_
  rintro e w16 ⟨rfl, hb16⟩
  have HL17 := Lib.hid (bthen HL15.out (balloc hb16 (.cells #[.int .i64 1, .int .i64 0, .int .i64 1] 88)))
  have HX17 := Lib.hid (HX13.out.below HL17.out)
  have HA17 := Lib.hid (HA13.out.below HL17.out)
  have HB17 := Lib.hid (HB13.out.below HL17.out)
  have HJ17 := Lib.hid (HJ13.out.below HL17.out)
  clear hb16
  obtain ⟨w17, hw17⟩ : ∃ w17, w17 = (w16.alloc (.cells #[.int .i64 1, .int .i64 0, .int .i64 1] 88)) := ⟨_, rfl⟩
  have hc0 : w17.cell? ⟨w16.heap.size, 0, none⟩ = some (.int .i64 1) ∧ w17.cell? ⟨w16.heap.size, 1, none⟩ = some (.int .i64 0) ∧ w17.cell? ⟨w16.heap.size, 2, none⟩ = some (.int .i64 1) := by
    rw [hw17]; exact ⟨new_cells _ _ _ 0 _ rfl, new_cells _ _ _ 1 _ rfl, new_cells _ _ _ 2 _ rfl⟩
  rw [← hw17] at HL17 HX17 HA17 HB17 HJ17
  have hcR : (w16.alloc (.cells #[.int .i64 1, .int .i64 0, .int .i64 1] 88)) = w17 := hw17.symm
  clear hw17
  have HB18 := Lib.hid (bthen H1.out.2.2 HJ17.out.qs.base)
  have CR := Lib.hid (show Calls Tryz.prog 29 #[.agg #[.int .i64 3, .int .i64 0, .slice ga 1 ca], .agg #[.int .i64 3, .int .i64 0, .slice gv 1 cv]] w17 (Bit true w17) from by
    have := krecord_any xJ xJ (.slice ga 1 ca) (.slice gv 1 cv) w17 HA17.out.slk HX17.out.slk (by rw [show xJ.b.length = 1 from hlen]; decide)
    rwa [rcB_refl] at this)
  obtain ⟨x0, x1, x2⟩ := HRC.out _ HX17.out
  obtain ⟨y0, y1, y2⟩ := show w17.cell? ⟨w8.heap.size, 0, none⟩ = some (.int .i64 3) ∧ w17.cell? ⟨w8.heap.size, 1, none⟩ = some (.int .i64 0) ∧ w17.cell? ⟨w8.heap.size, 2, none⟩ = some (.slice ga 1 ca) from HA17.out.cells
  have HZ := Lib.hid (show ∀ w' : World, Below w17.heap.size w17 w' → w'.cell? ⟨w10.heap.size, 0, none⟩ = some (.int .i64 0) from fun w' hb => by
    rw [hb.cell (p := ⟨w10.heap.size, 0, none⟩) HB17.out.lt]; exact HB17.out.cells.1)
  have HQ := Lib.hid (show ∀ w' : World, Below w17.heap.size w17 w' → w'.cell? ⟨w16.heap.size, 0, none⟩ = some (.int .i64 1) ∧ w'.cell? ⟨w16.heap.size, 1, none⟩ = some (.int .i64 0) ∧ w'.cell? ⟨w16.heap.size, 2, none⟩ = some (.int .i64 1) from fun w' hb => by
    have hl : w16.heap.size < w17.heap.size := by rw [← hcR]; simp
    exact ⟨by rw [hb.cell (p := ⟨w16.heap.size, 0, none⟩) hl]; exact hc0.1, by rw [hb.cell (p := ⟨w16.heap.size, 1, none⟩) hl]; exact hc0.2.1, by rw [hb.cell (p := ⟨w16.heap.size, 2, none⟩) hl]; exact hc0.2.2⟩)
  have hql := fun w => eql_loss 1 0 1 w
  have hgd := guard_loss
  clear hc0
  go_wp2_with fail
  clear hcR
  refine CR.out.mono ?_
  rintro e w18 ⟨rfl, hb18⟩
  have z0 := HZ.out _ hb18
  obtain ⟨q0, q1, q2⟩ := HQ.out _ hb18
  have HB19 := Lib.hid (bthen HB18.out hb18)
  clear hb18 x0 x1 x2 y0 y1 y2
  go_wp2_with fail
  go_ret
  exact bit rfl HB19.out
end Go.Proofs.YtidnmkghmaeniaaGreatDoor
/-
  How a law of the journal begins: a configuration, a new rack of it.
-/
namespace Go.Proofs.YtidnmkghmaeniaaGreatDoor
open Go.RowKit Go.Deep Crc Dk Qk Go.Maps Hf
def JfS (cf : Cf) (b : Nat) (w w' : World) : Prop := CfB cf b w' ∧ b < w'.heap.size ∧ Below w.heap.size w w'
theorem JfS.drew {cf : Cf} {b : Nat} {w w' : World} (h : JfS cf b w w') : JfS cf b w w'.drew := ⟨h.1, h.2.1, h.2.2.drew⟩
theorem JfS.then {cf : Cf} {b : Nat} {w w1 w2 : World} (h : JfS cf b w w1) (hb : Below w1.heap.size w1 w2) : JfS cf b w w2 := ⟨CfB.below h.1 h.2.1 hb, Nat.lt_of_lt_of_le h.2.1 hb.size, bthen h.2.2 hb⟩
theorem JfS.made {cf : Cf} {b : Nat} {w w1 w2 : World} {c : Lc} {q : Rk} (h : JfS cf b w w1) (hq : QS w1 c q w2) : JfS cf b w w2 := h.then hq.base
/-- A law's configuration. -/
structure CfL (cf : Cf) (N K SC : Nat) (T Z : Int) : Prop where
  ok : CfgOk cf
  n : cf.n = N
  k : cf.k = K
  secs : cf.secs = SC
  t : cf.t = T
  s : cf.s = Z
  r : 1 ≤ N ∧ N ≤ 6 ∧ 1 ≤ SC ∧ SC ≤ 128 ∧ 1 ≤ K ∧ K ≤ 4 ∧ K ≤ N
theorem cfL_of {cf : Cf} {T Z : Int} (h : CfgOk cf ∧ cf.t = T ∧ cf.s = Z) : ∃ N K SC, CfL cf N K SC T Z := by
  obtain ⟨⟨h1, h2, h3, h4, h5, h6⟩, ht, hs⟩ := h
  have hok : CfgOk cf := ⟨h1, h2, h3, h4, h5, h6⟩
  obtain ⟨x1, x2, _⟩ := hok.right.secs
  obtain ⟨N, hN⟩ := Int.eq_ofNat_of_zero_le (show 0 ≤ cf.n by omega)
  obtain ⟨K, hK⟩ := Int.eq_ofNat_of_zero_le (show 0 ≤ cf.k by omega)
  obtain ⟨SC, hSC⟩ := Int.eq_ofNat_of_zero_le (show 0 ≤ cf.secs by omega)
  exact ⟨N, K, SC, hok, hN, hK, hSC, ht, hs, by omega⟩
theorem CfL.fits {cf : Cf} {N K SC : Nat} {T Z : Int} (h : CfL cf N K SC T Z) {q : Rk} (h1 : q.n = N) (h2 : q.k = SC) : cf.fits q = true := by
  unfold Cf.fits
  rw [show cfRightB cf = true from decide_eq_true h.ok.right, h1, h2, h.n, h.secs, decide_eq_true rfl, decide_eq_true (Int.le_refl _)]; rfl
theorem CfL.wl {cf : Cf} {N K SC : Nat} {T Z : Int} (h : CfL cf N K SC T Z) : Wl (newRk N SC) cf := wl_new h.r.1 (by have := h.r.2.1; omega) h.r.2.2.1 h.r.2.2.2.1 (h.fits rfl rfl)
theorem CfL.nr (N SC : Nat) : NoRot (newRk N SC) := fun _ _ _ => rfl
theorem CfL.new {cf : Cf} {N K SC : Nat} {T Z : Int} (h : CfL cf N K SC T Z) (w : World) : Calls Tryz.prog 42 #[.int .i64 cf.n, .int .i64 cf.secs] w (QNew w N SC) := by
  rw [h.n, h.secs]; exact qs_new N SC w h.r.1 (by have := h.r.2.1; omega) h.r.2.2.1 h.r.2.2.2.1
theorem CfL.blocks {cf : Cf} {N K SC : Nat} {T Z : Int} (h : CfL cf N K SC T Z) (a : Int) (w : World) : Calls Tryz.prog 24 #[.int .i64 cf.k, .int .i64 a] w (BlksNew (blks a K) w) := by
  rw [h.k]; exact blocks_any K a w (by have := h.r.2.2.2.2.2.1; omega)
/-- A record of a law: its number, its stripe, the blocks of a number. -/
def lawR (q t a : Int) (K : Nat) : Rc := ⟨q, t, blks a K⟩
theorem lawR_is (q t a : Int) (K : Nat) : (lawR q t a K).is := blks_is a K
theorem CfL.rc {cf : Cf} {N K SC : Nat} {T Z : Int} (h : CfL cf N K SC T Z) {q t a : Int} {s : Nat} (h0 : 0 ≤ q) (h1 : q ≤ 1152921504606846976) (h2 : 0 ≤ t) (h3 : t < T) (hs : q = 0 ∨ 2 ≤ q ∧ q % Z = s) : RcIn cf s (lawR q t a K) :=
  ⟨lawR_is q t a K, by show (blks a K).length = _; rw [blks_length, h.k]; rfl, h0, h1, h2, by rw [h.t]; exact h3, by rw [h.s]; exact hs⟩
theorem dying_n (q : Rk) (i : Int) (d : Bool) : (Rk.dying q i d).n = q.n := by unfold Rk.dying; split <;> rfl
theorem JW.die {w1 : World} {c : Lc} {cf : Cf} {b B n : Nat} {q : Rk} {w : World} (h : JW w1 c cf b B n q w) (i : Int) :
    Calls Tryz.prog 44 #[.pointer (some ⟨c.r, 0, none⟩), .int .i64 i] w (JN w1 c cf b B n (Rk.dying q i true) (.bool (decide (q.has i))) w) := h.step (h.qs.die i) (dying_n _ _ _)
theorem JW.replace {w1 : World} {c : Lc} {cf : Cf} {b B n : Nat} {q : Rk} {w : World} (h : JW w1 c cf b B n q w) (i : Int) :
    Calls Tryz.prog 45 #[.pointer (some ⟨c.r, 0, none⟩), .int .i64 i] w (JN w1 c cf b B n (Rk.dying q i false) (.bool (decide (q.has i))) w) := h.step (h.qs.replace i) (dying_n _ _ _)
end Go.Proofs.YtidnmkghmaeniaaGreatDoor
