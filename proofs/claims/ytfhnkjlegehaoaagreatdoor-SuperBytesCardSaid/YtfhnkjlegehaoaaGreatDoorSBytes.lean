/-
  stavelaw9.SuperBytes: the walk (written by gensby.py).
-/
import Derived.Test.YtfhnkjlegehaoaaGreatDoorSBytesM
import Derived.Test.YtfhnkjlegehaoaaGreatDoorSFew
import Derived.Test.YtfhnkjlegehaoaaGreatDoorSameB
import Derived.Deep.RegionHeld3
namespace Go.Proofs.YtfhnkjlegehaoaaGreatDoor
open Go.RowKit Go.Deep Crc Dk Qk Go.Maps Hf
theorem frIn_part {f : Fr} {b : Nat} {w : World} (h : FrIn f b w) (hb : b < w.heap.size) : SlB w.heap.size w (.slice (some ⟨b, 4, none⟩) 9 108) (f.d.take 9) := by
  have hi : f.d.length = 108 := h.1
  have hl : (f.d.take 9).length = 9 := by rw [List.length_take]; omega
  rcases h.data with ⟨h0, _⟩ | ⟨b', o, cap, h1, h2, h3, h4, h5⟩
  · rw [h0] at hi; simp at hi
  · injection h1 with h1 _ _
    injection h1 with h1
    injection h1 with e1 e2 _
    subst e1 e2
    refine Or.inr ⟨b, 4, 108, by rw [hl], hb, fun x hx => ?_, by omega, by omega⟩
    rw [hl] at hx
    rw [h3 x (by omega)]
    simp [List.getD, hx]
theorem FrB.rc {f : Fr} {b n : Nat} {w w' : World} {c : Lc} (h : FrB f b w) (hf : Far b c n) (hb : b < w.heap.size) (hc : RC c n w w') : FrB f b w' :=
  ⟨h.1, by rw [hc.block b hb (by have := hf.1; omega) (fun i hi => by have := hf.2 i hi; omega)]; exact h.2⟩
theorem QS.keepB {w0 w w' : World} {c : Lc} {q : Rk} {B : Nat} (h : QS w0 c q w) (hb : Below B w w') (hf : Far B c q.n ∧ c.P < B) (hB : w0.heap.size ≤ B) : QS w0 c q w' := ⟨h.rack.keepB hf hb, h.base.trans (hb.mono hB)⟩
def Fr.setG (f : Fr) (g : Int) : Fr := ⟨f.k, f.s, f.t, g, f.d⟩
theorem FrB.setG {f : Fr} {b : Nat} {w : World} (h : FrB f b w) (g : Int) : FrB (Fr.setG f g) b (w.setCell ⟨b, 3, none⟩ (.int .i64 g)) := by
  refine ⟨h.1, ?_⟩
  show (w.heap.modify b _)[b]? = _
  rw [Array.getElem?_modify, if_pos rfl, h.2]
  rfl
def GbS (F : Fr) (b1 : Nat) (cf : Cf) (b : Nat) (w w' : World) : Prop := FrIn F b1 w' ∧ CfB cf b w' ∧ b1 < w'.heap.size ∧ b < w'.heap.size ∧ Below w.heap.size w w'
theorem GbS.drew {F : Fr} {b1 : Nat} {cf : Cf} {b : Nat} {w w' : World} (h : GbS F b1 cf b w w') : GbS F b1 cf b w w'.drew := ⟨h.1, h.2.1, h.2.2.1, h.2.2.2.1, h.2.2.2.2.drew⟩
theorem GbS.then {F : Fr} {b1 : Nat} {cf : Cf} {b : Nat} {w w1 w2 : World} (h : GbS F b1 cf b w w1) (hb : Below w1.heap.size w1 w2) : GbS F b1 cf b w w2 :=
  ⟨h.1.below h.2.2.1 hb, h.2.1.below h.2.2.2.1 hb, Nat.lt_of_lt_of_le h.2.2.1 hb.size, Nat.lt_of_lt_of_le h.2.2.2.1 hb.size, bthen h.2.2.2.2 hb⟩
theorem lit_row {lit : Array Value} {l : List UInt8} {w : World} {P : Prop} (h : lit.toList = bytesV l ∧ l.length = 9) (_ : P) : SlB (w.alloc (.cells lit 5)).heap.size (w.alloc (.cells lit 5)) (.slice (some ⟨w.heap.size, 0, none⟩) 9 9) l := by
  have := new_slb (w := w) (cs := lit) (T := 5) (n := 9) (m := (0, 0)) l h.2 h.1
  simpa using this
set_option maxHeartbeats 16000000 in
set_option maxRecDepth 100000 in
theorem bytes_any (a0 a1 a2 a3 i at_ : Int) (w : World) (hT : Typ w) : Calls Tryz.prog 8 #[.int .i64 a0, .int .i64 a1, .int .i64 a2, .int .i64 a3, .int .i64 i, .int .i64 at_] w (Bit true w) := by
  have HT := Lib.hid hT
  clear hT
  have hz := szFr_run
  have hz0 := zero_frame
  have hcz : (Value.agg (frA zeroF)).cells = frA zeroF := rfl
  have hsz : (frC zeroF).length = szFr := frC_length zeroF_is
  go_enter Tryz.func8, Tryz.ntmps8
  go_wp2_with fail
  refine (config_any a0 a1 a2 a3 w).mono ?_
  rintro e w1 ⟨cf, hcf, rfl, hb1⟩
  have HCF := Lib.hid hcf
  obtain ⟨N, hN⟩ := Int.eq_ofNat_of_zero_le (show 0 ≤ cf.n by have := hcf.2; omega)
  obtain ⟨x1, x2, _⟩ := hcf.right.secs
  obtain ⟨SC, hSC⟩ := Int.eq_ofNat_of_zero_le (show 0 ≤ cf.secs by omega)
  have HN := Lib.hid hN
  have HNR := Lib.hid (show 1 ≤ N ∧ N ≤ 8 ∧ 1 ≤ SC ∧ SC ≤ 128 by have := hcf.2; omega)
  have CS := Lib.hid (fun w => ssectors_any cf w hcf.right)
  have CN := Lib.hid (fun w => show Calls Tryz.prog 9 #[.int .i64 cf.n, .int .i64 cf.secs] w (QNew w N SC) from by rw [hN, hSC]; exact qs_new N SC w HNR.out.1 HNR.out.2.1 HNR.out.2.2.1 HNR.out.2.2.2)
  have HFITS := Lib.hid (fun (q : Rk) (h1 : q.n = N) (h2 : q.k = SC) => show cf.fits q = true from by
    unfold Cf.fits
    rw [show cfRightB cf = true from decide_eq_true hcf.right, h1, h2, hN, hSC, decide_eq_true rfl, decide_eq_true (Int.le_refl _)]; rfl)
  have H2 := Lib.hid (show FwS cf w1.heap.size w (w1.alloc (.cells (cfA cf) 23)) from ⟨cfB_new w1 cf, by simp, balloc hb1 _⟩)
  clear hb1 hcf x1 x2 hN hSC
  go_wp2_with fail
  have h2 := H2.out
  generalize w1.alloc (.cells (cfA cf) 23) = w2 at *
  generalize w1.heap.size = b at *
  have d0 : ∀ w', FwS cf b w w' → w'.cell? ⟨b, 0, none⟩ = some (.int .i64 cf.id) := fun w' h => h.1.cell 0
  have d1 : ∀ w', FwS cf b w w' → w'.cell? ⟨b, 1, none⟩ = some (.int .i64 cf.k) := fun w' h => h.1.cell 1
  have d2 : ∀ w', FwS cf b w w' → w'.cell? ⟨b, 2, none⟩ = some (.int .i64 cf.n) := fun w' h => h.1.cell 2
  have d3 : ∀ w', FwS cf b w w' → w'.cell? ⟨b, 3, none⟩ = some (.int .i64 cf.t) := fun w' h => h.1.cell 3
  have d4 : ∀ w', FwS cf b w w' → w'.cell? ⟨b, 4, none⟩ = some (.int .i64 cf.s) := fun w' h => h.1.cell 4
  refine wp_region_noPanic ?_
  refine wp_region_held_drew (S := (fun w' => FwS cf b w w')) (by kernel_rfl) h2.drew (fun hHeld => ?_)
  refine wpAnyH_take (i := 0) (oi := ⟨some 35, _, _, _, _, _⟩) (v := ?_) rfl (by kernel_rfl) (by kernel_rfl) (by kernel_rfl) (fun _ _ _ h => h) (Or.inl ⟨by rfl, ?_⟩) hHeld ?_
  rotate_left
  · intro w hSw; (go_simp; try with_reducible rfl)
  simp only [Act.put, List.setIfInBounds_toArray, List.set_cons_zero, List.set_cons_succ]
  refine wpAnyH_take (i := 1) (oi := ⟨some 36, _, _, _, _, _⟩) (v := ?_) rfl (by kernel_rfl) (by kernel_rfl) (by kernel_rfl) (fun _ _ _ h => h) (Or.inl ⟨by rfl, ?_⟩) hHeld ?_
  rotate_left
  · intro w hSw; (go_simp; try with_reducible rfl)
  simp only [Act.put, List.setIfInBounds_toArray, List.set_cons_zero, List.set_cons_succ]
  refine wpAnyH_take (i := 2) (oi := ⟨some 37, _, _, _, _, _⟩) (v := ?_) rfl (by kernel_rfl) (by kernel_rfl) (by kernel_rfl) (fun _ _ _ h => h) (Or.inl ⟨by rfl, ?_⟩) hHeld ?_
  rotate_left
  · intro w hSw; (go_simp; try with_reducible rfl)
  simp only [Act.put, List.setIfInBounds_toArray, List.set_cons_zero, List.set_cons_succ]
  refine wpAnyH_ready (rs := [3]) (by kernel_rfl) (by simp) (AllReadyH.cons rfl (fun K hK => ?_) AllReadyH.nil)
  go_simp
  refine (CS.out _).mono ?_
  rintro e w3 ⟨rfl, hb3⟩
  have h3 := FwS.then hHeld hb3
  clear hb3
  refine hK.out _ _ h3 (fun _ => ?_)
  clear hK K
  refine wpAnyH_ready (rs := [4]) (by kernel_rfl) (by simp) (AllReadyH.cons rfl (fun K hK => ?_) AllReadyH.nil)
  go_simp
  refine (CN.out _).mono ?_
  rintro e w4 ⟨c, rfl, h4⟩
  have H4 := Lib.hid h4
  have h5 := FwS.made h3 h4
  clear h4
  refine hK.out _ _ h5 (fun _ => ?_)
  clear hK K
  refine wpAnyH_take (i := 5) (oi := ⟨some 34, _, _, _, _, _⟩) (v := ?_) rfl (by kernel_rfl) (by kernel_rfl) (by kernel_rfl) (fun _ _ _ h => h) (Or.inl ⟨by rfl, ?_⟩) h5 ?_
  rotate_left
  · intro w hSw; (go_simp; try with_reducible rfl)
  simp only [Act.put, List.setIfInBounds_toArray, List.set_cons_zero, List.set_cons_succ]
  refine wpAnyH_take (i := 6) (oi := ⟨some 40, _, _, _, _, _⟩) (v := ?_) rfl (by kernel_rfl) (by kernel_rfl) (by kernel_rfl) (fun _ _ _ h => h) (Or.inl ⟨by rfl, ?_⟩) h5 ?_
  rotate_left
  · intro w hSw; (go_simp; try with_reducible rfl)
  simp only [Act.put, List.setIfInBounds_toArray, List.set_cons_zero, List.set_cons_succ]
  refine wpAnyH_take (i := 7) (oi := ⟨some 41, _, _, _, _, _⟩) (v := ?_) rfl (by kernel_rfl) (by kernel_rfl) (by kernel_rfl) (fun _ _ _ h => h) (Or.inl ⟨by rfl, ?_⟩) h5 ?_
  rotate_left
  · intro w hSw; (go_simp; try with_reducible rfl)
  simp only [Act.put, List.setIfInBounds_toArray, List.set_cons_zero, List.set_cons_succ]
  refine wpAnyH_take (i := 8) (oi := ⟨some 14, _, _, _, _, _⟩) (v := ?_) rfl (by kernel_rfl) (by kernel_rfl) (by kernel_rfl) (fun _ _ _ h => h) (Or.inl ⟨by rfl, ?_⟩) h5 ?_
  rotate_left
  · intro w hSw; (go_simp; try with_reducible rfl)
  simp only [Act.put, List.setIfInBounds_toArray, List.set_cons_zero, List.set_cons_succ]
  refine wpAnyH_take (i := 9) (oi := ⟨some 15, _, _, _, _, _⟩) (v := ?_) rfl (by kernel_rfl) (by kernel_rfl) (by kernel_rfl) (fun _ _ _ h => h) (Or.inl ⟨by rfl, ?_⟩) h5 ?_
  rotate_left
  · intro w hSw; (go_simp; try with_reducible rfl)
  simp only [Act.put, List.setIfInBounds_toArray, List.set_cons_zero, List.set_cons_succ]
  refine wpAnyH_done (by kernel_rfl) ?_ _
  refine NoPanic.normal ?_
  have HB3 := Lib.hid (show FwS cf b w w3 from h3)
  clear d0 d1 d2 d3 d4 h2 hHeld h3 h5 H2 CS CN
  obtain ⟨d0, d1, d2, d3, d4⟩ := (HB3.out.then H4.out.base).1.cells
  have hwn : wrap64 (cf.n - 1) = cf.n - 1 := by have := HCF.out.2; unfold wrap64; omega
  go_wp2_with fail
  refine (within_int i 0 (cf.n - 1) w4 (by omega) (by have := HCF.out.2; omega) (by have := HCF.out.2; omega)).mono ?_
  rintro e w' ⟨d, hd, rfl, hw'⟩
  subst hw'
  obtain ⟨d, rfl⟩ := Int.eq_ofNat_of_zero_le hd.1
  have HD := Lib.hid (show d < N ∧ d < 8 by have := HN.out; have := HNR.out.2.1; omega)
  have HQ0 := Lib.hid (newRk_ok HNR.out.1 HNR.out.2.1 HNR.out.2.2.1 HNR.out.2.2.2)
  have hcc := HCF.out.right
  obtain ⟨e1, e2⟩ := sput_well (q := newRk N SC) (c := cf) (k := d) HQ0.out rfl rfl HD.out.1 rfl (HFITS.out _ rfl rfl)
  obtain ⟨S1, hS1⟩ : ∃ S1, S1 = supS ((newRk N SC).s d) cf d := ⟨_, rfl⟩
  rw [← hS1] at e2
  have HS1 := Lib.hid (show S1.dead = false ∧ S1.n = SC ∧ S1.read 0 = put (supF cf d) ∧ S1.Ok from by
    obtain ⟨f1, f2, f3, _⟩ := supS_facts (s := new SC) (new_ok (by have := HNR.out; omega)) (show 1 ≤ SC from HNR.out.2.2.1) (c := cf) HD.out.2
    rw [hS1]
    refine ⟨f1, f2, f3, ?_⟩
    exact ((new_ok (by have := HNR.out; omega)).write (by show 0 < SC; have := HNR.out; omega) (sup_len (by omega) (by have := HD.out; omega))).stores)
  have HP1 := Lib.hid (show Calls Tryz.prog 10 #[.pointer (some ⟨c.r, 0, none⟩), .agg (cfA cf), .int .i64 (d : Int)] w4 (QN w3 c N ((newRk N SC).turn d S1) .nilIface w4) from by
    have := H4.out.sput cf d
    rwa [e2, serr_nil e1] at this)
  have HQ1 := Lib.hid (show ((newRk N SC).turn d S1).Ok from HQ0.out.turn (by rw [HS1.out.2.1]; rfl))
  obtain ⟨q1, hq1⟩ : ∃ q1, q1 = (newRk N SC).turn d S1 := ⟨_, rfl⟩
  have HE1 := Lib.hid (show q1.n = N ∧ q1.k = SC ∧ q1.off = false ∧ q1.rem = -1 ∧ q1.s d = S1 ∧ q1.Ok by rw [hq1]; exact ⟨rfl, rfl, rfl, rfl, turn_at _ _ _, HQ1.out⟩)
  rw [← hq1] at HP1
  clear hd e1 e2 hS1 hq1 hwn hcc
  go_wp2_with fail
  refine HP1.out.mono ?_
  rintro e w6 ⟨rfl, h6, _⟩
  have H6 := Lib.hid h6
  obtain ⟨F, hF⟩ : ∃ F, F = supF cf d := ⟨_, rfl⟩
  have HF := Lib.hid (show F.is ∧ F.g = 1 ∧ (put F).length = 128 ∧ F.d = supD cf by rw [hF]; exact ⟨supF_is _ _, rfl, sup_len (by omega) (by have := HD.out; omega), rfl⟩)
  have HG6 := Lib.hid (show Calls Tryz.prog 33 #[.pointer (some ⟨c.r, 0, none⟩), .int .i64 (d : Int), .int .i64 0, .int .i64 1, .int .i64 (d : Int), .int .i64 0] w6 (FrameBit F true w6) from by
    have := h6.get d 0 1 d 0
    obtain ⟨g1, g2, _⟩ := has_frame (q := q1) (G := supF cf d) (k := d) HE1.out.2.2.2.2.2 (by rw [HE1.out.1]; exact HD.out.1) HE1.out.2.2.1 (by rw [HE1.out.2.2.2.2.1]; exact HS1.out.1) (by rw [HE1.out.2.2.2.2.1]; exact HS1.out.2.2.1) (supF_is _ _) (supF_right (by omega) (by have := HD.out; omega)) rfl rfl rfl
    rwa [g1, g2, ← hF] at this)
  have HFF := Lib.hid hF
  clear h6 hF
  have hcf : (Value.agg (frA F)).cells = frA F := rfl
  have hsf : (frC F).length = szFr := frC_length HF.out.1
  have hst : ∀ W : World, (storeCells ⟨W.heap.size, 0, none⟩ (frC F) 0).run Tryz.prog (W.alloc (.cells (frA zeroF) 72)) = .ok () (W.alloc (.cells (frA F) 72)) := fun W => storeCells_frame zeroF_is HF.out.1 W
  go_wp2_with fail
  refine HG6.out.mono ?_
  rintro e w7 ⟨rfl, hb7⟩
  have hq8 := (H6.out.below hb7).below (one_below w7 (.cells (frA F) 72))
  have H8 := Lib.hid (show GbS F w7.heap.size cf b (w7.alloc (.cells (frA F) 72)) (w7.alloc (.cells (frA F) 72)) from
    ⟨frIn_new w7 F HF.out.1, (HB3.out.then hq8.base).1, by simp, (HB3.out.then hq8.base).2.1, Below.refl _ _⟩)
  have HB17 := Lib.hid (show FrB F w7.heap.size (w7.alloc (.cells (frA F) 72)) ∧ Far w7.heap.size c N from ⟨frB_new w7 F HF.out.1, by have := (H6.out.below hb7).rack.far; rwa [HE1.out.1] at this⟩)
  have HQ8 := Lib.hid hq8
  clear hb7 hq8 d0 d1 d2 d3 d4
  go_wp2_with fail
  have h8 := H8.out
  generalize w7.alloc (.cells (frA F) 72) = w8 at *
  generalize w7.heap.size = b17 at *
  have hla : ∀ w', GbS F b17 cf b w8 w' → (loadCellsFrom ⟨b17, 0, none⟩ 0 szFr #[]).run Tryz.prog w' = .ok (frA F) w' := fun w' h => h.1.load
  have hg3 : ∀ w', GbS F b17 cf b w8 w' → w'.cell? ⟨b17, 3, none⟩ = some (.int .i64 1) := fun w' h => by rw [h.1.c3, HF.out.2.1]
  have d0 : ∀ w', GbS F b17 cf b w8 w' → w'.cell? ⟨b, 0, none⟩ = some (.int .i64 7) := fun w' h => by rw [← HCF.out.1]; exact h.2.1.cell 0
  obtain ⟨Kk, hK⟩ := Int.eq_ofNat_of_zero_le (show 0 ≤ cf.k by have := HCF.out.2; omega)
  obtain ⟨T, hT⟩ := Int.eq_ofNat_of_zero_le (show 0 ≤ cf.t by have := HCF.out.2; omega)
  obtain ⟨Z, hZ⟩ := Int.eq_ofNat_of_zero_le (show 0 ≤ cf.s by have := HCF.out.2; omega)
  have hK8 : Kk ≤ 8 := by have := HCF.out.2; omega
  have hT8 : T ≤ 8 := by have := HCF.out.2; omega
  have hZ8 : Z ≤ 8 := by have := HCF.out.2; omega
  have hN8 := HNR.out.2.1
  have d1 : ∀ w', GbS F b17 cf b w8 w' → w'.cell? ⟨b, 1, none⟩ = some (.int .i64 (Kk : Int)) := fun w' h => by rw [← hK]; exact h.2.1.cell 1
  have d2 : ∀ w', GbS F b17 cf b w8 w' → w'.cell? ⟨b, 2, none⟩ = some (.int .i64 (N : Int)) := fun w' h => by rw [← HN.out]; exact h.2.1.cell 2
  have d3 : ∀ w', GbS F b17 cf b w8 w' → w'.cell? ⟨b, 3, none⟩ = some (.int .i64 (T : Int)) := fun w' h => by rw [← hT]; exact h.2.1.cell 3
  have d4 : ∀ w', GbS F b17 cf b w8 w' → w'.cell? ⟨b, 4, none⟩ = some (.int .i64 (Z : Int)) := fun w' h => by rw [← hZ]; exact h.2.1.cell 4
  have HLIT := Lib.hid (show (#[.int .u8 7, .int .u8 0, .int .u8 0, .int .u8 0, .int .u8 (Kk : Int), .int .u8 (N : Int), .int .u8 (T : Int), .int .u8 (Z : Int), .int .u8 0] : Array Value).toList = bytesV [7, 0, 0, 0, UInt8.ofNat Kk, UInt8.ofNat N, UInt8.ofNat T, UInt8.ofNat Z, 0] ∧ ([7, 0, 0, 0, UInt8.ofNat Kk, UInt8.ofNat N, UInt8.ofNat T, UInt8.ofNat Z, 0] : List UInt8).length = 9 from by
    refine ⟨?_, rfl⟩
    show [_, _, _, _, _, _, _, _, _] = [Value.int .u8 (7 : Nat), Value.int .u8 (0 : Nat), Value.int .u8 (0 : Nat), Value.int .u8 (0 : Nat), Value.int .u8 ((UInt8.ofNat Kk).toNat : Nat), Value.int .u8 ((UInt8.ofNat N).toNat : Nat), Value.int .u8 ((UInt8.ofNat T).toNat : Nat), Value.int .u8 ((UInt8.ofNat Z).toNat : Nat), Value.int .u8 (0 : Nat)]
    rw [ofNat_toNat, ofNat_toNat, ofNat_toNat, ofNat_toNat, Nat.mod_eq_of_lt (by omega), Nat.mod_eq_of_lt (by omega), Nat.mod_eq_of_lt (by omega), Nat.mod_eq_of_lt (by omega)]
    rfl)
  have HEQ := Lib.hid (show (F.d.take 9) = [7, 0, 0, 0, UInt8.ofNat Kk, UInt8.ofNat N, UInt8.ofNat T, UInt8.ofNat Z, 0] from by
    rw [HF.out.2.2.2]
    unfold supD
    rw [HCF.out.1, hK, HN.out, hT, hZ]
    rfl)
  clear hK hT hZ
  have wr8 : ∀ x : Nat, x ≤ 8 → IntKind.u8.wrap (x : Int) = (x : Int) := by decide +kernel
  have wK := wr8 Kk hK8
  have wN := wr8 N hN8
  have wT := wr8 T hT8
  have wZ := wr8 Z hZ8
  have w7' : IntKind.u8.wrap 7 = 7 := by decide
  clear wr8
  refine wp_region_noPanic ?_
  refine wp_region_held_drew (S := (fun w' => GbS F b17 cf b w8 w')) (by kernel_rfl) h8.drew (fun hHeld9 => ?_)
  refine wpAnyH_take (i := 0) (oi := ⟨some 65, _, _, _, _, _⟩) (v := ?_) rfl (by kernel_rfl) (by kernel_rfl) (by kernel_rfl) (fun _ _ _ h => h) (Or.inl ⟨by rfl, ?_⟩) hHeld9 ?_
  rotate_left
  · intro w hSw; (go_simp; try with_reducible rfl)
  simp only [Act.put, List.setIfInBounds_toArray, List.set_cons_zero, List.set_cons_succ]
  refine wpAnyH_take (i := 1) (oi := ⟨some 66, _, _, _, _, _⟩) (v := ?_) rfl (by kernel_rfl) (by kernel_rfl) (by kernel_rfl) (fun _ _ _ h => h) (Or.inl ⟨by rfl, ?_⟩) hHeld9 ?_
  rotate_left
  · intro w hSw; (go_simp; try with_reducible rfl)
  simp only [Act.put, List.setIfInBounds_toArray, List.set_cons_zero, List.set_cons_succ]
  refine wpAnyH_take (i := 2) (oi := ⟨some 67, _, _, _, _, _⟩) (v := ?_) rfl (by kernel_rfl) (by kernel_rfl) (by kernel_rfl) (fun _ _ _ h => h) (Or.inl ⟨by rfl, ?_⟩) hHeld9 ?_
  rotate_left
  · intro w hSw; (go_simp; try with_reducible rfl)
  simp only [Act.put, List.setIfInBounds_toArray, List.set_cons_zero, List.set_cons_succ]
  refine wpAnyH_take (i := 3) (oi := ⟨some 68, _, _, _, _, _⟩) (v := ?_) rfl (by kernel_rfl) (by kernel_rfl) (by kernel_rfl) (fun _ _ _ h => h) (Or.inl ⟨by rfl, ?_⟩) hHeld9 ?_
  rotate_left
  · intro w hSw; (go_simp; try with_reducible rfl)
  simp only [Act.put, List.setIfInBounds_toArray, List.set_cons_zero, List.set_cons_succ]
  refine wpAnyH_take (i := 4) (oi := ⟨some 69, _, _, _, _, _⟩) (v := ?_) rfl (by kernel_rfl) (by kernel_rfl) (by kernel_rfl) (fun _ _ _ h => h) (Or.inl ⟨by rfl, ?_⟩) hHeld9 ?_
  rotate_left
  · intro w hSw; (go_simp; try with_reducible rfl)
  simp only [Act.put, List.setIfInBounds_toArray, List.set_cons_zero, List.set_cons_succ]
  refine wpAnyH_take (i := 5) (oi := ⟨some 70, _, _, _, _, _⟩) (v := ?_) rfl (by kernel_rfl) (by kernel_rfl) (by kernel_rfl) (fun _ _ _ h => h) (Or.inl ⟨by rfl, ?_⟩) hHeld9 ?_
  rotate_left
  · intro w hSw; (go_simp; try with_reducible rfl)
  simp only [Act.put, List.setIfInBounds_toArray, List.set_cons_zero, List.set_cons_succ]
  refine wpAnyH_take (i := 6) (oi := ⟨some 71, _, _, _, _, _⟩) (v := ?_) rfl (by kernel_rfl) (by kernel_rfl) (by kernel_rfl) (fun _ _ _ h => h) (Or.inl ⟨by rfl, ?_⟩) hHeld9 ?_
  rotate_left
  · intro w hSw; (go_simp; try with_reducible rfl)
  simp only [Act.put, List.setIfInBounds_toArray, List.set_cons_zero, List.set_cons_succ]
  refine wpAnyH_take (i := 7) (oi := ⟨some 72, _, _, _, _, _⟩) (v := ?_) rfl (by kernel_rfl) (by kernel_rfl) (by kernel_rfl) (fun _ _ _ h => h) (Or.inl ⟨by rfl, ?_⟩) hHeld9 ?_
  rotate_left
  · intro w hSw; (go_simp; try with_reducible rfl)
  simp only [Act.put, List.setIfInBounds_toArray, List.set_cons_zero, List.set_cons_succ]
  refine wpAnyH_take (i := 8) (oi := ⟨some 73, _, _, _, _, _⟩) (v := ?_) rfl (by kernel_rfl) (by kernel_rfl) (by kernel_rfl) (fun _ _ _ h => h) (Or.inl ⟨by rfl, ?_⟩) hHeld9 ?_
  rotate_left
  · intro w hSw; (go_simp; try with_reducible rfl)
  simp only [Act.put, List.setIfInBounds_toArray, List.set_cons_zero, List.set_cons_succ]
  refine wpAnyH_take (i := 9) (oi := ⟨some 74, _, _, _, _, _⟩) (v := ?_) rfl (by kernel_rfl) (by kernel_rfl) (by kernel_rfl) (fun _ _ _ h => h) (Or.inl ⟨by rfl, ?_⟩) hHeld9 ?_
  rotate_left
  · intro w hSw; (go_simp; try with_reducible rfl)
  simp only [Act.put, List.setIfInBounds_toArray, List.set_cons_zero, List.set_cons_succ]
  refine wpAnyH_take (i := 10) (oi := ⟨some 75, _, _, _, _, _⟩) (v := ?_) rfl (by kernel_rfl) (by kernel_rfl) (by kernel_rfl) (fun _ _ _ h => h) (Or.inl ⟨by rfl, ?_⟩) hHeld9 ?_
  rotate_left
  · intro w hSw; (go_simp; try with_reducible rfl)
  simp only [Act.put, List.setIfInBounds_toArray, List.set_cons_zero, List.set_cons_succ]
  refine wpAnyH_take (i := 11) (oi := ⟨some 76, _, _, _, _, _⟩) (v := ?_) rfl (by kernel_rfl) (by kernel_rfl) (by kernel_rfl) (fun _ _ _ h => h) (Or.inl ⟨by rfl, ?_⟩) hHeld9 ?_
  rotate_left
  · intro w hSw; (go_simp; try with_reducible rfl)
  simp only [Act.put, List.setIfInBounds_toArray, List.set_cons_zero, List.set_cons_succ]
  refine wpAnyH_take (i := 12) (oi := ⟨some 77, _, _, _, _, _⟩) (v := ?_) rfl (by kernel_rfl) (by kernel_rfl) (by kernel_rfl) (fun _ _ _ h => h) (Or.inl ⟨by rfl, ?_⟩) hHeld9 ?_
  rotate_left
  · intro w hSw; (go_simp; try with_reducible rfl)
  simp only [Act.put, List.setIfInBounds_toArray, List.set_cons_zero, List.set_cons_succ]
  refine wpAnyH_take (i := 13) (oi := ⟨some 78, _, _, _, _, _⟩) (v := ?_) rfl (by kernel_rfl) (by kernel_rfl) (by kernel_rfl) (fun _ _ _ h => h) (Or.inl ⟨by rfl, ?_⟩) hHeld9 ?_
  rotate_left
  · intro w hSw; (go_simp; try with_reducible rfl)
  simp only [Act.put, List.setIfInBounds_toArray, List.set_cons_zero, List.set_cons_succ]
  refine wpAnyH_take (i := 14) (oi := ⟨some 79, _, _, _, _, _⟩) (v := ?_) rfl (by kernel_rfl) (by kernel_rfl) (by kernel_rfl) (fun _ _ _ h => h) (Or.inl ⟨by rfl, ?_⟩) hHeld9 ?_
  rotate_left
  · intro w hSw; (go_simp; try with_reducible rfl)
  simp only [Act.put, List.setIfInBounds_toArray, List.set_cons_zero, List.set_cons_succ]
  refine wpAnyH_take (i := 15) (oi := ⟨some 80, _, _, _, _, _⟩) (v := ?_) rfl (by kernel_rfl) (by kernel_rfl) (by kernel_rfl) (fun _ _ _ h => h) (Or.inl ⟨by rfl, ?_⟩) hHeld9 ?_
  rotate_left
  · intro w hSw; (go_simp; try with_reducible rfl)
  simp only [Act.put, List.setIfInBounds_toArray, List.set_cons_zero, List.set_cons_succ]
  refine wpAnyH_take (i := 16) (oi := ⟨some 81, _, _, _, _, _⟩) (v := ?_) rfl (by kernel_rfl) (by kernel_rfl) (by kernel_rfl) (fun _ _ _ h => h) (Or.inl ⟨by rfl, ?_⟩) hHeld9 ?_
  rotate_left
  · intro w hSw; (go_simp; try with_reducible rfl)
  simp only [Act.put, List.setIfInBounds_toArray, List.set_cons_zero, List.set_cons_succ]
  refine wpAnyH_take (i := 17) (oi := ⟨some 82, _, _, _, _, _⟩) (v := ?_) rfl (by kernel_rfl) (by kernel_rfl) (by kernel_rfl) (fun _ _ _ h => h) (Or.inl ⟨by rfl, ?_⟩) hHeld9 ?_
  rotate_left
  · intro w hSw; (go_simp; try with_reducible rfl)
  simp only [Act.put, List.setIfInBounds_toArray, List.set_cons_zero, List.set_cons_succ]
  refine wpAnyH_take (i := 18) (oi := ⟨some 83, _, _, _, _, _⟩) (v := ?_) rfl (by kernel_rfl) (by kernel_rfl) (by kernel_rfl) (fun _ _ _ h => h) (Or.inl ⟨by rfl, ?_⟩) hHeld9 ?_
  rotate_left
  · intro w hSw; (go_simp; try with_reducible rfl)
  simp only [Act.put, List.setIfInBounds_toArray, List.set_cons_zero, List.set_cons_succ]
  refine wpAnyH_take (i := 19) (oi := ⟨some 84, _, _, _, _, _⟩) (v := ?_) rfl (by kernel_rfl) (by kernel_rfl) (by kernel_rfl) (fun _ _ _ h => h) (Or.inl ⟨by rfl, ?_⟩) hHeld9 ?_
  rotate_left
  · intro w hSw; (go_simp; try with_reducible rfl)
  simp only [Act.put, List.setIfInBounds_toArray, List.set_cons_zero, List.set_cons_succ]
  refine wpAnyH_take (i := 20) (oi := ⟨some 85, _, _, _, _, _⟩) (v := ?_) rfl (by kernel_rfl) (by kernel_rfl) (by kernel_rfl) (fun _ _ _ h => h) (Or.inl ⟨by rfl, ?_⟩) hHeld9 ?_
  rotate_left
  · intro w hSw; (go_simp; try with_reducible rfl)
  simp only [Act.put, List.setIfInBounds_toArray, List.set_cons_zero, List.set_cons_succ]
  refine wpAnyH_take (i := 21) (oi := ⟨some 86, _, _, _, _, _⟩) (v := ?_) rfl (by kernel_rfl) (by kernel_rfl) (by kernel_rfl) (fun _ _ _ h => h) (Or.inl ⟨by rfl, ?_⟩) hHeld9 ?_
  rotate_left
  · intro w hSw; (go_simp; try with_reducible rfl)
  simp only [Act.put, List.setIfInBounds_toArray, List.set_cons_zero, List.set_cons_succ]
  refine wpAnyH_take (i := 22) (oi := ⟨some 87, _, _, _, _, _⟩) (v := ?_) rfl (by kernel_rfl) (by kernel_rfl) (by kernel_rfl) (fun _ _ _ h => h) (Or.inl ⟨by rfl, ?_⟩) hHeld9 ?_
  rotate_left
  · intro w hSw; (go_simp; try with_reducible rfl)
  simp only [Act.put, List.setIfInBounds_toArray, List.set_cons_zero, List.set_cons_succ]
  refine wpAnyH_take (i := 23) (oi := ⟨some 88, _, _, _, _, _⟩) (v := ?_) rfl (by kernel_rfl) (by kernel_rfl) (by kernel_rfl) (fun _ _ _ h => h) (Or.inl ⟨by rfl, ?_⟩) hHeld9 ?_
  rotate_left
  · intro w hSw; (go_simp; try with_reducible rfl)
  simp only [Act.put, List.setIfInBounds_toArray, List.set_cons_zero, List.set_cons_succ]
  refine wpAnyH_take (i := 24) (oi := ⟨some 89, _, _, _, _, _⟩) (v := ?_) rfl (by kernel_rfl) (by kernel_rfl) (by kernel_rfl) (fun _ _ _ h => h) (Or.inl ⟨by rfl, ?_⟩) hHeld9 ?_
  rotate_left
  · intro w hSw; (go_simp; try with_reducible rfl)
  simp only [Act.put, List.setIfInBounds_toArray, List.set_cons_zero, List.set_cons_succ]
  refine wpAnyH_ready (rs := [25]) (by kernel_rfl) (by simp) (AllReadyH.cons rfl (fun K hK => ?_) AllReadyH.nil)
  go_simp
  have h9 := GbS.drew (GbS.then h8 (one_below w8 (.cells #[.int .u8 7, .int .u8 0, .int .u8 0, .int .u8 0, .int .u8 (Kk : Int), .int .u8 (N : Int), .int .u8 (T : Int), .int .u8 (Z : Int), .int .u8 0] 5)))
  have HLT := Lib.hid (show SlB (w8.alloc (.cells #[.int .u8 7, .int .u8 0, .int .u8 0, .int .u8 0, .int .u8 (Kk : Int), .int .u8 (N : Int), .int .u8 (T : Int), .int .u8 (Z : Int), .int .u8 0] 5)).heap.size (w8.alloc (.cells #[.int .u8 7, .int .u8 0, .int .u8 0, .int .u8 0, .int .u8 (Kk : Int), .int .u8 (N : Int), .int .u8 (T : Int), .int .u8 (Z : Int), .int .u8 0] 5)).drew (.slice (some ⟨w8.heap.size, 0, none⟩) 9 9) _ from lit_row (w := w8) HLIT.out trivial)
  refine hK.out _ _ h9 (fun _ => ?_)
  clear hK K
  refine wpAnyH_ready (rs := [26]) (by kernel_rfl) (by simp) (AllReadyH.cons rfl (fun K hK => ?_) AllReadyH.nil)
  go_simp
  refine (same_bytes _ _ _ _ _ _ (frIn_part h9.1 h9.2.2.1) HLT.out (Nat.le_refl _) (by rw [List.length_take]; omega)).mono ?_
  rintro e w10 ⟨rfl, hb10⟩
  rw [decide_eq_true HEQ.out]
  have h10 := GbS.then h9 hb10
  clear hb10
  refine hK.out _ _ h10 (fun _ => ?_)
  clear hK K
  refine wpAnyH_take (i := 27) (oi := ⟨some 92, _, _, _, _, _⟩) (v := ?_) rfl (by kernel_rfl) (by kernel_rfl) (by kernel_rfl) (fun _ _ _ h => h) (Or.inl ⟨by rfl, ?_⟩) h10 ?_
  rotate_left
  · intro w hSw; (go_simp; try with_reducible rfl)
  simp only [Act.put, List.setIfInBounds_toArray, List.set_cons_zero, List.set_cons_succ]
  refine wpAnyH_take (i := 28) (oi := ⟨some 93, _, _, _, _, _⟩) (v := ?_) rfl (by kernel_rfl) (by kernel_rfl) (by kernel_rfl) (fun _ _ _ h => h) (Or.inl ⟨by rfl, ?_⟩) h10 ?_
  rotate_left
  · intro w hSw; (go_simp; try with_reducible rfl)
  simp only [Act.put, List.setIfInBounds_toArray, List.set_cons_zero, List.set_cons_succ]
  refine wpAnyH_done (by kernel_rfl) ?_ _
  refine NoPanic.normal ?_
  have HB10 := Lib.hid h10.2.2.2.2
  have HL17 := Lib.hid h8.2.2.1
  have HQ10 := Lib.hid (HQ8.out.below HB10.out)
  have HFAR10 := Lib.hid (show Far w10.heap.size c N from by have := HQ10.out.rack.far; rwa [HE1.out.1] at this)
  have HF10 := Lib.hid (HB17.out.1.below HL17.out HB10.out)
  have HL10 := Lib.hid (show b17 < w10.heap.size from Nat.lt_of_lt_of_le HL17.out HB10.out.size)
  have HR1 := Lib.hid (show Calls Tryz.prog 35 #[.pointer (some ⟨c.r, 0, none⟩), .int .i64 (d : Int), .int .i64 0] w10 (Reads (put F) w10) from by
    have := qread_new w10 HQ10.out.rack d 0 (by rw [HE1.out.1]; exact HD.out.1) HE1.out.2.2.1 (by rw [HE1.out.2.2.2.2.1]; exact HS1.out.1) (by rw [HE1.out.2.1]; have := HNR.out; omega)
    rw [HE1.out.2.2.2.2.1, HS1.out.2.2.1, ← HFF.out] at this
    exact this)
  clear d0 d1 d2 d3 d4 hla hg3 wK wN wT wZ w7' HLIT HEQ HLT h8 h9 h10 hHeld9 hst HG6 HP1 hK8 hT8 hZ8
  have hst : ∀ W : World, (storeCells ⟨W.heap.size, 0, none⟩ (frC F) 0).run Tryz.prog (W.alloc (.cells (frA zeroF) 72)) = .ok () (W.alloc (.cells (frA F) 72)) := fun W => storeCells_frame zeroF_is HF.out.1 W
  go_wp2_with fail
  refine HR1.out.mono ?_
  rintro e w11 ⟨v1, rfl, hv1, hb11⟩
  have HV1 := Lib.hid hv1.rowN
  have HQ11 := Lib.hid (HQ10.out.below hb11)
  have HF11 := Lib.hid (HF10.out.below HL10.out hb11)
  have HL11 := Lib.hid (show b17 < w11.heap.size from Nat.lt_of_lt_of_le HL10.out hb11.size)
  obtain ⟨d0, d1, d2, d3, d4⟩ := (HB3.out.then HQ11.out.base).1.cells
  obtain ⟨S2, hS2⟩ : ∃ S2, S2 = supS S1 cf d := ⟨_, rfl⟩
  obtain ⟨q2, hq2⟩ : ∃ q2, q2 = q1.turn d S2 := ⟨_, rfl⟩
  have HS2 := Lib.hid (show S2.dead = false ∧ S2.n = SC ∧ S2.read 0 = put (supF cf d) from by
    obtain ⟨f1, f2, f3, _⟩ := supS_facts HS1.out.2.2.2 (show 1 ≤ S1.n by rw [HS1.out.2.1]; exact HNR.out.2.2.1) (c := cf) HD.out.2
    rw [hS2]
    exact ⟨f1.trans HS1.out.1, f2.trans HS1.out.2.1, f3⟩)
  have HE2 := Lib.hid (show q2.n = N ∧ q2.k = SC ∧ q2.off = false ∧ q2.rem = -1 ∧ q2.s d = S2 ∧ q2.Ok by rw [hq2]; exact ⟨HE1.out.1, HE1.out.2.1, HE1.out.2.2.1, HE1.out.2.2.2.1, turn_at _ _ _, HE1.out.2.2.2.2.2.turn (by rw [HS2.out.2.1, HE1.out.2.1])⟩)
  have HP2 := Lib.hid (show Calls Tryz.prog 10 #[.pointer (some ⟨c.r, 0, none⟩), .agg (cfA cf), .int .i64 (d : Int)] w11 (QN w3 c N q2 .nilIface w11) from by
    have := HQ11.out.sput cf d
    obtain ⟨e1, e2⟩ := sput_well (q := q1) (c := cf) (k := d) HE1.out.2.2.2.2.2 HE1.out.2.2.1 HE1.out.2.2.2.1 (by rw [HE1.out.1]; exact HD.out.1) (by rw [HE1.out.2.2.2.2.1]; exact HS1.out.1) (HFITS.out _ HE1.out.1 HE1.out.2.1)
    rw [HE1.out.2.2.2.2.1, ← hS2, ← hq2] at e2
    rwa [e2, serr_nil e1, HE1.out.1] at this)
  clear hv1 hb11 hS2 hq2
  go_wp2_with fail
  refine HP2.out.mono ?_
  rintro e w12 ⟨rfl, h12, hc12⟩
  have HQ12 := Lib.hid h12
  have HV12 := Lib.hid (HV1.out.rc HFAR10.out hc12)
  have HF12 := Lib.hid (HF11.out.rc HB17.out.2 HL11.out hc12)
  have HL12 := Lib.hid (show b17 < w12.heap.size from Nat.lt_of_lt_of_le HL11.out hc12.size)
  have HR2 := Lib.hid (show Calls Tryz.prog 35 #[.pointer (some ⟨c.r, 0, none⟩), .int .i64 (d : Int), .int .i64 0] w12 (Reads (put F) w12) from by
    have := qread_new w12 HQ12.out.rack d 0 (by rw [HE2.out.1]; exact HD.out.1) HE2.out.2.2.1 (by rw [HE2.out.2.2.2.2.1]; exact HS2.out.1) (by rw [HE2.out.2.1]; have := HNR.out; omega)
    rw [HE2.out.2.2.2.2.1, HS2.out.2.2, ← HFF.out] at this
    exact this)
  clear h12 hc12 d0 d1 d2 d3 d4
  go_wp2_with fail
  refine HR2.out.mono ?_
  rintro e w13 ⟨v2, rfl, hv2, hb13⟩
  have HV2 := Lib.hid hv2.slb
  have HV13 := Lib.hid (HV12.out.below hb13)
  have HQ13 := Lib.hid (HQ12.out.below hb13)
  have HF13 := Lib.hid (HF12.out.below HL12.out hb13)
  have HL13 := Lib.hid (show b17 < w13.heap.size from Nat.lt_of_lt_of_le HL12.out hb13.size)
  have hl13 := HF13.out.fin.load
  clear hv2 hb13
  go_upto_region 16 with (fail)
  have HF14 := Lib.hid (frB_new w13 F HF.out.1)
  have HB14 := Lib.hid (show Below w13.heap.size w13 (w13.alloc (.cells (frA F) 72)) from one_below _ _)
  have HL14 := Lib.hid (show w13.heap.size < (w13.alloc (.cells (frA F) 72)).heap.size by simp)
  have HFAR23 := Lib.hid (show Far w13.heap.size c q2.n ∧ c.P < w13.heap.size from ⟨HQ13.out.rack.far, HQ13.out.rack.lt.2.1⟩)
  have HS13 := Lib.hid (show SlB w13.heap.size w13 v1 (put F) from HV13.out.1)
  have HLE13 := Lib.hid (show w3.heap.size ≤ w13.heap.size from HQ13.out.le)
  clear hl13
  generalize w13.alloc (.cells (frA F) 72) = w14 at *
  generalize w13.heap.size = b23 at *
  go_wp2_with fail
  refine (within_int at_ 0 99 w14 (by omega) (by omega) (by omega)).mono ?_
  rintro e w' ⟨x, hx, rfl, hw'⟩
  subst hw'
  obtain ⟨x, rfl⟩ := Int.eq_ofNat_of_zero_le hx.1
  have hx99 : x ≤ 99 := by omega
  have cb := HF14.out.byte (k := 8 + x) (by omega)
  have cz := HF14.out.free (4 + (8 + x))
  generalize ((F.d.getD (8 + x) 0).toNat : Int) = cy at *
  clear hx
  go_upto_region 17 with (fail)
  have hG15 := HF14.out.set (8 + x) 1
  have hB15 := HB14.out.setCell (p := ⟨b23, 4 + (8 + x), none⟩) (Nat.le_refl b23) (.int .u8 1)
  have HG15 := Lib.hid (show FrB (oddF cf d x) b23 (w14.setCell ⟨b23, 4 + (8 + x), none⟩ (.int .u8 1)) from by
    have e : Fr.setD F (8 + x) 1 = oddF cf d x := by rw [HFF.out]; rfl
    rw [← e]; exact hG15)
  have HB15 := Lib.hid hB15
  have HL15 := Lib.hid (show b23 < (w14.setCell ⟨b23, 4 + (8 + x), none⟩ (.int .u8 1)).heap.size from by simpa using HL14.out)
  have hl15 := (HF13.out.below HL13.out hB15).fin.load
  clear hG15 hB15 cb cz
  generalize w14.setCell ⟨b23, 4 + (8 + x), none⟩ (.int .u8 1) = w15 at *
  go_upto_region 18 with (fail)
  have HH16 := Lib.hid (frB_new w15 F HF.out.1)
  have HB16 := Lib.hid (HB15.out.alloc (Nat.le_of_lt HL15.out) (.cells (frA F) 72))
  have HG16 := Lib.hid (HG15.out.below HL15.out (one_below w15 (.cells (frA F) 72)))
  have HL16 := Lib.hid (show w15.heap.size < (w15.alloc (.cells (frA F) 72)).heap.size by simp)
  clear hl15
  generalize w15.alloc (.cells (frA F) 72) = w16 at *
  generalize w15.heap.size = b24 at *
  have cb := HH16.out.fin.c3
  rw [HF.out.2.1] at cb
  have cz := HH16.out.free 3
  go_upto_region 19 with (fail)
  have hH17 := HH16.out.setG 2
  have hB17 := HB16.out.setCell (p := ⟨b24, 3, none⟩) (Nat.le_of_lt HL15.out) (.int .i64 2)
  have HH17 := Lib.hid (show FrB (oldF cf d) b24 (w16.setCell ⟨b24, 3, none⟩ (.int .i64 2)) from by
    have e : Fr.setG F 2 = oldF cf d := by rw [HFF.out]; rfl
    rw [← e]; exact hH17)
  have HL17' := Lib.hid (show b24 < (w16.setCell ⟨b24, 3, none⟩ (.int .i64 2)).heap.size from by simpa using HL16.out)
  have HG17 := Lib.hid (HG16.out.below HL15.out ((Below.refl b24 w16).setCell (p := ⟨b24, 3, none⟩) (Nat.le_refl _) (.int .i64 2)))
  have HQ17 := Lib.hid (HQ13.out.keepB hB17 HFAR23.out HLE13.out)
  have HS17 := Lib.hid ((HS13.out.below hB17).wider (Nat.le_of_lt (Nat.lt_trans HL15.out HL17'.out)))
  have HT17 := Lib.hid ((HV2.out.below hB17).wider (Nat.le_of_lt (Nat.lt_trans HL15.out HL17'.out)))
  clear hH17 hB17 cb cz
  generalize w16.setCell ⟨b24, 3, none⟩ (.int .i64 2) = w17 at *
  have HN17 := Lib.hid (show q2.n = N ∧ ((q2.turn d (S2.write 0 (put (oddF cf d x)))).n = N) from ⟨HE2.out.1, HE2.out.1⟩)
  have HLF := Lib.hid (show (put F).length ≤ 100000 from by rw [HF.out.2.2.1]; decide)
  have CE := Lib.hid (show Calls Tryz.prog 34 #[v1, v2] w17 (Bit true w17) from by
    have := same_bytes _ v1 v2 (put F) (put F) w17 HS17.out HT17.out (Nat.le_refl _) HLF.out
    rwa [decide_eq_true rfl] at this)
  clear HV1 HV12 HV13 HV2 HS13 HS17 HT17
  go_wp2_with fail
  refine CE.out.mono ?_
  rintro e w18 ⟨rfl, hb18⟩
  have HQ18 := Lib.hid (HQ17.out.below hb18)
  have hg18 := HG17.out.below (Nat.lt_trans HL15.out HL17'.out) hb18
  have HH18 := Lib.hid (HH17.out.below HL17'.out hb18)
  have HL18 := Lib.hid (show b24 < w18.heap.size from Nat.lt_of_lt_of_le HL17'.out hb18.size)
  have hl18 := hg18.fin.load
  have HP18 := Lib.hid (put_any (oddF cf d x) w18 (oddF_is cf d x))
  have HLG := Lib.hid (show (put (oddF cf d x)).length = 128 from put_len (oddF_is _ _ _) (oddF_right x (by omega) (by have := HD.out; omega)))
  clear hb18 hg18
  go_wp2_with fail
  refine HP18.out.mono ?_
  rintro e w19 ⟨v3, rfl, ho3, hb19⟩
  have HQ19 := Lib.hid (HQ18.out.below hb19)
  have HH19 := Lib.hid (HH18.out.below HL18.out hb19)
  have HL19 := Lib.hid (show b24 < w19.heap.size from Nat.lt_of_lt_of_le HL18.out hb19.size)
  obtain ⟨q3, hq3⟩ : ∃ q3, q3 = q2.turn d (S2.write 0 (put (oddF cf d x))) := ⟨_, rfl⟩
  obtain ⟨S3, hS3⟩ : ∃ S3, S3 = S2.write 0 (put (oddF cf d x)) := ⟨_, rfl⟩
  have HE3 := Lib.hid (show q3.n = N ∧ q3.k = SC ∧ q3.off = false ∧ q3.rem = -1 ∧ q3.s d = S3 ∧ q3.Ok ∧ S3.dead = false ∧ S3.read 0 = put (oddF cf d x) from by
    rw [hq3, hS3]
    exact ⟨HE2.out.1, HE2.out.2.1, HE2.out.2.2.1, HE2.out.2.2.2.1, turn_at _ _ _, HE2.out.2.2.2.2.2.turn (by show S2.n = q2.k; rw [HS2.out.2.1, HE2.out.2.1]), HS2.out.1, by show ((upd S2.wt 0 (some (put (oddF cf d x)))) 0).getD _ = _; rw [upd_same]; rfl⟩)
  have HW3 := Lib.hid (show Calls Tryz.prog 36 #[.pointer (some ⟨c.r, 0, none⟩), .int .i64 (d : Int), .int .i64 0, v3] w19 (QN w3 c N q3 .nilIface w19) from by
    have := HQ19.out.write d 0 v3 (put (oddF cf d x)) (slb_own ho3)
    obtain ⟨e1, e2, _⟩ := write_well (q := q2) (k := d) (l := put (oddF cf d x)) HE2.out.2.2.2.2.2 HE2.out.2.2.1 HE2.out.2.2.2.1 (by rw [HE2.out.1]; exact HD.out.1) (by rw [HE2.out.2.2.2.2.1]; exact HS2.out.1) HLG.out
    rw [HE2.out.2.2.2.2.1, ← hq3] at e2
    rwa [e1, evs_zero, e2, HE2.out.1] at this)
  clear ho3 hb19 hq3 hS3 hl18
  go_wp2_with fail
  refine HW3.out.mono ?_
  rintro e w20 ⟨rfl, h20, hc20⟩
  have HQ20 := Lib.hid h20
  have HH20 := Lib.hid (HH19.out.rc (HFAR23.out.1.mono (Nat.le_of_lt HL15.out) |> fun h => show Far b24 c N from by rwa [HE2.out.1] at h) HL19.out hc20)
  have HL20 := Lib.hid (show b24 < w20.heap.size from Nat.lt_of_lt_of_le HL19.out hc20.size)
  have HG20 := Lib.hid (show Calls Tryz.prog 26 #[.pointer (some ⟨c.r, 0, none⟩), .int .i64 (d : Int)] w20 (CfBit zeroC false w20) from by
    have := sget_any w20 HQ20.out.rack (d : Int)
    have e1 : cfHas q3 d = false := by
      rw [(has_frame (q := q3) (G := oddF cf d x) (k := d) HE3.out.2.2.2.2.2.1 (by rw [HE3.out.1]; exact HD.out.1) HE3.out.2.2.1 (by rw [HE3.out.2.2.2.2.1]; exact HE3.out.2.2.2.2.2.2.1) (by rw [HE3.out.2.2.2.2.1]; exact HE3.out.2.2.2.2.2.2.2) (oddF_is _ _ _) (oddF_right x (by omega) (by have := HD.out; omega)) rfl rfl rfl).2.2]
      exact odd_none HCF.out.right d (by omega)
    rwa [e1, cfOf_no e1] at this)
  clear h20 hc20
  go_wp2_with fail
  refine HG20.out.mono ?_
  rintro e w21 ⟨rfl, hb21⟩
  have HQ22 := Lib.hid ((HQ20.out.below hb21).below (one_below w21 (.cells (cfA zeroC) 23)))
  have hh22 := (HH20.out.below HL20.out hb21).below (Nat.lt_of_lt_of_le HL20.out hb21.size) (one_below w21 (.cells (cfA zeroC) 23))
  have HH22 := Lib.hid hh22
  have hl22 := hh22.fin.load
  have HP22 := Lib.hid (put_any (oldF cf d) (w21.alloc (.cells (cfA zeroC) 23)) (oldF_is cf d))
  have HLH := Lib.hid (show (put (oldF cf d)).length = 128 from put_len (oldF_is _ _) (oldF_right (by omega) (by have := HD.out; omega)))
  clear hb21 hh22
  go_wp2_with fail
  refine HP22.out.mono ?_
  rintro e w23 ⟨v4, rfl, ho4, hb23⟩
  have HQ23 := Lib.hid (HQ22.out.below hb23)
  obtain ⟨q4, hq4⟩ : ∃ q4, q4 = q3.turn d (S3.write 0 (put (oldF cf d))) := ⟨_, rfl⟩
  have HE4 := Lib.hid (show q4.n = N ∧ q4.off = false ∧ q4.Ok ∧ (q4.s d).dead = false ∧ (q4.s d).read 0 = put (oldF cf d) from by
    rw [hq4]
    refine ⟨HE3.out.1, HE3.out.2.2.1, HE3.out.2.2.2.2.2.1.turn (by show S3.n = q3.k; rw [← HE3.out.2.2.2.2.1]; exact HE3.out.2.2.2.2.2.1.k d (by rw [HE3.out.1]; exact HD.out.1)), ?_, ?_⟩
    · rw [turn_at]; exact HE3.out.2.2.2.2.2.2.1
    · rw [turn_at]; show ((upd S3.wt 0 (some (put (oldF cf d)))) 0).getD _ = _; rw [upd_same]; rfl)
  have HW4 := Lib.hid (show Calls Tryz.prog 36 #[.pointer (some ⟨c.r, 0, none⟩), .int .i64 (d : Int), .int .i64 0, v4] w23 (QN w3 c N q4 .nilIface w23) from by
    have := HQ23.out.write d 0 v4 (put (oldF cf d)) (slb_own ho4)
    obtain ⟨e1, e2, _⟩ := write_well (q := q3) (k := d) (l := put (oldF cf d)) HE3.out.2.2.2.2.2.1 HE3.out.2.2.1 HE3.out.2.2.2.1 (by rw [HE3.out.1]; exact HD.out.1) (by rw [HE3.out.2.2.2.2.1]; exact HE3.out.2.2.2.2.2.2.1) HLH.out
    rw [HE3.out.2.2.2.2.1, ← hq4] at e2
    rwa [e1, evs_zero, e2, HE3.out.1] at this)
  clear ho4 hb23 hq4 hl22
  go_wp2_with fail
  refine HW4.out.mono ?_
  rintro e w24 ⟨rfl, h24, _⟩
  have HQ24 := Lib.hid h24
  have HG24 := Lib.hid (show Calls Tryz.prog 26 #[.pointer (some ⟨c.r, 0, none⟩), .int .i64 (d : Int)] w24 (CfBit zeroC false w24) from by
    have := sget_any w24 HQ24.out.rack (d : Int)
    have e1 : cfHas q4 d = false := by
      rw [(has_frame (q := q4) (G := oldF cf d) (k := d) HE4.out.2.2.1 (by rw [HE4.out.1]; exact HD.out.1) HE4.out.2.1 HE4.out.2.2.2.1 HE4.out.2.2.2.2 (oldF_is _ _) (oldF_right (by omega) (by have := HD.out; omega)) rfl rfl rfl).2.2]
      exact old_none HCF.out.right d
    rwa [e1, cfOf_no e1] at this)
  clear h24
  go_wp2_with fail
  refine HG24.out.mono ?_
  rintro e w25 ⟨rfl, hb25⟩
  have HB26 := Lib.hid (show Below w.heap.size w (w25.alloc (.cells (cfA zeroC) 23)) from (HB3.out.then ((HQ24.out.below hb25).below (one_below w25 (.cells (cfA zeroC) 23))).base).2.2)
  have HRR := Lib.hid (super_runs (w25.alloc (.cells (cfA zeroC) 23)) (HT.out.below HB26.out))
  clear hb25
  go_wp2_with fail
  refine HRR.out.mono ?_
  rintro e w27 ⟨rfl, hb27⟩
  go_wp2_with fail
  go_ret
  exact bit rfl (bthen HB26.out hb27)
end Go.Proofs.YtfhnkjlegehaoaaGreatDoor
