/-
  stavelaw9.SuperTells: the walk (written by genstells.py).
-/
import Derived.Test.YtfhnkjlegehaoaaGreatDoorSVFits
import Derived.Test.YtfhnkjlegehaoaaGreatDoorSRuns
import Derived.Test.YtfhnkjlegehaoaaGreatDoorVBase
import Derived.Test.YtfhnkjlegehaoaaGreatDoorWithinV
namespace Go.Proofs.YtfhnkjlegehaoaaGreatDoor
open Go.RowKit Go.Deep Crc Dk Qk Go.Maps Hf
set_option maxHeartbeats 16000000 in
set_option maxRecDepth 100000 in
theorem tells_wrong (cf : Cf) (n sectors : Int) (w : World) (hT : Typ w) (hr : ¬ CfRight cf) (hfit : cf.fits (newRk (withinV n 1 8).toNat (withinV sectors 1 40).toNat) = false) : Calls Tryz.prog 4 #[.agg (cfA cf), .int .i64 n, .int .i64 sectors] w (Bit true w) := by
  have HT := Lib.hid hT
  have CR := Lib.hid (fun w => sright_any cf w)
  have CVR := Lib.hid (fun w => vright_any cf w)
  rw [show cfRightB cf = false from decide_eq_false hr] at CR CVR
  have HFIT := Lib.hid hfit
  clear hT hr hfit
  go_enter Tryz.func4, Tryz.ntmps4
  go_wp2_with fail
  have hB1 := Lib.hid (show CfB cf w.heap.size (w.alloc (.cells (cfA cf) 23)) ∧ w.heap.size < (w.alloc (.cells (cfA cf) 23)).heap.size ∧ Below w.heap.size w (w.alloc (.cells (cfA cf) 23)) from ⟨cfB_new w cf, by simp, one_below _ _⟩)
  generalize w.alloc (.cells (cfA cf) 23) = W1 at *
  generalize hbb : w.heap.size = b at *
  refine (within_val n 1 8 W1 (by omega) (by omega) (by omega)).mono ?_
  rintro e w' ⟨rfl, rfl⟩
  have hm := withinV_in n 1 8 (by omega)
  have hs := withinV_in sectors 1 40 (by omega)
  have hfit := HFIT.out
  generalize withinV n 1 8 = m at *
  go_wp2_with fail
  refine (within_val sectors 1 40 W1 (by omega) (by omega) (by omega)).mono ?_
  rintro e w' ⟨rfl, rfl⟩
  generalize withinV sectors 1 40 = s at *
  obtain ⟨m, rfl⟩ := Int.eq_ofNat_of_zero_le (show 0 ≤ m by omega)
  obtain ⟨s, rfl⟩ := Int.eq_ofNat_of_zero_le (show 0 ≤ s by omega)
  rw [Int.toNat_natCast, Int.toNat_natCast] at hfit
  have HMS := Lib.hid (show 1 ≤ m ∧ m ≤ 8 ∧ 1 ≤ s ∧ s ≤ 40 by omega)
  have CN := Lib.hid (qs_new m s W1 HMS.out.1 HMS.out.2.1 HMS.out.2.2.1 (Nat.le_trans HMS.out.2.2.2 (by decide)))
  clear hm hs HFIT
  go_wp2_with fail
  refine CN.out.mono ?_
  rintro e w2 ⟨c, rfl, h2⟩
  have H2 := Lib.hid h2
  have CV := Lib.hid (vnew_yes (lo := W1.heap.size) (K := fun _ => False) (c := c) m s w2 h2.rack h2.le (fun k hk => hk.elim) HMS.out.1 HMS.out.2.1 HMS.out.2.2.1 (Nat.le_trans HMS.out.2.2.2 (by decide)))
  clear h2
  go_wp2_with fail
  refine CV.out.mono ?_
  rintro e w3 ⟨f, rfl, ⟨C, E, hP⟩, hb3⟩
  obtain ⟨_, cap, hcap⟩ := hP.disk (i := 0) (by show 0 < m; have := HMS.out.1; omega)
  have hBW := bthen H2.out.base hb3
  obtain ⟨lo, hlo⟩ : ∃ lo, lo = W1.heap.size := ⟨_, rfl⟩
  rw [← hlo] at hP
  have H0 := Lib.hid (show VtS lo (fun _ => False) c f C E (newRk m s) (newRk m s) cf b cap W1 w3 from ⟨hP, hcap, hB1.out.1.below hB1.out.2.1 hBW, Nat.lt_of_lt_of_le hB1.out.2.1 hBW.size, by omega, hBW⟩)
  have CF := Lib.hid (fun w' (h' : VtS lo (fun _ => False) c f C E (newRk m s) (newRk m s) cf b cap W1 w') => show Calls Tryz.prog 19 #[.pointer (some ⟨c.r, 0, none⟩), .agg (cfA cf)] w' (Bit false w') from by have := sfits_any w' h'.1.prog cf; rwa [hfit] at this)
  have CVF := Lib.hid (fun w' (h' : VtS lo (fun _ => False) c f C E (newRk m s) (newRk m s) cf b cap W1 w') => show Calls Tryz.prog 20 #[.pointer (some ⟨f.t, 0, none⟩), .agg (cfA cf)] w' (Bit false w') from by have := vfits_any w' h'.1 (Nat.le_trans h'.2.2.2.2.1 h'.2.2.2.2.2.size) cf; rwa [hfit] at this)
  have CRR := Lib.hid (fun w' (h' : VtS lo (fun _ => False) c f C E (newRk m s) (newRk m s) cf b cap W1 w') => super_runs w' (HT.out.below (by rw [hbb]; exact hB1.out.2.2.trans (h'.2.2.2.2.2.mono (Nat.le_of_lt hB1.out.2.1)))))
  have HEND := Lib.hid (fun w' (h' : VtS lo (fun _ => False) c f C E (newRk m s) (newRk m s) cf b cap W1 w') => show Below b w w' from hB1.out.2.2.trans (h'.2.2.2.2.2.mono (Nat.le_of_lt hB1.out.2.1)))
  clear hP hb3 hcap hBW hfit hlo
  have h0 := H0.out
  have d0 : ∀ w', VtS lo (fun _ => False) c f C E (newRk m s) (newRk m s) cf b cap W1 w' → w'.cell? ⟨b, 0, none⟩ = some (.int .i64 cf.id) := fun w' h => h.2.2.1.cell 0
  have d1 : ∀ w', VtS lo (fun _ => False) c f C E (newRk m s) (newRk m s) cf b cap W1 w' → w'.cell? ⟨b, 1, none⟩ = some (.int .i64 cf.k) := fun w' h => h.2.2.1.cell 1
  have d2 : ∀ w', VtS lo (fun _ => False) c f C E (newRk m s) (newRk m s) cf b cap W1 w' → w'.cell? ⟨b, 2, none⟩ = some (.int .i64 cf.n) := fun w' h => h.2.2.1.cell 2
  have d3 : ∀ w', VtS lo (fun _ => False) c f C E (newRk m s) (newRk m s) cf b cap W1 w' → w'.cell? ⟨b, 3, none⟩ = some (.int .i64 cf.t) := fun w' h => h.2.2.1.cell 3
  have d4 : ∀ w', VtS lo (fun _ => False) c f C E (newRk m s) (newRk m s) cf b cap W1 w' → w'.cell? ⟨b, 4, none⟩ = some (.int .i64 cf.s) := fun w' h => h.2.2.1.cell 4
  go_wp2_with fail
  refine wp_region_noPanic ?_
  refine wp_region_held_drew (S := (fun w' => VtS lo (fun _ => False) c f C E (newRk m s) (newRk m s) cf b cap W1 w')) (by kernel_rfl) h0.drew (fun hHeld => ?_)
  refine wpAnyH_take (i := 0) (oi := ⟨some 29, _, _, _, _, _⟩) (v := ?_) rfl (by kernel_rfl) (by kernel_rfl) (by kernel_rfl) (fun _ _ _ h => h) (Or.inl ⟨by rfl, ?_⟩) hHeld ?_
  rotate_left
  · intro w hSw; (go_simp; try with_reducible rfl)
  simp only [Act.put, List.setIfInBounds_toArray, List.set_cons_zero, List.set_cons_succ]
  refine wpAnyH_take (i := 1) (oi := ⟨some 30, _, _, _, _, _⟩) (v := ?_) rfl (by kernel_rfl) (by kernel_rfl) (by kernel_rfl) (fun _ _ _ h => h) (Or.inl ⟨by rfl, ?_⟩) hHeld ?_
  rotate_left
  · intro w hSw; (go_simp; try with_reducible rfl)
  simp only [Act.put, List.setIfInBounds_toArray, List.set_cons_zero, List.set_cons_succ]
  refine wpAnyH_take (i := 2) (oi := ⟨some 31, _, _, _, _, _⟩) (v := ?_) rfl (by kernel_rfl) (by kernel_rfl) (by kernel_rfl) (fun _ _ _ h => h) (Or.inl ⟨by rfl, ?_⟩) hHeld ?_
  rotate_left
  · intro w hSw; (go_simp; try with_reducible rfl)
  simp only [Act.put, List.setIfInBounds_toArray, List.set_cons_zero, List.set_cons_succ]
  refine wpAnyH_take (i := 3) (oi := ⟨some 32, _, _, _, _, _⟩) (v := ?_) rfl (by kernel_rfl) (by kernel_rfl) (by kernel_rfl) (fun _ _ _ h => h) (Or.inl ⟨by rfl, ?_⟩) hHeld ?_
  rotate_left
  · intro w hSw; (go_simp; try with_reducible rfl)
  simp only [Act.put, List.setIfInBounds_toArray, List.set_cons_zero, List.set_cons_succ]
  refine wpAnyH_take (i := 4) (oi := ⟨some 33, _, _, _, _, _⟩) (v := ?_) rfl (by kernel_rfl) (by kernel_rfl) (by kernel_rfl) (fun _ _ _ h => h) (Or.inl ⟨by rfl, ?_⟩) hHeld ?_
  rotate_left
  · intro w hSw; (go_simp; try with_reducible rfl)
  simp only [Act.put, List.setIfInBounds_toArray, List.set_cons_zero, List.set_cons_succ]
  refine wpAnyH_take (i := 5) (oi := ⟨some 34, _, _, _, _, _⟩) (v := ?_) rfl (by kernel_rfl) (by kernel_rfl) (by kernel_rfl) (fun _ _ _ h => h) (Or.inl ⟨by rfl, ?_⟩) hHeld ?_
  rotate_left
  · intro w hSw; (go_simp; try with_reducible rfl)
  simp only [Act.put, List.setIfInBounds_toArray, List.set_cons_zero, List.set_cons_succ]
  refine wpAnyH_take (i := 6) (oi := ⟨some 35, _, _, _, _, _⟩) (v := ?_) rfl (by kernel_rfl) (by kernel_rfl) (by kernel_rfl) (fun _ _ _ h => h) (Or.inl ⟨by rfl, ?_⟩) hHeld ?_
  rotate_left
  · intro w hSw; (go_simp; try with_reducible rfl)
  simp only [Act.put, List.setIfInBounds_toArray, List.set_cons_zero, List.set_cons_succ]
  refine wpAnyH_take (i := 7) (oi := ⟨some 36, _, _, _, _, _⟩) (v := ?_) rfl (by kernel_rfl) (by kernel_rfl) (by kernel_rfl) (fun _ _ _ h => h) (Or.inl ⟨by rfl, ?_⟩) hHeld ?_
  rotate_left
  · intro w hSw; (go_simp; try with_reducible rfl)
  simp only [Act.put, List.setIfInBounds_toArray, List.set_cons_zero, List.set_cons_succ]
  refine wpAnyH_take (i := 9) (oi := ⟨some 38, _, _, _, _, _⟩) (v := ?_) rfl (by kernel_rfl) (by kernel_rfl) (by kernel_rfl) (fun _ _ _ h => h) (Or.inl ⟨by rfl, ?_⟩) hHeld ?_
  rotate_left
  · intro w hSw; (go_simp; try with_reducible rfl)
  simp only [Act.put, List.setIfInBounds_toArray, List.set_cons_zero, List.set_cons_succ]
  refine wpAnyH_ready (rs := [8]) (by kernel_rfl) (by simp) (AllReadyH.cons rfl (fun K hK => ?_) AllReadyH.nil)
  go_simp
  refine (CR.out _).mono ?_
  rintro e w4 ⟨rfl, hb4⟩
  have h4 := VtS.then hHeld hb4
  clear hb4
  refine hK.out _ _ h4 (fun _ => ?_)
  clear hK K
  refine wpAnyH_ready (rs := [10]) (by kernel_rfl) (by simp) (AllReadyH.cons rfl (fun K hK => ?_) AllReadyH.nil)
  go_simp
  refine (CVR.out _).mono ?_
  rintro e w5 ⟨rfl, hb5⟩
  have h5 := VtS.then h4 hb5
  clear hb5
  refine hK.out _ _ h5 (fun _ => ?_)
  clear hK K
  refine wpAnyH_take (i := 11) (oi := ⟨some 40, _, _, _, _, _⟩) (v := ?_) rfl (by kernel_rfl) (by kernel_rfl) (by kernel_rfl) (fun _ _ _ h => h) (Or.inl ⟨by rfl, ?_⟩) h5 ?_
  rotate_left
  · intro w hSw; (go_simp; try with_reducible rfl)
  simp only [Act.put, List.setIfInBounds_toArray, List.set_cons_zero, List.set_cons_succ]
  refine wpAnyH_take (i := 12) (oi := ⟨some 41, _, _, _, _, _⟩) (v := ?_) rfl (by kernel_rfl) (by kernel_rfl) (by kernel_rfl) (fun _ _ _ h => h) (Or.inl ⟨by rfl, ?_⟩) h5 ?_
  rotate_left
  · intro w hSw; (go_simp; try with_reducible rfl)
  simp only [Act.put, List.setIfInBounds_toArray, List.set_cons_zero, List.set_cons_succ]
  refine wpAnyH_take (i := 13) (oi := ⟨some 42, _, _, _, _, _⟩) (v := ?_) rfl (by kernel_rfl) (by kernel_rfl) (by kernel_rfl) (fun _ _ _ h => h) (Or.inl ⟨by rfl, ?_⟩) h5 ?_
  rotate_left
  · intro w hSw; (go_simp; try with_reducible rfl)
  simp only [Act.put, List.setIfInBounds_toArray, List.set_cons_zero, List.set_cons_succ]
  refine wpAnyH_take (i := 14) (oi := ⟨some 43, _, _, _, _, _⟩) (v := ?_) rfl (by kernel_rfl) (by kernel_rfl) (by kernel_rfl) (fun _ _ _ h => h) (Or.inl ⟨by rfl, ?_⟩) h5 ?_
  rotate_left
  · intro w hSw; (go_simp; try with_reducible rfl)
  simp only [Act.put, List.setIfInBounds_toArray, List.set_cons_zero, List.set_cons_succ]
  refine wpAnyH_take (i := 15) (oi := ⟨some 44, _, _, _, _, _⟩) (v := ?_) rfl (by kernel_rfl) (by kernel_rfl) (by kernel_rfl) (fun _ _ _ h => h) (Or.inl ⟨by rfl, ?_⟩) h5 ?_
  rotate_left
  · intro w hSw; (go_simp; try with_reducible rfl)
  simp only [Act.put, List.setIfInBounds_toArray, List.set_cons_zero, List.set_cons_succ]
  refine wpAnyH_take (i := 17) (oi := ⟨some 46, _, _, _, _, _⟩) (v := ?_) rfl (by kernel_rfl) (by kernel_rfl) (by kernel_rfl) (fun _ _ _ h => h) (Or.inl ⟨by rfl, ?_⟩) h5 ?_
  rotate_left
  · intro w hSw; (go_simp; try with_reducible rfl)
  simp only [Act.put, List.setIfInBounds_toArray, List.set_cons_zero, List.set_cons_succ]
  refine wpAnyH_take (i := 18) (oi := ⟨some 47, _, _, _, _, _⟩) (v := ?_) rfl (by kernel_rfl) (by kernel_rfl) (by kernel_rfl) (fun _ _ _ h => h) (Or.inl ⟨by rfl, ?_⟩) h5 ?_
  rotate_left
  · intro w hSw; (go_simp; try with_reducible rfl)
  simp only [Act.put, List.setIfInBounds_toArray, List.set_cons_zero, List.set_cons_succ]
  refine wpAnyH_ready (rs := [16]) (by kernel_rfl) (by simp) (AllReadyH.cons rfl (fun K hK => ?_) AllReadyH.nil)
  go_simp
  refine (CF.out _ h5).mono ?_
  rintro e w6 ⟨rfl, hb6⟩
  have h6 := VtS.then h5 hb6
  clear hb6
  refine hK.out _ _ h6 (fun _ => ?_)
  clear hK K
  refine wpAnyH_ready (rs := [19]) (by kernel_rfl) (by simp) (AllReadyH.cons rfl (fun K hK => ?_) AllReadyH.nil)
  go_simp
  refine (CVF.out _ h6).mono ?_
  rintro e w7 ⟨rfl, hb7⟩
  have h7 := VtS.then h6 hb7
  clear hb7
  refine hK.out _ _ h7 (fun _ => ?_)
  clear hK K
  refine wpAnyH_take (i := 20) (oi := ⟨some 49, _, _, _, _, _⟩) (v := ?_) rfl (by kernel_rfl) (by kernel_rfl) (by kernel_rfl) (fun _ _ _ h => h) (Or.inl ⟨by rfl, ?_⟩) h7 ?_
  rotate_left
  · intro w hSw; (go_simp; try with_reducible rfl)
  simp only [Act.put, List.setIfInBounds_toArray, List.set_cons_zero, List.set_cons_succ]
  refine wpAnyH_take (i := 21) (oi := ⟨some 50, _, _, _, _, _⟩) (v := ?_) rfl (by kernel_rfl) (by kernel_rfl) (by kernel_rfl) (fun _ _ _ h => h) (Or.inl ⟨by rfl, ?_⟩) h7 ?_
  rotate_left
  · intro w hSw; (go_simp; try with_reducible rfl)
  simp only [Act.put, List.setIfInBounds_toArray, List.set_cons_zero, List.set_cons_succ]
  refine wpAnyH_done (by kernel_rfl) ?_ _
  refine NoPanic.normal ?_
  go_wp2_with fail
  refine wp_region_noPanic ?_
  refine wp_region_held_drew (S := (fun w' => VtS lo (fun _ => False) c f C E (newRk m s) (newRk m s) cf b cap W1 w')) (by kernel_rfl) h7.drew (fun hHeld6 => ?_)
  refine wpAnyH_take (i := 0) (oi := ⟨some 51, _, _, _, _, _⟩) (v := ?_) rfl (by kernel_rfl) (by kernel_rfl) (by kernel_rfl) (fun _ _ _ h => h) (Or.inl ⟨by rfl, ?_⟩) hHeld6 ?_
  rotate_left
  · intro w hSw; (go_simp; try with_reducible rfl)
  simp only [Act.put, List.setIfInBounds_toArray, List.set_cons_zero, List.set_cons_succ]
  refine wpAnyH_ready (rs := [1]) (by kernel_rfl) (by simp) (AllReadyH.cons rfl (fun K hK => ?_) AllReadyH.nil)
  go_simp
  refine (CR.out _).mono ?_
  rintro e w8 ⟨rfl, hb8⟩
  have h8 := VtS.then hHeld6 hb8
  clear hb8
  refine hK.out _ _ h8 (fun _ => ?_)
  clear hK K
  refine wpAnyH_take (i := 2) (oi := ⟨some 53, _, _, _, _, _⟩) (v := ?_) rfl (by kernel_rfl) (by kernel_rfl) (by kernel_rfl) (fun _ _ _ h => h) (Or.inl ⟨by rfl, ?_⟩) h8 ?_
  rotate_left
  · intro w hSw; (go_simp; try with_reducible rfl)
  simp only [Act.put, List.setIfInBounds_toArray, List.set_cons_zero, List.set_cons_succ]
  refine wpAnyH_take (i := 3) (oi := ⟨some 54, _, _, _, _, _⟩) (v := ?_) rfl (by kernel_rfl) (by kernel_rfl) (by kernel_rfl) (fun _ _ _ h => h) (Or.inl ⟨by rfl, ?_⟩) h8 ?_
  rotate_left
  · intro w hSw; (go_simp; try with_reducible rfl)
  simp only [Act.put, List.setIfInBounds_toArray, List.set_cons_zero, List.set_cons_succ]
  refine wpAnyH_take (i := 4) (oi := ⟨some 55, _, _, _, _, _⟩) (v := undef) rfl (by kernel_rfl) (by kernel_rfl) (by kernel_rfl) (fun _ _ _ h => h) (Or.inr ⟨by rfl, rfl⟩) h8 ?_
  simp only [Act.put, List.setIfInBounds_toArray, List.set_cons_zero, List.set_cons_succ]
  refine wpAnyH_take (i := 5) (oi := ⟨some 56, _, _, _, _, _⟩) (v := undef) rfl (by kernel_rfl) (by kernel_rfl) (by kernel_rfl) (fun _ _ _ h => h) (Or.inr ⟨by rfl, rfl⟩) h8 ?_
  simp only [Act.put, List.setIfInBounds_toArray, List.set_cons_zero, List.set_cons_succ]
  refine wpAnyH_take (i := 6) (oi := ⟨some 57, _, _, _, _, _⟩) (v := undef) rfl (by kernel_rfl) (by kernel_rfl) (by kernel_rfl) (fun _ _ _ h => h) (Or.inr ⟨by rfl, rfl⟩) h8 ?_
  simp only [Act.put, List.setIfInBounds_toArray, List.set_cons_zero, List.set_cons_succ]
  refine wpAnyH_take (i := 7) (oi := ⟨some 58, _, _, _, _, _⟩) (v := undef) rfl (by kernel_rfl) (by kernel_rfl) (by kernel_rfl) (fun _ _ _ h => h) (Or.inr ⟨by rfl, rfl⟩) h8 ?_
  simp only [Act.put, List.setIfInBounds_toArray, List.set_cons_zero, List.set_cons_succ]
  refine wpAnyH_take (i := 8) (oi := ⟨some 59, _, _, _, _, _⟩) (v := undef) rfl (by kernel_rfl) (by kernel_rfl) (by kernel_rfl) (fun _ _ _ h => h) (Or.inr ⟨by rfl, rfl⟩) h8 ?_
  simp only [Act.put, List.setIfInBounds_toArray, List.set_cons_zero, List.set_cons_succ]
  refine wpAnyH_take (i := 9) (oi := ⟨some 60, _, _, _, _, _⟩) (v := ?_) rfl (by kernel_rfl) (by kernel_rfl) (by kernel_rfl) (fun _ _ _ h => h) (Or.inl ⟨by rfl, ?_⟩) h8 ?_
  rotate_left
  · intro w hSw; (go_simp; try with_reducible rfl)
  simp only [Act.put, List.setIfInBounds_toArray, List.set_cons_zero, List.set_cons_succ]
  refine wpAnyH_take (i := 10) (oi := ⟨some 61, _, _, _, _, _⟩) (v := ?_) rfl (by kernel_rfl) (by kernel_rfl) (by kernel_rfl) (fun _ _ _ h => h) (Or.inl ⟨by rfl, ?_⟩) h8 ?_
  rotate_left
  · intro w hSw; (go_simp; try with_reducible rfl)
  simp only [Act.put, List.setIfInBounds_toArray, List.set_cons_zero, List.set_cons_succ]
  refine wpAnyH_ready (rs := [11]) (by kernel_rfl) (by simp) (AllReadyH.cons rfl (fun K hK => ?_) AllReadyH.nil)
  go_simp
  refine (CRR.out _ h8).mono ?_
  rintro e w11 ⟨rfl, hb11⟩
  have h11 := VtS.then h8 hb11
  clear hb11
  refine hK.out _ _ h11 (fun _ => ?_)
  clear hK K
  refine wpAnyH_take (i := 12) (oi := ⟨some 63, _, _, _, _, _⟩) (v := ?_) rfl (by kernel_rfl) (by kernel_rfl) (by kernel_rfl) (fun _ _ _ h => h) (Or.inl ⟨by rfl, ?_⟩) h11 ?_
  rotate_left
  · intro w hSw; (go_simp; try with_reducible rfl)
  simp only [Act.put, List.setIfInBounds_toArray, List.set_cons_zero, List.set_cons_succ]
  refine wpAnyH_take (i := 13) (oi := ⟨some 6, _, _, _, _, _⟩) (v := ?_) rfl (by kernel_rfl) (by kernel_rfl) (by kernel_rfl) (fun _ _ _ h => h) (Or.inl ⟨by rfl, ?_⟩) h11 ?_
  rotate_left
  · intro w hSw; (go_simp; try with_reducible rfl)
  simp only [Act.put, List.setIfInBounds_toArray, List.set_cons_zero, List.set_cons_succ]
  refine wpAnyH_done (by kernel_rfl) ?_ _
  refine NoPanic.normal ?_
  go_wp2_with fail
  go_ret
  refine bit rfl ?_
  rw [hbb]
  exact HEND.out _ h11
set_option maxHeartbeats 16000000 in
set_option maxRecDepth 100000 in
theorem tells_yes (cf : Cf) (n sectors : Int) (w : World) (hT : Typ w) (hr : CfRight cf) (hfit : cf.fits (newRk (withinV n 1 8).toNat (withinV sectors 1 40).toNat) = true) : Calls Tryz.prog 4 #[.agg (cfA cf), .int .i64 n, .int .i64 sectors] w (Bit true w) := by
  have HT := Lib.hid hT
  have CR := Lib.hid (fun w => sright_any cf w)
  have CVR := Lib.hid (fun w => vright_any cf w)
  rw [show cfRightB cf = true from decide_eq_true hr] at CR CVR
  have CS := Lib.hid (fun w => ssectors_any cf w hr)
  have CVS := Lib.hid (fun w => vsectors_any cf w hr)
  have HFIT := Lib.hid hfit
  clear hT hr hfit
  go_enter Tryz.func4, Tryz.ntmps4
  go_wp2_with fail
  have hB1 := Lib.hid (show CfB cf w.heap.size (w.alloc (.cells (cfA cf) 23)) ∧ w.heap.size < (w.alloc (.cells (cfA cf) 23)).heap.size ∧ Below w.heap.size w (w.alloc (.cells (cfA cf) 23)) from ⟨cfB_new w cf, by simp, one_below _ _⟩)
  generalize w.alloc (.cells (cfA cf) 23) = W1 at *
  generalize hbb : w.heap.size = b at *
  refine (within_val n 1 8 W1 (by omega) (by omega) (by omega)).mono ?_
  rintro e w' ⟨rfl, rfl⟩
  have hm := withinV_in n 1 8 (by omega)
  have hs := withinV_in sectors 1 40 (by omega)
  have hfit := HFIT.out
  generalize withinV n 1 8 = m at *
  go_wp2_with fail
  refine (within_val sectors 1 40 W1 (by omega) (by omega) (by omega)).mono ?_
  rintro e w' ⟨rfl, rfl⟩
  generalize withinV sectors 1 40 = s at *
  obtain ⟨m, rfl⟩ := Int.eq_ofNat_of_zero_le (show 0 ≤ m by omega)
  obtain ⟨s, rfl⟩ := Int.eq_ofNat_of_zero_le (show 0 ≤ s by omega)
  rw [Int.toNat_natCast, Int.toNat_natCast] at hfit
  have HMS := Lib.hid (show 1 ≤ m ∧ m ≤ 8 ∧ 1 ≤ s ∧ s ≤ 40 by omega)
  have CN := Lib.hid (qs_new m s W1 HMS.out.1 HMS.out.2.1 HMS.out.2.2.1 (Nat.le_trans HMS.out.2.2.2 (by decide)))
  clear hm hs HFIT
  go_wp2_with fail
  refine CN.out.mono ?_
  rintro e w2 ⟨c, rfl, h2⟩
  have H2 := Lib.hid h2
  have CV := Lib.hid (vnew_yes (lo := W1.heap.size) (K := fun _ => False) (c := c) m s w2 h2.rack h2.le (fun k hk => hk.elim) HMS.out.1 HMS.out.2.1 HMS.out.2.2.1 (Nat.le_trans HMS.out.2.2.2 (by decide)))
  clear h2
  go_wp2_with fail
  refine CV.out.mono ?_
  rintro e w3 ⟨f, rfl, ⟨C, E, hP⟩, hb3⟩
  obtain ⟨_, cap, hcap⟩ := hP.disk (i := 0) (by show 0 < m; have := HMS.out.1; omega)
  have hBW := bthen H2.out.base hb3
  obtain ⟨lo, hlo⟩ : ∃ lo, lo = W1.heap.size := ⟨_, rfl⟩
  rw [← hlo] at hP
  have H0 := Lib.hid (show VtS lo (fun _ => False) c f C E (newRk m s) (newRk m s) cf b cap W1 w3 from ⟨hP, hcap, hB1.out.1.below hB1.out.2.1 hBW, Nat.lt_of_lt_of_le hB1.out.2.1 hBW.size, by omega, hBW⟩)
  have CF := Lib.hid (fun w' (h' : VtS lo (fun _ => False) c f C E (newRk m s) (newRk m s) cf b cap W1 w') => show Calls Tryz.prog 19 #[.pointer (some ⟨c.r, 0, none⟩), .agg (cfA cf)] w' (Bit true w') from by have := sfits_any w' h'.1.prog cf; rwa [hfit] at this)
  have CVF := Lib.hid (fun w' (h' : VtS lo (fun _ => False) c f C E (newRk m s) (newRk m s) cf b cap W1 w') => show Calls Tryz.prog 20 #[.pointer (some ⟨f.t, 0, none⟩), .agg (cfA cf)] w' (Bit true w') from by have := vfits_any w' h'.1 (Nat.le_trans h'.2.2.2.2.1 h'.2.2.2.2.2.size) cf; rwa [hfit] at this)
  have CRR := Lib.hid (fun w' (h' : VtS lo (fun _ => False) c f C E (newRk m s) (newRk m s) cf b cap W1 w') => super_runs w' (HT.out.below (by rw [hbb]; exact hB1.out.2.2.trans (h'.2.2.2.2.2.mono (Nat.le_of_lt hB1.out.2.1)))))
  have HEND := Lib.hid (fun w' (h' : VtS lo (fun _ => False) c f C E (newRk m s) (newRk m s) cf b cap W1 w') => show Below b w w' from hB1.out.2.2.trans (h'.2.2.2.2.2.mono (Nat.le_of_lt hB1.out.2.1)))
  clear hP hb3 hcap hBW hfit hlo
  have h0 := H0.out
  have d0 : ∀ w', VtS lo (fun _ => False) c f C E (newRk m s) (newRk m s) cf b cap W1 w' → w'.cell? ⟨b, 0, none⟩ = some (.int .i64 cf.id) := fun w' h => h.2.2.1.cell 0
  have d1 : ∀ w', VtS lo (fun _ => False) c f C E (newRk m s) (newRk m s) cf b cap W1 w' → w'.cell? ⟨b, 1, none⟩ = some (.int .i64 cf.k) := fun w' h => h.2.2.1.cell 1
  have d2 : ∀ w', VtS lo (fun _ => False) c f C E (newRk m s) (newRk m s) cf b cap W1 w' → w'.cell? ⟨b, 2, none⟩ = some (.int .i64 cf.n) := fun w' h => h.2.2.1.cell 2
  have d3 : ∀ w', VtS lo (fun _ => False) c f C E (newRk m s) (newRk m s) cf b cap W1 w' → w'.cell? ⟨b, 3, none⟩ = some (.int .i64 cf.t) := fun w' h => h.2.2.1.cell 3
  have d4 : ∀ w', VtS lo (fun _ => False) c f C E (newRk m s) (newRk m s) cf b cap W1 w' → w'.cell? ⟨b, 4, none⟩ = some (.int .i64 cf.s) := fun w' h => h.2.2.1.cell 4
  go_wp2_with fail
  refine wp_region_noPanic ?_
  refine wp_region_held_drew (S := (fun w' => VtS lo (fun _ => False) c f C E (newRk m s) (newRk m s) cf b cap W1 w')) (by kernel_rfl) h0.drew (fun hHeld => ?_)
  refine wpAnyH_take (i := 0) (oi := ⟨some 29, _, _, _, _, _⟩) (v := ?_) rfl (by kernel_rfl) (by kernel_rfl) (by kernel_rfl) (fun _ _ _ h => h) (Or.inl ⟨by rfl, ?_⟩) hHeld ?_
  rotate_left
  · intro w hSw; (go_simp; try with_reducible rfl)
  simp only [Act.put, List.setIfInBounds_toArray, List.set_cons_zero, List.set_cons_succ]
  refine wpAnyH_take (i := 1) (oi := ⟨some 30, _, _, _, _, _⟩) (v := ?_) rfl (by kernel_rfl) (by kernel_rfl) (by kernel_rfl) (fun _ _ _ h => h) (Or.inl ⟨by rfl, ?_⟩) hHeld ?_
  rotate_left
  · intro w hSw; (go_simp; try with_reducible rfl)
  simp only [Act.put, List.setIfInBounds_toArray, List.set_cons_zero, List.set_cons_succ]
  refine wpAnyH_take (i := 2) (oi := ⟨some 31, _, _, _, _, _⟩) (v := ?_) rfl (by kernel_rfl) (by kernel_rfl) (by kernel_rfl) (fun _ _ _ h => h) (Or.inl ⟨by rfl, ?_⟩) hHeld ?_
  rotate_left
  · intro w hSw; (go_simp; try with_reducible rfl)
  simp only [Act.put, List.setIfInBounds_toArray, List.set_cons_zero, List.set_cons_succ]
  refine wpAnyH_take (i := 3) (oi := ⟨some 32, _, _, _, _, _⟩) (v := ?_) rfl (by kernel_rfl) (by kernel_rfl) (by kernel_rfl) (fun _ _ _ h => h) (Or.inl ⟨by rfl, ?_⟩) hHeld ?_
  rotate_left
  · intro w hSw; (go_simp; try with_reducible rfl)
  simp only [Act.put, List.setIfInBounds_toArray, List.set_cons_zero, List.set_cons_succ]
  refine wpAnyH_take (i := 4) (oi := ⟨some 33, _, _, _, _, _⟩) (v := ?_) rfl (by kernel_rfl) (by kernel_rfl) (by kernel_rfl) (fun _ _ _ h => h) (Or.inl ⟨by rfl, ?_⟩) hHeld ?_
  rotate_left
  · intro w hSw; (go_simp; try with_reducible rfl)
  simp only [Act.put, List.setIfInBounds_toArray, List.set_cons_zero, List.set_cons_succ]
  refine wpAnyH_take (i := 5) (oi := ⟨some 34, _, _, _, _, _⟩) (v := ?_) rfl (by kernel_rfl) (by kernel_rfl) (by kernel_rfl) (fun _ _ _ h => h) (Or.inl ⟨by rfl, ?_⟩) hHeld ?_
  rotate_left
  · intro w hSw; (go_simp; try with_reducible rfl)
  simp only [Act.put, List.setIfInBounds_toArray, List.set_cons_zero, List.set_cons_succ]
  refine wpAnyH_take (i := 6) (oi := ⟨some 35, _, _, _, _, _⟩) (v := ?_) rfl (by kernel_rfl) (by kernel_rfl) (by kernel_rfl) (fun _ _ _ h => h) (Or.inl ⟨by rfl, ?_⟩) hHeld ?_
  rotate_left
  · intro w hSw; (go_simp; try with_reducible rfl)
  simp only [Act.put, List.setIfInBounds_toArray, List.set_cons_zero, List.set_cons_succ]
  refine wpAnyH_take (i := 7) (oi := ⟨some 36, _, _, _, _, _⟩) (v := ?_) rfl (by kernel_rfl) (by kernel_rfl) (by kernel_rfl) (fun _ _ _ h => h) (Or.inl ⟨by rfl, ?_⟩) hHeld ?_
  rotate_left
  · intro w hSw; (go_simp; try with_reducible rfl)
  simp only [Act.put, List.setIfInBounds_toArray, List.set_cons_zero, List.set_cons_succ]
  refine wpAnyH_take (i := 9) (oi := ⟨some 38, _, _, _, _, _⟩) (v := ?_) rfl (by kernel_rfl) (by kernel_rfl) (by kernel_rfl) (fun _ _ _ h => h) (Or.inl ⟨by rfl, ?_⟩) hHeld ?_
  rotate_left
  · intro w hSw; (go_simp; try with_reducible rfl)
  simp only [Act.put, List.setIfInBounds_toArray, List.set_cons_zero, List.set_cons_succ]
  refine wpAnyH_ready (rs := [8]) (by kernel_rfl) (by simp) (AllReadyH.cons rfl (fun K hK => ?_) AllReadyH.nil)
  go_simp
  refine (CR.out _).mono ?_
  rintro e w4 ⟨rfl, hb4⟩
  have h4 := VtS.then hHeld hb4
  clear hb4
  refine hK.out _ _ h4 (fun _ => ?_)
  clear hK K
  refine wpAnyH_ready (rs := [10]) (by kernel_rfl) (by simp) (AllReadyH.cons rfl (fun K hK => ?_) AllReadyH.nil)
  go_simp
  refine (CVR.out _).mono ?_
  rintro e w5 ⟨rfl, hb5⟩
  have h5 := VtS.then h4 hb5
  clear hb5
  refine hK.out _ _ h5 (fun _ => ?_)
  clear hK K
  refine wpAnyH_take (i := 11) (oi := ⟨some 40, _, _, _, _, _⟩) (v := ?_) rfl (by kernel_rfl) (by kernel_rfl) (by kernel_rfl) (fun _ _ _ h => h) (Or.inl ⟨by rfl, ?_⟩) h5 ?_
  rotate_left
  · intro w hSw; (go_simp; try with_reducible rfl)
  simp only [Act.put, List.setIfInBounds_toArray, List.set_cons_zero, List.set_cons_succ]
  refine wpAnyH_take (i := 12) (oi := ⟨some 41, _, _, _, _, _⟩) (v := ?_) rfl (by kernel_rfl) (by kernel_rfl) (by kernel_rfl) (fun _ _ _ h => h) (Or.inl ⟨by rfl, ?_⟩) h5 ?_
  rotate_left
  · intro w hSw; (go_simp; try with_reducible rfl)
  simp only [Act.put, List.setIfInBounds_toArray, List.set_cons_zero, List.set_cons_succ]
  refine wpAnyH_take (i := 13) (oi := ⟨some 42, _, _, _, _, _⟩) (v := ?_) rfl (by kernel_rfl) (by kernel_rfl) (by kernel_rfl) (fun _ _ _ h => h) (Or.inl ⟨by rfl, ?_⟩) h5 ?_
  rotate_left
  · intro w hSw; (go_simp; try with_reducible rfl)
  simp only [Act.put, List.setIfInBounds_toArray, List.set_cons_zero, List.set_cons_succ]
  refine wpAnyH_take (i := 14) (oi := ⟨some 43, _, _, _, _, _⟩) (v := ?_) rfl (by kernel_rfl) (by kernel_rfl) (by kernel_rfl) (fun _ _ _ h => h) (Or.inl ⟨by rfl, ?_⟩) h5 ?_
  rotate_left
  · intro w hSw; (go_simp; try with_reducible rfl)
  simp only [Act.put, List.setIfInBounds_toArray, List.set_cons_zero, List.set_cons_succ]
  refine wpAnyH_take (i := 15) (oi := ⟨some 44, _, _, _, _, _⟩) (v := ?_) rfl (by kernel_rfl) (by kernel_rfl) (by kernel_rfl) (fun _ _ _ h => h) (Or.inl ⟨by rfl, ?_⟩) h5 ?_
  rotate_left
  · intro w hSw; (go_simp; try with_reducible rfl)
  simp only [Act.put, List.setIfInBounds_toArray, List.set_cons_zero, List.set_cons_succ]
  refine wpAnyH_take (i := 17) (oi := ⟨some 46, _, _, _, _, _⟩) (v := ?_) rfl (by kernel_rfl) (by kernel_rfl) (by kernel_rfl) (fun _ _ _ h => h) (Or.inl ⟨by rfl, ?_⟩) h5 ?_
  rotate_left
  · intro w hSw; (go_simp; try with_reducible rfl)
  simp only [Act.put, List.setIfInBounds_toArray, List.set_cons_zero, List.set_cons_succ]
  refine wpAnyH_take (i := 18) (oi := ⟨some 47, _, _, _, _, _⟩) (v := ?_) rfl (by kernel_rfl) (by kernel_rfl) (by kernel_rfl) (fun _ _ _ h => h) (Or.inl ⟨by rfl, ?_⟩) h5 ?_
  rotate_left
  · intro w hSw; (go_simp; try with_reducible rfl)
  simp only [Act.put, List.setIfInBounds_toArray, List.set_cons_zero, List.set_cons_succ]
  refine wpAnyH_ready (rs := [16]) (by kernel_rfl) (by simp) (AllReadyH.cons rfl (fun K hK => ?_) AllReadyH.nil)
  go_simp
  refine (CF.out _ h5).mono ?_
  rintro e w6 ⟨rfl, hb6⟩
  have h6 := VtS.then h5 hb6
  clear hb6
  refine hK.out _ _ h6 (fun _ => ?_)
  clear hK K
  refine wpAnyH_ready (rs := [19]) (by kernel_rfl) (by simp) (AllReadyH.cons rfl (fun K hK => ?_) AllReadyH.nil)
  go_simp
  refine (CVF.out _ h6).mono ?_
  rintro e w7 ⟨rfl, hb7⟩
  have h7 := VtS.then h6 hb7
  clear hb7
  refine hK.out _ _ h7 (fun _ => ?_)
  clear hK K
  refine wpAnyH_take (i := 20) (oi := ⟨some 49, _, _, _, _, _⟩) (v := ?_) rfl (by kernel_rfl) (by kernel_rfl) (by kernel_rfl) (fun _ _ _ h => h) (Or.inl ⟨by rfl, ?_⟩) h7 ?_
  rotate_left
  · intro w hSw; (go_simp; try with_reducible rfl)
  simp only [Act.put, List.setIfInBounds_toArray, List.set_cons_zero, List.set_cons_succ]
  refine wpAnyH_take (i := 21) (oi := ⟨some 50, _, _, _, _, _⟩) (v := ?_) rfl (by kernel_rfl) (by kernel_rfl) (by kernel_rfl) (fun _ _ _ h => h) (Or.inl ⟨by rfl, ?_⟩) h7 ?_
  rotate_left
  · intro w hSw; (go_simp; try with_reducible rfl)
  simp only [Act.put, List.setIfInBounds_toArray, List.set_cons_zero, List.set_cons_succ]
  refine wpAnyH_done (by kernel_rfl) ?_ _
  refine NoPanic.normal ?_
  go_wp2_with fail
  refine wp_region_noPanic ?_
  refine wp_region_held_drew (S := (fun w' => VtS lo (fun _ => False) c f C E (newRk m s) (newRk m s) cf b cap W1 w')) (by kernel_rfl) h7.drew (fun hHeld6 => ?_)
  refine wpAnyH_take (i := 0) (oi := ⟨some 51, _, _, _, _, _⟩) (v := ?_) rfl (by kernel_rfl) (by kernel_rfl) (by kernel_rfl) (fun _ _ _ h => h) (Or.inl ⟨by rfl, ?_⟩) hHeld6 ?_
  rotate_left
  · intro w hSw; (go_simp; try with_reducible rfl)
  simp only [Act.put, List.setIfInBounds_toArray, List.set_cons_zero, List.set_cons_succ]
  refine wpAnyH_ready (rs := [1]) (by kernel_rfl) (by simp) (AllReadyH.cons rfl (fun K hK => ?_) AllReadyH.nil)
  go_simp
  refine (CR.out _).mono ?_
  rintro e w8 ⟨rfl, hb8⟩
  have h8 := VtS.then hHeld6 hb8
  clear hb8
  refine hK.out _ _ h8 (fun _ => ?_)
  clear hK K
  refine wpAnyH_take (i := 2) (oi := ⟨some 53, _, _, _, _, _⟩) (v := ?_) rfl (by kernel_rfl) (by kernel_rfl) (by kernel_rfl) (fun _ _ _ h => h) (Or.inl ⟨by rfl, ?_⟩) h8 ?_
  rotate_left
  · intro w hSw; (go_simp; try with_reducible rfl)
  simp only [Act.put, List.setIfInBounds_toArray, List.set_cons_zero, List.set_cons_succ]
  refine wpAnyH_take (i := 3) (oi := ⟨some 54, _, _, _, _, _⟩) (v := ?_) rfl (by kernel_rfl) (by kernel_rfl) (by kernel_rfl) (fun _ _ _ h => h) (Or.inl ⟨by rfl, ?_⟩) h8 ?_
  rotate_left
  · intro w hSw; (go_simp; try with_reducible rfl)
  simp only [Act.put, List.setIfInBounds_toArray, List.set_cons_zero, List.set_cons_succ]
  refine wpAnyH_take (i := 4) (oi := ⟨some 55, _, _, _, _, _⟩) (v := ?_) rfl (by kernel_rfl) (by kernel_rfl) (by kernel_rfl) (fun _ _ _ h => h) (Or.inl ⟨by rfl, ?_⟩) h8 ?_
  rotate_left
  · intro w hSw; (go_simp; try with_reducible rfl)
  simp only [Act.put, List.setIfInBounds_toArray, List.set_cons_zero, List.set_cons_succ]
  refine wpAnyH_take (i := 6) (oi := ⟨some 57, _, _, _, _, _⟩) (v := ?_) rfl (by kernel_rfl) (by kernel_rfl) (by kernel_rfl) (fun _ _ _ h => h) (Or.inl ⟨by rfl, ?_⟩) h8 ?_
  rotate_left
  · intro w hSw; (go_simp; try with_reducible rfl)
  simp only [Act.put, List.setIfInBounds_toArray, List.set_cons_zero, List.set_cons_succ]
  refine wpAnyH_ready (rs := [5]) (by kernel_rfl) (by simp) (AllReadyH.cons rfl (fun K hK => ?_) AllReadyH.nil)
  go_simp
  refine (CS.out _).mono ?_
  rintro e w9 ⟨rfl, hb9⟩
  have h9 := VtS.then h8 hb9
  clear hb9
  refine hK.out _ _ h9 (fun _ => ?_)
  clear hK K
  refine wpAnyH_ready (rs := [7]) (by kernel_rfl) (by simp) (AllReadyH.cons rfl (fun K hK => ?_) AllReadyH.nil)
  go_simp
  refine (CVS.out _).mono ?_
  rintro e w10 ⟨rfl, hb10⟩
  have h10 := VtS.then h9 hb10
  clear hb10
  refine hK.out _ _ h10 (fun _ => ?_)
  clear hK K
  refine wpAnyH_take (i := 8) (oi := ⟨some 59, _, _, _, _, _⟩) (v := ?_) rfl (by kernel_rfl) (by kernel_rfl) (by kernel_rfl) (fun _ _ _ h => h) (Or.inl ⟨by rfl, ?_⟩) h10 ?_
  rotate_left
  · intro w hSw; (go_simp; try with_reducible rfl)
  simp only [Act.put, List.setIfInBounds_toArray, List.set_cons_zero, List.set_cons_succ]
  refine wpAnyH_take (i := 9) (oi := ⟨some 60, _, _, _, _, _⟩) (v := ?_) rfl (by kernel_rfl) (by kernel_rfl) (by kernel_rfl) (fun _ _ _ h => h) (Or.inl ⟨by rfl, ?_⟩) h10 ?_
  rotate_left
  · intro w hSw; (go_simp; try with_reducible rfl)
  simp only [Act.put, List.setIfInBounds_toArray, List.set_cons_zero, List.set_cons_succ]
  refine wpAnyH_take (i := 10) (oi := ⟨some 61, _, _, _, _, _⟩) (v := ?_) rfl (by kernel_rfl) (by kernel_rfl) (by kernel_rfl) (fun _ _ _ h => h) (Or.inl ⟨by rfl, ?_⟩) h10 ?_
  rotate_left
  · intro w hSw; (go_simp; try with_reducible rfl)
  simp only [Act.put, List.setIfInBounds_toArray, List.set_cons_zero, List.set_cons_succ]
  refine wpAnyH_ready (rs := [11]) (by kernel_rfl) (by simp) (AllReadyH.cons rfl (fun K hK => ?_) AllReadyH.nil)
  go_simp
  refine (CRR.out _ h10).mono ?_
  rintro e w11 ⟨rfl, hb11⟩
  have h11 := VtS.then h10 hb11
  clear hb11
  refine hK.out _ _ h11 (fun _ => ?_)
  clear hK K
  refine wpAnyH_take (i := 12) (oi := ⟨some 63, _, _, _, _, _⟩) (v := ?_) rfl (by kernel_rfl) (by kernel_rfl) (by kernel_rfl) (fun _ _ _ h => h) (Or.inl ⟨by rfl, ?_⟩) h11 ?_
  rotate_left
  · intro w hSw; (go_simp; try with_reducible rfl)
  simp only [Act.put, List.setIfInBounds_toArray, List.set_cons_zero, List.set_cons_succ]
  refine wpAnyH_take (i := 13) (oi := ⟨some 6, _, _, _, _, _⟩) (v := ?_) rfl (by kernel_rfl) (by kernel_rfl) (by kernel_rfl) (fun _ _ _ h => h) (Or.inl ⟨by rfl, ?_⟩) h11 ?_
  rotate_left
  · intro w hSw; (go_simp; try with_reducible rfl)
  simp only [Act.put, List.setIfInBounds_toArray, List.set_cons_zero, List.set_cons_succ]
  refine wpAnyH_done (by kernel_rfl) ?_ _
  refine NoPanic.normal ?_
  go_wp2_with fail
  go_ret
  refine bit rfl ?_
  rw [hbb]
  exact HEND.out _ h11
set_option maxHeartbeats 16000000 in
set_option maxRecDepth 100000 in
theorem tells_no (cf : Cf) (n sectors : Int) (w : World) (hT : Typ w) (hr : CfRight cf) (hfit : cf.fits (newRk (withinV n 1 8).toNat (withinV sectors 1 40).toNat) = false) : Calls Tryz.prog 4 #[.agg (cfA cf), .int .i64 n, .int .i64 sectors] w (Bit true w) := by
  have HT := Lib.hid hT
  have CR := Lib.hid (fun w => sright_any cf w)
  have CVR := Lib.hid (fun w => vright_any cf w)
  rw [show cfRightB cf = true from decide_eq_true hr] at CR CVR
  have CS := Lib.hid (fun w => ssectors_any cf w hr)
  have CVS := Lib.hid (fun w => vsectors_any cf w hr)
  have HFIT := Lib.hid hfit
  clear hT hr hfit
  go_enter Tryz.func4, Tryz.ntmps4
  go_wp2_with fail
  have hB1 := Lib.hid (show CfB cf w.heap.size (w.alloc (.cells (cfA cf) 23)) ∧ w.heap.size < (w.alloc (.cells (cfA cf) 23)).heap.size ∧ Below w.heap.size w (w.alloc (.cells (cfA cf) 23)) from ⟨cfB_new w cf, by simp, one_below _ _⟩)
  generalize w.alloc (.cells (cfA cf) 23) = W1 at *
  generalize hbb : w.heap.size = b at *
  refine (within_val n 1 8 W1 (by omega) (by omega) (by omega)).mono ?_
  rintro e w' ⟨rfl, rfl⟩
  have hm := withinV_in n 1 8 (by omega)
  have hs := withinV_in sectors 1 40 (by omega)
  have hfit := HFIT.out
  generalize withinV n 1 8 = m at *
  go_wp2_with fail
  refine (within_val sectors 1 40 W1 (by omega) (by omega) (by omega)).mono ?_
  rintro e w' ⟨rfl, rfl⟩
  generalize withinV sectors 1 40 = s at *
  obtain ⟨m, rfl⟩ := Int.eq_ofNat_of_zero_le (show 0 ≤ m by omega)
  obtain ⟨s, rfl⟩ := Int.eq_ofNat_of_zero_le (show 0 ≤ s by omega)
  rw [Int.toNat_natCast, Int.toNat_natCast] at hfit
  have HMS := Lib.hid (show 1 ≤ m ∧ m ≤ 8 ∧ 1 ≤ s ∧ s ≤ 40 by omega)
  have CN := Lib.hid (qs_new m s W1 HMS.out.1 HMS.out.2.1 HMS.out.2.2.1 (Nat.le_trans HMS.out.2.2.2 (by decide)))
  clear hm hs HFIT
  go_wp2_with fail
  refine CN.out.mono ?_
  rintro e w2 ⟨c, rfl, h2⟩
  have H2 := Lib.hid h2
  have CV := Lib.hid (vnew_yes (lo := W1.heap.size) (K := fun _ => False) (c := c) m s w2 h2.rack h2.le (fun k hk => hk.elim) HMS.out.1 HMS.out.2.1 HMS.out.2.2.1 (Nat.le_trans HMS.out.2.2.2 (by decide)))
  clear h2
  go_wp2_with fail
  refine CV.out.mono ?_
  rintro e w3 ⟨f, rfl, ⟨C, E, hP⟩, hb3⟩
  obtain ⟨_, cap, hcap⟩ := hP.disk (i := 0) (by show 0 < m; have := HMS.out.1; omega)
  have hBW := bthen H2.out.base hb3
  obtain ⟨lo, hlo⟩ : ∃ lo, lo = W1.heap.size := ⟨_, rfl⟩
  rw [← hlo] at hP
  have H0 := Lib.hid (show VtS lo (fun _ => False) c f C E (newRk m s) (newRk m s) cf b cap W1 w3 from ⟨hP, hcap, hB1.out.1.below hB1.out.2.1 hBW, Nat.lt_of_lt_of_le hB1.out.2.1 hBW.size, by omega, hBW⟩)
  have CF := Lib.hid (fun w' (h' : VtS lo (fun _ => False) c f C E (newRk m s) (newRk m s) cf b cap W1 w') => show Calls Tryz.prog 19 #[.pointer (some ⟨c.r, 0, none⟩), .agg (cfA cf)] w' (Bit false w') from by have := sfits_any w' h'.1.prog cf; rwa [hfit] at this)
  have CVF := Lib.hid (fun w' (h' : VtS lo (fun _ => False) c f C E (newRk m s) (newRk m s) cf b cap W1 w') => show Calls Tryz.prog 20 #[.pointer (some ⟨f.t, 0, none⟩), .agg (cfA cf)] w' (Bit false w') from by have := vfits_any w' h'.1 (Nat.le_trans h'.2.2.2.2.1 h'.2.2.2.2.2.size) cf; rwa [hfit] at this)
  have CRR := Lib.hid (fun w' (h' : VtS lo (fun _ => False) c f C E (newRk m s) (newRk m s) cf b cap W1 w') => super_runs w' (HT.out.below (by rw [hbb]; exact hB1.out.2.2.trans (h'.2.2.2.2.2.mono (Nat.le_of_lt hB1.out.2.1)))))
  have HEND := Lib.hid (fun w' (h' : VtS lo (fun _ => False) c f C E (newRk m s) (newRk m s) cf b cap W1 w') => show Below b w w' from hB1.out.2.2.trans (h'.2.2.2.2.2.mono (Nat.le_of_lt hB1.out.2.1)))
  clear hP hb3 hcap hBW hfit hlo
  have h0 := H0.out
  have d0 : ∀ w', VtS lo (fun _ => False) c f C E (newRk m s) (newRk m s) cf b cap W1 w' → w'.cell? ⟨b, 0, none⟩ = some (.int .i64 cf.id) := fun w' h => h.2.2.1.cell 0
  have d1 : ∀ w', VtS lo (fun _ => False) c f C E (newRk m s) (newRk m s) cf b cap W1 w' → w'.cell? ⟨b, 1, none⟩ = some (.int .i64 cf.k) := fun w' h => h.2.2.1.cell 1
  have d2 : ∀ w', VtS lo (fun _ => False) c f C E (newRk m s) (newRk m s) cf b cap W1 w' → w'.cell? ⟨b, 2, none⟩ = some (.int .i64 cf.n) := fun w' h => h.2.2.1.cell 2
  have d3 : ∀ w', VtS lo (fun _ => False) c f C E (newRk m s) (newRk m s) cf b cap W1 w' → w'.cell? ⟨b, 3, none⟩ = some (.int .i64 cf.t) := fun w' h => h.2.2.1.cell 3
  have d4 : ∀ w', VtS lo (fun _ => False) c f C E (newRk m s) (newRk m s) cf b cap W1 w' → w'.cell? ⟨b, 4, none⟩ = some (.int .i64 cf.s) := fun w' h => h.2.2.1.cell 4
  go_wp2_with fail
  refine wp_region_noPanic ?_
  refine wp_region_held_drew (S := (fun w' => VtS lo (fun _ => False) c f C E (newRk m s) (newRk m s) cf b cap W1 w')) (by kernel_rfl) h0.drew (fun hHeld => ?_)
  refine wpAnyH_take (i := 0) (oi := ⟨some 29, _, _, _, _, _⟩) (v := ?_) rfl (by kernel_rfl) (by kernel_rfl) (by kernel_rfl) (fun _ _ _ h => h) (Or.inl ⟨by rfl, ?_⟩) hHeld ?_
  rotate_left
  · intro w hSw; (go_simp; try with_reducible rfl)
  simp only [Act.put, List.setIfInBounds_toArray, List.set_cons_zero, List.set_cons_succ]
  refine wpAnyH_take (i := 1) (oi := ⟨some 30, _, _, _, _, _⟩) (v := ?_) rfl (by kernel_rfl) (by kernel_rfl) (by kernel_rfl) (fun _ _ _ h => h) (Or.inl ⟨by rfl, ?_⟩) hHeld ?_
  rotate_left
  · intro w hSw; (go_simp; try with_reducible rfl)
  simp only [Act.put, List.setIfInBounds_toArray, List.set_cons_zero, List.set_cons_succ]
  refine wpAnyH_take (i := 2) (oi := ⟨some 31, _, _, _, _, _⟩) (v := ?_) rfl (by kernel_rfl) (by kernel_rfl) (by kernel_rfl) (fun _ _ _ h => h) (Or.inl ⟨by rfl, ?_⟩) hHeld ?_
  rotate_left
  · intro w hSw; (go_simp; try with_reducible rfl)
  simp only [Act.put, List.setIfInBounds_toArray, List.set_cons_zero, List.set_cons_succ]
  refine wpAnyH_take (i := 3) (oi := ⟨some 32, _, _, _, _, _⟩) (v := ?_) rfl (by kernel_rfl) (by kernel_rfl) (by kernel_rfl) (fun _ _ _ h => h) (Or.inl ⟨by rfl, ?_⟩) hHeld ?_
  rotate_left
  · intro w hSw; (go_simp; try with_reducible rfl)
  simp only [Act.put, List.setIfInBounds_toArray, List.set_cons_zero, List.set_cons_succ]
  refine wpAnyH_take (i := 4) (oi := ⟨some 33, _, _, _, _, _⟩) (v := ?_) rfl (by kernel_rfl) (by kernel_rfl) (by kernel_rfl) (fun _ _ _ h => h) (Or.inl ⟨by rfl, ?_⟩) hHeld ?_
  rotate_left
  · intro w hSw; (go_simp; try with_reducible rfl)
  simp only [Act.put, List.setIfInBounds_toArray, List.set_cons_zero, List.set_cons_succ]
  refine wpAnyH_take (i := 5) (oi := ⟨some 34, _, _, _, _, _⟩) (v := ?_) rfl (by kernel_rfl) (by kernel_rfl) (by kernel_rfl) (fun _ _ _ h => h) (Or.inl ⟨by rfl, ?_⟩) hHeld ?_
  rotate_left
  · intro w hSw; (go_simp; try with_reducible rfl)
  simp only [Act.put, List.setIfInBounds_toArray, List.set_cons_zero, List.set_cons_succ]
  refine wpAnyH_take (i := 6) (oi := ⟨some 35, _, _, _, _, _⟩) (v := ?_) rfl (by kernel_rfl) (by kernel_rfl) (by kernel_rfl) (fun _ _ _ h => h) (Or.inl ⟨by rfl, ?_⟩) hHeld ?_
  rotate_left
  · intro w hSw; (go_simp; try with_reducible rfl)
  simp only [Act.put, List.setIfInBounds_toArray, List.set_cons_zero, List.set_cons_succ]
  refine wpAnyH_take (i := 7) (oi := ⟨some 36, _, _, _, _, _⟩) (v := ?_) rfl (by kernel_rfl) (by kernel_rfl) (by kernel_rfl) (fun _ _ _ h => h) (Or.inl ⟨by rfl, ?_⟩) hHeld ?_
  rotate_left
  · intro w hSw; (go_simp; try with_reducible rfl)
  simp only [Act.put, List.setIfInBounds_toArray, List.set_cons_zero, List.set_cons_succ]
  refine wpAnyH_take (i := 9) (oi := ⟨some 38, _, _, _, _, _⟩) (v := ?_) rfl (by kernel_rfl) (by kernel_rfl) (by kernel_rfl) (fun _ _ _ h => h) (Or.inl ⟨by rfl, ?_⟩) hHeld ?_
  rotate_left
  · intro w hSw; (go_simp; try with_reducible rfl)
  simp only [Act.put, List.setIfInBounds_toArray, List.set_cons_zero, List.set_cons_succ]
  refine wpAnyH_ready (rs := [8]) (by kernel_rfl) (by simp) (AllReadyH.cons rfl (fun K hK => ?_) AllReadyH.nil)
  go_simp
  refine (CR.out _).mono ?_
  rintro e w4 ⟨rfl, hb4⟩
  have h4 := VtS.then hHeld hb4
  clear hb4
  refine hK.out _ _ h4 (fun _ => ?_)
  clear hK K
  refine wpAnyH_ready (rs := [10]) (by kernel_rfl) (by simp) (AllReadyH.cons rfl (fun K hK => ?_) AllReadyH.nil)
  go_simp
  refine (CVR.out _).mono ?_
  rintro e w5 ⟨rfl, hb5⟩
  have h5 := VtS.then h4 hb5
  clear hb5
  refine hK.out _ _ h5 (fun _ => ?_)
  clear hK K
  refine wpAnyH_take (i := 11) (oi := ⟨some 40, _, _, _, _, _⟩) (v := ?_) rfl (by kernel_rfl) (by kernel_rfl) (by kernel_rfl) (fun _ _ _ h => h) (Or.inl ⟨by rfl, ?_⟩) h5 ?_
  rotate_left
  · intro w hSw; (go_simp; try with_reducible rfl)
  simp only [Act.put, List.setIfInBounds_toArray, List.set_cons_zero, List.set_cons_succ]
  refine wpAnyH_take (i := 12) (oi := ⟨some 41, _, _, _, _, _⟩) (v := ?_) rfl (by kernel_rfl) (by kernel_rfl) (by kernel_rfl) (fun _ _ _ h => h) (Or.inl ⟨by rfl, ?_⟩) h5 ?_
  rotate_left
  · intro w hSw; (go_simp; try with_reducible rfl)
  simp only [Act.put, List.setIfInBounds_toArray, List.set_cons_zero, List.set_cons_succ]
  refine wpAnyH_take (i := 13) (oi := ⟨some 42, _, _, _, _, _⟩) (v := ?_) rfl (by kernel_rfl) (by kernel_rfl) (by kernel_rfl) (fun _ _ _ h => h) (Or.inl ⟨by rfl, ?_⟩) h5 ?_
  rotate_left
  · intro w hSw; (go_simp; try with_reducible rfl)
  simp only [Act.put, List.setIfInBounds_toArray, List.set_cons_zero, List.set_cons_succ]
  refine wpAnyH_take (i := 14) (oi := ⟨some 43, _, _, _, _, _⟩) (v := ?_) rfl (by kernel_rfl) (by kernel_rfl) (by kernel_rfl) (fun _ _ _ h => h) (Or.inl ⟨by rfl, ?_⟩) h5 ?_
  rotate_left
  · intro w hSw; (go_simp; try with_reducible rfl)
  simp only [Act.put, List.setIfInBounds_toArray, List.set_cons_zero, List.set_cons_succ]
  refine wpAnyH_take (i := 15) (oi := ⟨some 44, _, _, _, _, _⟩) (v := ?_) rfl (by kernel_rfl) (by kernel_rfl) (by kernel_rfl) (fun _ _ _ h => h) (Or.inl ⟨by rfl, ?_⟩) h5 ?_
  rotate_left
  · intro w hSw; (go_simp; try with_reducible rfl)
  simp only [Act.put, List.setIfInBounds_toArray, List.set_cons_zero, List.set_cons_succ]
  refine wpAnyH_take (i := 17) (oi := ⟨some 46, _, _, _, _, _⟩) (v := ?_) rfl (by kernel_rfl) (by kernel_rfl) (by kernel_rfl) (fun _ _ _ h => h) (Or.inl ⟨by rfl, ?_⟩) h5 ?_
  rotate_left
  · intro w hSw; (go_simp; try with_reducible rfl)
  simp only [Act.put, List.setIfInBounds_toArray, List.set_cons_zero, List.set_cons_succ]
  refine wpAnyH_take (i := 18) (oi := ⟨some 47, _, _, _, _, _⟩) (v := ?_) rfl (by kernel_rfl) (by kernel_rfl) (by kernel_rfl) (fun _ _ _ h => h) (Or.inl ⟨by rfl, ?_⟩) h5 ?_
  rotate_left
  · intro w hSw; (go_simp; try with_reducible rfl)
  simp only [Act.put, List.setIfInBounds_toArray, List.set_cons_zero, List.set_cons_succ]
  refine wpAnyH_ready (rs := [16]) (by kernel_rfl) (by simp) (AllReadyH.cons rfl (fun K hK => ?_) AllReadyH.nil)
  go_simp
  refine (CF.out _ h5).mono ?_
  rintro e w6 ⟨rfl, hb6⟩
  have h6 := VtS.then h5 hb6
  clear hb6
  refine hK.out _ _ h6 (fun _ => ?_)
  clear hK K
  refine wpAnyH_ready (rs := [19]) (by kernel_rfl) (by simp) (AllReadyH.cons rfl (fun K hK => ?_) AllReadyH.nil)
  go_simp
  refine (CVF.out _ h6).mono ?_
  rintro e w7 ⟨rfl, hb7⟩
  have h7 := VtS.then h6 hb7
  clear hb7
  refine hK.out _ _ h7 (fun _ => ?_)
  clear hK K
  refine wpAnyH_take (i := 20) (oi := ⟨some 49, _, _, _, _, _⟩) (v := ?_) rfl (by kernel_rfl) (by kernel_rfl) (by kernel_rfl) (fun _ _ _ h => h) (Or.inl ⟨by rfl, ?_⟩) h7 ?_
  rotate_left
  · intro w hSw; (go_simp; try with_reducible rfl)
  simp only [Act.put, List.setIfInBounds_toArray, List.set_cons_zero, List.set_cons_succ]
  refine wpAnyH_take (i := 21) (oi := ⟨some 50, _, _, _, _, _⟩) (v := ?_) rfl (by kernel_rfl) (by kernel_rfl) (by kernel_rfl) (fun _ _ _ h => h) (Or.inl ⟨by rfl, ?_⟩) h7 ?_
  rotate_left
  · intro w hSw; (go_simp; try with_reducible rfl)
  simp only [Act.put, List.setIfInBounds_toArray, List.set_cons_zero, List.set_cons_succ]
  refine wpAnyH_done (by kernel_rfl) ?_ _
  refine NoPanic.normal ?_
  go_wp2_with fail
  refine wp_region_noPanic ?_
  refine wp_region_held_drew (S := (fun w' => VtS lo (fun _ => False) c f C E (newRk m s) (newRk m s) cf b cap W1 w')) (by kernel_rfl) h7.drew (fun hHeld6 => ?_)
  refine wpAnyH_take (i := 0) (oi := ⟨some 51, _, _, _, _, _⟩) (v := ?_) rfl (by kernel_rfl) (by kernel_rfl) (by kernel_rfl) (fun _ _ _ h => h) (Or.inl ⟨by rfl, ?_⟩) hHeld6 ?_
  rotate_left
  · intro w hSw; (go_simp; try with_reducible rfl)
  simp only [Act.put, List.setIfInBounds_toArray, List.set_cons_zero, List.set_cons_succ]
  refine wpAnyH_ready (rs := [1]) (by kernel_rfl) (by simp) (AllReadyH.cons rfl (fun K hK => ?_) AllReadyH.nil)
  go_simp
  refine (CR.out _).mono ?_
  rintro e w8 ⟨rfl, hb8⟩
  have h8 := VtS.then hHeld6 hb8
  clear hb8
  refine hK.out _ _ h8 (fun _ => ?_)
  clear hK K
  refine wpAnyH_take (i := 2) (oi := ⟨some 53, _, _, _, _, _⟩) (v := ?_) rfl (by kernel_rfl) (by kernel_rfl) (by kernel_rfl) (fun _ _ _ h => h) (Or.inl ⟨by rfl, ?_⟩) h8 ?_
  rotate_left
  · intro w hSw; (go_simp; try with_reducible rfl)
  simp only [Act.put, List.setIfInBounds_toArray, List.set_cons_zero, List.set_cons_succ]
  refine wpAnyH_take (i := 3) (oi := ⟨some 54, _, _, _, _, _⟩) (v := ?_) rfl (by kernel_rfl) (by kernel_rfl) (by kernel_rfl) (fun _ _ _ h => h) (Or.inl ⟨by rfl, ?_⟩) h8 ?_
  rotate_left
  · intro w hSw; (go_simp; try with_reducible rfl)
  simp only [Act.put, List.setIfInBounds_toArray, List.set_cons_zero, List.set_cons_succ]
  refine wpAnyH_take (i := 4) (oi := ⟨some 55, _, _, _, _, _⟩) (v := ?_) rfl (by kernel_rfl) (by kernel_rfl) (by kernel_rfl) (fun _ _ _ h => h) (Or.inl ⟨by rfl, ?_⟩) h8 ?_
  rotate_left
  · intro w hSw; (go_simp; try with_reducible rfl)
  simp only [Act.put, List.setIfInBounds_toArray, List.set_cons_zero, List.set_cons_succ]
  refine wpAnyH_take (i := 6) (oi := ⟨some 57, _, _, _, _, _⟩) (v := ?_) rfl (by kernel_rfl) (by kernel_rfl) (by kernel_rfl) (fun _ _ _ h => h) (Or.inl ⟨by rfl, ?_⟩) h8 ?_
  rotate_left
  · intro w hSw; (go_simp; try with_reducible rfl)
  simp only [Act.put, List.setIfInBounds_toArray, List.set_cons_zero, List.set_cons_succ]
  refine wpAnyH_ready (rs := [5]) (by kernel_rfl) (by simp) (AllReadyH.cons rfl (fun K hK => ?_) AllReadyH.nil)
  go_simp
  refine (CS.out _).mono ?_
  rintro e w9 ⟨rfl, hb9⟩
  have h9 := VtS.then h8 hb9
  clear hb9
  refine hK.out _ _ h9 (fun _ => ?_)
  clear hK K
  refine wpAnyH_ready (rs := [7]) (by kernel_rfl) (by simp) (AllReadyH.cons rfl (fun K hK => ?_) AllReadyH.nil)
  go_simp
  refine (CVS.out _).mono ?_
  rintro e w10 ⟨rfl, hb10⟩
  have h10 := VtS.then h9 hb10
  clear hb10
  refine hK.out _ _ h10 (fun _ => ?_)
  clear hK K
  refine wpAnyH_take (i := 8) (oi := ⟨some 59, _, _, _, _, _⟩) (v := ?_) rfl (by kernel_rfl) (by kernel_rfl) (by kernel_rfl) (fun _ _ _ h => h) (Or.inl ⟨by rfl, ?_⟩) h10 ?_
  rotate_left
  · intro w hSw; (go_simp; try with_reducible rfl)
  simp only [Act.put, List.setIfInBounds_toArray, List.set_cons_zero, List.set_cons_succ]
  refine wpAnyH_take (i := 9) (oi := ⟨some 60, _, _, _, _, _⟩) (v := ?_) rfl (by kernel_rfl) (by kernel_rfl) (by kernel_rfl) (fun _ _ _ h => h) (Or.inl ⟨by rfl, ?_⟩) h10 ?_
  rotate_left
  · intro w hSw; (go_simp; try with_reducible rfl)
  simp only [Act.put, List.setIfInBounds_toArray, List.set_cons_zero, List.set_cons_succ]
  refine wpAnyH_take (i := 10) (oi := ⟨some 61, _, _, _, _, _⟩) (v := ?_) rfl (by kernel_rfl) (by kernel_rfl) (by kernel_rfl) (fun _ _ _ h => h) (Or.inl ⟨by rfl, ?_⟩) h10 ?_
  rotate_left
  · intro w hSw; (go_simp; try with_reducible rfl)
  simp only [Act.put, List.setIfInBounds_toArray, List.set_cons_zero, List.set_cons_succ]
  refine wpAnyH_ready (rs := [11]) (by kernel_rfl) (by simp) (AllReadyH.cons rfl (fun K hK => ?_) AllReadyH.nil)
  go_simp
  refine (CRR.out _ h10).mono ?_
  rintro e w11 ⟨rfl, hb11⟩
  have h11 := VtS.then h10 hb11
  clear hb11
  refine hK.out _ _ h11 (fun _ => ?_)
  clear hK K
  refine wpAnyH_take (i := 12) (oi := ⟨some 63, _, _, _, _, _⟩) (v := ?_) rfl (by kernel_rfl) (by kernel_rfl) (by kernel_rfl) (fun _ _ _ h => h) (Or.inl ⟨by rfl, ?_⟩) h11 ?_
  rotate_left
  · intro w hSw; (go_simp; try with_reducible rfl)
  simp only [Act.put, List.setIfInBounds_toArray, List.set_cons_zero, List.set_cons_succ]
  refine wpAnyH_take (i := 13) (oi := ⟨some 6, _, _, _, _, _⟩) (v := ?_) rfl (by kernel_rfl) (by kernel_rfl) (by kernel_rfl) (fun _ _ _ h => h) (Or.inl ⟨by rfl, ?_⟩) h11 ?_
  rotate_left
  · intro w hSw; (go_simp; try with_reducible rfl)
  simp only [Act.put, List.setIfInBounds_toArray, List.set_cons_zero, List.set_cons_succ]
  refine wpAnyH_done (by kernel_rfl) ?_ _
  refine NoPanic.normal ?_
  go_wp2_with fail
  go_ret
  refine bit rfl ?_
  rw [hbb]
  exact HEND.out _ h11
theorem tells_any (cf : Cf) (n sectors : Int) (w : World) (hT : Typ w) : Calls Tryz.prog 4 #[.agg (cfA cf), .int .i64 n, .int .i64 sectors] w (Bit true w) := by
  by_cases hr : CfRight cf
  · cases hf : cf.fits (newRk (withinV n 1 8).toNat (withinV sectors 1 40).toNat) with
    | true => exact tells_yes cf n sectors w hT hr hf
    | false => exact tells_no cf n sectors w hT hr hf
  · exact tells_wrong cf n sectors w hT hr (by unfold Cf.fits; rw [show cfRightB cf = false from decide_eq_false hr]; rfl)
end Go.Proofs.YtfhnkjlegehaoaaGreatDoor
