/-
  The law stavelaw11.StripeBudget (with N-K disks dead, replaced or rotten the stripe is read; with one more it is told what is left of it, or that too few disks are there) returns true for all numbers, orders and faults, and leaves all memory that was there as it was.
  Conditions: none but the row's own; the one package-level variable that it reads, errors.errorType, is tied to the program's text by the card. The card speaks of the pruned copy of the project that the seat names.
-/
import Derived.Test.YtidnmkghmaeniaaGreatDoorBase
import Derived.Test.YtidnmkghmaeniaaGreatDoorLaw
import Derived.Test.YtidnmkghmaeniaaGreatDoorOpenB
import Derived.Test.YtidnmkghmaeniaaGreatDoorTBudP
import Derived.Test.YtidnmkghmaeniaaGreatDoorOpenI
import Derived.Deep.RegionHeld3
import Derived.Deep.RegionLaw
import Derived.Deep.DeepCutAuto
import Derived.IntWalk
namespace Go.Proofs.YtidnmkghmaeniaaGreatDoor
open Go.RowKit Go.Deep Dk Qk Go.Maps Hf
set_option maxHeartbeats 16000000 in
set_option maxRecDepth 100000 in
theorem budget_any (w : World) (k_ n_ a_ : Int) (vo vh : Value) (lo lh : List Int) (hvo : SlI w.heap.size w vo lo) (hvh : SlI w.heap.size w vh lh) (more : Bool) (hT : Typ w) : Calls Tryz.prog 6 #[.int .i64 k_, .int .i64 n_, .int .i64 a_, vo, vh, .bool more] w (Bit true w) := by
  have HT := Lib.hid hT
  have HVO := Lib.hid hvo
  have HVH := Lib.hid hvh
  obtain ⟨ao, co, rfl⟩ := hvo.len
  obtain ⟨ah, ch, rfl⟩ := hvh.len
  clear hT hvo hvh
  go_enter Tryz.func6, Tryz.ntmps6
  go_wp2_with fail
  refine (fixed_any k_ n_ 2 1 _ (by omega) (by omega)).mono ?_
  rintro e w1 ⟨cf, hcf, rfl, hb1⟩
  obtain ⟨N, K, SC, hL⟩ := cfL_of hcf
  have HL := Lib.hid hL
  have CS := Lib.hid (fun w => ksectors_any cf w hL.ok.right)
  have CN := Lib.hid (fun w => hL.new w)
  have H2 := Lib.hid (show JfS cf w1.heap.size w (w1.alloc (.cells (cfA cf) 24)) from ⟨cfB_new w1 cf, by simp, balloc hb1 _⟩)
  have HNR := Lib.hid hL.r
  clear hb1 hcf hL
  go_wp2_with fail
  have h2 := H2.out
  generalize w1.alloc (.cells (cfA cf) 24) = w2 at *
  generalize w1.heap.size = b at *
  have d0 : ∀ w', JfS cf b w w' → w'.cell? ⟨b, 0, none⟩ = some (.int .i64 cf.id) := fun w' h => h.1.cell 0
  have d1 : ∀ w', JfS cf b w w' → w'.cell? ⟨b, 1, none⟩ = some (.int .i64 cf.k) := fun w' h => h.1.cell 1
  have d2 : ∀ w', JfS cf b w w' → w'.cell? ⟨b, 2, none⟩ = some (.int .i64 cf.n) := fun w' h => h.1.cell 2
  have d3 : ∀ w', JfS cf b w w' → w'.cell? ⟨b, 3, none⟩ = some (.int .i64 cf.t) := fun w' h => h.1.cell 3
  have d4 : ∀ w', JfS cf b w w' → w'.cell? ⟨b, 4, none⟩ = some (.int .i64 cf.s) := fun w' h => h.1.cell 4
  refine wp_region_noPanic ?_
  refine wp_region_held_drew (S := (fun w' => JfS cf b w w')) (by kernel_rfl) h2.drew (fun hHeld => ?_)
  refine wpAnyH_take (i := 0) (oi := ⟨some 33, _, _, _, _, _⟩) (v := ?_) rfl (by kernel_rfl) (by kernel_rfl) (by kernel_rfl) (fun _ _ _ h => h) (Or.inl ⟨by rfl, ?_⟩) hHeld ?_
  rotate_left
  · intro w hSw; (go_simp; try with_reducible rfl)
  simp only [Act.put, List.setIfInBounds_toArray, List.set_cons_zero, List.set_cons_succ]
  refine wpAnyH_take (i := 1) (oi := ⟨some 34, _, _, _, _, _⟩) (v := ?_) rfl (by kernel_rfl) (by kernel_rfl) (by kernel_rfl) (fun _ _ _ h => h) (Or.inl ⟨by rfl, ?_⟩) hHeld ?_
  rotate_left
  · intro w hSw; (go_simp; try with_reducible rfl)
  simp only [Act.put, List.setIfInBounds_toArray, List.set_cons_zero, List.set_cons_succ]
  refine wpAnyH_take (i := 2) (oi := ⟨some 35, _, _, _, _, _⟩) (v := ?_) rfl (by kernel_rfl) (by kernel_rfl) (by kernel_rfl) (fun _ _ _ h => h) (Or.inl ⟨by rfl, ?_⟩) hHeld ?_
  rotate_left
  · intro w hSw; (go_simp; try with_reducible rfl)
  simp only [Act.put, List.setIfInBounds_toArray, List.set_cons_zero, List.set_cons_succ]
  refine wpAnyH_ready (rs := [3]) (by kernel_rfl) (by simp) (AllReadyH.cons rfl (fun K hK => ?_) AllReadyH.nil)
  go_simp
  refine (CS.out _).mono ?_
  rintro e w3 ⟨rfl, hb3⟩
  have h3 := JfS.then hHeld hb3
  clear hb3
  refine hK.out _ _ h3 (fun _ => ?_)
  clear hK K
  refine wpAnyH_ready (rs := [4]) (by kernel_rfl) (by simp) (AllReadyH.cons rfl (fun K hK => ?_) AllReadyH.nil)
  go_simp
  refine (CN.out _).mono ?_
  rintro e w4 ⟨c, rfl, h4⟩
  have H4 := Lib.hid h4
  have h5 := JfS.made h3 h4
  clear h4
  refine hK.out _ _ h5 (fun _ => ?_)
  clear hK K
  refine wpAnyH_take (i := 5) (oi := ⟨some 32, _, _, _, _, _⟩) (v := ?_) rfl (by kernel_rfl) (by kernel_rfl) (by kernel_rfl) (fun _ _ _ h => h) (Or.inl ⟨by rfl, ?_⟩) h5 ?_
  rotate_left
  · intro w hSw; (go_simp; try with_reducible rfl)
  simp only [Act.put, List.setIfInBounds_toArray, List.set_cons_zero, List.set_cons_succ]
  refine wpAnyH_take (i := 6) (oi := ⟨some 38, _, _, _, _, _⟩) (v := ?_) rfl (by kernel_rfl) (by kernel_rfl) (by kernel_rfl) (fun _ _ _ h => h) (Or.inl ⟨by rfl, ?_⟩) h5 ?_
  rotate_left
  · intro w hSw; (go_simp; try with_reducible rfl)
  simp only [Act.put, List.setIfInBounds_toArray, List.set_cons_zero, List.set_cons_succ]
  refine wpAnyH_take (i := 7) (oi := ⟨some 39, _, _, _, _, _⟩) (v := ?_) rfl (by kernel_rfl) (by kernel_rfl) (by kernel_rfl) (fun _ _ _ h => h) (Or.inl ⟨by rfl, ?_⟩) h5 ?_
  rotate_left
  · intro w hSw; (go_simp; try with_reducible rfl)
  simp only [Act.put, List.setIfInBounds_toArray, List.set_cons_zero, List.set_cons_succ]
  refine wpAnyH_take (i := 8) (oi := ⟨some 14, _, _, _, _, _⟩) (v := ?_) rfl (by kernel_rfl) (by kernel_rfl) (by kernel_rfl) (fun _ _ _ h => h) (Or.inl ⟨by rfl, ?_⟩) h5 ?_
  rotate_left
  · intro w hSw; (go_simp; try with_reducible rfl)
  simp only [Act.put, List.setIfInBounds_toArray, List.set_cons_zero, List.set_cons_succ]
  refine wpAnyH_take (i := 9) (oi := ⟨some 15, _, _, _, _, _⟩) (v := ?_) rfl (by kernel_rfl) (by kernel_rfl) (by kernel_rfl) (fun _ _ _ h => h) (Or.inl ⟨by rfl, ?_⟩) h5 ?_
  rotate_left
  · intro w hSw; (go_simp; try with_reducible rfl)
  simp only [Act.put, List.setIfInBounds_toArray, List.set_cons_zero, List.set_cons_succ]
  refine wpAnyH_done (by kernel_rfl) ?_ _
  refine NoPanic.normal ?_
  have HB3 := Lib.hid (show JfS cf b w w3 from h3)
  have HJ4 := Lib.hid (show JW w3 c cf b w4.heap.size N (newRk N SC) w4 from JW.made H4.out HB3.out.1 HB3.out.2.1 (Below.refl _ _))
  have HBW := Lib.hid (fun (q : Rk) (w' : World) (h : JW w3 c cf b w4.heap.size N q w') => show Below w.heap.size w w' from bthen HB3.out.2.2 h.qs.base)
  have HTY := Lib.hid (fun (q : Rk) (w' : World) (h : JW w3 c cf b w4.heap.size N q w') => show Typ w' from HT.out.below (HBW.out q w' h))
  clear d0 d1 d2 d3 d4 h2 hHeld h3 h5
  have HO := Lib.hid (fun x => bud_start x a_ HL.out)
  have HBK := Lib.hid (fun a w => HL.out.blocks a w)
  have HP1 := Lib.hid (fun (x : Int) (w' : World) (v : Value) (hj : JW w3 c cf b w4.heap.size N (newRk N SC) w') (hv : SlK w'.heap.size w' v (blks x K)) => show Calls Tryz.prog 31 #[.pointer (some ⟨c.r, 0, none⟩), .agg #[.int .i64 cf.id, .int .i64 cf.k, .int .i64 cf.n, .int .i64 cf.t, .int .i64 cf.s], .int .i64 1, .int .i64 3, v] w' (JN w3 c cf b w4.heap.size N (Rk.tput (newRk N SC) cf 1 3 (blks x K)) .nilIface w') from by
    have := hj.tput 1 3 hv
    rwa [tput_nil (HO.out x).1] at this)
  have HP2 := Lib.hid (fun (x : Int) (w' : World) (v : Value) (hj : JW w3 c cf b w4.heap.size N (Rk.tput (newRk N SC) cf 1 3 (blks x K)) w') (hv : SlK w'.heap.size w' v (blks a_ K)) => show Calls Tryz.prog 31 #[.pointer (some ⟨c.r, 0, none⟩), .agg #[.int .i64 cf.id, .int .i64 cf.k, .int .i64 cf.n, .int .i64 cf.t, .int .i64 cf.s], .int .i64 1, .int .i64 4, v] w' (JN w3 c cf b w4.heap.size N (Rk.tput (Rk.tput (newRk N SC) cf 1 3 (blks x K)) cf 1 4 (blks a_ K)) .nilIface w') from by
    have := hj.tput 1 4 hv
    rwa [tput_nil (HO.out x).2.1] at this)
  obtain ⟨d0, d1, d2, d3, d4⟩ := CfB.cells HJ4.out.cfg
  go_wp2_with fail
  refine (HBK.out a_ _).mono ?_
  rintro e w5 ⟨va, rfl, hva, hb5⟩
  have HJ5 := Lib.hid (HJ4.out.below hb5)
  have HA5 := Lib.hid (bkB_of (B := w4.heap.size) hva (Nat.le_refl _))
  obtain ⟨ga, ca, rfl, -⟩ := own_slice' hva
  clear hva hb5 d0 d1 d2 d3 d4
  obtain ⟨x, hx⟩ : ∃ x, IntKind.i64.wrap (a_ + 1) = x := ⟨_, rfl⟩
  have d0 : ∀ w', CfB cf b w' → w'.cell? ⟨b, 0, none⟩ = some (.int .i64 cf.id) := fun w' h => h.cell 0
  have d1 : ∀ w', CfB cf b w' → w'.cell? ⟨b, 1, none⟩ = some (.int .i64 cf.k) := fun w' h => h.cell 1
  have d2 : ∀ w', CfB cf b w' → w'.cell? ⟨b, 2, none⟩ = some (.int .i64 cf.n) := fun w' h => h.cell 2
  have d3 : ∀ w', CfB cf b w' → w'.cell? ⟨b, 3, none⟩ = some (.int .i64 cf.t) := fun w' h => h.cell 3
  have d4 : ∀ w', CfB cf b w' → w'.cell? ⟨b, 4, none⟩ = some (.int .i64 cf.s) := fun w' h => h.cell 4
  go_wp2_with fail
  refine wp_region_noPanic ?_
  refine wp_region_held_drew (S := (fun w' => CfB cf b w')) (by kernel_rfl) (show CfB cf b w5.drew from HJ5.out.cfg) (fun hHeld => ?_)
  refine wpAnyH_take (i := 0) (oi := ⟨some 44, _, _, _, _, _⟩) (v := ?_) rfl (by kernel_rfl) (by kernel_rfl) (by kernel_rfl) (fun _ _ _ h => h) (Or.inl ⟨by rfl, ?_⟩) hHeld ?_
  rotate_left
  · intro w hSw; (go_simp; try with_reducible rfl)
  simp only [Act.put, List.setIfInBounds_toArray, List.set_cons_zero, List.set_cons_succ]
  refine wpAnyH_take (i := 1) (oi := ⟨some 45, _, _, _, _, _⟩) (v := ?_) rfl (by kernel_rfl) (by kernel_rfl) (by kernel_rfl) (fun _ _ _ h => h) (Or.inl ⟨by rfl, ?_⟩) hHeld ?_
  rotate_left
  · intro w hSw; (go_simp; try with_reducible rfl)
  simp only [Act.put, List.setIfInBounds_toArray, List.set_cons_zero, List.set_cons_succ]
  refine wpAnyH_take (i := 2) (oi := ⟨some 46, _, _, _, _, _⟩) (v := ?_) rfl (by kernel_rfl) (by kernel_rfl) (by kernel_rfl) (fun _ _ _ h => h) (Or.inl ⟨by rfl, ?_⟩) hHeld ?_
  rotate_left
  · intro w hSw; (go_simp; try with_reducible rfl)
  simp only [Act.put, List.setIfInBounds_toArray, List.set_cons_zero, List.set_cons_succ]
  refine wpAnyH_take (i := 3) (oi := ⟨some 47, _, _, _, _, _⟩) (v := ?_) rfl (by kernel_rfl) (by kernel_rfl) (by kernel_rfl) (fun _ _ _ h => h) (Or.inl ⟨by rfl, ?_⟩) hHeld ?_
  rotate_left
  · intro w hSw; (go_simp; try with_reducible rfl)
  simp only [Act.put, List.setIfInBounds_toArray, List.set_cons_zero, List.set_cons_succ]
  refine wpAnyH_take (i := 4) (oi := ⟨some 48, _, _, _, _, _⟩) (v := ?_) rfl (by kernel_rfl) (by kernel_rfl) (by kernel_rfl) (fun _ _ _ h => h) (Or.inl ⟨by rfl, ?_⟩) hHeld ?_
  rotate_left
  · intro w hSw; (go_simp; try with_reducible rfl)
  simp only [Act.put, List.setIfInBounds_toArray, List.set_cons_zero, List.set_cons_succ]
  refine wpAnyH_take (i := 5) (oi := ⟨some 49, _, _, _, _, _⟩) (v := ?_) rfl (by kernel_rfl) (by kernel_rfl) (by kernel_rfl) (fun _ _ _ h => h) (Or.inl ⟨by rfl, ?_⟩) hHeld ?_
  rotate_left
  · intro w hSw; (go_simp; try with_reducible rfl)
  simp only [Act.put, List.setIfInBounds_toArray, List.set_cons_zero, List.set_cons_succ]
  refine wpAnyH_take (i := 6) (oi := ⟨some 50, _, _, _, _, _⟩) (v := ?_) rfl (by kernel_rfl) (by kernel_rfl) (by kernel_rfl) (fun _ _ _ h => h) (Or.inl ⟨by rfl, ?_⟩) hHeld ?_
  rotate_left
  · intro w hSw; (go_simp; try with_reducible rfl)
  simp only [Act.put, List.setIfInBounds_toArray, List.set_cons_zero, List.set_cons_succ]
  refine wpAnyH_take (i := 7) (oi := ⟨some 51, _, _, _, _, _⟩) (v := ?_) rfl (by kernel_rfl) (by kernel_rfl) (by kernel_rfl) (fun _ _ _ h => h) (Or.inl ⟨by rfl, ?_⟩) hHeld ?_
  rotate_left
  · intro w hSw; (go_simp; try with_reducible rfl)
  simp only [Act.put, List.setIfInBounds_toArray, List.set_cons_zero, List.set_cons_succ]
  refine wpAnyH_take (i := 8) (oi := ⟨some 52, _, _, _, _, _⟩) (v := ?_) rfl (by kernel_rfl) (by kernel_rfl) (by kernel_rfl) (fun _ _ _ h => h) (Or.inl ⟨by rfl, ?_⟩) hHeld ?_
  rotate_left
  · intro w hSw; (go_simp; try with_reducible rfl)
  simp only [Act.put, List.setIfInBounds_toArray, List.set_cons_zero, List.set_cons_succ]
  refine wpAnyH_take (i := 9) (oi := ⟨some 53, _, _, _, _, _⟩) (v := ?_) rfl (by kernel_rfl) (by kernel_rfl) (by kernel_rfl) (fun _ _ _ h => h) (Or.inl ⟨by rfl, ?_⟩) hHeld ?_
  rotate_left
  · intro w hSw; (go_simp; try with_reducible rfl)
  simp only [Act.put, List.setIfInBounds_toArray, List.set_cons_zero, List.set_cons_succ]
  refine wpAnyH_take (i := 10) (oi := ⟨some 54, _, _, _, _, _⟩) (v := ?_) rfl (by kernel_rfl) (by kernel_rfl) (by kernel_rfl) (fun _ _ _ h => h) (Or.inl ⟨by rfl, ?_⟩) hHeld ?_
  rotate_left
  · intro w hSw; (go_simp; try with_reducible rfl)
  simp only [Act.put, List.setIfInBounds_toArray, List.set_cons_zero, List.set_cons_succ]
  refine wpAnyH_take (i := 11) (oi := ⟨some 55, _, _, _, _, _⟩) (v := ?_) rfl (by kernel_rfl) (by kernel_rfl) (by kernel_rfl) (fun _ _ _ h => h) (Or.inl ⟨by rfl, ?_⟩) hHeld ?_
  rotate_left
  · intro w hSw; (go_simp; try with_reducible rfl)
  simp only [Act.put, List.setIfInBounds_toArray, List.set_cons_zero, List.set_cons_succ]
  refine wpAnyH_take (i := 12) (oi := ⟨some 56, _, _, _, _, _⟩) (v := ?_) rfl (by kernel_rfl) (by kernel_rfl) (by kernel_rfl) (fun _ _ _ h => h) (Or.inl ⟨by rfl, ?_⟩) hHeld ?_
  rotate_left
  · intro w hSw; (go_simp; try with_reducible rfl)
  simp only [Act.put, List.setIfInBounds_toArray, List.set_cons_zero, List.set_cons_succ]
  refine wpAnyH_ready (rs := [13]) (by kernel_rfl) (by simp) (AllReadyH.cons rfl (fun K hK => ?_) AllReadyH.nil)
  go_simp
  refine (HBK.out x _).mono ?_
  rintro e w6 ⟨vx, rfl, hvx, hb6⟩
  have HX6 := Lib.hid (slK_own hvx (blks_is _ _) rfl)
  have HJ6 := Lib.hid (HJ5.out.drew.below hb6)
  have HA6 := Lib.hid ((HA5.out.below (Below.drew (Below.refl _ _))).below hb6)
  have h6 : CfB cf b w6 := HJ6.out.cfg
  obtain ⟨gx, cx, rfl, -⟩ := own_slice' hvx
  clear hvx hb6
  refine hK.out _ _ h6 (fun _ => ?_)
  clear hK K
  refine wpAnyH_ready (rs := [14]) (by kernel_rfl) (by simp) (AllReadyH.cons rfl (fun K hK => ?_) AllReadyH.nil)
  go_simp
  refine (HP1.out x w6 _ HJ6.out HX6.out).mono ?_
  rintro e w7 ⟨rfl, hj7, hc7⟩
  have HJ7 := Lib.hid hj7
  have HA7 := Lib.hid (HA6.out.rc HJ6.out.far hc7)
  have h7 : CfB cf b w7 := hj7.cfg
  clear hj7 hc7
  refine hK.out _ _ h7 (fun _ => ?_)
  clear hK K
  refine wpAnyH_take (i := 15) (oi := ⟨some 59, _, _, _, _, _⟩) (v := ?_) rfl (by kernel_rfl) (by kernel_rfl) (by kernel_rfl) (fun _ _ _ h => h) (Or.inl ⟨by rfl, ?_⟩) h7 ?_
  rotate_left
  · intro w hSw; (go_simp; try with_reducible rfl)
  simp only [Act.put, List.setIfInBounds_toArray, List.set_cons_zero, List.set_cons_succ]
  refine wpAnyH_take (i := 16) (oi := ⟨some 60, _, _, _, _, _⟩) (v := ?_) rfl (by kernel_rfl) (by kernel_rfl) (by kernel_rfl) (fun _ _ _ h => h) (Or.inl ⟨by rfl, ?_⟩) h7 ?_
  rotate_left
  · intro w hSw; (go_simp; try with_reducible rfl)
  simp only [Act.put, List.setIfInBounds_toArray, List.set_cons_zero, List.set_cons_succ]
  refine wpAnyH_take (i := 17) (oi := ⟨some 61, _, _, _, _, _⟩) (v := ?_) rfl (by kernel_rfl) (by kernel_rfl) (by kernel_rfl) (fun _ _ _ h => h) (Or.inl ⟨by rfl, ?_⟩) h7 ?_
  rotate_left
  · intro w hSw; (go_simp; try with_reducible rfl)
  simp only [Act.put, List.setIfInBounds_toArray, List.set_cons_zero, List.set_cons_succ]
  refine wpAnyH_take (i := 18) (oi := ⟨some 62, _, _, _, _, _⟩) (v := ?_) rfl (by kernel_rfl) (by kernel_rfl) (by kernel_rfl) (fun _ _ _ h => h) (Or.inl ⟨by rfl, ?_⟩) h7 ?_
  rotate_left
  · intro w hSw; (go_simp; try with_reducible rfl)
  simp only [Act.put, List.setIfInBounds_toArray, List.set_cons_zero, List.set_cons_succ]
  refine wpAnyH_take (i := 19) (oi := ⟨some 63, _, _, _, _, _⟩) (v := ?_) rfl (by kernel_rfl) (by kernel_rfl) (by kernel_rfl) (fun _ _ _ h => h) (Or.inl ⟨by rfl, ?_⟩) h7 ?_
  rotate_left
  · intro w hSw; (go_simp; try with_reducible rfl)
  simp only [Act.put, List.setIfInBounds_toArray, List.set_cons_zero, List.set_cons_succ]
  refine wpAnyH_take (i := 20) (oi := ⟨some 64, _, _, _, _, _⟩) (v := ?_) rfl (by kernel_rfl) (by kernel_rfl) (by kernel_rfl) (fun _ _ _ h => h) (Or.inl ⟨by rfl, ?_⟩) h7 ?_
  rotate_left
  · intro w hSw; (go_simp; try with_reducible rfl)
  simp only [Act.put, List.setIfInBounds_toArray, List.set_cons_zero, List.set_cons_succ]
  refine wpAnyH_ready (rs := [21]) (by kernel_rfl) (by simp) (AllReadyH.cons rfl (fun K hK => ?_) AllReadyH.nil)
  go_simp
  refine (HP2.out x w7 _ HJ7.out HA7.out.slk).mono ?_
  rintro e w8 ⟨rfl, hj8, hc8⟩
  have HJ8 := Lib.hid hj8
  have HA8 := Lib.hid (HA7.out.rc HJ7.out.far hc8)
  have h8 : CfB cf b w8 := hj8.cfg
  clear hj8 hc8
  refine hK.out _ _ h8 (fun _ => ?_)
  clear hK K
  refine wpAnyH_take (i := 22) (oi := ⟨some 66, _, _, _, _, _⟩) (v := ?_) rfl (by kernel_rfl) (by kernel_rfl) (by kernel_rfl) (fun _ _ _ h => h) (Or.inl ⟨by rfl, ?_⟩) h8 ?_
  rotate_left
  · intro w hSw; (go_simp; try with_reducible rfl)
  simp only [Act.put, List.setIfInBounds_toArray, List.set_cons_zero, List.set_cons_succ]
  refine wpAnyH_take (i := 23) (oi := ⟨some 67, _, _, _, _, _⟩) (v := ?_) rfl (by kernel_rfl) (by kernel_rfl) (by kernel_rfl) (fun _ _ _ h => h) (Or.inl ⟨by rfl, ?_⟩) h8 ?_
  rotate_left
  · intro w hSw; (go_simp; try with_reducible rfl)
  simp only [Act.put, List.setIfInBounds_toArray, List.set_cons_zero, List.set_cons_succ]
  refine wpAnyH_done (by kernel_rfl) ?_ _
  refine NoPanic.normal ?_
  have HS := Lib.hid (HO.out x).2.2
  generalize hQ0 : Rk.tput (Rk.tput (newRk N SC) cf 1 3 (blks x K)) cf 1 4 (blks a_ K) = q0 at *
  clear hQ0 hx
  clear d0 d1 d2 d3 d4 h6 h7 h8 hHeld
  have HCN := Lib.hid (show cf.n = N ∧ cf.k = K from ⟨HL.out.n, HL.out.k⟩)
  have HRN := Lib.hid (fun W => stripe_runs W)
  have hN6 : N ≤ 6 := HNR.out.2.1
  have hKN : 1 ≤ K ∧ K ≤ N := ⟨HNR.out.2.2.2.2.1, HNR.out.2.2.2.2.2.2⟩
  have HKK := Lib.hid hKN
  have HBL := Lib.hid (show (blks a_ K).length ≤ 8 by rw [blks_length]; omega)
  clear hKN
  go_wp2_with fail
  go_loopw [17, 18] (fun v i wr => ∃ m : Nat, m ≤ N ∧ i = .int .i64 m ∧ JW w3 c cf b w4.heap.size N q0 wr ∧ BkB w4.heap.size (blks a_ K) (.slice ga (blks a_ K).length ca) wr ∧ wr.ownsRow w4.heap.size 3 1 v m (numsV (List.range m))) (fun _ i _ => N - (intOf i).toNat)
  case atStart => exact ⟨0, Nat.zero_le _, rfl, HJ8.out, HA8.out, World.ownsRow_nil _ _ _ _⟩
  case round =>
    obtain ⟨m, hm, rfl, hJ, hA, hO⟩ := hrel
    have HJ := Lib.hid hJ
    have HA := Lib.hid hA
    have HO1 := Lib.hid hO
    obtain ⟨d0, d1, d2, d3, d4⟩ := CfB.cells hJ.cfg
    rw [HCN.out.1] at d2
    rw [HCN.out.2] at d1
    obtain ⟨gl, cl, rfl, -⟩ := own_slice hO
    clear hJ hA hO
    by_cases hlt : m < N
    · go_wp2_with (at_builtin; refine wpList_append_num _ rfl (.tmp 74) (.tmp 76) rfl w4.heap.size _ _ _ rfl (own_below HO1.out (one_below _ _)) wr.heap.size (.int .i64 (m : Int)) rfl ?_ rfl ?_ ?_ ?_; (exact new_cells _ _ _ _ _ rfl); omega; (have := HJ.out.bB; simp; omega); intro vl wl howna hga; have HOA := Lib.hid howna; have HGA := Lib.hid hga; obtain ⟨g7, c7, rfl, -⟩ := own_slice howna; clear howna hga)
      go_roundw
      case rel =>
        refine ⟨m + 1, hlt, by go_num, (HJ.out.below (one_below wr _)).grew (own_below HO1.out (one_below wr _)) (by decide) HGA.out, BkB.grew (HA.out.below (one_below wr _)) (own_below HO1.out (one_below wr _)) HGA.out, ?_⟩
        rw [List.range_succ]
        have := HOA.out
        simpa [numsV] using this
      case measure => simp [intOf]; omega
    · obtain rfl : N = m := by omega
      obtain ⟨T, hT⟩ : ∃ T : Nat, T + K = N + (if more = true then 1 else 0) := ⟨N + (if more = true then 1 else 0) - K, by have := HKK.out; omega⟩
      have HTT := Lib.hid hT
      have hTb : T ≤ N := by have := HKK.out; split at hT <;> omega
      clear hT
      have hwnk : IntKind.i64.wrap ((N : Int) - (K : Int)) = (N : Int) - (K : Int) := IntWalk.i64_in _ (by have := HKK.out; omega)
      go_upto_if 83 with fail
      go_cut [19] from 84 to 85 (fun v wx => v = .int .i64 T ∧ wx = wr)
      case first =>
        cases more with
        | true =>
          have hTi : (T : Int) = (N : Int) - K + 1 := by have := HTT.out; simp at this; omega
          have hwn2 : IntKind.i64.wrap ((N : Int) - (K : Int) + 1) = (N : Int) - (K : Int) + 1 := IntWalk.i64_in _ (by have := HKK.out; omega)
          go_wp2_with fail
          go_meet
          refine ⟨?_, rfl⟩
          rw [hTi]
        | false =>
          have hTi : (T : Int) = (N : Int) - K := by have := HTT.out; simp at this; omega
          go_wp2_with fail
          go_meet
          refine ⟨?_, rfl⟩
          rw [hTi]
      case rest =>
        obtain ⟨rfl, hwc⟩ := hcut
        obtain rfl : wr = wc := hwc.symm
        clear hlt hm hwnk
        go_wp2_with fail
        have HJ1 := Lib.hid HJ.out
        have HA1 := Lib.hid HA.out
        clear d0 d1 d2 d3 d4
        go_loopw [17, 20, 21] (fun v o i wr => ∃ (m : Nat) (L : List Nat) (gone on : Nat) (q : Rk), m ≤ T ∧ i = .int .i64 m ∧ L.length + m = N ∧ BudI cf K N SC a_ L gone q ∧ o = .int .i64 on ∧ on + gone = N ∧ JW w3 c cf b w4.heap.size N q wr ∧ BkB w4.heap.size (blks a_ K) (.slice ga (blks a_ K).length ca) wr ∧ wr.ownsRow w4.heap.size 3 1 v L.length (numsV L)) (fun _ _ i _ => T - (intOf i).toNat)
        case atStart => exact ⟨0, List.range N, 0, N, q0, Nat.zero_le _, rfl, by simp, HS.out, rfl, rfl, HJ1.out, HA1.out, by rw [List.length_range]; exact HO1.out⟩
        case round =>
          clear HJ HA HO1 HJ1 HA1
          obtain ⟨m, L, gone, on, q, hm, rfl, hLm, hI, rfl, hon, hJ, hA, hO⟩ := hrel
          have HJ := Lib.hid hJ
          have HA := Lib.hid hA
          have HO1 := Lib.hid hO
          have HI := Lib.hid hI
          have HLM := Lib.hid hLm
          have HON := Lib.hid hon
          obtain ⟨d0, d1, d2, d3, d4⟩ := CfB.cells hJ.cfg
          clear hJ hA hI hLm hon
          by_cases hlt : m < T
          · have hLpos : 0 < L.length := by have := HLM.out; omega
            obtain ⟨gl2, hgl2⟩ : ∃ g c, True := ⟨0, 0, trivial⟩
            obtain ⟨gl, cl, rfl, hcl⟩ := own_slice hO
            obtain ⟨gg, rfl⟩ := own_addr hO hLpos
            clear hO hgl2 gl2
            have hLl : L.length ≤ 6 := by have := HLM.out; omega
            generalize hM : L.length = M at *
            have HM := Lib.hid hM
            clear hM
            have hwM : IntKind.i64.wrap ((M : Int) - 1) = (M : Int) - 1 := IntWalk.i64_in _ (by omega)
            go_upto_if 96 with fail
            go_cut [22] from 93 to 104 (fun v wx => ∃ x : Nat, x < M ∧ v = .int .i64 x ∧ wx = wr)
            case first =>
              by_cases hml : m < lo.length
              · obtain ⟨bo, oo, co2, hse, hco⟩ := HVO.out.num (Nat.le_refl _) (HBW.out _ _ HJ.out) hml
                injection hse with hse1 hse2 hse3
                subst hse1 hse3
                clear hse2
                have hml' : (m : Int) < lo.length := by omega
                have HWI := Lib.hid (fun W => within_int (lo.getD m 0) 0 ((M : Int) - 1) W (by omega) (by omega) (by omega))
                generalize lo.getD m 0 = y at *
                go_wp2_with fail
                refine (HWI.out _).mono ?_
                rintro e w' ⟨x, hxr, rfl, hw'⟩
                subst hw'
                obtain ⟨x, rfl⟩ := Int.eq_ofNat_of_zero_le hxr.1
                go_wp2_with fail
                go_meet
                exact ⟨x, by have := hxr.2; omega, rfl, rfl⟩
              · have hml' : ¬ (m : Int) < lo.length := by omega
                go_wp2_with fail
                go_meet
                exact ⟨0, by omega, rfl, rfl⟩
            case rest =>
              obtain ⟨x, hxM, rfl, hwc⟩ := hcut
              obtain rfl : wr = wc := hwc.symm
              go_upto_if 108 with fail
              go_cut [23] from 105 to 113 (fun v wx => ∃ x : Nat, x ≤ 2 ∧ v = .int .i64 x ∧ wx = wr)
              case first =>
                by_cases hml : m < lh.length
                · obtain ⟨bo, oo, co2, hse, hco⟩ := HVH.out.num (Nat.le_refl _) (HBW.out _ _ HJ.out) hml
                  injection hse with hse1 hse2 hse3
                  subst hse1 hse3
                  clear hse2
                  have hml' : (m : Int) < lh.length := by omega
                  have HWI := Lib.hid (fun W => within_int (lh.getD m 0) 0 2 W (by omega) (by omega) (by omega))
                  generalize lh.getD m 0 = y at *
                  go_wp2_with fail
                  refine (HWI.out _).mono ?_
                  rintro e w' ⟨x, hxr, rfl, hw'⟩
                  subst hw'
                  obtain ⟨x, rfl⟩ := Int.eq_ofNat_of_zero_le hxr.1
                  go_wp2_with fail
                  go_meet
                  exact ⟨x, by have := hxr.2; omega, rfl, rfl⟩
                · have hml' : ¬ (m : Int) < lh.length := by omega
                  go_wp2_with fail
                  go_meet
                  exact ⟨0, by omega, rfl, rfl⟩
              case rest =>
                obtain ⟨z, hz, rfl, hwc⟩ := hcut
                obtain rfl : wr = wc := hwc.symm
                have HXN := Lib.hid (show x < L.length by rw [HM.out]; exact hxM)
                have hcell := own_cell HO1.out (numsV_at (l := L) (i := x) HXN.out)
                have CDI := Lib.hid (HJ.out.die (L.getD x 0 : Nat))
                have CRP := Lib.hid (HJ.out.replace (L.getD x 0 : Nat))
                have CRT := Lib.hid (show Calls Tryz.prog 46 #[.pointer (some ⟨c.r, 0, none⟩), .int .i64 (L.getD x 0 : Nat), .int .i64 (1 + cf.k + 1), .int .i64 (x : Int), .int .u32 5] wr.drew (JN w3 c cf b w4.heap.size N (Rk.rotten q (L.getD x 0 : Nat) (1 + cf.k + 1) (x : Int) 5) (.bool (Rk.rots q (L.getD x 0 : Nat) (1 + cf.k + 1) (x : Int) 5)) wr.drew) from HJ.out.drew.rot (L.getD x 0 : Nat) (1 + cf.k + 1) (x : Int) 5)
                have HN0 := Lib.hid (HI.out.die HXN.out)
                have HN1 := Lib.hid (HI.out.replace HXN.out)
                have HN2 := Lib.hid (HI.out.rot HL.out HXN.out (by omega))
                generalize hd : L.getD x 0 = dd at *
                have HD := Lib.hid hd
                clear hd
                have hwk1 : IntKind.i64.wrap (1 + cf.k) = 1 + cf.k := IntWalk.i64_in _ (by have := HCN.out.2; have := HKK.out; omega)
                have hwk2 : IntKind.i64.wrap (1 + cf.k + 1) = 1 + cf.k + 1 := IntWalk.i64_in _ (by have := HCN.out.2; have := HKK.out; omega)
                have hxi : (x : Int) < M := by omega
                have HONL := Lib.hid (show 1 ≤ on ∧ on ≤ 6 from by
                  have := HN0.out.on
                  have := HON.out
                  omega)
                obtain rfl | rfl | rfl : z = 0 ∨ z = 1 ∨ z = 2 := by omega
                · have hwo : IntKind.i64.wrap ((on : Int) - 1) = (on : Int) - 1 := IntWalk.i64_in _ (by have := HONL.out; omega)
                  have HONE := Lib.hid (show (on : Int) - 1 = ((on - 1 : Nat) : Int) by have := HONL.out; omega)
                  go_wp2_with fail
                  refine CDI.out.mono ?_
                  rintro e w7 ⟨rfl, hj7, hc7⟩
                  have HJ7 := Lib.hid hj7
                  have HA7 := Lib.hid (HA.out.rc HJ.out.far hc7)
                  have HO7 := Lib.hid (own_rc HO1.out HJ.out.far hc7)
                  clear hj7 hc7 d0 d1 d2 d3 d4
                  go_wp2_with fail
                  have HQ1 := Lib.hid (fun W (h : w7.heap.size ≤ W.heap.size ∧ W.ownsRow w4.heap.size 3 1 (.slice (some ⟨gg, 0, none⟩) M cl) M (numsV L)) => show Src Tryz.prog 1 92 (.slice (some ⟨gg, 0, none⟩) x cl) x (numsV (L.take x)) W from src_nums (lo := 0) h.2 HM.out (by omega))
                  have HXL := Lib.hid (show 0 + x ≤ 100000 by omega)
                  have HXL2 := Lib.hid (show 0 + x + (M - (x + 1)) ≤ 100000 by omega)
                  have hwx : IntKind.i64.wrap ((x : Int) + 1) = (x : Int) + 1 := IntWalk.i64_in _ (by omega)
                  have hnx : (0 : Int) ≤ (x : Int) + 1 := by omega
                  have htn : ((x : Int) + 1).toNat = x + 1 := by omega
                  have hxc0 : (x : Int) ≤ cl := by omega
                  have hxc2 : ((x : Int) + 1) ≤ M := by omega
                  have HFIN := Lib.hid (fun (v : Value) (w9 : World) (ho : w9.ownsRow w7.heap.size 3 1 v (0 + x + (M - (x + 1))) (numsV (L.take x) ++ numsV (L.drop (x + 1)))) (hb : Below w7.heap.size w7 w9) => show (fun (v : Value) (wr : World) => ∃ (m2 : Nat) (L2 : List Nat) (gone2 on2 : Nat) (q2 : Rk), m2 ≤ T ∧ (Value.int .i64 ((m : Int) + 1)) = .int .i64 m2 ∧ L2.length + m2 = N ∧ BudI cf K N SC a_ L2 gone2 q2 ∧ (Value.int .i64 ((on : Int) - 1)) = .int .i64 on2 ∧ on2 + gone2 = N ∧ JW w3 c cf b w4.heap.size N q2 wr ∧ BkB w4.heap.size (blks a_ K) (.slice ga (blks a_ K).length ca) wr ∧ wr.ownsRow w4.heap.size 3 1 v L2.length (numsV L2)) v w9 from
                    ⟨m + 1, L.eraseIdx x, gone + 1, on - 1, _, hlt, by go_num, by have := HLM.out; rw [List.length_eraseIdx, HM.out, if_pos hxM]; omega, HN0.out, by rw [HONE.out], by have := HONL.out; have := HON.out; omega, HJ7.out.below hb, HA7.out.below hb, by
                      rw [List.length_eraseIdx, HM.out, if_pos hxM, ← nums_erase]
                      have := own_base ho HJ7.out.bB
                      rwa [show 0 + x + (M - (x + 1)) = M - 1 by omega] at this⟩)
                  by_cases hxc : x + 1 = cl
                  · have HXC := Lib.hid hxc
                    have hxc3 : (cl = x + 1) ↔ True := ⟨fun _ => trivial, fun _ => HXC.out.symm⟩
                    clear hxc
                    have HQ2 := Lib.hid (fun W => show Src Tryz.prog 1 92 (.slice (some ⟨gg, 0, none⟩) (M - (x + 1)) (cl - (x + 1))) (M - (x + 1)) (numsV (L.drop (x + 1))) W from by
                      have e : M - (x + 1) = 0 := by have := HXC.out; omega
                      rw [e, List.drop_eq_nil_of_le (by rw [HM.out]; omega)]; exact src_nonum _ _)
                    have HGB := Lib.hid (show gg < w7.heap.size from (HO7.out.lt gg rfl).2)
                    have HNB := Lib.hid (show (Value.slice (some ⟨gg, 0, none⟩) M cl).ownBlock ≠ some w7.heap.size from fun e => by
                      have e' : gg = w7.heap.size := by injection e
                      have := HGB.out
                      omega)
                    go_region_law (first
                      | (refine step_append_nums (o := ⟨some 150, _, _, _, _, _⟩) _ rfl (.tmp 146) (.tmp 149) (by rfl) w7.heap.size _ 0 [] (by rfl) (own_new _ w7.heap.size #[] 3 1 0 (by exact Nat.le_refl _) rfl (by decide)) _ x _ (by rfl) (HQ1.out _ ⟨by simp, own_below HO7.out (by repeat (first | exact Below.refl _ _ | apply Below.drew | refine balloc ?_ _))⟩) HXL.out (by simp) ?_; intro v8 w8 hown8 hg8; have HO8 := Lib.hid hown8; have HG8 := Lib.hid hg8; have HLK8 := Lib.hid (World.ownsRow.kept (own_below HO7.out (by repeat (first | exact Below.refl _ _ | apply Below.drew | refine balloc ?_ _))) hg8.by_ (Or.inr HNB.out)); clear hown8 hg8)
                      | (refine step_append_nums (o := ⟨some 155, _, _, _, _, _⟩) _ rfl (.tmp 150) (.tmp 154) (by rfl) w7.heap.size _ (0 + x) _ (by rfl) HO8.out _ (M - (x + 1)) _ (by rfl) (HQ2.out _) HXL2.out (by have := HG8.out.size; simp at this; omega) ?_; intro v9 w9 hown9 hg9; have H9 := Lib.hid (HFIN.out v9 w9 (by have := hown9; rwa [List.nil_append] at this) (two_nums HG8.out hg9)); obtain ⟨g9, c9, rfl, -⟩ := own_slice hown9; clear hown9 hg9))
                    all_goals
                      go_wp2_with fail
                      go_roundw
                      case rel =>
                        have hrl := H9.out
                        rw [Nat.zero_add] at hrl
                        exact hrl
                      case measure => simp [intOf]; omega
                  · have hxc' : ((x : Int) + 1) < cl := by omega
                    have hxc3 : ¬ cl = x + 1 := fun e => hxc e.symm
                    have HQ2 := Lib.hid (fun W (h : W.ownsRow w4.heap.size 3 1 (.slice (some ⟨gg, 0, none⟩) M cl) M (numsV L)) => show Src Tryz.prog 1 92 (.slice (some ⟨gg, x + 1, none⟩) (M - (x + 1)) (cl - (x + 1))) (M - (x + 1)) (numsV (L.drop (x + 1))) W from by
                      have := src_nums (lo := x + 1) (m := M - (x + 1)) (c := cl - (x + 1)) h HM.out (by omega)
                      rwa [List.take_of_length_le (by rw [List.length_drop, HM.out]; exact Nat.le_refl _)] at this)
                    have HGB := Lib.hid (show gg < w7.heap.size from (HO7.out.lt gg rfl).2)
                    have HNB := Lib.hid (show (Value.slice (some ⟨gg, 0, none⟩) M cl).ownBlock ≠ some w7.heap.size from fun e => by
                      have e' : gg = w7.heap.size := by injection e
                      have := HGB.out
                      omega)
                    go_region_law (first
                      | (refine step_append_nums (o := ⟨some 150, _, _, _, _, _⟩) _ rfl (.tmp 146) (.tmp 149) (by rfl) w7.heap.size _ 0 [] (by rfl) (own_new _ w7.heap.size #[] 3 1 0 (by exact Nat.le_refl _) rfl (by decide)) _ x _ (by rfl) (HQ1.out _ ⟨by simp, own_below HO7.out (by repeat (first | exact Below.refl _ _ | apply Below.drew | refine balloc ?_ _))⟩) HXL.out (by simp) ?_; intro v8 w8 hown8 hg8; have HO8 := Lib.hid hown8; have HG8 := Lib.hid hg8; have HLK8 := Lib.hid (World.ownsRow.kept (own_below HO7.out (by repeat (first | exact Below.refl _ _ | apply Below.drew | refine balloc ?_ _))) hg8.by_ (Or.inr HNB.out)); clear hown8 hg8)
                      | (refine step_append_nums (o := ⟨some 155, _, _, _, _, _⟩) _ rfl (.tmp 150) (.tmp 154) (by rfl) w7.heap.size _ (0 + x) _ (by rfl) HO8.out _ (M - (x + 1)) _ (by rfl) (HQ2.out _ HLK8.out) HXL2.out (by have := HG8.out.size; simp at this; omega) ?_; intro v9 w9 hown9 hg9; have H9 := Lib.hid (HFIN.out v9 w9 (by have := hown9; rwa [List.nil_append] at this) (two_nums HG8.out hg9)); obtain ⟨g9, c9, rfl, -⟩ := own_slice hown9; clear hown9 hg9))
                    all_goals
                      go_wp2_with fail
                      go_roundw
                      case rel =>
                        have hrl := H9.out
                        rw [Nat.zero_add] at hrl
                        exact hrl
                      case measure => simp [intOf]; omega
                · skip
                  go_wp2_with fail
                  refine CRP.out.mono ?_
                  rintro e w7 ⟨rfl, hj7, hc7⟩
                  have HJ7 := Lib.hid hj7
                  have HA7 := Lib.hid (HA.out.rc HJ.out.far hc7)
                  have HO7 := Lib.hid (own_rc HO1.out HJ.out.far hc7)
                  clear hj7 hc7 d0 d1 d2 d3 d4
                  go_wp2_with fail
                  have HQ1 := Lib.hid (fun W (h : w7.heap.size ≤ W.heap.size ∧ W.ownsRow w4.heap.size 3 1 (.slice (some ⟨gg, 0, none⟩) M cl) M (numsV L)) => show Src Tryz.prog 1 92 (.slice (some ⟨gg, 0, none⟩) x cl) x (numsV (L.take x)) W from src_nums (lo := 0) h.2 HM.out (by omega))
                  have HXL := Lib.hid (show 0 + x ≤ 100000 by omega)
                  have HXL2 := Lib.hid (show 0 + x + (M - (x + 1)) ≤ 100000 by omega)
                  have hwx : IntKind.i64.wrap ((x : Int) + 1) = (x : Int) + 1 := IntWalk.i64_in _ (by omega)
                  have hnx : (0 : Int) ≤ (x : Int) + 1 := by omega
                  have htn : ((x : Int) + 1).toNat = x + 1 := by omega
                  have hxc0 : (x : Int) ≤ cl := by omega
                  have hxc2 : ((x : Int) + 1) ≤ M := by omega
                  have HFIN := Lib.hid (fun (v : Value) (w9 : World) (ho : w9.ownsRow w7.heap.size 3 1 v (0 + x + (M - (x + 1))) (numsV (L.take x) ++ numsV (L.drop (x + 1)))) (hb : Below w7.heap.size w7 w9) => show (fun (v : Value) (wr : World) => ∃ (m2 : Nat) (L2 : List Nat) (gone2 on2 : Nat) (q2 : Rk), m2 ≤ T ∧ (Value.int .i64 ((m : Int) + 1)) = .int .i64 m2 ∧ L2.length + m2 = N ∧ BudI cf K N SC a_ L2 gone2 q2 ∧ (Value.int .i64 on) = .int .i64 on2 ∧ on2 + gone2 = N ∧ JW w3 c cf b w4.heap.size N q2 wr ∧ BkB w4.heap.size (blks a_ K) (.slice ga (blks a_ K).length ca) wr ∧ wr.ownsRow w4.heap.size 3 1 v L2.length (numsV L2)) v w9 from
                    ⟨m + 1, L.eraseIdx x, gone, on, _, hlt, by go_num, by have := HLM.out; rw [List.length_eraseIdx, HM.out, if_pos hxM]; omega, HN1.out, rfl, by have := HON.out; omega, HJ7.out.below hb, HA7.out.below hb, by
                      rw [List.length_eraseIdx, HM.out, if_pos hxM, ← nums_erase]
                      have := own_base ho HJ7.out.bB
                      rwa [show 0 + x + (M - (x + 1)) = M - 1 by omega] at this⟩)
                  by_cases hxc : x + 1 = cl
                  · have HXC := Lib.hid hxc
                    have hxc3 : (cl = x + 1) ↔ True := ⟨fun _ => trivial, fun _ => HXC.out.symm⟩
                    clear hxc
                    have HQ2 := Lib.hid (fun W => show Src Tryz.prog 1 92 (.slice (some ⟨gg, 0, none⟩) (M - (x + 1)) (cl - (x + 1))) (M - (x + 1)) (numsV (L.drop (x + 1))) W from by
                      have e : M - (x + 1) = 0 := by have := HXC.out; omega
                      rw [e, List.drop_eq_nil_of_le (by rw [HM.out]; omega)]; exact src_nonum _ _)
                    have HGB := Lib.hid (show gg < w7.heap.size from (HO7.out.lt gg rfl).2)
                    have HNB := Lib.hid (show (Value.slice (some ⟨gg, 0, none⟩) M cl).ownBlock ≠ some w7.heap.size from fun e => by
                      have e' : gg = w7.heap.size := by injection e
                      have := HGB.out
                      omega)
                    go_region_law (first
                      | (refine step_append_nums (o := ⟨some 150, _, _, _, _, _⟩) _ rfl (.tmp 146) (.tmp 149) (by rfl) w7.heap.size _ 0 [] (by rfl) (own_new _ w7.heap.size #[] 3 1 0 (by exact Nat.le_refl _) rfl (by decide)) _ x _ (by rfl) (HQ1.out _ ⟨by simp, own_below HO7.out (by repeat (first | exact Below.refl _ _ | apply Below.drew | refine balloc ?_ _))⟩) HXL.out (by simp) ?_; intro v8 w8 hown8 hg8; have HO8 := Lib.hid hown8; have HG8 := Lib.hid hg8; have HLK8 := Lib.hid (World.ownsRow.kept (own_below HO7.out (by repeat (first | exact Below.refl _ _ | apply Below.drew | refine balloc ?_ _))) hg8.by_ (Or.inr HNB.out)); clear hown8 hg8)
                      | (refine step_append_nums (o := ⟨some 155, _, _, _, _, _⟩) _ rfl (.tmp 150) (.tmp 154) (by rfl) w7.heap.size _ (0 + x) _ (by rfl) HO8.out _ (M - (x + 1)) _ (by rfl) (HQ2.out _) HXL2.out (by have := HG8.out.size; simp at this; omega) ?_; intro v9 w9 hown9 hg9; have H9 := Lib.hid (HFIN.out v9 w9 (by have := hown9; rwa [List.nil_append] at this) (two_nums HG8.out hg9)); obtain ⟨g9, c9, rfl, -⟩ := own_slice hown9; clear hown9 hg9))
                    all_goals
                      go_wp2_with fail
                      go_roundw
                      case rel =>
                        have hrl := H9.out
                        rw [Nat.zero_add] at hrl
                        exact hrl
                      case measure => simp [intOf]; omega
                  · have hxc' : ((x : Int) + 1) < cl := by omega
                    have hxc3 : ¬ cl = x + 1 := fun e => hxc e.symm
                    have HQ2 := Lib.hid (fun W (h : W.ownsRow w4.heap.size 3 1 (.slice (some ⟨gg, 0, none⟩) M cl) M (numsV L)) => show Src Tryz.prog 1 92 (.slice (some ⟨gg, x + 1, none⟩) (M - (x + 1)) (cl - (x + 1))) (M - (x + 1)) (numsV (L.drop (x + 1))) W from by
                      have := src_nums (lo := x + 1) (m := M - (x + 1)) (c := cl - (x + 1)) h HM.out (by omega)
                      rwa [List.take_of_length_le (by rw [List.length_drop, HM.out]; exact Nat.le_refl _)] at this)
                    have HGB := Lib.hid (show gg < w7.heap.size from (HO7.out.lt gg rfl).2)
                    have HNB := Lib.hid (show (Value.slice (some ⟨gg, 0, none⟩) M cl).ownBlock ≠ some w7.heap.size from fun e => by
                      have e' : gg = w7.heap.size := by injection e
                      have := HGB.out
                      omega)
                    go_region_law (first
                      | (refine step_append_nums (o := ⟨some 150, _, _, _, _, _⟩) _ rfl (.tmp 146) (.tmp 149) (by rfl) w7.heap.size _ 0 [] (by rfl) (own_new _ w7.heap.size #[] 3 1 0 (by exact Nat.le_refl _) rfl (by decide)) _ x _ (by rfl) (HQ1.out _ ⟨by simp, own_below HO7.out (by repeat (first | exact Below.refl _ _ | apply Below.drew | refine balloc ?_ _))⟩) HXL.out (by simp) ?_; intro v8 w8 hown8 hg8; have HO8 := Lib.hid hown8; have HG8 := Lib.hid hg8; have HLK8 := Lib.hid (World.ownsRow.kept (own_below HO7.out (by repeat (first | exact Below.refl _ _ | apply Below.drew | refine balloc ?_ _))) hg8.by_ (Or.inr HNB.out)); clear hown8 hg8)
                      | (refine step_append_nums (o := ⟨some 155, _, _, _, _, _⟩) _ rfl (.tmp 150) (.tmp 154) (by rfl) w7.heap.size _ (0 + x) _ (by rfl) HO8.out _ (M - (x + 1)) _ (by rfl) (HQ2.out _ HLK8.out) HXL2.out (by have := HG8.out.size; simp at this; omega) ?_; intro v9 w9 hown9 hg9; have H9 := Lib.hid (HFIN.out v9 w9 (by have := hown9; rwa [List.nil_append] at this) (two_nums HG8.out hg9)); obtain ⟨g9, c9, rfl, -⟩ := own_slice hown9; clear hown9 hg9))
                    all_goals
                      go_wp2_with fail
                      go_roundw
                      case rel =>
                        have hrl := H9.out
                        rw [Nat.zero_add] at hrl
                        exact hrl
                      case measure => simp [intOf]; omega
                · skip
                  have hcw := hcell
                  clear d0 d1 d2 d3 d4 hcell
                  have d0 : ∀ w', (CfB cf b w' ∧ w'.cell? ⟨gg, x, none⟩ = some (.int .i64 (dd : Nat))) → w'.cell? ⟨b, 0, none⟩ = some (.int .i64 cf.id) := fun w' h => h.1.cell 0
                  have d1 : ∀ w', (CfB cf b w' ∧ w'.cell? ⟨gg, x, none⟩ = some (.int .i64 (dd : Nat))) → w'.cell? ⟨b, 1, none⟩ = some (.int .i64 cf.k) := fun w' h => h.1.cell 1
                  have d2 : ∀ w', (CfB cf b w' ∧ w'.cell? ⟨gg, x, none⟩ = some (.int .i64 (dd : Nat))) → w'.cell? ⟨b, 2, none⟩ = some (.int .i64 cf.n) := fun w' h => h.1.cell 2
                  have d3 : ∀ w', (CfB cf b w' ∧ w'.cell? ⟨gg, x, none⟩ = some (.int .i64 (dd : Nat))) → w'.cell? ⟨b, 3, none⟩ = some (.int .i64 cf.t) := fun w' h => h.1.cell 3
                  have d4 : ∀ w', (CfB cf b w' ∧ w'.cell? ⟨gg, x, none⟩ = some (.int .i64 (dd : Nat))) → w'.cell? ⟨b, 4, none⟩ = some (.int .i64 cf.s) := fun w' h => h.1.cell 4
                  have hcell : ∀ w', (CfB cf b w' ∧ w'.cell? ⟨gg, x, none⟩ = some (.int .i64 (dd : Nat))) → w'.cell? ⟨gg, x, none⟩ = some (.int .i64 (dd : Nat)) := fun w' h => h.2
                  go_wp2_with fail
                  refine wp_region_noPanic ?_
                  refine wp_region_held_drew (S := (fun w' => CfB cf b w' ∧ w'.cell? ⟨gg, x, none⟩ = some (.int .i64 (dd : Nat)))) (by kernel_rfl) (show CfB cf b wr.drew ∧ wr.drew.cell? ⟨gg, x, none⟩ = some (.int .i64 (dd : Nat)) from ⟨HJ.out.cfg, hcw⟩) (fun hHeld => ?_)
                  refine wpAnyH_take (i := 0) (oi := ⟨some 135, _, _, _, _, _⟩) (v := ?_) rfl (by kernel_rfl) (by kernel_rfl) (by kernel_rfl) (fun _ _ _ h => h) (Or.inl ⟨by rfl, ?_⟩) hHeld ?_
                  rotate_left
                  · intro w hSw; (go_simp; try with_reducible rfl)
                  simp only [Act.put, List.setIfInBounds_toArray, List.set_cons_zero, List.set_cons_succ]
                  refine wpAnyH_take (i := 1) (oi := ⟨some 136, _, _, _, _, _⟩) (v := ?_) rfl (by kernel_rfl) (by kernel_rfl) (by kernel_rfl) (fun _ _ _ h => h) (Or.inl ⟨by rfl, ?_⟩) hHeld ?_
                  rotate_left
                  · intro w hSw; (go_simp; try with_reducible rfl)
                  simp only [Act.put, List.setIfInBounds_toArray, List.set_cons_zero, List.set_cons_succ]
                  refine wpAnyH_take (i := 2) (oi := ⟨some 137, _, _, _, _, _⟩) (v := ?_) rfl (by kernel_rfl) (by kernel_rfl) (by kernel_rfl) (fun _ _ _ h => h) (Or.inl ⟨by rfl, ?_⟩) hHeld ?_
                  rotate_left
                  · intro w hSw; (go_simp; try with_reducible rfl)
                  simp only [Act.put, List.setIfInBounds_toArray, List.set_cons_zero, List.set_cons_succ]
                  refine wpAnyH_take (i := 3) (oi := ⟨some 138, _, _, _, _, _⟩) (v := ?_) rfl (by kernel_rfl) (by kernel_rfl) (by kernel_rfl) (fun _ _ _ h => h) (Or.inl ⟨by rfl, ?_⟩) hHeld ?_
                  rotate_left
                  · intro w hSw; (go_simp; try with_reducible rfl)
                  simp only [Act.put, List.setIfInBounds_toArray, List.set_cons_zero, List.set_cons_succ]
                  refine wpAnyH_take (i := 4) (oi := ⟨some 139, _, _, _, _, _⟩) (v := ?_) rfl (by kernel_rfl) (by kernel_rfl) (by kernel_rfl) (fun _ _ _ h => h) (Or.inl ⟨by rfl, ?_⟩) hHeld ?_
                  rotate_left
                  · intro w hSw; (go_simp; try with_reducible rfl)
                  simp only [Act.put, List.setIfInBounds_toArray, List.set_cons_zero, List.set_cons_succ]
                  refine wpAnyH_take (i := 5) (oi := ⟨some 140, _, _, _, _, _⟩) (v := ?_) rfl (by kernel_rfl) (by kernel_rfl) (by kernel_rfl) (fun _ _ _ h => h) (Or.inl ⟨by rfl, ?_⟩) hHeld ?_
                  rotate_left
                  · intro w hSw; (go_simp; try with_reducible rfl)
                  simp only [Act.put, List.setIfInBounds_toArray, List.set_cons_zero, List.set_cons_succ]
                  refine wpAnyH_take (i := 6) (oi := ⟨some 141, _, _, _, _, _⟩) (v := ?_) rfl (by kernel_rfl) (by kernel_rfl) (by kernel_rfl) (fun _ _ _ h => h) (Or.inl ⟨by rfl, ?_⟩) hHeld ?_
                  rotate_left
                  · intro w hSw; (go_simp; try with_reducible rfl)
                  simp only [Act.put, List.setIfInBounds_toArray, List.set_cons_zero, List.set_cons_succ]
                  refine wpAnyH_take (i := 7) (oi := ⟨some 142, _, _, _, _, _⟩) (v := ?_) rfl (by kernel_rfl) (by kernel_rfl) (by kernel_rfl) (fun _ _ _ h => h) (Or.inl ⟨by rfl, ?_⟩) hHeld ?_
                  rotate_left
                  · intro w hSw; (go_simp; try with_reducible rfl)
                  simp only [Act.put, List.setIfInBounds_toArray, List.set_cons_zero, List.set_cons_succ]
                  refine wpAnyH_take (i := 8) (oi := ⟨some 143, _, _, _, _, _⟩) (v := ?_) rfl (by kernel_rfl) (by kernel_rfl) (by kernel_rfl) (fun _ _ _ h => h) (Or.inl ⟨by rfl, ?_⟩) hHeld ?_
                  rotate_left
                  · intro w hSw; (go_simp; try with_reducible rfl)
                  simp only [Act.put, List.setIfInBounds_toArray, List.set_cons_zero, List.set_cons_succ]
                  refine wpAnyH_take (i := 9) (oi := ⟨some 144, _, _, _, _, _⟩) (v := ?_) rfl (by kernel_rfl) (by kernel_rfl) (by kernel_rfl) (fun _ _ _ h => h) (Or.inl ⟨by rfl, ?_⟩) hHeld ?_
                  rotate_left
                  · intro w hSw; (go_simp; try with_reducible rfl)
                  simp only [Act.put, List.setIfInBounds_toArray, List.set_cons_zero, List.set_cons_succ]
                  refine wpAnyH_ready (rs := [10]) (by kernel_rfl) (by simp) (AllReadyH.cons rfl (fun K hK => ?_) AllReadyH.nil)
                  go_simp
                  refine CRT.out.mono ?_
                  rintro e w7 ⟨rfl, hj7, hc7⟩
                  have HJ7 := Lib.hid hj7
                  have HA7 := Lib.hid ((HA.out.below (Below.drew (Below.refl _ _))).rc HJ.out.drew.far hc7)
                  have HO7 := Lib.hid (own_rc (own_below HO1.out (Below.drew (Below.refl _ _))) HJ.out.drew.far hc7)
                  have h7 : CfB cf b w7 ∧ w7.cell? ⟨gg, x, none⟩ = some (.int .i64 (dd : Nat)) := ⟨hj7.cfg, by have := own_cell HO7.out (numsV_at (l := L) (i := x) HXN.out); rwa [HD.out] at this⟩
                  clear hj7 hc7
                  refine hK.out _ _ h7 (fun _ => ?_)
                  clear hK K
                  refine wpAnyH_done (by kernel_rfl) ?_ _
                  refine NoPanic.normal ?_
                  clear d0 d1 d2 d3 d4 hcell hcw hHeld h7
                  go_wp2_with fail
                  have HQ1 := Lib.hid (fun W (h : w7.heap.size ≤ W.heap.size ∧ W.ownsRow w4.heap.size 3 1 (.slice (some ⟨gg, 0, none⟩) M cl) M (numsV L)) => show Src Tryz.prog 1 92 (.slice (some ⟨gg, 0, none⟩) x cl) x (numsV (L.take x)) W from src_nums (lo := 0) h.2 HM.out (by omega))
                  have HXL := Lib.hid (show 0 + x ≤ 100000 by omega)
                  have HXL2 := Lib.hid (show 0 + x + (M - (x + 1)) ≤ 100000 by omega)
                  have hwx : IntKind.i64.wrap ((x : Int) + 1) = (x : Int) + 1 := IntWalk.i64_in _ (by omega)
                  have hnx : (0 : Int) ≤ (x : Int) + 1 := by omega
                  have htn : ((x : Int) + 1).toNat = x + 1 := by omega
                  have hxc0 : (x : Int) ≤ cl := by omega
                  have hxc2 : ((x : Int) + 1) ≤ M := by omega
                  have HFIN := Lib.hid (fun (v : Value) (w9 : World) (ho : w9.ownsRow w7.heap.size 3 1 v (0 + x + (M - (x + 1))) (numsV (L.take x) ++ numsV (L.drop (x + 1)))) (hb : Below w7.heap.size w7 w9) => show (fun (v : Value) (wr : World) => ∃ (m2 : Nat) (L2 : List Nat) (gone2 on2 : Nat) (q2 : Rk), m2 ≤ T ∧ (Value.int .i64 ((m : Int) + 1)) = .int .i64 m2 ∧ L2.length + m2 = N ∧ BudI cf K N SC a_ L2 gone2 q2 ∧ (Value.int .i64 on) = .int .i64 on2 ∧ on2 + gone2 = N ∧ JW w3 c cf b w4.heap.size N q2 wr ∧ BkB w4.heap.size (blks a_ K) (.slice ga (blks a_ K).length ca) wr ∧ wr.ownsRow w4.heap.size 3 1 v L2.length (numsV L2)) v w9 from
                    ⟨m + 1, L.eraseIdx x, gone, on, _, hlt, by go_num, by have := HLM.out; rw [List.length_eraseIdx, HM.out, if_pos hxM]; omega, HN2.out, rfl, by have := HON.out; omega, HJ7.out.below hb, HA7.out.below hb, by
                      rw [List.length_eraseIdx, HM.out, if_pos hxM, ← nums_erase]
                      have := own_base ho HJ7.out.bB
                      rwa [show 0 + x + (M - (x + 1)) = M - 1 by omega] at this⟩)
                  by_cases hxc : x + 1 = cl
                  · have HXC := Lib.hid hxc
                    have hxc3 : (cl = x + 1) ↔ True := ⟨fun _ => trivial, fun _ => HXC.out.symm⟩
                    clear hxc
                    have HQ2 := Lib.hid (fun W => show Src Tryz.prog 1 92 (.slice (some ⟨gg, 0, none⟩) (M - (x + 1)) (cl - (x + 1))) (M - (x + 1)) (numsV (L.drop (x + 1))) W from by
                      have e : M - (x + 1) = 0 := by have := HXC.out; omega
                      rw [e, List.drop_eq_nil_of_le (by rw [HM.out]; omega)]; exact src_nonum _ _)
                    have HGB := Lib.hid (show gg < w7.heap.size from (HO7.out.lt gg rfl).2)
                    have HNB := Lib.hid (show (Value.slice (some ⟨gg, 0, none⟩) M cl).ownBlock ≠ some w7.heap.size from fun e => by
                      have e' : gg = w7.heap.size := by injection e
                      have := HGB.out
                      omega)
                    go_region_law (first
                      | (refine step_append_nums (o := ⟨some 150, _, _, _, _, _⟩) _ rfl (.tmp 146) (.tmp 149) (by rfl) w7.heap.size _ 0 [] (by rfl) (own_new _ w7.heap.size #[] 3 1 0 (by exact Nat.le_refl _) rfl (by decide)) _ x _ (by rfl) (HQ1.out _ ⟨by simp, own_below HO7.out (by repeat (first | exact Below.refl _ _ | apply Below.drew | refine balloc ?_ _))⟩) HXL.out (by simp) ?_; intro v8 w8 hown8 hg8; have HO8 := Lib.hid hown8; have HG8 := Lib.hid hg8; have HLK8 := Lib.hid (World.ownsRow.kept (own_below HO7.out (by repeat (first | exact Below.refl _ _ | apply Below.drew | refine balloc ?_ _))) hg8.by_ (Or.inr HNB.out)); clear hown8 hg8)
                      | (refine step_append_nums (o := ⟨some 155, _, _, _, _, _⟩) _ rfl (.tmp 150) (.tmp 154) (by rfl) w7.heap.size _ (0 + x) _ (by rfl) HO8.out _ (M - (x + 1)) _ (by rfl) (HQ2.out _) HXL2.out (by have := HG8.out.size; simp at this; omega) ?_; intro v9 w9 hown9 hg9; have H9 := Lib.hid (HFIN.out v9 w9 (by have := hown9; rwa [List.nil_append] at this) (two_nums HG8.out hg9)); obtain ⟨g9, c9, rfl, -⟩ := own_slice hown9; clear hown9 hg9))
                    all_goals
                      go_wp2_with fail
                      go_roundw
                      case rel =>
                        have hrl := H9.out
                        rw [Nat.zero_add] at hrl
                        exact hrl
                      case measure => simp [intOf]; omega
                  · have hxc' : ((x : Int) + 1) < cl := by omega
                    have hxc3 : ¬ cl = x + 1 := fun e => hxc e.symm
                    have HQ2 := Lib.hid (fun W (h : W.ownsRow w4.heap.size 3 1 (.slice (some ⟨gg, 0, none⟩) M cl) M (numsV L)) => show Src Tryz.prog 1 92 (.slice (some ⟨gg, x + 1, none⟩) (M - (x + 1)) (cl - (x + 1))) (M - (x + 1)) (numsV (L.drop (x + 1))) W from by
                      have := src_nums (lo := x + 1) (m := M - (x + 1)) (c := cl - (x + 1)) h HM.out (by omega)
                      rwa [List.take_of_length_le (by rw [List.length_drop, HM.out]; exact Nat.le_refl _)] at this)
                    have HGB := Lib.hid (show gg < w7.heap.size from (HO7.out.lt gg rfl).2)
                    have HNB := Lib.hid (show (Value.slice (some ⟨gg, 0, none⟩) M cl).ownBlock ≠ some w7.heap.size from fun e => by
                      have e' : gg = w7.heap.size := by injection e
                      have := HGB.out
                      omega)
                    go_region_law (first
                      | (refine step_append_nums (o := ⟨some 150, _, _, _, _, _⟩) _ rfl (.tmp 146) (.tmp 149) (by rfl) w7.heap.size _ 0 [] (by rfl) (own_new _ w7.heap.size #[] 3 1 0 (by exact Nat.le_refl _) rfl (by decide)) _ x _ (by rfl) (HQ1.out _ ⟨by simp, own_below HO7.out (by repeat (first | exact Below.refl _ _ | apply Below.drew | refine balloc ?_ _))⟩) HXL.out (by simp) ?_; intro v8 w8 hown8 hg8; have HO8 := Lib.hid hown8; have HG8 := Lib.hid hg8; have HLK8 := Lib.hid (World.ownsRow.kept (own_below HO7.out (by repeat (first | exact Below.refl _ _ | apply Below.drew | refine balloc ?_ _))) hg8.by_ (Or.inr HNB.out)); clear hown8 hg8)
                      | (refine step_append_nums (o := ⟨some 155, _, _, _, _, _⟩) _ rfl (.tmp 150) (.tmp 154) (by rfl) w7.heap.size _ (0 + x) _ (by rfl) HO8.out _ (M - (x + 1)) _ (by rfl) (HQ2.out _ HLK8.out) HXL2.out (by have := HG8.out.size; simp at this; omega) ?_; intro v9 w9 hown9 hg9; have H9 := Lib.hid (HFIN.out v9 w9 (by have := hown9; rwa [List.nil_append] at this) (two_nums HG8.out hg9)); obtain ⟨g9, c9, rfl, -⟩ := own_slice hown9; clear hown9 hg9))
                    all_goals
                      go_wp2_with fail
                      go_roundw
                      case rel =>
                        have hrl := H9.out
                        rw [Nat.zero_add] at hrl
                        exact hrl
                      case measure => simp [intOf]; omega
          · obtain rfl : T = m := by omega
            obtain ⟨gl, cl, rfl, -⟩ := own_slice hO
            clear hO hlt hm
            have HTLD := Lib.hid (HI.out.told HL.out)
            have HKC := Lib.hid (show cf.k = K from HCN.out.2)
            cases more with
            | false =>
              have hLK : L.length = K := by have := HLM.out; have := HTT.out; simp at this; omega
              have CGT := Lib.hid (show Calls Tryz.prog 33 #[.pointer (some ⟨c.r, 0, none⟩), .agg #[.int .i64 cf.id, .int .i64 cf.k, .int .i64 cf.n, .int .i64 cf.t, .int .i64 cf.s], .int .i64 1] wr (GotB 4 (blks a_ K) wr) from HJ.out.tget_yes (HTLD.out.1 hLK))
              clear hLK
              go_wp2_with fail
              refine CGT.out.mono ?_
              rintro e w13 ⟨vz, rfl, hz13, hb13⟩
              have HJ13 := Lib.hid (HJ.out.below hb13)
              have HV13 := Lib.hid (HA.out.below hb13)
              have HZ13 := Lib.hid (show BkB w4.heap.size (blks a_ K) vz w13 from ⟨HA.out.is, own_base hz13 HJ.out.bB⟩)
              obtain ⟨gz, cz, rfl, -⟩ := own_slice' hz13
              clear hz13 hb13 d0 d1 d2 d3 d4
              have CSM := Lib.hid (fun (w' : World) (hb : Below w13.heap.size w13 w') => show Calls Tryz.prog 35 #[.slice gz (blks a_ K).length cz, .slice ga (blks a_ K).length ca] w' (Bit true w') from by
                have := same_blocks (.slice gz (blks a_ K).length cz) (.slice ga (blks a_ K).length ca) (blks a_ K) (blks a_ K) w' (HZ13.out.below hb).slk (HV13.out.below hb).slk HBL.out
                rwa [decide_eq_true rfl] at this)
              generalize (blks a_ K).length = lz at *
              go_wp2_with (first
                | (go_at_call 35; refine (CSM.out _ (Below.refl _ _)).mono ?_; rintro e w14 ⟨rfl, hb14⟩; have HB14 := Lib.hid (bthen (HBW.out _ _ HJ13.out) hb14); clear hb14)
                | (go_at_call 40; refine (HRN.out _).mono ?_; rintro e w15 ⟨rfl, hb15⟩; have HB15 := Lib.hid (bthen HB14.out hb15); clear hb15))
              go_ret
              exact bit rfl HB15.out
            | true =>
              have hLK : L.length + 1 = K := by have := HLM.out; have := HTT.out; simp at this; omega
              obtain ⟨t1, t2⟩ := HTLD.out.2 hLK
              clear hLK
              by_cases hg : N < gone + K
              · obtain ⟨u1, u2⟩ := t1 hg
                have CGT := Lib.hid (show Calls Tryz.prog 33 #[.pointer (some ⟨c.r, 0, none⟩), .agg #[.int .i64 cf.id, .int .i64 cf.k, .int .i64 cf.n, .int .i64 cf.t, .int .i64 cf.s], .int .i64 1] wr (GotV (wrapV opTGet 1 (errV 7)) wr) from by
                  have := HJ.out.tget_no (s := 1) (by rw [u1]; decide)
                  rwa [u2] at this)
                have CKD := Lib.hid (fun W (hT : Typ W) => show Calls Tryz.prog 11 #[wrapV opTGet 1 (errV 7)] W (Num 7 W) from by
                  have := kind_tget q cf 1 W hT
                  rwa [u1, u2] at this)
                unfold GotV wrapV errV at CGT
                unfold wrapV errV at CKD
                unfold opTGet at CGT CKD
                have hok : (on : Int) < cf.k := by have := HKC.out; have := HON.out; omega
                clear t1 t2 u1 u2 hg
                go_wp2_with fail
                refine CGT.out.mono ?_
                rintro e w13 ⟨rfl, hb13⟩
                have HJ13 := Lib.hid (HJ.out.below hb13)
                clear hb13 d0 d1 d2 d3 d4
                obtain ⟨d0, d1, d2, d3, d4⟩ := CfB.cells HJ13.out.cfg
                go_wp2_with (first
                  | (go_at_call 11; refine (CKD.out _ (HTY.out _ _ HJ13.out)).mono ?_; rintro e w14 ⟨rfl, hb14⟩; have HB14 := Lib.hid (bthen (HBW.out _ _ HJ13.out) hb14); clear hb14 d0 d1 d2 d3 d4)
                  | (go_at_call 40; refine (HRN.out _).mono ?_; rintro e w15 ⟨rfl, hb15⟩; have HB15 := Lib.hid (bthen HB14.out hb15); clear hb15))
                go_ret
                exact bit rfl HB15.out
              · obtain ⟨u1, u2⟩ := t2 hg
                have CGT := Lib.hid (show Calls Tryz.prog 33 #[.pointer (some ⟨c.r, 0, none⟩), .agg #[.int .i64 cf.id, .int .i64 cf.k, .int .i64 cf.n, .int .i64 cf.t, .int .i64 cf.s], .int .i64 1] wr (GotV (wrapV opTGet 1 (lossV 1 (cf.k - 1) cf.k)) wr) from by
                  have := HJ.out.tget_no (s := 1) (by rw [u1]; decide)
                  rwa [u2] at this)
                unfold GotV wrapV lossV at CGT
                have hok : ¬ (on : Int) < cf.k := by have := HKC.out; have := HON.out; omega
                have hwk : IntKind.i64.wrap (cf.k - 1) = cf.k - 1 := IntWalk.i64_in _ (by have := HKC.out; have := HKK.out; omega)
                clear t1 t2 u1 u2 hg
                go_wp2_with fail
                refine CGT.out.mono ?_
                rintro e w13 ⟨rfl, hb13⟩
                have HJ13 := Lib.hid (HJ.out.below hb13)
                clear hb13 d0 d1 d2 d3 d4
                obtain ⟨d0, d1, d2, d3, d4⟩ := CfB.cells HJ13.out.cfg
                have CLO := Lib.hid (lost_loss [(opTGet, 1)] 1 (cf.k - 1) cf.k w13 _ rfl (HTY.out _ _ HJ13.out))
                unfold chain chain wrapV lossV at CLO
                unfold opTGet at CLO
                unfold opTGet
                go_wp2_with fail
                refine CLO.out.mono ?_
                rintro e w14 ⟨rfl, hb14⟩
                have HJ14 := Lib.hid (HJ13.out.below (balloc hb14 (.cells #[.int .i64 1, .int .i64 (cf.k - 1), .int .i64 cf.k] 88)))
                clear hb14 d0 d1 d2 d3 d4
                obtain ⟨d0, d1, d2, d3, d4⟩ := CfB.cells HJ14.out.cfg
                have hql := fun w => eql_loss 1 (cf.k - 1) cf.k w
                have hgd := guard_loss
                go_wp2_with (go_at_call 40; refine (HRN.out _).mono ?_; rintro e w15 ⟨rfl, hb15⟩; have HB15 := Lib.hid (bthen (HBW.out _ _ HJ14.out) hb15); clear hb15)
                go_ret
                exact bit rfl HB15.out
end Go.Proofs.YtidnmkghmaeniaaGreatDoor
namespace Go.Proofs.YtidnmkghmaeniaaGreatDoor.stripeBudget
open Go.ChangeShapes Go.WideShapes Go.ChangeAt Go.RowKit

set_option maxRecDepth 100000 in
theorem contract (H : Type) (enc : TypeId × Value → H) (W : World) (base : Nat) (args : Array Value) (ds gs : List (DataW H)) (before : List MemPlace)
    (hval : ∀ (j : Nat) t v, Tryz.f6.params[j]? = some t → args[j]? = some v → Value.okWide Tryz.prog W .any base t v)
    (hW : DataW.Whole enc Tryz.prog Tryz.f6.params.toList Rows.stripeBudgetSpec.vars false W args.toList ds gs before) (hL : laidMetH Tryz.prog Rows.stripeBudgetRow.laid W) :
    Calls Tryz.prog 6 args W fun e W' => ∃ v, e = .returned v ∧ Rows.stripeBudgetSpec.post enc Tryz.prog Tryz.f6 false true false false W args v W' := by
  have hW' := hW
  obtain ⟨p, q, hA0, hV, rfl, hfz, hnd⟩ := hW
  have hA : DataW.TrodAll enc Tryz.prog W 0 (fun _ => true) true Tryz.f6.params.toList args.toList ds p := hA0
  rw [Tryz.params6] at hA hval
  obtain ⟨v0, vs0, d0, ds0, p0, q0, hargs, rfl, rfl, h0, r0⟩ := trodAll_cons hA
  obtain ⟨v1, vs1, d1, ds1, p1, q1, rfl, rfl, rfl, h1, r1⟩ := trodAll_cons r0
  obtain ⟨v2, vs2, d2, ds2, p2, q2, rfl, rfl, rfl, h2, r2⟩ := trodAll_cons r1
  obtain ⟨v3, vs3, d3, ds3, p3, q3, rfl, rfl, rfl, h3, r3⟩ := trodAll_cons r2
  obtain ⟨v4, vs4, d4, ds4, p4, q4, rfl, rfl, rfl, h4, r4⟩ := trodAll_cons r3
  obtain ⟨v5, vs5, d5, ds5, p5, q5, rfl, rfl, rfl, h5, r5⟩ := trodAll_cons r4
  obtain ⟨rfl, rfl, rfl⟩ := trodAll_nil r5
  obtain rfl : args = #[v0, v1, v2, v3, v4, v5] := Array.ext' hargs
  obtain ⟨k_, rfl, rfl, rfl, _⟩ := open_int Tryz.underlying3 (hval 0 3 v0 (by simp) (by simp)) h0
  obtain ⟨n_, rfl, rfl, rfl, _⟩ := open_int Tryz.underlying3 (hval 1 3 v1 (by simp) (by simp)) h1
  obtain ⟨a_, rfl, rfl, rfl, _⟩ := open_int Tryz.underlying3 (hval 2 3 v2 (by simp) (by simp)) h2
  have hv3 := (hval 3 92 v3 (by simp) (by simp))
  have hv4 := (hval 4 92 v4 (by simp) (by simp))
  obtain ⟨l, hsl, hll⟩ := open_nums hv3 h3
  obtain ⟨m, hsm, hlm⟩ := open_nums hv4 h4
  obtain ⟨more, rfl, rfl, rfl⟩ := Go.RowKit.open_bool Tryz.underlying4 (hval 5 4 v5 (by simp) (by simp)) h5
  obtain ⟨rfl, rfl⟩ := trodVars_none hV
  clear hA0
  have hw : Calls Tryz.prog 6 #[.int .i64 k_, .int .i64 n_, .int .i64 a_, v3, v4, .bool more] W (Bit true W) := budget_any W k_ n_ a_ v3 v4 l m hsl hsm more (handle_of_laid hL)
  refine hw.mono fun e W' ⟨he, hg⟩ => ?_
  subst he
  exact ⟨_, rfl, law_post Tryz.laidOut (by kernel_rfl) (by kernel_rfl) (by kernel_rfl) Tryz.underlying4 hW' hg rfl rfl rfl⟩

theorem reads (os : Os) {H : Type} (enc : TypeId × Value → H) : ∃ places, DataW.whole enc Tryz.prog ((laidWorld os).forCall (fun _ _ => 0) ⟨#[], #[.int .i64 0, .int .i64 0, .int .i64 0, .slice none 0 0, .slice none 0 0, .bool false], []⟩).memory Tryz.f6.params.toList Rows.stripeBudgetSpec.vars false (#[.int .i64 0, .int .i64 0, .int .i64 0, .slice none 0 0, .slice none 0 0, .bool false] : Array Value).toList 8 = some ([.lit (.int .i64 0), .lit (.int .i64 0), .lit (.int .i64 0), .nil, .nil, .lit (.bool false)], [], places) :=
  ⟨[], by kernel_rfl⟩

set_option maxRecDepth 100000 in
theorem lifted (os : Os) (started : os.Started) (H : Type) (enc : TypeId × Value → H) (F : Stop.Interp) :
    ReturnsInHanded {} Tryz.checked os 6 .any ((OpenSpec.ofChange Rows.stripeBudgetSpec).preRow enc Tryz.prog Tryz.f6 Rows.stripeBudgetRow.domain false Rows.stripeBudgetRow.laid) (((OpenSpec.ofChange Rows.stripeBudgetSpec).at F).post enc Tryz.prog Tryz.f6 false true false false) := by
  obtain ⟨places, hx⟩ := reads os enc
  refine returnsInHanded_of_row (C := Tryz.checked) (s := OpenSpec.ofChange Rows.stripeBudgetSpec) Tryz.own started (by kernel_rfl) Tryz.func6
    (witness_row_at (enc := enc) (C := Tryz.checked) false (laidWorld os) #[.int .i64 0, .int .i64 0, .int .i64 0, .slice none 0 0, .slice none 0 0, .bool false] rfl (by kernel_rfl) (by kernel_rfl) (by kernel_rfl)
      (OpenSpec.preRow_of_cond 8 hx (by kernel_rfl) (fun k hk => by cases hk) (by kernel_rfl) (laidWorld_met os _))) ?_
  intro W base args ds gs before hval hW _ _ _ hL _ _
  exact contract H enc W base args ds gs before hval hW hL

theorem said : Rows.StripeBudgetSaid :=
  OpenClaim.holds_of_cond 6 Tryz.f6 rfl rfl rfl rfl rfl rfl rfl ⟨rfl, rfl, rfl, rfl, rfl⟩ rfl rfl rfl rfl rfl (by kernel_rfl) Tryz.func6 (by kernel_rfl)
    (of_decide_eq_true (by kernel_rfl)) (by unfold Func.isWrapper; first | (rw [if_pos (by decide +kernel)]; kernel_rfl) | (rw [if_neg (by decide +kernel)]; exact ⟨rfl, rfl⟩))
    (fun os started H enc _ F => by rw [OpenClaim.pre_eq_preRow]; exact lifted os started H enc F)

theorem plain (f : FuncId) (fn : Func) (hf : Tryz.pinned.checked.prog.funcNamed "stave/stavelaw11.StripeBudget" = some f) (hfn : Tryz.pinned.checked.prog.funcs[f]? = some fn) :
    true = Tryz.pinned.checked.prog.looks [] ∧ ∀ (j : Nat) t, fn.params[j]? = some t → Tryz.pinned.checked.prog.wantsStandIn t = false := by
  obtain rfl : f = 6 := Option.some.inj ((show Tryz.prog.funcNamed "stave/stavelaw11.StripeBudget" = some 6 by kernel_rfl).symm.trans hf) |>.symm
  obtain rfl : fn = Tryz.f6 := (Option.some.inj (Tryz.func6.symm.trans hfn)).symm
  have hall : (Tryz.f6.params.toList.all fun t => !Tryz.prog.wantsStandIn t) = true := by kernel_rfl
  refine ⟨by kernel_rfl, fun j t ht => ?_⟩
  have := List.all_eq_true.1 hall t (by simpa using Array.mem_of_getElem? ht)
  have h2 : Tryz.prog.wantsStandIn t = false := by simpa using this
  exact h2

end Go.Proofs.YtidnmkghmaeniaaGreatDoor.stripeBudget
namespace Go.Proofs.YtidnmkghmaeniaaGreatDoor
theorem StripeBudget_card : Rows.StripeBudgetCardSaid :=
  Claim7.holds_tied_plain_at .later [] _ _ _ _ stripeBudget.said (fun _ h => by cases h) (by kernel_rfl) (fun _ h => by cases h) stripeBudget_row_tie rfl ⟨rfl, rfl⟩ (by kernel_rfl) rfl stripeBudget.plain (by kernel_rfl)
#print axioms StripeBudget_card
end Go.Proofs.YtidnmkghmaeniaaGreatDoor
