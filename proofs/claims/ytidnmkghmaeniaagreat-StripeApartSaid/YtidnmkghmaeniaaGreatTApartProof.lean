/-
  The law stavelaw11.StripeApart (a Put of one stripe changes its own sector on each disk and no other; the other stripes are read as they were) returns true for all numbers, and leaves all memory that was there as it was.
  Conditions: none but the row's own. The statement speaks of the pruned copy of the project that the seat names.
-/
import Derived.Test.YtidnmkghmaeniaaGreatPlain
import Derived.Test.YtidnmkghmaeniaaGreatTApP
import Derived.Deep.RegionHeld3
import Derived.IntWalk
namespace Go.Proofs.YtidnmkghmaeniaaGreat
open Go.RowKit Go.Deep Dk Qk Go.Maps Hf
set_option maxHeartbeats 16000000 in
set_option maxRecDepth 100000 in
theorem apart_any (w : World) (k_ n_ s_ a_ : Int) : Calls Tryz.prog 4 #[.int .i64 k_, .int .i64 n_, .int .i64 s_, .int .i64 a_] w (Bit true w) := by
  go_enter Tryz.func4, Tryz.ntmps4
  go_wp2_with fail
  refine (fixed_any k_ n_ 4 2 _ (by omega) (by omega)).mono ?_
  rintro e w1 ⟨cf, hcf, rfl, hb1⟩
  obtain ⟨N, K, SC, hL⟩ := cfL_of hcf
  have HL := Lib.hid hL
  have CS := Lib.hid (fun w => ksectors_any cf w hL.ok.right)
  have CN := Lib.hid (fun w => hL.new w)
  have H2 := Lib.hid (show JfS cf w1.heap.size w (w1.alloc (.cells (cfA cf) 23)) from ⟨cfB_new w1 cf, by simp, balloc hb1 _⟩)
  have HNR := Lib.hid hL.r
  clear hb1 hcf hL
  go_wp2_with fail
  have h2 := H2.out
  generalize w1.alloc (.cells (cfA cf) 23) = w2 at *
  generalize w1.heap.size = b at *
  have d0 : ∀ w', JfS cf b w w' → w'.cell? ⟨b, 0, none⟩ = some (.int .i64 cf.id) := fun w' h => h.1.cell 0
  have d1 : ∀ w', JfS cf b w w' → w'.cell? ⟨b, 1, none⟩ = some (.int .i64 cf.k) := fun w' h => h.1.cell 1
  have d2 : ∀ w', JfS cf b w w' → w'.cell? ⟨b, 2, none⟩ = some (.int .i64 cf.n) := fun w' h => h.1.cell 2
  have d3 : ∀ w', JfS cf b w w' → w'.cell? ⟨b, 3, none⟩ = some (.int .i64 cf.t) := fun w' h => h.1.cell 3
  have d4 : ∀ w', JfS cf b w w' → w'.cell? ⟨b, 4, none⟩ = some (.int .i64 cf.s) := fun w' h => h.1.cell 4
  refine wp_region_noPanic ?_
  refine wp_region_held_drew (S := (fun w' => JfS cf b w w')) (by kernel_rfl) h2.drew (fun hHeld => ?_)
  refine wpAnyH_take (i := 0) (oi := ⟨some 32, _, _, _, _, _⟩) (v := ?_) rfl (by kernel_rfl) (by kernel_rfl) (by kernel_rfl) (fun _ _ _ h => h) (Or.inl ⟨by rfl, ?_⟩) hHeld ?_
  rotate_left
  · intro w hSw; (go_simp; try with_reducible rfl)
  simp only [Act.put, List.setIfInBounds_toArray, List.set_cons_zero, List.set_cons_succ]
  refine wpAnyH_take (i := 1) (oi := ⟨some 33, _, _, _, _, _⟩) (v := ?_) rfl (by kernel_rfl) (by kernel_rfl) (by kernel_rfl) (fun _ _ _ h => h) (Or.inl ⟨by rfl, ?_⟩) hHeld ?_
  rotate_left
  · intro w hSw; (go_simp; try with_reducible rfl)
  simp only [Act.put, List.setIfInBounds_toArray, List.set_cons_zero, List.set_cons_succ]
  refine wpAnyH_take (i := 2) (oi := ⟨some 34, _, _, _, _, _⟩) (v := ?_) rfl (by kernel_rfl) (by kernel_rfl) (by kernel_rfl) (fun _ _ _ h => h) (Or.inl ⟨by rfl, ?_⟩) hHeld ?_
  rotate_left
  · intro w hSw; (go_simp; try with_reducible rfl)
  simp only [Act.put, List.setIfInBounds_toArray, List.set_cons_zero, List.set_cons_succ]
  refine wpAnyH_ready (rs := [3]) (by kernel_rfl) (by simp) (AllReadyH.cons rfl (fun K hK => ?_) AllReadyH.nil)
  go_simp
  refine (CS.out _).mono ?_
  rintro e w3 ⟨rfl, hb3⟩
  have h3 := JfS.then hHeld hb3
  clear hb3
  refine hK.out _ _ h3 (fun _ => ?_)
  clear hK K
  refine wpAnyH_ready (rs := [4]) (by kernel_rfl) (by simp) (AllReadyH.cons rfl (fun K hK => ?_) AllReadyH.nil)
  go_simp
  refine (CN.out _).mono ?_
  rintro e w4 ⟨c, rfl, h4⟩
  have H4 := Lib.hid h4
  have h5 := JfS.made h3 h4
  clear h4
  refine hK.out _ _ h5 (fun _ => ?_)
  clear hK K
  refine wpAnyH_take (i := 5) (oi := ⟨some 31, _, _, _, _, _⟩) (v := ?_) rfl (by kernel_rfl) (by kernel_rfl) (by kernel_rfl) (fun _ _ _ h => h) (Or.inl ⟨by rfl, ?_⟩) h5 ?_
  rotate_left
  · intro w hSw; (go_simp; try with_reducible rfl)
  simp only [Act.put, List.setIfInBounds_toArray, List.set_cons_zero, List.set_cons_succ]
  refine wpAnyH_take (i := 6) (oi := ⟨some 37, _, _, _, _, _⟩) (v := ?_) rfl (by kernel_rfl) (by kernel_rfl) (by kernel_rfl) (fun _ _ _ h => h) (Or.inl ⟨by rfl, ?_⟩) h5 ?_
  rotate_left
  · intro w hSw; (go_simp; try with_reducible rfl)
  simp only [Act.put, List.setIfInBounds_toArray, List.set_cons_zero, List.set_cons_succ]
  refine wpAnyH_take (i := 7) (oi := ⟨some 38, _, _, _, _, _⟩) (v := ?_) rfl (by kernel_rfl) (by kernel_rfl) (by kernel_rfl) (fun _ _ _ h => h) (Or.inl ⟨by rfl, ?_⟩) h5 ?_
  rotate_left
  · intro w hSw; (go_simp; try with_reducible rfl)
  simp only [Act.put, List.setIfInBounds_toArray, List.set_cons_zero, List.set_cons_succ]
  refine wpAnyH_take (i := 8) (oi := ⟨some 10, _, _, _, _, _⟩) (v := ?_) rfl (by kernel_rfl) (by kernel_rfl) (by kernel_rfl) (fun _ _ _ h => h) (Or.inl ⟨by rfl, ?_⟩) h5 ?_
  rotate_left
  · intro w hSw; (go_simp; try with_reducible rfl)
  simp only [Act.put, List.setIfInBounds_toArray, List.set_cons_zero, List.set_cons_succ]
  refine wpAnyH_take (i := 9) (oi := ⟨some 11, _, _, _, _, _⟩) (v := ?_) rfl (by kernel_rfl) (by kernel_rfl) (by kernel_rfl) (fun _ _ _ h => h) (Or.inl ⟨by rfl, ?_⟩) h5 ?_
  rotate_left
  · intro w hSw; (go_simp; try with_reducible rfl)
  simp only [Act.put, List.setIfInBounds_toArray, List.set_cons_zero, List.set_cons_succ]
  refine wpAnyH_done (by kernel_rfl) ?_ _
  refine NoPanic.normal ?_
  have HB3 := Lib.hid (show JfS cf b w w3 from h3)
  have HJ4 := Lib.hid (show JW w3 c cf b w4.heap.size N (newRk N SC) w4 from JW.made H4.out HB3.out.1 HB3.out.2.1 (Below.refl _ _))
  have HBW := Lib.hid (fun (q : Rk) (w' : World) (h : JW w3 c cf b w4.heap.size N q w') => show Below w.heap.size w w' from bthen HB3.out.2.2 h.qs.base)
  clear d0 d1 d2 d3 d4 h2 hHeld h3 h5
  have HAS := Lib.hid (fun m (hm : m ≤ 4) => ap_start HL.out m hm)
  have HMO := Lib.hid (fun (x : Nat) (hx : x < 4) => ap_more HL.out hx a_)
  have HBK := Lib.hid (fun a w => HL.out.blocks a w)
  have HCN := Lib.hid (show cf.n = N ∧ cf.k = K from ⟨HL.out.n, HL.out.k⟩)
  have HRN := Lib.hid (fun W => stripe_runs W)
  have HPT := Lib.hid (fun (m : Nat) (hm : m < 4) (w' : World) (v : Value) (hj : JW w3 c cf b w4.heap.size N (apQ cf N SC K m) w') (hv : SlK w'.heap.size w' v (blks (m : Int) K)) => show Calls Tryz.prog 8 #[.pointer (some ⟨c.r, 0, none⟩), .agg #[.int .i64 cf.id, .int .i64 cf.k, .int .i64 cf.n, .int .i64 cf.t, .int .i64 cf.s], .int .i64 (m : Int), .int .i64 (2 + (m : Int)), v] w' (JN w3 c cf b w4.heap.size N (apQ cf N SC K (m + 1)) .nilIface w') from by
    have := hj.tput (m : Int) (2 + (m : Int)) hv
    rw [tput_nil (ap_put HL.out hm)] at this
    exact this)
  go_wp2_with fail
  go_loopw [12] (fun i wr => ∃ m : Nat, m ≤ 4 ∧ i = .int .i64 m ∧ JW w3 c cf b w4.heap.size N (apQ cf N SC K m) wr) (fun i _ => 4 - (intOf i).toNat)
  case atStart => exact ⟨0, by omega, rfl, HJ4.out⟩
  case round =>
    obtain ⟨m, hm, rfl, hJ⟩ := hrel
    have HJ := Lib.hid hJ
    clear hJ
    by_cases hlt : m < 4
    · have hlti : (m : Int) < 4 := by omega
      have hw2 : IntKind.i64.wrap (2 + (m : Int)) = 2 + (m : Int) := IntWalk.i64_in _ (by omega)
      have d0 : ∀ w', CfB cf b w' → w'.cell? ⟨b, 0, none⟩ = some (.int .i64 cf.id) := fun w' h => h.cell 0
      have d1 : ∀ w', CfB cf b w' → w'.cell? ⟨b, 1, none⟩ = some (.int .i64 cf.k) := fun w' h => h.cell 1
      have d2 : ∀ w', CfB cf b w' → w'.cell? ⟨b, 2, none⟩ = some (.int .i64 cf.n) := fun w' h => h.cell 2
      have d3 : ∀ w', CfB cf b w' → w'.cell? ⟨b, 3, none⟩ = some (.int .i64 cf.t) := fun w' h => h.cell 3
      have d4 : ∀ w', CfB cf b w' → w'.cell? ⟨b, 4, none⟩ = some (.int .i64 cf.s) := fun w' h => h.cell 4
      go_wp2_with fail
      refine wp_region_noPanic ?_
      refine wp_region_held_drew (S := (fun w' => CfB cf b w')) (by kernel_rfl) (show CfB cf b wr.drew from HJ.out.cfg) (fun hHeld => ?_)
      refine wpAnyH_take (i := 0) (oi := ⟨some 49, _, _, _, _, _⟩) (v := ?_) rfl (by kernel_rfl) (by kernel_rfl) (by kernel_rfl) (fun _ _ _ h => h) (Or.inl ⟨by rfl, ?_⟩) hHeld ?_
      rotate_left
      · intro w hSw; (go_simp; try with_reducible rfl)
      simp only [Act.put, List.setIfInBounds_toArray, List.set_cons_zero, List.set_cons_succ]
      refine wpAnyH_take (i := 1) (oi := ⟨some 50, _, _, _, _, _⟩) (v := ?_) rfl (by kernel_rfl) (by kernel_rfl) (by kernel_rfl) (fun _ _ _ h => h) (Or.inl ⟨by rfl, ?_⟩) hHeld ?_
      rotate_left
      · intro w hSw; (go_simp; try with_reducible rfl)
      simp only [Act.put, List.setIfInBounds_toArray, List.set_cons_zero, List.set_cons_succ]
      refine wpAnyH_take (i := 2) (oi := ⟨some 51, _, _, _, _, _⟩) (v := ?_) rfl (by kernel_rfl) (by kernel_rfl) (by kernel_rfl) (fun _ _ _ h => h) (Or.inl ⟨by rfl, ?_⟩) hHeld ?_
      rotate_left
      · intro w hSw; (go_simp; try with_reducible rfl)
      simp only [Act.put, List.setIfInBounds_toArray, List.set_cons_zero, List.set_cons_succ]
      refine wpAnyH_take (i := 3) (oi := ⟨some 52, _, _, _, _, _⟩) (v := ?_) rfl (by kernel_rfl) (by kernel_rfl) (by kernel_rfl) (fun _ _ _ h => h) (Or.inl ⟨by rfl, ?_⟩) hHeld ?_
      rotate_left
      · intro w hSw; (go_simp; try with_reducible rfl)
      simp only [Act.put, List.setIfInBounds_toArray, List.set_cons_zero, List.set_cons_succ]
      refine wpAnyH_take (i := 4) (oi := ⟨some 53, _, _, _, _, _⟩) (v := ?_) rfl (by kernel_rfl) (by kernel_rfl) (by kernel_rfl) (fun _ _ _ h => h) (Or.inl ⟨by rfl, ?_⟩) hHeld ?_
      rotate_left
      · intro w hSw; (go_simp; try with_reducible rfl)
      simp only [Act.put, List.setIfInBounds_toArray, List.set_cons_zero, List.set_cons_succ]
      refine wpAnyH_take (i := 5) (oi := ⟨some 54, _, _, _, _, _⟩) (v := ?_) rfl (by kernel_rfl) (by kernel_rfl) (by kernel_rfl) (fun _ _ _ h => h) (Or.inl ⟨by rfl, ?_⟩) hHeld ?_
      rotate_left
      · intro w hSw; (go_simp; try with_reducible rfl)
      simp only [Act.put, List.setIfInBounds_toArray, List.set_cons_zero, List.set_cons_succ]
      refine wpAnyH_take (i := 6) (oi := ⟨some 55, _, _, _, _, _⟩) (v := ?_) rfl (by kernel_rfl) (by kernel_rfl) (by kernel_rfl) (fun _ _ _ h => h) (Or.inl ⟨by rfl, ?_⟩) hHeld ?_
      rotate_left
      · intro w hSw; (go_simp; try with_reducible rfl)
      simp only [Act.put, List.setIfInBounds_toArray, List.set_cons_zero, List.set_cons_succ]
      refine wpAnyH_take (i := 7) (oi := ⟨some 56, _, _, _, _, _⟩) (v := ?_) rfl (by kernel_rfl) (by kernel_rfl) (by kernel_rfl) (fun _ _ _ h => h) (Or.inl ⟨by rfl, ?_⟩) hHeld ?_
      rotate_left
      · intro w hSw; (go_simp; try with_reducible rfl)
      simp only [Act.put, List.setIfInBounds_toArray, List.set_cons_zero, List.set_cons_succ]
      refine wpAnyH_ready (rs := [8]) (by kernel_rfl) (by simp) (AllReadyH.cons rfl (fun K hK => ?_) AllReadyH.nil)
      go_simp
      refine (HBK.out (m : Int) _).mono ?_
      rintro e w5 ⟨vx, rfl, hvx, hb5⟩
      have HX5 := Lib.hid (slK_own hvx (blks_is _ _) rfl)
      have HJ5 := Lib.hid (HJ.out.drew.below hb5)
      have h5 : CfB cf b w5 := HJ5.out.cfg
      obtain ⟨gx, cx, rfl, -⟩ := own_slice' hvx
      clear hvx hb5
      refine hK.out _ _ h5 (fun _ => ?_)
      clear hK K
      refine wpAnyH_ready (rs := [9]) (by kernel_rfl) (by simp) (AllReadyH.cons rfl (fun K hK => ?_) AllReadyH.nil)
      go_simp
      refine (HPT.out m hlt w5 _ HJ5.out HX5.out).mono ?_
      rintro e w6 ⟨rfl, hj6, hc6⟩
      have HJ6 := Lib.hid hj6
      have h6 : CfB cf b w6 := hj6.cfg
      clear hj6 hc6
      refine hK.out _ _ h6 (fun _ => ?_)
      clear hK K
      refine wpAnyH_take (i := 10) (oi := ⟨some 59, _, _, _, _, _⟩) (v := ?_) rfl (by kernel_rfl) (by kernel_rfl) (by kernel_rfl) (fun _ _ _ h => h) (Or.inl ⟨by rfl, ?_⟩) h6 ?_
      rotate_left
      · intro w hSw; (go_simp; try with_reducible rfl)
      simp only [Act.put, List.setIfInBounds_toArray, List.set_cons_zero, List.set_cons_succ]
      refine wpAnyH_done (by kernel_rfl) ?_ _
      refine NoPanic.normal ?_
      clear d0 d1 d2 d3 d4 h5 h6 hHeld
      go_wp2_with fail
      go_roundw
      case rel => exact ⟨m + 1, hlt, by go_num, HJ6.out⟩
      case measure => simp [intOf]; omega
    · have hlti : ¬ (m : Int) < 4 := by omega
      have hm4 : m = 4 := by omega
      have HJ0 := Lib.hid (show JW w3 c cf b w4.heap.size N (apQ cf N SC K 4) wr from hm4 ▸ HJ.out)
      have HI4 := Lib.hid (HAS.out 4 (Nat.le_refl _))
      clear HJ hm4 hm hlt HAS HPT
      generalize apQ cf N SC K 4 = q4 at *
      have HRD := Lib.hid (fun (d p : Nat) (hd : d < N) (hp : p < SC) (w' : World) (hj : JW w3 c cf b w4.heap.size N q4 w') => show Calls Tryz.prog 17 #[.pointer (some ⟨c.r, 0, none⟩), .int .i64 (d : Int), .int .i64 (p : Int)] w' (Reads ((q4.s d).read p) w') from
        qread_new w' hj.qs.rack d p (by rw [HI4.out.nn]; exact hd) HI4.out.pl.off (HI4.out.al d hd) (by rw [HI4.out.pl.ok.k d (by rw [HI4.out.nn]; exact hd), HI4.out.kk]; exact hp))
      have HLE := Lib.hid (fun (d p : Nat) (hd : d < N) => show ((q4.s d).read p).length = 128 from (HI4.out.pl.sok d (by rw [HI4.out.nn]; exact hd)).read p)
      have HSE := Lib.hid (fun (w' : World) (hj : JW w3 c cf b w4.heap.size N q4 w') => show Calls Tryz.prog 16 #[.pointer (some ⟨c.r, 0, none⟩)] w' (NumSame (SC : Int) w') from by
        have := qsectors_any w' hj.qs.rack
        rwa [HI4.out.kk] at this)
      have HBD := Lib.hid (show N * SC ≤ 6 * 128 from Nat.mul_le_mul HNR.out.2.1 HNR.out.2.2.2.1)
      have hSC : SC ≤ 128 := HNR.out.2.2.2.1
      have hN6 : N ≤ 6 := HNR.out.2.1
      have HN1 := Lib.hid (show 1 ≤ N ∧ 1 ≤ SC from ⟨HNR.out.1, HNR.out.2.2.1⟩)
      go_wp2_with fail
      go_loopw [13, 14] (fun v i wr => ∃ (d : Nat) (us : List Value), d ≤ N ∧ i = .int .i64 d ∧ JW w3 c cf b w4.heap.size N q4 wr ∧ HadU w4.heap.size v us (hadL q4 SC (d * SC)) wr) (fun _ i _ => N - (intOf i).toNat)
      case atStart => exact ⟨0, [], Nat.zero_le _, rfl, HJ0.out, had_nil⟩
      case round =>
        clear HJ0
        obtain ⟨d, us, hd, rfl, hJ, hH⟩ := hrel
        have HJ := Lib.hid hJ
        have HH := Lib.hid hH
        obtain ⟨d0, d1, d2, d3, d4⟩ := CfB.cells hJ.cfg
        rw [HCN.out.1] at d2
        obtain ⟨gv, cv, rfl, -⟩ := own_slice hH.row
        clear hJ hH
        by_cases hlt2 : d < N
        · go_wp2_with fail
          clear d0 d1 d2 d3 d4
          go_loopw [13, 15] (fun v i wr => ∃ (p : Nat) (us : List Value), p ≤ SC ∧ i = .int .i64 p ∧ JW w3 c cf b w4.heap.size N q4 wr ∧ HadU w4.heap.size v us (hadL q4 SC (d * SC + p)) wr) (fun _ i _ => SC - (intOf i).toNat)
          case atStart => exact ⟨0, us, Nat.zero_le _, rfl, HJ.out, HH.out⟩
          case round =>
            clear HJ HH
            obtain ⟨p, us2, hp, rfl, hJ, hH⟩ := hrel
            have HJ := Lib.hid hJ
            have HH := Lib.hid hH
            have HSX := Lib.hid (HSE.out _ hJ)
            obtain ⟨gv, cv, rfl, -⟩ := own_slice hH.row
            clear hJ hH
            by_cases hps : p < SC
            · have HR := Lib.hid (HRD.out d p hlt2 hps _ HJ.out)
              have HL1 := Lib.hid (HLE.out d p hlt2)
              have HNX := Lib.hid (hadL_next q4 (d := d) hps)
              have HB1 := Lib.hid (show (hadL q4 SC (d * SC + p)).length + 1 ≤ 100000 by rw [hadL_length]; have := had_lt hlt2 hps; have := HBD.out; omega)
              generalize (q4.s d).read p = rl at *
              go_wp2_with (go_at_call 16; refine HSX.out.mono ?_; rintro e w' ⟨rfl, rfl⟩)
              refine HR.out.mono ?_
              rintro e w5 ⟨u, rfl, hu, hb5⟩
              have HU5 := Lib.hid hu
              have HB5 := Lib.hid hb5
              obtain ⟨gu, rfl, -⟩ := hu
              clear hb5
              go_wp2_with (at_builtin; refine wpList_append_row _ rfl (.tmp 79) (.tmp 81) rfl w4.heap.size _ _ _ rfl (own_below (own_below HH.out.row HB5.out) (one_below _ _)) w5.heap.size (.slice (some ⟨gu, 0, none⟩) rl.length rl.length) rfl ?_ rfl ?_ ?_ ?_; exact new_cells _ _ _ _ _ rfl; exact HB1.out; (have := HJ.out.bB; have := HB5.out.size; simp; omega); intro v7 w7 hown7 hg7; have HO7 := Lib.hid hown7; have HG7 := Lib.hid hg7; obtain ⟨g7, c7, rfl, -⟩ := own_slice hown7; clear hown7 hg7)
              go_roundw
              case rel => exact ⟨p + 1, _, hps, by go_num, ((HJ.out.below HB5.out).below (one_below w5 _)).grew (own_below (own_below HH.out.row HB5.out) (one_below _ _)) (by decide) HG7.out, by rw [HNX.out]; exact HH.out.snoc HJ.out.bB HB5.out HU5.out HL1.out HO7.out HG7.out⟩
              case measure => simp [intOf]; omega
            · have hpe : p = SC := by omega
              have HPE := Lib.hid hpe
              clear hpe
              go_wp2_with (go_at_call 16; refine HSX.out.mono ?_; rintro e w' ⟨rfl, rfl⟩)
              go_roundw
              case rel => exact ⟨d + 1, us2, hlt2, by go_num, HJ.out, by rw [Nat.succ_mul, show d * SC + SC = d * SC + p by rw [HPE.out]]; exact HH.out⟩
              case measure => simp [intOf]; omega
        · obtain rfl : N = d := by omega
          have hHL := hadL_length q4 SC (N * SC)
          generalize hLs : hadL q4 SC (N * SC) = Ls at *
          have HLS := Lib.hid hLs
          generalize hln : Ls.length = hn at *
          have HHL := Lib.hid hHL
          have HLN := Lib.hid hln
          clear hLs hHL hln hlt2 hd
          obtain ⟨gh, rfl⟩ := own_addr (show wr.ownsRow w4.heap.size 45 1 (.slice gv hn cv) hn us by have := HH.out.row; rwa [HLN.out] at this) (by rw [HHL.out]; exact Nat.mul_pos HN1.out.1 HN1.out.2)
          have HWI := Lib.hid (fun W => within_int s_ 0 3 W (by omega) (by omega) (by omega))
          go_wp2_with fail
          refine (HWI.out _).mono ?_
          rintro e w' ⟨xx, hxx, rfl, hw'⟩
          subst hw'
          obtain ⟨x, rfl⟩ := Int.eq_ofNat_of_zero_le hxx.1
          have hx4 : x < 4 := by have := hxx.2; omega
          obtain ⟨m1, m2, m3⟩ := HMO.out x hx4
          have HPX := Lib.hid (fun (w' : World) (v : Value) (hj : JW w3 c cf b w4.heap.size N q4 w') (hv : SlK w'.heap.size w' v (blks a_ K)) => show Calls Tryz.prog 8 #[.pointer (some ⟨c.r, 0, none⟩), .agg #[.int .i64 cf.id, .int .i64 cf.k, .int .i64 cf.n, .int .i64 cf.t, .int .i64 cf.s], .int .i64 (x : Int), .int .i64 9, v] w' (JN w3 c cf b w4.heap.size N (Rk.tput q4 cf (x : Nat) 9 (blks a_ K)) .nilIface w') from by
            have := hj.tput (x : Int) 9 hv
            rw [tput_nil m1] at this
            exact this)
          have HI5 := Lib.hid m3
          have HSM := Lib.hid m2
          clear m1 m2 m3 hxx HMO
          generalize Rk.tput q4 cf (x : Nat) 9 (blks a_ K) = q5 at *
          clear d0 d1 d2 d3 d4
          have d0 : ∀ w', CfB cf b w' → w'.cell? ⟨b, 0, none⟩ = some (.int .i64 cf.id) := fun w' h => h.cell 0
          have d1 : ∀ w', CfB cf b w' → w'.cell? ⟨b, 1, none⟩ = some (.int .i64 cf.k) := fun w' h => h.cell 1
          have d2 : ∀ w', CfB cf b w' → w'.cell? ⟨b, 2, none⟩ = some (.int .i64 cf.n) := fun w' h => h.cell 2
          have d3 : ∀ w', CfB cf b w' → w'.cell? ⟨b, 3, none⟩ = some (.int .i64 cf.t) := fun w' h => h.cell 3
          have d4 : ∀ w', CfB cf b w' → w'.cell? ⟨b, 4, none⟩ = some (.int .i64 cf.s) := fun w' h => h.cell 4
          go_wp2_with fail
          refine wp_region_noPanic ?_
          refine wp_region_held_drew (S := (fun w' => CfB cf b w')) (by kernel_rfl) (show CfB cf b wr.drew from HJ.out.cfg) (fun hHeld => ?_)
          refine wpAnyH_take (i := 0) (oi := ⟨some 85, _, _, _, _, _⟩) (v := ?_) rfl (by kernel_rfl) (by kernel_rfl) (by kernel_rfl) (fun _ _ _ h => h) (Or.inl ⟨by rfl, ?_⟩) hHeld ?_
          rotate_left
          · intro w hSw; (go_simp; try with_reducible rfl)
          simp only [Act.put, List.setIfInBounds_toArray, List.set_cons_zero, List.set_cons_succ]
          refine wpAnyH_take (i := 1) (oi := ⟨some 86, _, _, _, _, _⟩) (v := ?_) rfl (by kernel_rfl) (by kernel_rfl) (by kernel_rfl) (fun _ _ _ h => h) (Or.inl ⟨by rfl, ?_⟩) hHeld ?_
          rotate_left
          · intro w hSw; (go_simp; try with_reducible rfl)
          simp only [Act.put, List.setIfInBounds_toArray, List.set_cons_zero, List.set_cons_succ]
          refine wpAnyH_take (i := 2) (oi := ⟨some 87, _, _, _, _, _⟩) (v := ?_) rfl (by kernel_rfl) (by kernel_rfl) (by kernel_rfl) (fun _ _ _ h => h) (Or.inl ⟨by rfl, ?_⟩) hHeld ?_
          rotate_left
          · intro w hSw; (go_simp; try with_reducible rfl)
          simp only [Act.put, List.setIfInBounds_toArray, List.set_cons_zero, List.set_cons_succ]
          refine wpAnyH_take (i := 3) (oi := ⟨some 88, _, _, _, _, _⟩) (v := ?_) rfl (by kernel_rfl) (by kernel_rfl) (by kernel_rfl) (fun _ _ _ h => h) (Or.inl ⟨by rfl, ?_⟩) hHeld ?_
          rotate_left
          · intro w hSw; (go_simp; try with_reducible rfl)
          simp only [Act.put, List.setIfInBounds_toArray, List.set_cons_zero, List.set_cons_succ]
          refine wpAnyH_take (i := 4) (oi := ⟨some 89, _, _, _, _, _⟩) (v := ?_) rfl (by kernel_rfl) (by kernel_rfl) (by kernel_rfl) (fun _ _ _ h => h) (Or.inl ⟨by rfl, ?_⟩) hHeld ?_
          rotate_left
          · intro w hSw; (go_simp; try with_reducible rfl)
          simp only [Act.put, List.setIfInBounds_toArray, List.set_cons_zero, List.set_cons_succ]
          refine wpAnyH_take (i := 5) (oi := ⟨some 90, _, _, _, _, _⟩) (v := ?_) rfl (by kernel_rfl) (by kernel_rfl) (by kernel_rfl) (fun _ _ _ h => h) (Or.inl ⟨by rfl, ?_⟩) hHeld ?_
          rotate_left
          · intro w hSw; (go_simp; try with_reducible rfl)
          simp only [Act.put, List.setIfInBounds_toArray, List.set_cons_zero, List.set_cons_succ]
          refine wpAnyH_ready (rs := [6]) (by kernel_rfl) (by simp) (AllReadyH.cons rfl (fun K hK => ?_) AllReadyH.nil)
          go_simp
          refine (HBK.out a_ _).mono ?_
          rintro e w5 ⟨vx, rfl, hvx, hb5⟩
          have HX5 := Lib.hid (slK_own hvx (blks_is _ _) rfl)
          have HJ5 := Lib.hid (HJ.out.drew.below hb5)
          have HH5 := Lib.hid ((HH.out.below (Below.drew (Below.refl _ _))).below hb5)
          have h5 : CfB cf b w5 := HJ5.out.cfg
          obtain ⟨gx, cx, rfl, -⟩ := own_slice' hvx
          clear hvx hb5
          refine hK.out _ _ h5 (fun _ => ?_)
          clear hK K
          refine wpAnyH_ready (rs := [7]) (by kernel_rfl) (by simp) (AllReadyH.cons rfl (fun K hK => ?_) AllReadyH.nil)
          go_simp
          refine (HPX.out w5 _ HJ5.out HX5.out).mono ?_
          rintro e w6 ⟨rfl, hj6, hc6⟩
          have HJ6 := Lib.hid hj6
          have HH6 := Lib.hid (HH5.out.rc HJ5.out.far hc6)
          have h6 : CfB cf b w6 := hj6.cfg
          clear hj6 hc6
          refine hK.out _ _ h6 (fun _ => ?_)
          clear hK K
          refine wpAnyH_take (i := 8) (oi := ⟨some 93, _, _, _, _, _⟩) (v := ?_) rfl (by kernel_rfl) (by kernel_rfl) (by kernel_rfl) (fun _ _ _ h => h) (Or.inl ⟨by rfl, ?_⟩) h6 ?_
          rotate_left
          · intro w hSw; (go_simp; try with_reducible rfl)
          simp only [Act.put, List.setIfInBounds_toArray, List.set_cons_zero, List.set_cons_succ]
          refine wpAnyH_done (by kernel_rfl) ?_ _
          refine NoPanic.normal ?_
          clear d0 d1 d2 d3 d4 h5 h6 hHeld
          have HSEC := Lib.hid (show 1 + 2 * cf.k + (x : Int) = ((tsec cf x : Nat) : Int) by
            rw [← tsec_eq HL.out.ok.right]
            unfold tbase Cf.secs
            rw [HL.out.s]; omega)
          have hkr : 1 ≤ cf.k ∧ cf.k ≤ 4 := by have := HCN.out.2; have := HNR.out.2.2.2.2; omega
          have HKR := Lib.hid hkr
          clear hkr
          have HRD5 := Lib.hid (fun (d p : Nat) (hd : d < N) (hp : p < SC) (w' : World) (hj : JW w3 c cf b w4.heap.size N q5 w') => show Calls Tryz.prog 17 #[.pointer (some ⟨c.r, 0, none⟩), .int .i64 (d : Int), .int .i64 (p : Int)] w' (Reads ((q5.s d).read p) w') from
            qread_new w' hj.qs.rack d p (by rw [HI5.out.nn]; exact hd) HI5.out.pl.off (HI5.out.al d hd) (by rw [HI5.out.pl.ok.k d (by rw [HI5.out.nn]; exact hd), HI5.out.kk]; exact hp))
          have HSE5 := Lib.hid (fun (w' : World) (hj : JW w3 c cf b w4.heap.size N q5 w') => show Calls Tryz.prog 16 #[.pointer (some ⟨c.r, 0, none⟩)] w' (NumSame (SC : Int) w') from by
            have := qsectors_any w' hj.qs.rack
            rwa [HI5.out.kk] at this)
          go_wp2_with fail
          go_loopw [19, 20] (fun mm i wr => ∃ d y : Nat, d ≤ N ∧ i = .int .i64 d ∧ mm = .int .i64 y ∧ y = d * SC ∧ JW w3 c cf b w4.heap.size N q5 wr ∧ HadU w4.heap.size (.slice (some ⟨gh, 0, none⟩) hn cv) us Ls wr) (fun _ i _ => N - (intOf i).toNat)
          case atStart => exact ⟨0, 0, Nat.zero_le _, rfl, rfl, (Nat.zero_mul _).symm, HJ6.out, HH6.out⟩
          case round =>
            clear HJ HH HJ5 HH5 HJ6 HH6
            obtain ⟨d, y, hd, rfl, rfl, hy, hJ, hH⟩ := hrel
            have HJ := Lib.hid hJ
            have HH := Lib.hid hH
            have HY := Lib.hid hy
            obtain ⟨d0, d1, d2, d3, d4⟩ := CfB.cells hJ.cfg
            rw [HCN.out.1] at d2
            clear hJ hH hy
            by_cases hlt2 : d < N
            · go_wp2_with fail
              clear d0 d1 d2 d3 d4
              go_loopw [19, 21] (fun mm i wr => ∃ p y : Nat, p ≤ SC ∧ i = .int .i64 p ∧ mm = .int .i64 y ∧ y = d * SC + p ∧ JW w3 c cf b w4.heap.size N q5 wr ∧ HadU w4.heap.size (.slice (some ⟨gh, 0, none⟩) hn cv) us Ls wr) (fun _ i _ => SC - (intOf i).toNat)
              case atStart => exact ⟨0, y, Nat.zero_le _, rfl, rfl, HY.out, HJ.out, HH.out⟩
              case round =>
                clear HJ HH HY
                obtain ⟨p, z, hp, rfl, rfl, hy, hJ, hH⟩ := hrel
                have HJ := Lib.hid hJ
                have HH := Lib.hid hH
                have HY := Lib.hid hy
                have HSX := Lib.hid (HSE5.out _ hJ)
                clear hJ hH hy
                by_cases hps : p < SC
                · have HR := Lib.hid (HRD5.out d p hlt2 hps _ HJ.out)
                  have hyn : z < hn := by have := had_lt hlt2 hps; have := HY.out; have := HHL.out; omega
                  have hyi : (z : Int) < hn := by omega
                  have hz9 : z < 100000 := by have := HBD.out; have := HHL.out; omega
                  have hw1 : IntKind.i64.wrap (2 * cf.k) = 2 * cf.k := IntWalk.i64_in _ (by have := HKR.out; omega)
                  have hw2 : IntKind.i64.wrap (1 + 2 * cf.k) = 1 + 2 * cf.k := IntWalk.i64_in _ (by have := HKR.out; omega)
                  have hw3 : IntKind.i64.wrap (1 + 2 * cf.k + (x : Int)) = ((tsec cf x : Nat) : Int) := by rw [IntWalk.i64_in _ (by have := HKR.out; omega)]; exact HSEC.out
                  have HFIN := Lib.hid (fun (w' : World) (hb : JW w3 c cf b w4.heap.size N q5 w' ∧ HadU w4.heap.size (.slice (some ⟨gh, 0, none⟩) hn cv) us Ls w') => show ∃ p' y' : Nat, p' ≤ SC ∧ (Value.int .i64 ((p : Int) + 1)) = .int .i64 p' ∧ (Value.int .i64 ((z : Int) + 1)) = .int .i64 y' ∧ y' = d * SC + p' ∧ JW w3 c cf b w4.heap.size N q5 w' ∧ HadU w4.heap.size (.slice (some ⟨gh, 0, none⟩) hn cv) us Ls w' from
                    ⟨p + 1, z + 1, hps, by go_num, by go_num, by have := HY.out; omega, hb.1, hb.2⟩)
                  have hhad : Ls.getD z [] = (q4.s d).read p := by rw [← HLS.out, HY.out]; exact hadL_getD q4 hps (had_lt hlt2 hps)
                  have HAD := Lib.hid hhad
                  have HL1 := Lib.hid (HLE.out d p hlt2)
                  have HSM5 := Lib.hid (HSM.out d hlt2 p)
                  clear hhad
                  generalize htx : tsec cf x = tx at *
                  clear htx
                  go_wp2_with (go_at_call 16; refine HSX.out.mono ?_; rintro e w' ⟨rfl, rfl⟩)
                  refine HR.out.mono ?_
                  rintro e w5 ⟨u, rfl, hu, hb5⟩
                  have HU5 := Lib.hid hu.slb
                  have HJ5 := Lib.hid (HJ.out.below hb5)
                  have HH5 := Lib.hid (HH.out.below hb5)
                  obtain ⟨gu, rfl, -⟩ := hu
                  clear hb5
                  obtain ⟨d0, d1, d2, d3, d4⟩ := CfB.cells HJ5.out.cfg
                  by_cases hpt : p = tx
                  · have hpb : ((p : Int) != (tx : Int)) = false := by simp; omega
                    have hpe : ((p : Int) == (tx : Int)) = true := by simp; omega
                    clear hpt
                    go_wp2_with fail
                    go_roundw
                    case rel => exact HFIN.out _ ⟨HJ5.out, HH5.out⟩
                    case measure => simp [intOf]; omega
                  · have hpb : ((p : Int) != (tx : Int)) = true := by simp; omega
                    have hpe : ((p : Int) == (tx : Int)) = false := by simp; omega
                    have hpi : ¬ (p : Int) = (tx : Int) := by omega
                    obtain ⟨uh, hcu, hsl⟩ := HH5.out.cell (y := z) (by exact HLN.out.symm) (by rw [HLN.out]; exact hyn)
                    have HSS := Lib.hid (show Calls Tryz.prog 19 #[.slice (some ⟨gu, 0, none⟩) ((q5.s d).read p).length ((q5.s d).read p).length, uh] w5 (Bit true w5) from by
                      rw [HAD.out] at hsl
                      have h1 := HU5.out
                      rw [HSM5.out hpt] at h1 ⊢
                      have := same_bytes w5.heap.size _ uh _ _ w5 h1 hsl (Nat.le_refl _) (by rw [HL1.out]; decide)
                      rwa [decide_eq_true rfl] at this)
                    clear hsl hpt
                    go_wp2_with (go_at_call 19; refine HSS.out.mono ?_; rintro e w6 ⟨rfl, hb6⟩; have HJ6 := Lib.hid (HJ5.out.below hb6); have HH6 := Lib.hid (HH5.out.below hb6); clear hb6)
                    go_roundw
                    case rel => exact HFIN.out _ ⟨HJ6.out, HH6.out⟩
                    case measure => simp [intOf]; omega
                · have hpe : p = SC := by omega
                  have HPE := Lib.hid hpe
                  clear hpe
                  go_wp2_with (go_at_call 16; refine HSX.out.mono ?_; rintro e w' ⟨rfl, rfl⟩)
                  go_roundw
                  case rel => exact ⟨d + 1, z, hlt2, by go_num, rfl, by have := HY.out; rw [HPE.out] at this; rw [Nat.succ_mul]; exact this, HJ.out, HH.out⟩
                  case measure => simp [intOf]; omega
            · obtain rfl : N = d := by omega
              clear hd HY
              have HTD := Lib.hid (fun (i : Nat) (hi : i < 4) => HI5.out.told HL.out hi)
              have HST := Lib.hid (fun (i : Nat) (g a : Int) (hi : i < 4) (h0 : 1 ≤ g) (h1 : g ≤ 11) => HL.out.stIn (s := i) (g := g) a (by omega) h0 (by omega))
              have HBL := Lib.hid (show ∀ a : Int, (blks a K).length ≤ 8 from fun a => by rw [blks_length]; have := HNR.out.2.2.2.2.2.1; omega)
              go_wp2_with fail
              clear d0 d1 d2 d3 d4 hlt2
              go_loopw [24] (fun i wr => ∃ j : Nat, j ≤ 4 ∧ i = .int .i64 j ∧ JW w3 c cf b w4.heap.size N q5 wr) (fun i _ => 4 - (intOf i).toNat)
              case atStart => exact ⟨0, by omega, rfl, HJ.out⟩
              case round =>
                clear HJ HH
                obtain ⟨j, hj, rfl, hJ⟩ := hrel
                have HJ := Lib.hid hJ
                obtain ⟨d0, d1, d2, d3, d4⟩ := CfB.cells hJ.cfg
                have HBW6 := Lib.hid (HBW.out _ _ hJ)
                clear hJ
                by_cases hlt : j < 4
                · have hlti : (j : Int) < 4 := by omega
                  have hw2 : IntKind.i64.wrap (2 + (j : Int)) = 2 + (j : Int) := IntWalk.i64_in _ (by omega)
                  by_cases hjx : j = x
                  · subst hjx
                    have CGT := Lib.hid (show Calls Tryz.prog 10 #[.pointer (some ⟨c.r, 0, none⟩), .agg #[.int .i64 cf.id, .int .i64 cf.k, .int .i64 cf.n, .int .i64 cf.t, .int .i64 cf.s], .int .i64 (j : Int)] wr (GotB 9 (blks a_ K) wr) from HJ.out.tget_yes (by
                      have := HTD.out j hlt (by rw [if_pos rfl, if_pos rfl]; exact HST.out j 9 a_ hlt (by decide) (by decide))
                      rwa [if_pos rfl, if_pos rfl] at this))
                    go_wp2_with fail
                    refine CGT.out.mono ?_
                    rintro e w13 ⟨vz, rfl, hz13, hb13⟩
                    have HJ13 := Lib.hid (HJ.out.below hb13)
                    have HZ13 := Lib.hid (bkB_of (B := w4.heap.size) hz13 HJ.out.bB)
                    obtain ⟨gz, cz, rfl, -⟩ := own_slice' hz13
                    clear hz13 hb13 d0 d1 d2 d3 d4
                    obtain ⟨d0, d1, d2, d3, d4⟩ := CfB.cells HJ13.out.cfg
                    have CSM := Lib.hid (fun (w' : World) (v : Value) (hb : Below w13.heap.size w13 w') (hv : BkB w4.heap.size (blks a_ K) v w') => show Calls Tryz.prog 13 #[.slice gz (blks a_ K).length cz, v] w' (Bit true w') from by
                      have := same_blocks (.slice gz (blks a_ K).length cz) v (blks a_ K) (blks a_ K) w' (HZ13.out.below hb).slk hv.slk (HBL.out a_)
                      rwa [decide_eq_true rfl] at this)
                    go_wp2_with (first
                      | (go_at_call 7; refine (HBK.out a_ _).mono ?_; rintro e w14 ⟨vb, rfl, hvb, hb14⟩; have HB14 := Lib.hid hb14; have HV14 := Lib.hid (bkB_of (B := w4.heap.size) hvb HJ13.out.bB); obtain ⟨gb, cb, rfl, -⟩ := own_slice' hvb; clear hvb hb14)
                      | (go_at_call 13; refine (CSM.out _ _ HB14.out HV14.out).mono ?_; rintro e w15 ⟨rfl, hb15⟩; have HJ15 := Lib.hid ((HJ13.out.below HB14.out).below hb15); clear hb15))
                    go_roundw
                    case rel => exact ⟨j + 1, hlt, by go_num, HJ15.out⟩
                    case measure => simp [intOf]; omega
                  · have hb1 : ((j : Int) != (x : Int)) = true := by simp; omega
                    have hb2 : ((j : Int) == (x : Int)) = false := by simp; omega
                    have hji : ¬ (j : Int) = (x : Int) := by omega
                    have CGT := Lib.hid (show Calls Tryz.prog 10 #[.pointer (some ⟨c.r, 0, none⟩), .agg #[.int .i64 cf.id, .int .i64 cf.k, .int .i64 cf.n, .int .i64 cf.t, .int .i64 cf.s], .int .i64 (j : Int)] wr (GotB (2 + (j : Int)) (blks (j : Int) K) wr) from HJ.out.tget_yes (by
                      have := HTD.out j hlt (by rw [if_neg hjx, if_neg hjx]; exact HST.out j (2 + (j : Int)) (j : Int) hlt (by omega) (by omega))
                      rwa [if_neg hjx, if_neg hjx] at this))
                    clear hjx
                    go_wp2_with fail
                    refine CGT.out.mono ?_
                    rintro e w13 ⟨vz, rfl, hz13, hb13⟩
                    have HJ13 := Lib.hid (HJ.out.below hb13)
                    have HZ13 := Lib.hid (bkB_of (B := w4.heap.size) hz13 HJ.out.bB)
                    obtain ⟨gz, cz, rfl, -⟩ := own_slice' hz13
                    clear hz13 hb13 d0 d1 d2 d3 d4
                    obtain ⟨d0, d1, d2, d3, d4⟩ := CfB.cells HJ13.out.cfg
                    have CSM := Lib.hid (fun (w' : World) (v : Value) (hb : Below w13.heap.size w13 w') (hv : BkB w4.heap.size (blks (j : Int) K) v w') => show Calls Tryz.prog 13 #[.slice gz (blks (j : Int) K).length cz, v] w' (Bit true w') from by
                      have := same_blocks (.slice gz (blks (j : Int) K).length cz) v (blks (j : Int) K) (blks (j : Int) K) w' (HZ13.out.below hb).slk hv.slk (HBL.out (j : Int))
                      rwa [decide_eq_true rfl] at this)
                    go_wp2_with (first
                      | (go_at_call 7; refine (HBK.out (j : Int) _).mono ?_; rintro e w14 ⟨vb, rfl, hvb, hb14⟩; have HB14 := Lib.hid hb14; have HV14 := Lib.hid (bkB_of (B := w4.heap.size) hvb HJ13.out.bB); obtain ⟨gb, cb, rfl, -⟩ := own_slice' hvb; clear hvb hb14)
                      | (go_at_call 13; refine (CSM.out _ _ HB14.out HV14.out).mono ?_; rintro e w15 ⟨rfl, hb15⟩; have HJ15 := Lib.hid ((HJ13.out.below HB14.out).below hb15); clear hb15))
                    go_roundw
                    case rel => exact ⟨j + 1, hlt, by go_num, HJ15.out⟩
                    case measure => simp [intOf]; omega
                · have hlti : ¬ (j : Int) < 4 := by omega
                  clear d0 d1 d2 d3 d4
                  go_wp2_with (go_at_call 3; refine (HRN.out _).mono ?_; rintro e w10 ⟨rfl, hb10⟩; have HB10 := Lib.hid (bthen HBW6.out hb10); clear hb10)
                  go_ret
                  exact bit rfl HB10.out
end Go.Proofs.YtidnmkghmaeniaaGreat
namespace Go.Proofs.YtidnmkghmaeniaaGreat.stripeApart
open Go.ChangeShapes Go.WideShapes Go.ChangeAt Go.RowKit

set_option maxRecDepth 100000 in
theorem lifted (os : Os) (started : os.Started) (H : Type) (enc : TypeId × Value → H) :
    ReturnsInHanded {} Tryz.checked os 4 .any (Rows.stripeApartSpec.pre6 enc Tryz.prog Tryz.f4 Rows.stripeApartRow.domain false) (Rows.stripeApartSpec.post enc Tryz.prog Tryz.f4 false true false false) := by
  refine returnsInHanded_of_change (C := Tryz.checked) Tryz.own started (by kernel_rfl) Tryz.func4
    (ChangeSpec.witness6 (enc := enc) (C := Tryz.checked) false ⟨#[], #[.int .i64 0, .int .i64 0, .int .i64 0, .int .i64 0], []⟩ 8 (by kernel_rfl) (by kernel_rfl) (by kernel_rfl) (by kernel_rfl)) ?_
  intro W base args ds gs before hval0 hW _ _
  have hval : ∀ (j : Nat) t v, Tryz.f4.params[j]? = some t → args[j]? = some v → Value.okWide Tryz.prog W .any base t v := hval0
  have hW' := hW
  obtain ⟨p, q, hA0, hV, rfl, hfz, hnd⟩ := hW
  have hA : DataW.TrodAll enc Tryz.prog W 0 (fun _ => true) true Tryz.f4.params.toList args.toList ds p := hA0
  rw [Tryz.params4] at hA hval
  obtain ⟨v0, vs0, d0, ds0, p0, q0, hargs, rfl, rfl, h0, r0⟩ := trodAll_cons hA
  obtain ⟨v1, vs1, d1, ds1, p1, q1, rfl, rfl, rfl, h1, r1⟩ := trodAll_cons r0
  obtain ⟨v2, vs2, d2, ds2, p2, q2, rfl, rfl, rfl, h2, r2⟩ := trodAll_cons r1
  obtain ⟨v3, vs3, d3, ds3, p3, q3, rfl, rfl, rfl, h3, r3⟩ := trodAll_cons r2
  obtain ⟨rfl, rfl, rfl⟩ := trodAll_nil r3
  obtain rfl : args = #[v0, v1, v2, v3] := Array.ext' hargs
  obtain ⟨k_, rfl, rfl, rfl, _⟩ := open_int Tryz.underlying3 (hval 0 3 v0 (by simp) (by simp)) h0
  obtain ⟨n_, rfl, rfl, rfl, _⟩ := open_int Tryz.underlying3 (hval 1 3 v1 (by simp) (by simp)) h1
  obtain ⟨s_, rfl, rfl, rfl, _⟩ := open_int Tryz.underlying3 (hval 2 3 v2 (by simp) (by simp)) h2
  obtain ⟨a_, rfl, rfl, rfl, _⟩ := open_int Tryz.underlying3 (hval 3 3 v3 (by simp) (by simp)) h3
  obtain ⟨rfl, rfl⟩ := trodVars_none hV
  clear hA0 hval0
  have hw : Calls Tryz.prog 4 #[.int .i64 k_, .int .i64 n_, .int .i64 s_, .int .i64 a_] W (Bit true W) := apart_any W k_ n_ s_ a_
  refine hw.mono fun e W' ⟨he, hg⟩ => ?_
  subst he
  exact ⟨_, rfl, law_post Tryz.laidOut (by kernel_rfl) (by kernel_rfl) (by kernel_rfl) Tryz.underlying4 hW' hg rfl rfl rfl⟩

end Go.Proofs.YtidnmkghmaeniaaGreat.stripeApart
namespace Go.Proofs.YtidnmkghmaeniaaGreat
theorem StripeApart_said : Rows.StripeApartSaid :=
  OpenClaim.holds_of_wide 4 Tryz.f4 rfl rfl rfl rfl rfl rfl rfl ⟨rfl, rfl, rfl, rfl, rfl⟩ rfl rfl rfl rfl rfl (by kernel_rfl) Tryz.func4 (by kernel_rfl)
    (of_decide_eq_true (by kernel_rfl)) (by unfold Func.isWrapper; first | (rw [if_pos (by decide +kernel)]; kernel_rfl) | (rw [if_neg (by decide +kernel)]; exact ⟨rfl, rfl⟩))
    (fun os started H enc _ => stripeApart.lifted os started H enc)
#print axioms StripeApart_said
end Go.Proofs.YtidnmkghmaeniaaGreat
