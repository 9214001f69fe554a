/-
  stavelaw9.SuperFew: the walk (written by gensfew.py).
-/
import Derived.Test.YtfhnkjlegehaoaaGreatDoorSRuns
import Derived.Test.YtfhnkjlegehaoaaGreatDoorSConf
import Derived.Test.YtfhnkjlegehaoaaGreatDoorDCrash
import Derived.Deep.RegionHeld3
namespace Go.Proofs.YtfhnkjlegehaoaaGreatDoor
open Go.RowKit Go.Deep Crc Dk Qk Go.Maps Hf
theorem zero_test (b m : Nat) (h : b < 18446744073709551616) : (Go.bits .and .u64 ((b : Int) / 2 ^ m) 1 == 0) = decide (b / 2 ^ m % 2 = 0) := by
  have e : ((b : Int) / 2 ^ m) = ((b / 2 ^ m : Nat) : Int) := by simp
  rw [e, u64_and_one _ (Nat.lt_of_le_of_lt (Nat.div_le_self _ _) h)]
  generalize b / 2 ^ m % 2 = x
  by_cases hx : x = 0
  · subst hx; rfl
  · rw [decide_eq_false hx]; simp; omega
/-- Behind m rounds: which disks have their superblock. -/
structure FewI (cf : Cf) (n0 k0 : Nat) (p : Nat → Bool) (m : Nat) (q : Rk) : Prop where
  n : q.n = n0
  k : q.k = k0
  off : q.off = false
  rem : q.rem = -1
  done : ∀ j, j < m → SupAt q cf j (p j)
  todo : ∀ j, m ≤ j → j < n0 → q.s j = new k0
theorem fewI_start (cf : Cf) (n k : Nat) (p : Nat → Bool) : FewI cf n k p 0 (newRk n k) := ⟨rfl, rfl, rfl, rfl, fun _ h => absurd h (by omega), fun _ _ _ => rfl⟩
theorem SupAt.turn {q : Rk} {cf : Cf} {j m : Nat} {b : Bool} {t : St} (h : SupAt q cf j b) (hm : j ≠ m) : SupAt (q.turn m t) cf j b := by
  unfold SupAt at *
  rw [turn_off q t hm]
  exact h
theorem FewI.next {cf : Cf} {n k m : Nat} {p : Nat → Bool} {q : Rk} (h : FewI cf n k p m q) {t : St} (ht : SupAt (q.turn m t) cf m (p m)) : FewI cf n k p (m + 1) (q.turn m t) :=
  ⟨h.n, h.k, h.off, h.rem, fun j hj => by
    by_cases e : j = m
    · subst e; exact ht
    · exact (h.done j (by omega)).turn e, fun j hj hn => by rw [turn_off q t (by omega)]; exact h.todo j (by omega) hn⟩
/-- A disk behind a Put, and behind what then becomes of it. -/
theorem FewI.put {cf : Cf} {n k m : Nat} {p : Nat → Bool} {q : Rk} (h : FewI cf n k p m q) (hq : q.Ok) (hf : cf.fits q = true) (hm : m < n) :
    Rk.scode q cf m = 0 ∧ Rk.sput q cf m = q.turn m (supS (new k) cf m) ∧ SupAt (q.turn m (supS (new k) cf m)) cf m true ∧
    SupAt ((q.turn m (supS (new k) cf m)).turn m ((supS (new k) cf m).wipe true)) cf m false ∧ SupAt ((q.turn m (supS (new k) cf m)).turn m (rotnext (supS (new k) cf m) 0 m 7)) cf m false := by
  have hs := h.todo m (Nat.le_refl _) hm
  have hn := h.n
  have hk8 := hq.k8
  have hk0 := hq.k0
  have hn8 := hq.n8
  have hkk := h.k
  obtain ⟨e1, e2⟩ := sput_well hq h.off h.rem (k := m) (by omega) (by rw [hs]; rfl) hf
  rw [hs] at e2
  have ho : (new k).Ok := new_ok (by omega)
  obtain ⟨f1, f2, f3, _⟩ := supS_facts ho (show 1 ≤ k by omega) (c := cf) (k := m) (by omega)
  obtain ⟨r1, _⟩ := supS_rot ho (show 1 ≤ k by omega) rfl (c := cf) (k := m) (by omega)
  refine ⟨e1, e2, ?_, ?_, ?_⟩
  · unfold SupAt; rw [if_pos rfl, turn_at]; exact ⟨f1, f3⟩
  · unfold SupAt; rw [if_neg (by decide), turn_at]; exact Or.inl rfl
  · unfold SupAt; rw [if_neg (by decide), turn_at]; exact Or.inr r1
def FwS (cf : Cf) (b : Nat) (w w' : World) : Prop := CfB cf b w' ∧ b < w'.heap.size ∧ Below w.heap.size w w'
theorem FwS.drew {cf : Cf} {b : Nat} {w w' : World} (h : FwS cf b w w') : FwS cf b w w'.drew := ⟨h.1, h.2.1, h.2.2.drew⟩
theorem FwS.then {cf : Cf} {b : Nat} {w w1 w2 : World} (h : FwS cf b w w1) (hb : Below w1.heap.size w1 w2) : FwS cf b w w2 := ⟨h.1.below h.2.1 hb, Nat.lt_of_lt_of_le h.2.1 hb.size, bthen h.2.2 hb⟩
theorem FwS.made {cf : Cf} {b : Nat} {w w1 w2 : World} {c : Lc} {q : Rk} (h : FwS cf b w w1) (hq : QS w1 c q w2) : FwS cf b w w2 := h.then hq.base
def RelFw (cf : Cf) (n k : Nat) (p : Nat → Bool) (w1 : World) (c : Lc) (v x : Value) (wr : World) : Prop :=
  ∃ (m : Nat) (q : Rk), m ≤ n ∧ x = .int .i64 m ∧ v = .int .i64 (cntN p m : Int) ∧ FewI cf n k p m q ∧ QS w1 c q wr
theorem cnt_yes {p : Nat → Bool} {m : Nat} (h : p m = true) : cntN p (m + 1) = cntN p m + 1 := if_pos h
theorem cnt_no {p : Nat → Bool} {m : Nat} (h : p m = false) : cntN p (m + 1) = cntN p m := if_neg (by rw [h]; decide)
set_option maxHeartbeats 8000000 in
set_option maxRecDepth 100000 in
theorem few_any (a0 a1 a2 a3 : Int) (g : Nat) (hg : g < 18446744073709551616) (how : Bool) (w : World) (hT : Typ w) : Calls Tryz.prog 6 #[.int .i64 a0, .int .i64 a1, .int .i64 a2, .int .i64 a3, .int .u64 (g : Int), .bool how] w (Bit true w) := by
  have HT := Lib.hid hT
  have HG := Lib.hid hg
  have hgd := guard_conf
  obtain ⟨p, hp⟩ : ∃ p : Nat → Bool, ∀ j, p j = decide (g / 2 ^ j % 2 = 0) := ⟨_, fun _ => rfl⟩
  have HPP := Lib.hid hp
  clear hT hg hp
  go_enter Tryz.func6, Tryz.ntmps6
  go_wp2_with fail
  refine (config_any a0 a1 a2 a3 w).mono ?_
  rintro e w1 ⟨cf, hcf, rfl, hb1⟩
  have HCF := Lib.hid hcf
  obtain ⟨N, hN⟩ := Int.eq_ofNat_of_zero_le (show 0 ≤ cf.n by have := hcf.2; omega)
  obtain ⟨x1, x2, _⟩ := hcf.right.secs
  obtain ⟨SC, hSC⟩ := Int.eq_ofNat_of_zero_le (show 0 ≤ cf.secs by omega)
  have HN := Lib.hid hN
  have HNR := Lib.hid (show 1 ≤ N ∧ N ≤ 8 ∧ 1 ≤ SC ∧ SC ≤ 128 by have := hcf.2; omega)
  have CS := Lib.hid (fun w => ssectors_any cf w hcf.right)
  have CN := Lib.hid (fun w => show Calls Tryz.prog 9 #[.int .i64 cf.n, .int .i64 cf.secs] w (QNew w N SC) from by rw [hN, hSC]; exact qs_new N SC w HNR.out.1 HNR.out.2.1 HNR.out.2.2.1 HNR.out.2.2.2)
  have HFITS := Lib.hid (fun (q : Rk) (h1 : q.n = N) (h2 : q.k = SC) => show cf.fits q = true from by
    unfold Cf.fits
    rw [show cfRightB cf = true from decide_eq_true hcf.right, h1, h2, hN, hSC, decide_eq_true rfl, decide_eq_true (Int.le_refl _)]; rfl)
  have H2 := Lib.hid (show FwS cf w1.heap.size w (w1.alloc (.cells (cfA cf) 23)) from ⟨cfB_new w1 cf, by simp, balloc hb1 _⟩)
  clear hb1 hcf x1 x2 hN hSC
  go_wp2_with fail
  have h2 := H2.out
  generalize w1.alloc (.cells (cfA cf) 23) = w2 at *
  generalize w1.heap.size = b at *
  have d0 : ∀ w', FwS cf b w w' → w'.cell? ⟨b, 0, none⟩ = some (.int .i64 cf.id) := fun w' h => h.1.cell 0
  have d1 : ∀ w', FwS cf b w w' → w'.cell? ⟨b, 1, none⟩ = some (.int .i64 cf.k) := fun w' h => h.1.cell 1
  have d2 : ∀ w', FwS cf b w w' → w'.cell? ⟨b, 2, none⟩ = some (.int .i64 cf.n) := fun w' h => h.1.cell 2
  have d3 : ∀ w', FwS cf b w w' → w'.cell? ⟨b, 3, none⟩ = some (.int .i64 cf.t) := fun w' h => h.1.cell 3
  have d4 : ∀ w', FwS cf b w w' → w'.cell? ⟨b, 4, none⟩ = some (.int .i64 cf.s) := fun w' h => h.1.cell 4
  refine wp_region_noPanic ?_
  refine wp_region_held_drew (S := (fun w' => FwS cf b w w')) (by kernel_rfl) h2.drew (fun hHeld => ?_)
  refine wpAnyH_take (i := 0) (oi := ⟨some 26, _, _, _, _, _⟩) (v := ?_) rfl (by kernel_rfl) (by kernel_rfl) (by kernel_rfl) (fun _ _ _ h => h) (Or.inl ⟨by rfl, ?_⟩) hHeld ?_
  rotate_left
  · intro w hSw; (go_simp; try with_reducible rfl)
  simp only [Act.put, List.setIfInBounds_toArray, List.set_cons_zero, List.set_cons_succ]
  refine wpAnyH_take (i := 1) (oi := ⟨some 27, _, _, _, _, _⟩) (v := ?_) rfl (by kernel_rfl) (by kernel_rfl) (by kernel_rfl) (fun _ _ _ h => h) (Or.inl ⟨by rfl, ?_⟩) hHeld ?_
  rotate_left
  · intro w hSw; (go_simp; try with_reducible rfl)
  simp only [Act.put, List.setIfInBounds_toArray, List.set_cons_zero, List.set_cons_succ]
  refine wpAnyH_take (i := 2) (oi := ⟨some 28, _, _, _, _, _⟩) (v := ?_) rfl (by kernel_rfl) (by kernel_rfl) (by kernel_rfl) (fun _ _ _ h => h) (Or.inl ⟨by rfl, ?_⟩) hHeld ?_
  rotate_left
  · intro w hSw; (go_simp; try with_reducible rfl)
  simp only [Act.put, List.setIfInBounds_toArray, List.set_cons_zero, List.set_cons_succ]
  refine wpAnyH_ready (rs := [3]) (by kernel_rfl) (by simp) (AllReadyH.cons rfl (fun K hK => ?_) AllReadyH.nil)
  go_simp
  refine (CS.out _).mono ?_
  rintro e w3 ⟨rfl, hb3⟩
  have h3 := FwS.then hHeld hb3
  clear hb3
  refine hK.out _ _ h3 (fun _ => ?_)
  clear hK K
  refine wpAnyH_ready (rs := [4]) (by kernel_rfl) (by simp) (AllReadyH.cons rfl (fun K hK => ?_) AllReadyH.nil)
  go_simp
  refine (CN.out _).mono ?_
  rintro e w4 ⟨c, rfl, h4⟩
  have H4 := Lib.hid h4
  have h5 := FwS.made h3 h4
  clear h4
  refine hK.out _ _ h5 (fun _ => ?_)
  clear hK K
  refine wpAnyH_take (i := 5) (oi := ⟨some 25, _, _, _, _, _⟩) (v := ?_) rfl (by kernel_rfl) (by kernel_rfl) (by kernel_rfl) (fun _ _ _ h => h) (Or.inl ⟨by rfl, ?_⟩) h5 ?_
  rotate_left
  · intro w hSw; (go_simp; try with_reducible rfl)
  simp only [Act.put, List.setIfInBounds_toArray, List.set_cons_zero, List.set_cons_succ]
  refine wpAnyH_take (i := 6) (oi := ⟨some 31, _, _, _, _, _⟩) (v := ?_) rfl (by kernel_rfl) (by kernel_rfl) (by kernel_rfl) (fun _ _ _ h => h) (Or.inl ⟨by rfl, ?_⟩) h5 ?_
  rotate_left
  · intro w hSw; (go_simp; try with_reducible rfl)
  simp only [Act.put, List.setIfInBounds_toArray, List.set_cons_zero, List.set_cons_succ]
  refine wpAnyH_take (i := 7) (oi := ⟨some 32, _, _, _, _, _⟩) (v := ?_) rfl (by kernel_rfl) (by kernel_rfl) (by kernel_rfl) (fun _ _ _ h => h) (Or.inl ⟨by rfl, ?_⟩) h5 ?_
  rotate_left
  · intro w hSw; (go_simp; try with_reducible rfl)
  simp only [Act.put, List.setIfInBounds_toArray, List.set_cons_zero, List.set_cons_succ]
  refine wpAnyH_take (i := 8) (oi := ⟨some 14, _, _, _, _, _⟩) (v := ?_) rfl (by kernel_rfl) (by kernel_rfl) (by kernel_rfl) (fun _ _ _ h => h) (Or.inl ⟨by rfl, ?_⟩) h5 ?_
  rotate_left
  · intro w hSw; (go_simp; try with_reducible rfl)
  simp only [Act.put, List.setIfInBounds_toArray, List.set_cons_zero, List.set_cons_succ]
  refine wpAnyH_take (i := 9) (oi := ⟨some 15, _, _, _, _, _⟩) (v := ?_) rfl (by kernel_rfl) (by kernel_rfl) (by kernel_rfl) (fun _ _ _ h => h) (Or.inl ⟨by rfl, ?_⟩) h5 ?_
  rotate_left
  · intro w hSw; (go_simp; try with_reducible rfl)
  simp only [Act.put, List.setIfInBounds_toArray, List.set_cons_zero, List.set_cons_succ]
  refine wpAnyH_done (by kernel_rfl) ?_ _
  refine NoPanic.normal ?_
  have HB3 := Lib.hid (show FwS cf b w w3 from h3)
  clear d0 d1 d2 d3 d4 h2 hHeld h3 h5
  go_wp2_with fail
  go_loopw [16, 17] (fun v x wr => RelFw cf N SC p w3 c v x wr) (fun _ x _ => N - (intOf x).toNat)
  case atStart => exact ⟨0, _, Nat.zero_le _, rfl, rfl, fewI_start cf N SC _, H4.out⟩
  case round =>
    obtain ⟨m, q, hm, rfl, rfl, hI, hq⟩ := hrel
    obtain ⟨d0, d1, d2, d3, d4⟩ := (HB3.out.1.below HB3.out.2.1 hq.base).cells
    have hN := HN.out
    by_cases hlt : m < N
    · skip
      have hbt : (Go.bits .and .u64 ((g : Int) / 2 ^ m) 1 == 0) = p m := (zero_test g m HG.out).trans (HPP.out m).symm
      have hmu : (m : Int) < 64 := by have := HNR.out; omega
      have HFW := Lib.hid (hI.put hq.rack.ok (HFITS.out q hI.n hI.k) hlt)
      have HI := Lib.hid hI
      have HP := Lib.hid (show Calls Tryz.prog 10 #[.pointer (some ⟨c.r, 0, none⟩), .agg (cfA cf), .int .i64 (m : Int)] wr (QN w3 c q.n (q.turn m (supS (new SC) cf m)) .nilIface wr) from by
        have := hq.sput cf m
        rwa [HFW.out.2.1, serr_nil HFW.out.1] at this)
      have hcl := cntN_le p m
      have HCY := Lib.hid (cnt_yes (p := p) (m := m))
      have HCN := Lib.hid (cnt_no (p := p) (m := m))
      have hN8 := HNR.out.2.1
      have jn : (m : Int) < cf.n := by omega
      clear hI hm hN
      generalize cntN p m = cn at *
      go_wp2_with fail
      refine HP.out.mono ?_
      rintro e w5 ⟨rfl, h5, _⟩
      have H5 := Lib.hid h5
      clear h5 hq
      cases hb : p m with
      | true =>
        rw [hb] at hbt
        have hc := HCY.out hb
        have HX := Lib.hid (show FewI cf N SC p (m + 1) (q.turn m (supS (new SC) cf m)) from HI.out.next (by rw [hb]; exact HFW.out.2.2.1))
        have HC := Lib.hid hc
        clear hc hb
        go_wp2_with fail
        go_roundw
        case rel => exact ⟨m + 1, _, hlt, by go_num, by rw [HC.out]; rfl, HX.out, H5.out⟩
        case measure => simp [intOf]; omega
      | false =>
        rw [hb] at hbt
        have HC := Lib.hid (HCN.out hb)
        cases how with
        | true =>
          have HX := Lib.hid (show FewI cf N SC p (m + 1) (Rk.dying (q.turn m (supS (new SC) cf m)) m true) from by
            have e : Rk.dying (q.turn m (supS (new SC) cf m)) m true = q.turn m ((supS (new SC) cf m).wipe true) := by
              unfold Rk.dying
              rw [if_pos (show (q.turn m (supS (new SC) cf m)).has (m : Int) from ⟨by omega, by show (m : Int) < q.n; rw [HI.out.n]; omega⟩), Int.toNat_natCast]
              unfold Rk.wipe
              rw [turn_at, turn_turn]
            rw [e]
            refine HI.out.next ?_
            rw [hb, ← turn_turn]; exact HFW.out.2.2.2.1)
          have HD := Lib.hid (H5.out.die m)
          clear hb
          go_wp2_with fail
          refine HD.out.mono ?_
          rintro e w6 ⟨rfl, h6, _⟩
          have H6 := Lib.hid h6
          clear h6
          go_wp2_with fail
          go_roundw
          case rel => exact ⟨m + 1, _, hlt, by go_num, by rw [HC.out], HX.out, H6.out⟩
          case measure => simp [intOf]; omega
        | false =>
          have HX := Lib.hid (show FewI cf N SC p (m + 1) (Rk.rotten (q.turn m (supS (new SC) cf m)) m 0 m 7) from by
            have e : Rk.rotten (q.turn m (supS (new SC) cf m)) m 0 m 7 = q.turn m (rotnext (supS (new SC) cf m) 0 m 7) := by
              unfold Rk.rotten
              rw [if_pos (show (q.turn m (supS (new SC) cf m)).has (m : Int) from ⟨by omega, by show (m : Int) < q.n; rw [HI.out.n]; omega⟩), Int.toNat_natCast, turn_at, turn_turn]
            rw [e]
            refine HI.out.next ?_
            rw [hb, ← turn_turn]; exact HFW.out.2.2.2.2)
          have HD := Lib.hid (show Calls Tryz.prog 30 #[.pointer (some ⟨c.r, 0, none⟩), .int .i64 (m : Int), .int .i64 0, .int .i64 (m : Int), .int .u32 7] w5 (QN w3 c (q.turn m (supS (new SC) cf m)).n (Rk.rotten (q.turn m (supS (new SC) cf m)) m 0 m 7) (.bool (Rk.rots (q.turn m (supS (new SC) cf m)) m 0 m 7)) w5) from H5.out.rot m 0 m 7)
          clear hb
          go_wp2_with fail
          refine HD.out.mono ?_
          rintro e w6 ⟨rfl, h6, _⟩
          have H6 := Lib.hid h6
          clear h6
          go_wp2_with fail
          go_roundw
          case rel => exact ⟨m + 1, _, hlt, by go_num, by rw [HC.out], HX.out, H6.out⟩
          case measure => simp [intOf]; omega
    · obtain rfl : m = N := by omega
      have HFQ := Lib.hid (find_well hq.rack.ok hI.off (HFITS.out q hI.n hI.k) fun j hj => hI.done j (by rw [hI.n] at hj; exact hj))
      rw [hI.n] at HFQ
      have HQ := Lib.hid hq
      have HF := Lib.hid hq.sfind
      have hN8 := HNR.out.2.1
      have hcl := cntN_le p m
      clear hI hq
      generalize cntN p m = cn at *
      have jn : ¬ (m : Int) < cf.n := by omega
      clear hN
      by_cases hk : cf.k ≤ (cn : Int)
      · rw [decide_eq_true hk, if_pos hk] at HFQ
        rw [HFQ.out.2.2, show ferr q = .nilIface from if_pos HFQ.out.2.1] at HF
        go_wp2_with fail
        refine HF.out.mono ?_
        rintro e w5 ⟨rfl, hb5⟩
        have h5 := HQ.out.below hb5
        have h6 := h5.below (one_below w5 (.cells (cfA cf) 23))
        have hc6 := cfB_new w5 cf
        obtain ⟨u0, u1, u2, u3, u4⟩ := hc6.cells
        obtain ⟨y0, y1, y2, y3, y4⟩ := (HB3.out.1.below HB3.out.2.1 h6.base).cells
        have HB6 := Lib.hid (show Below w.heap.size w (w5.alloc (.cells (cfA cf) 23)) from bthen HB3.out.2.2 h6.base)
        have HRR := Lib.hid (super_runs (w5.alloc (.cells (cfA cf) 23)) (HT.out.below HB6.out))
        have heq : ∀ w, (binOp .eql 23 (.agg (cfA cf)) (.agg (cfA cf))).run Tryz.prog w = .ok (.bool true) w := fun w => by rw [eql_conf, decide_eq_true rfl]
        clear hb5 h5 h6 hc6 d0 d1 d2 d3 d4
        go_wp2_with fail
        refine HRR.out.mono ?_
        rintro e w7 ⟨rfl, hb7⟩
        go_wp2_with fail
        go_ret
        exact bit rfl (bthen HB6.out hb7)
      · rw [decide_eq_false hk, if_neg hk] at HFQ
        rw [HFQ.out.2.2, show ferr q = wrapV opSFind ((fnd q q.n).2 : Int) (errV 7) from if_neg (by rw [HFQ.out.2.1]; decide)] at HF
        generalize ((fnd q q.n).2 : Int) = hv at *
        go_wp2_with fail
        refine HF.out.mono ?_
        rintro e w5 ⟨rfl, hb5⟩
        have h5 := HQ.out.below hb5
        have h6 := h5.below (one_below w5 (.cells (cfA zeroC) 23))
        have hc6 := cfB_new w5 zeroC
        have HL6 := Lib.hid (show w5.heap.size < (w5.alloc (.cells (cfA zeroC) 23)).heap.size by simp)
        have HC6 := Lib.hid hc6
        obtain ⟨y0, y1, y2, y3, y4⟩ := (HB3.out.1.below HB3.out.2.1 h6.base).cells
        have HB6 := Lib.hid (show Below w.heap.size w (w5.alloc (.cells (cfA zeroC) 23)) from bthen HB3.out.2.2 h6.base)
        have CK := Lib.hid (kind_err [(opSFind, hv)] 7 (w5.alloc (.cells (cfA zeroC) 23)) _ rfl (HT.out.below HB6.out))
        unfold chain chain wrapV errV at CK
        unfold wrapV errV
        have heq : ∀ w, (binOp .eql 23 (.agg (cfA zeroC)) (.agg (cfA ⟨0, 0, 0, 0, 0⟩))).run Tryz.prog w = .ok (.bool true) w := fun w => by rw [eql_conf]; rfl
        clear hb5 h5 h6 hc6 d0 d1 d2 d3 d4
        go_wp2_with fail
        refine CK.out.mono ?_
        rintro e w7 ⟨rfl, hb7⟩
        obtain ⟨u0, u1, u2, u3, u4⟩ := (HC6.out.below HL6.out hb7).cells
        have HB7 := Lib.hid (bthen HB6.out hb7)
        have HRR := Lib.hid (super_runs w7 (HT.out.below HB7.out))
        clear hb7 y0 y1 y2 y3 y4
        go_wp2_with fail
        refine HRR.out.mono ?_
        rintro e w8 ⟨rfl, hb8⟩
        go_wp2_with fail
        go_ret
        exact bit rfl (bthen HB7.out hb8)
end Go.Proofs.YtfhnkjlegehaoaaGreatDoor
