import Derived.Test.YtfemgajplohogaaGreatDoorZYMem
import Derived.Test.YtfemgajplohogaaGreatDoorZOpenV
import Derived.Deep.RegionHeld3
import Derived.Test.YtfemgajplohogaaGreatDoorZBase
import Derived.Test.YtfemgajplohogaaGreatDoorZLaw
namespace Go.Proofs.YtfemgajplohogaaGreatDoor
open Go.RowKit Go.Deep Crc Dk Qk Go.Maps Hf
theorem VW.fail {w1 : World} {c : Lc} {cf : Cf} {n : Nat} {q : Rk} {g : Int} {down : Bool} {b : Nat} {w : World} (h : VW w1 c cf n q g down b w) : Calls Tryz.prog 63 #[.pointer (some ⟨b, 0, none⟩)] w (fun e w' => e = .returned (.tuple #[]) ∧ VW w1 c cf n q g true b w') := by
  refine (vfail_any w h.vb).mono ?_
  rintro e w' ⟨rfl, rfl⟩
  exact ⟨rfl, ⟨h.qs.rack.setV (by rw [h.nn]; exact h.farv) _ _, h.qs.base.setCell (p := ⟨b, 7, none⟩) h.le _⟩, h.nn, h.vb.setDown true, h.farv, h.le⟩
theorem VW.refuse {w1 : World} {c : Lc} {cf : Cf} {n : Nat} {q : Rk} {g : Int} {down : Bool} {b : Nat} {w : World} (h : VW w1 c cf n q g down b w) (hg : 1 ≤ g ∧ g ≤ 1152921504606846976) (s : Int) {bs : List (List UInt8)} {v0 : Value} {B : Nat} (hb : BkB B bs v0 w) (hf : Far B c n) {k : Int} (hk : refused cf q down g s bs = k) (hk0 : k ≠ 0) :
    Calls Tryz.prog 45 #[.pointer (some ⟨b, 0, none⟩), .int .i64 s, v0] w (fun e w' => ∃ v, KV k v ∧ e = .returned v ∧ VW w1 c cf n q g down b w' ∧ Below w.heap.size w w') := by
  refine (vcommit_any w h.qs.rack h.vb (by rw [h.nn]; exact h.farv) hg s bs v0 hb (by rw [h.nn]; exact hf)).mono ?_
  rintro e w' (⟨_, v, hkv, rfl, _, _, hbel⟩ | ⟨h0, _⟩)
  · rw [hk] at hkv
    exact ⟨v, hkv, rfl, h.below hbel, hbel⟩
  · rw [hk] at h0; exact absurd h0 hk0
theorem vw_set {w1 : World} {c : Lc} {cf : Cf} {n : Nat} {q : Rk} {g : Int} {down : Bool} {b B g5 m : Nat} {w : World} {xs : List Value} {cap : Nat} (h : VW w1 c cf n q g down b w) (ho : w.ownsRow B 3 1 (.slice (some ⟨g5, 0, none⟩) m cap) m xs) (hf : FarV B c n) (hB : w1.heap.size ≤ B) (i : Nat) (v : Value) : VW w1 c cf n q g down b (w.setCell ⟨g5, i, none⟩ v) := by
  have hne : g5 ≠ b := fun e => own_vb ho h.vb (by decide) (by rw [e]; rfl)
  have hg : B ≤ g5 := by
    rcases ho.2 with ⟨e, _⟩ | ⟨g', cap', cur, e, hg, _⟩
    · cases e
    · injection e with e _ _; injection e with e; injection e with e _ _; omega
  exact ⟨⟨h.qs.rack.setV (b := g5) (by rw [h.nn]; exact ⟨hf.1.mono hg, Nat.lt_of_lt_of_le hf.2 hg⟩) _ _, h.qs.base.setCell (p := ⟨g5, i, none⟩) (Nat.le_trans hB hg) _⟩, h.nn, by unfold VB; rw [heap_setCell_other w ⟨g5, i, none⟩ b v (fun e => hne e.symm)]; exact h.vb, h.farv, h.le⟩
def gsV (V : Vl) : List Value := (List.range 4).map fun x => .int .i64 (V.G x)
theorem gsV_set (V : Vl) (cf : Cf) (g : Int) (s : Nat) (hs : s < 4) (bs : List (List UInt8)) : (gsV V).set s (.int .i64 (g + 1)) = gsV (addY cf V (cRec g s bs)) := by
  have : s = 0 ∨ s = 1 ∨ s = 2 ∨ s = 3 := by omega
  rcases this with rfl | rfl | rfl | rfl <;> rfl
theorem gsV_at (V : Vl) {x : Nat} (hx : x < 4) : (gsV V)[x]? = some (.int .i64 (V.G x)) := by
  have : x = 0 ∨ x = 1 ∨ x = 2 ∨ x = 3 := by omega
  rcases this with rfl | rfl | rfl | rfl <;> rfl
def RelVNu (cf : Cf) (w4 : World) (c : Lc) (N : Nat) (P : Nat → Bool) (n0 b B g5 : Nat) (i : Value) (wr : World) : Prop :=
  ∃ (m : Nat) (V : Vl) (q : Rk), m ≤ 10 ∧ i = .int .i64 m ∧ VW w4 c cf N q (1 + m) false b wr ∧ Live cf V P q (1 + m) ∧ q.rem = -1 ∧ q.n = n0 ∧ B ≤ wr.heap.size ∧ wr.ownsRow B 3 1 (.slice (some ⟨g5, 0, none⟩) 4 4) 4 (gsV V)
def RelVNx (cf : Cf) (w4 : World) (c : Lc) (N : Nat) (q : Rk) (g : Int) (V : Vl) (b B g5 : Nat) (w8 : World) (i : Value) (wr : World) : Prop :=
  ∃ x : Nat, x ≤ 4 ∧ i = .int .i64 x ∧ VW w4 c cf N q g false b wr ∧ wr.ownsRow B 3 1 (.slice (some ⟨g5, 0, none⟩) 4 4) 4 (gsV V) ∧ w8.heap.size ≤ wr.heap.size
set_option maxHeartbeats 4000000 in
set_option maxRecDepth 100000 in
theorem numbers_any (w : World) (k_ n_ : Int) (vl : Value) (l : List Int) (hvl : SlI w.heap.size w vl l) (hT : Typ w) : Calls Tryz.prog 12 #[.int .i64 k_, .int .i64 n_, vl] w (Bit true w) := by
  have HT := Lib.hid hT
  have HVL := Lib.hid hvl
  obtain ⟨al, cl, rfl⟩ := hvl.len
  clear hT hvl
  go_enter Tryz.func12, Tryz.ntmps12
  go_wp2_with fail
  refine (fixed_any k_ n_ 4 2 _ (by omega) (by omega)).mono ?_
  rintro e w1 ⟨cf, hcf, rfl, hb1⟩
  have H2 := Lib.hid (show JfS cf w1.heap.size w (w1.alloc (.cells (cfA cf) 24)) from ⟨cfB_new w1 cf, by simp, balloc hb1 _⟩)
  have HCF := Lib.hid hcf
  have COP := Lib.hid (fun w' => opened_any w' cf hcf.1)
  obtain ⟨d0, d1, d2, d3, d4⟩ := CfB.cells H2.out.1
  clear hb1 hcf
  go_wp2_with fail
  generalize w1.alloc (.cells (cfA cf) 24) = w2 at *
  generalize w1.heap.size = bc at *
  refine (COP.out _).mono ?_
  rintro e w3 ⟨c, b, q0, w4, rfl, hvw, hb4, hlive, hrem, halive, hkk, hnn⟩
  have HJ3 := Lib.hid hvw
  have HL3 := Lib.hid hlive
  have HR3 := Lib.hid hrem
  have HALV := Lib.hid halive
  have HKQ := Lib.hid hkk
  have HNQ := Lib.hid hnn
  have HB4 := Lib.hid hb4
  have HBW := Lib.hid (fun (w' : World) (h : Below w4.heap.size w4 w') => show Below w.heap.size w w' from bthen H2.out.2.2 (bthen hb4 h))
  have HTY := Lib.hid (fun (w' : World) (h : Below w4.heap.size w4 w') => show Typ w' from HT.out.below (HBW.out w' h))
  have HCC := Lib.hid (fun (w' : World) (h : Below w4.heap.size w4 w') => show CfB cf bc w' from CfB.below H2.out.1 H2.out.2.1 (bthen hb4 h))
  have HRT := Lib.hid (show CfRight cf from hlive.on.right)
  have HENO := Lib.hid (show Enough cf (allP q0) q0.n from allP_enough hlive.on.fits)
  obtain ⟨N, hN⟩ : ∃ N, q0.n = N := ⟨_, rfl⟩
  rw [hN] at HJ3
  have HN := Lib.hid hN
  obtain ⟨K, hK⟩ : ∃ K : Nat, cf.k = K := ⟨cf.k.toNat, by have := hlive.on.right.2.2.1; omega⟩
  have HK := Lib.hid hK
  have HK8 := Lib.hid (show K ≤ 8 by have := hlive.on.right.2.2.2.1; have := hlive.on.right.2.2.2.2.1; omega)
  have HFAR := Lib.hid (show Far w3.heap.size c N from by have := hvw.qs.rack.far; rwa [hN] at this)
  have HCELL := Lib.hid (fun (w' : World) (h : Below w4.heap.size w4 w') => show w'.cell? ⟨bc, 0, none⟩ = some (.int .i64 cf.id) ∧ w'.cell? ⟨bc, 1, none⟩ = some (.int .i64 K) ∧ w'.cell? ⟨bc, 2, none⟩ = some (.int .i64 cf.n) ∧ w'.cell? ⟨bc, 3, none⟩ = some (.int .i64 cf.t) ∧ w'.cell? ⟨bc, 4, none⟩ = some (.int .i64 cf.s) by
    have := CfB.cells (HCC.out w' h); rwa [hK] at this)
  clear hvw hb4 hlive hrem halive hkk hnn hN hK d0 d1 d2 d3 d4
  go_wp2_with fail
  have HO0 := Lib.hid (show (w3.alloc (.cells #[.int .i64 1, .int .i64 1, .int .i64 1, .int .i64 1] 3)).ownsRow w3.heap.size 3 1 (.slice (some ⟨w3.heap.size, 0, none⟩) 4 4) 4 (gsV (V0 cf)) from own_new w3 w3.heap.size #[.int .i64 1, .int .i64 1, .int .i64 1, .int .i64 1] 3 1 4 (Nat.le_refl _) rfl (by decide))
  have HJ5 := Lib.hid (HJ3.out.below (one_below w3 (.cells #[.int .i64 1, .int .i64 1, .int .i64 1, .int .i64 1] 3)))
  have HSZ5 := Lib.hid (show w3.heap.size ≤ (w3.alloc (.cells #[.int .i64 1, .int .i64 1, .int .i64 1, .int .i64 1] 3)).heap.size by simp)
  have HFB := HFAR
  have HFV := Lib.hid (show FarV w3.heap.size c N from by have := HJ3.out.qs.rack.farV (Nat.le_refl _); rwa [HJ3.out.nn] at this)
  have HB0 := Lib.hid (show w4.heap.size ≤ w3.heap.size from HJ3.out.qs.base.size)
  generalize w3.alloc (.cells #[.int .i64 1, .int .i64 1, .int .i64 1, .int .i64 1] 3) = w5 at *
  generalize w3.heap.size = B at *
  go_loopw [11] (fun i wr => RelVNu cf w4 c N (allP q0) q0.n b B B i wr) (fun i _ => 10 - (intOf i).toNat)
  case atStart => exact ⟨0, V0 cf, q0, by omega, rfl, HJ5.out, HL3.out, HR3.out, rfl, HSZ5.out, HO0.out⟩
  case round =>
    obtain ⟨m, V, q, hm, rfl, hJ, hL, hrem, hnq, hsz, hO⟩ := hrel
    by_cases hlt : m < l.length ∧ m < 10
    · obtain ⟨hlt1, hlt2⟩ := hlt
      have HJ := Lib.hid hJ; have HL := Lib.hid hL; have HREM := Lib.hid hrem; have HNQ2 := Lib.hid hnq; have HSZ := Lib.hid hsz; have HO := Lib.hid hO; have HE := Lib.hid (show Enough cf (allP q0) q.n by rw [hnq]; exact HENO.out); obtain ⟨bl, ol, cl', hs1, hcell⟩ := HVL.out.num (Nat.le_refl _) (HBW.out _ hJ.qs.base) hlt1; injection hs1 with hs1 hs2 hs3; subst hs1 hs3; clear hs2
      have hlc := fun (w' : World) (h : Below w4.heap.size w4 w') => (HVL.out.num (Nat.le_refl _) (HBW.out _ h) hlt1)
      have HLC := Lib.hid (fun (w' : World) (h : Below w4.heap.size w4 w') => show w'.cell? ⟨bl, ol + m, none⟩ = some (.int .i64 (l.getD m 0)) by
        obtain ⟨b1, o1, c1, e1, e2⟩ := hlc w' h; injection e1 with e1 _ _; injection e1 with e1; injection e1 with e1 e3 _; subst e1 e3
        exact e2)
      clear hlc hJ hL hrem hnq hsz hO; generalize l.getD m 0 = lx at *; have CW := Lib.hid (within_int lx 0 3 wr (by omega) (by omega) (by omega)); go_wp2_with fail; refine CW.out.mono ?_; rintro e w5' ⟨sI, hsI, rfl, hw⟩; subst hw; obtain ⟨s, rfl⟩ := Int.eq_ofNat_of_zero_le hsI.1
      have hs3 : s < 4 := by omega
      have HS3 := Lib.hid hs3; clear hsI CW hcell; have CBK := Lib.hid (fun (n : Int) w3 => blocks_any K n w3 HK8.out); have HBL := Lib.hid (show (blks lx K).length = K from blks_length _ _); have HBL2 := Lib.hid (show (blks lx K).length = cf.k.toNat by rw [blks_length, HK.out]; rfl); go_wp2_with fail; have h5 := HJ.out.drew.qs.base
      have d1 := fun (w' : World) (h : Below w4.heap.size w4 w') => (HCELL.out w' h).2.1
      have lc := HLC.out
      have hwr : IntKind.i64.wrap (2 + (m : Int)) = 2 + (m : Int) := by simp [IntKind.wrap, IntKind.bits, IntKind.signed]; omega
      have hq2 : ((1 + (m : Int) + 1 : Int) != 2 + (m : Int)) = false := by
        have : (1 + (m : Int) + 1 : Int) = 2 + (m : Int) := by omega
        simpa using this
      refine wp_region_noPanic ?_; refine wp_region_held_drew (S := (fun w' => Below w4.heap.size w4 w')) (by kernel_rfl) h5 (fun hHeld => ?_); refine wpAnyH_take (i := 0) (oi := ⟨some 46, _, _, _, _, _⟩) (v := ?_) rfl (by kernel_rfl) (by kernel_rfl) (by kernel_rfl) (fun _ _ _ h => h) (Or.inl ⟨by rfl, ?_⟩) hHeld ?_
      rotate_left
      · intro w hSw; (go_simp; try with_reducible rfl)
      simp only [Act.put, List.setIfInBounds_toArray, List.set_cons_zero, List.set_cons_succ]; refine wpAnyH_take (i := 1) (oi := ⟨some 47, _, _, _, _, _⟩) (v := ?_) rfl (by kernel_rfl) (by kernel_rfl) (by kernel_rfl) (fun _ _ _ h => h) (Or.inl ⟨by rfl, ?_⟩) hHeld ?_
      rotate_left
      · intro w hSw; (go_simp; try with_reducible rfl)
      simp only [Act.put, List.setIfInBounds_toArray, List.set_cons_zero, List.set_cons_succ]; refine wpAnyH_take (i := 2) (oi := ⟨some 48, _, _, _, _, _⟩) (v := ?_) rfl (by kernel_rfl) (by kernel_rfl) (by kernel_rfl) (fun _ _ _ h => h) (Or.inl ⟨by rfl, ?_⟩) hHeld ?_
      rotate_left
      · intro w hSw; (go_simp; try with_reducible rfl)
      simp only [Act.put, List.setIfInBounds_toArray, List.set_cons_zero, List.set_cons_succ]; refine wpAnyH_take (i := 3) (oi := ⟨some 49, _, _, _, _, _⟩) (v := ?_) rfl (by kernel_rfl) (by kernel_rfl) (by kernel_rfl) (fun _ _ _ h => h) (Or.inl ⟨by rfl, ?_⟩) hHeld ?_
      rotate_left
      · intro w hSw; (go_simp; try with_reducible rfl)
      simp only [Act.put, List.setIfInBounds_toArray, List.set_cons_zero, List.set_cons_succ]; refine wpAnyH_take (i := 4) (oi := ⟨some 50, _, _, _, _, _⟩) (v := ?_) rfl (by kernel_rfl) (by kernel_rfl) (by kernel_rfl) (fun _ _ _ h => h) (Or.inl ⟨by rfl, ?_⟩) hHeld ?_
      rotate_left
      · intro w hSw; (go_simp; try with_reducible rfl)
      simp only [Act.put, List.setIfInBounds_toArray, List.set_cons_zero, List.set_cons_succ]; refine wpAnyH_take (i := 5) (oi := ⟨some 51, _, _, _, _, _⟩) (v := ?_) rfl (by kernel_rfl) (by kernel_rfl) (by kernel_rfl) (fun _ _ _ h => h) (Or.inl ⟨by rfl, ?_⟩) hHeld ?_
      rotate_left
      · intro w hSw; (go_simp; try with_reducible rfl)
      simp only [Act.put, List.setIfInBounds_toArray, List.set_cons_zero, List.set_cons_succ]; refine wpAnyH_take (i := 6) (oi := ⟨some 52, _, _, _, _, _⟩) (v := ?_) rfl (by kernel_rfl) (by kernel_rfl) (by kernel_rfl) (fun _ _ _ h => h) (Or.inl ⟨by rfl, ?_⟩) hHeld ?_
      rotate_left
      · intro w hSw; (go_simp; try with_reducible rfl)
      simp only [Act.put, List.setIfInBounds_toArray, List.set_cons_zero, List.set_cons_succ]; refine wpAnyH_take (i := 7) (oi := ⟨some 53, _, _, _, _, _⟩) (v := ?_) rfl (by kernel_rfl) (by kernel_rfl) (by kernel_rfl) (fun _ _ _ h => h) (Or.inl ⟨by rfl, ?_⟩) hHeld ?_
      rotate_left
      · intro w hSw; (go_simp; try with_reducible rfl)
      simp only [Act.put, List.setIfInBounds_toArray, List.set_cons_zero, List.set_cons_succ]; refine wpAnyH_ready (rs := [8]) (by kernel_rfl) (by simp) (AllReadyH.cons rfl (fun K hK => ?_) AllReadyH.nil); go_simp; refine (CBK.out _ _).mono ?_; rintro e w6 ⟨v6, rfl, ho6, hb6⟩; have HB56 := Lib.hid hb6.size; have HW6 := Lib.hid (HJ.out.drew.below hb6); have h6 := HW6.out.qs.base; have HA6 := Lib.hid (bkB_of ho6 (Nat.le_refl _)); have HO6 := Lib.hid (own_below (own_below HO.out ((Below.refl _ _).drew)) hb6); obtain ⟨a6, c6, rfl, -⟩ := own_slice' ho6; rw [HBL.out] at HA6; rw [HBL.out]; clear ho6 hb6; refine hK.out _ _ h6 (fun _ => ?_); clear hK K; refine wpAnyH_ready (rs := [9]) (by kernel_rfl) (by simp) (AllReadyH.cons rfl (fun K hK => ?_) AllReadyH.nil); go_simp; have CC := HW6.out.commits HL.out HE.out (by omega) (s := s) (by rw [HCF.out.2.1]; omega) (by rw [HBL2.out]) HA6.out (by have := HJ.out.qs.rack.far; rw [HJ.out.nn] at this; exact this); refine CC.mono ?_; rintro e w7 ⟨v7, q7, rfl, hrc7, hn7, _, ⟨rfl, hf7, hvw7, hl7⟩ | ⟨_, hne, _⟩⟩
      rotate_left
      · exact absurd HREM.out hne
      have HW7 := Lib.hid hvw7; have HL7 := Lib.hid hl7; have HREM7 := Lib.hid (hf7 HREM.out); have HN7 := Lib.hid hn7; have HO7 := Lib.hid (own_rcv HO6.out HFB.out hrc7 (own_vb HO6.out HW6.out.vb (by decide))); have HSZ7 := Lib.hid (Nat.le_trans (Nat.le_trans HSZ.out (Nat.le_trans (show wr.heap.size ≤ wr.drew.heap.size from Nat.le_refl _) HB56.out)) hrc7.size); have h7 := hvw7.qs.base; clear hrc7 hn7 hf7 hvw7 hl7 CC; refine hK.out _ _ h7 (fun _ => ?_); clear hK K; refine wpAnyH_take (i := 10) (oi := ⟨some 56, _, _, _, _, _⟩) (v := ?_) rfl (by kernel_rfl) (by kernel_rfl) (by kernel_rfl) (fun _ _ _ h => h) (Or.inl ⟨by rfl, ?_⟩) h7 ?_
      rotate_left
      · intro w hSw; (go_simp; try with_reducible rfl)
      simp only [Act.put, List.setIfInBounds_toArray, List.set_cons_zero, List.set_cons_succ]; refine wpAnyH_take (i := 11) (oi := ⟨some 57, _, _, _, _, _⟩) (v := ?_) rfl (by kernel_rfl) (by kernel_rfl) (by kernel_rfl) (fun _ _ _ h => h) (Or.inl ⟨by rfl, ?_⟩) h7 ?_
      rotate_left
      · intro w hSw; (go_simp; try with_reducible rfl)
      simp only [Act.put, List.setIfInBounds_toArray, List.set_cons_zero, List.set_cons_succ]; refine wpAnyH_take (i := 12) (oi := ⟨some 58, _, _, _, _, _⟩) (v := ?_) rfl (by kernel_rfl) (by kernel_rfl) (by kernel_rfl) (fun _ _ _ h => h) (Or.inl ⟨by rfl, ?_⟩) h7 ?_
      rotate_left
      · intro w hSw; (go_simp; try with_reducible rfl)
      simp only [Act.put, List.setIfInBounds_toArray, List.set_cons_zero, List.set_cons_succ]; refine wpAnyH_take (i := 14) (oi := ⟨some 60, _, _, _, _, _⟩) (v := ?_) rfl (by kernel_rfl) (by kernel_rfl) (by kernel_rfl) (fun _ _ _ h => h) (Or.inl ⟨by rfl, ?_⟩) h7 ?_
      rotate_left
      · intro w hSw; (go_simp; try with_reducible rfl)
      simp only [Act.put, List.setIfInBounds_toArray, List.set_cons_zero, List.set_cons_succ]; refine wpAnyH_take (i := 15) (oi := ⟨some 61, _, _, _, _, _⟩) (v := ?_) rfl (by kernel_rfl) (by kernel_rfl) (by kernel_rfl) (fun _ _ _ h => h) (Or.inl ⟨by rfl, ?_⟩) h7 ?_
      rotate_left
      · intro w hSw; (go_simp; try with_reducible rfl)
      simp only [Act.put, List.setIfInBounds_toArray, List.set_cons_zero, List.set_cons_succ]; refine wpAnyH_ready (rs := [13]) (by kernel_rfl) (by simp) (AllReadyH.cons rfl (fun K hK => ?_) AllReadyH.nil); go_simp; refine (vseq_any _ HW7.out.vb).mono ?_; rintro e w8 ⟨rfl, hw8⟩; subst hw8; refine hK.out _ _ h7 (fun _ => ?_); clear hK K; refine wpAnyH_take (i := 16) (oi := ⟨some 62, _, _, _, _, _⟩) (v := ?_) rfl (by kernel_rfl) (by kernel_rfl) (by kernel_rfl) (fun _ _ _ h => h) (Or.inl ⟨by rfl, ?_⟩) h7 ?_
      rotate_left
      · intro w hSw; (go_simp; try with_reducible rfl)
      simp only [Act.put, List.setIfInBounds_toArray, List.set_cons_zero, List.set_cons_succ]; refine wpAnyH_take (i := 17) (oi := ⟨some 63, _, _, _, _, _⟩) (v := ?_) rfl (by kernel_rfl) (by kernel_rfl) (by kernel_rfl) (fun _ _ _ h => h) (Or.inl ⟨by rfl, ?_⟩) h7 ?_
      rotate_left
      · intro w hSw; (go_simp; try with_reducible rfl)
      simp only [Act.put, List.setIfInBounds_toArray, List.set_cons_zero, List.set_cons_succ]; refine wpAnyH_done (by kernel_rfl) ?_ _; refine NoPanic.normal ?_; have HG1 := Lib.hid (show (1 + (m : Int) + 1) = 2 + (m : Int) by omega); clear d1 lc h5 hHeld h6 h7; have e5 := own_cell HO7.out (gsV_at V HS3.out); have f5 := own_frozen HO7.out s; have HO8 := Lib.hid (own_set HO7.out s (.int .i64 (1 + (m : Int) + 1))); rw [gsV_set V cf (1 + (m : Int)) s HS3.out (blks lx K)] at HO8; rw [HG1.out] at HO8; have HJ8 := Lib.hid (show VW w4 c cf N q7 (1 + (m : Int) + 1) false b (w7.setCell ⟨B, s, none⟩ (.int .i64 (2 + (m : Int)))) from vw_set HW7.out HO7.out HFV.out HB0.out s _)
      obtain ⟨V', hV'⟩ : ∃ V', V' = addY cf V (cRec (1 + (m : Int)) s (blks lx K)) := ⟨_, rfl⟩
      rw [← hV'] at HO8 HL7; have HE7 := Lib.hid (show Enough cf (allP q0) q7.n by rw [HN7.out]; exact HE.out); have HSZ8 := Lib.hid (show B ≤ (w7.setCell ⟨B, s, none⟩ (.int .i64 (2 + (m : Int)))).heap.size from Nat.le_trans HSZ7.out ((Below.refl 0 w7).setCell (p := ⟨B, s, none⟩) (Nat.zero_le _) _).size); have HN8 := Lib.hid (HN7.out.trans HNQ2.out); have HHE := Lib.hid (show (1 + ((m + 1 : Nat) : Int)) = 1 + (m : Int) + 1 by omega); clear hV'; go_wp2_with fail; clear e5 f5; generalize w7.setCell ⟨B, s, none⟩ (.int .i64 (2 + (m : Int))) = w8 at *
      go_loopw [71] (fun i wr => RelVNx cf w4 c N q7 (1 + (m : Int) + 1) V' b B B w8 i wr) (fun i _ => 4 - (intOf i).toNat)
      case atStart => exact ⟨0, by omega, rfl, HJ8.out, HO8.out, Nat.le_refl _⟩
      case round =>
        obtain ⟨x, hx, rfl, hJ, hO, hz⟩ := hrel; have HJx := Lib.hid hJ; have HOx := Lib.hid hO; have HZx := Lib.hid hz
        by_cases hltx : x < 4
        · have hxt : ((x : Nat) : Int) < cf.t := by rw [HCF.out.2.1]; omega
          have CR := Lib.hid (hJ.reads HL7.out.inv HL7.out.on (t := x) hxt (HL7.out.read HE7.out (t := x) hxt).1); clear hJ hO hz hxt; go_wp2_with fail; refine CR.out.mono ?_; rintro e w9 ⟨vx, rfl, hx9, hb9⟩; have HJ9 := Lib.hid (HJx.out.below hb9); have HO9 := Lib.hid (own_below HOx.out hb9); have HZ9 := Lib.hid (Nat.le_trans HZx.out hb9.size); have e9 := own_cell HO9.out (gsV_at V' hltx); obtain ⟨ax, cx, rfl, -⟩ := own_slice' hx9; clear hx9 hb9; go_wp2_with fail
          go_roundw
          case rel => exact ⟨x + 1, hltx, by go_num, HJ9.out, HO9.out, HZ9.out⟩
          case measure => simp [intOf]; omega
        · obtain rfl : x = 4 := by omega
          clear hJ hO hz; go_wp2_with fail
          go_roundw
          case rel => exact ⟨m + 1, V', q7, by omega, by go_num, by rw [HHE.out]; exact HJx.out, by rw [HHE.out]; exact HL7.out, HREM7.out, HN8.out, Nat.le_trans HSZ8.out HZx.out, HOx.out⟩
          case measure => simp [intOf]; omega
    · have HJ := Lib.hid hJ
      have HL := Lib.hid hL; have HM := Lib.hid hm
      have htail : ¬ ((m : Int) < (l.length : Int)) ∨ ((m : Int) < (l.length : Int)) ∧ ¬ (m : Int) < 10 := by
        by_cases h1 : m < l.length
        · exact Or.inr ⟨by omega, by omega⟩
        · exact Or.inl (by omega)
      have CFA := Lib.hid (hJ.fail); have HCB := Lib.hid (fun (z : Int) w3 => blocks_any K z w3 HK8.out); clear hJ hL hrem hnq hsz hO hm hlt
      rcases htail with h1 | ⟨h1, h2⟩
      all_goals
        go_wp2_with fail; refine CFA.out.mono ?_; rintro e w10 ⟨rfl, hj10⟩; have HJ10 := Lib.hid hj10; have CRD := Lib.hid (vread_down w10 hj10.vb 0); clear hj10; go_wp2_with fail; refine CRD.out.mono ?_; rintro e w11 ⟨⟨v11, hkv11, rfl⟩, hw11⟩; subst hw11; have HKV := Lib.hid hkv11; have CDN := Lib.hid (vdown_any w10 HJ10.out.vb); clear hkv11; go_wp2_with fail; refine CDN.out.mono ?_; rintro e w12 ⟨rfl, hw12⟩; subst hw12; go_wp2_with fail; refine (kind_kv HKV.out w10 (HTY.out _ HJ10.out.qs.base)).mono ?_; rintro e w13 ⟨rfl, hb13⟩; have HJ13 := Lib.hid (HJ10.out.below hb13); clear hb13; obtain ⟨d0, d1, d2, d3, d4⟩ := HCELL.out _ HJ13.out.qs.base; go_wp2_with fail; refine (HCB.out _ _).mono ?_; rintro e w14 ⟨v14, rfl, ho14, hb14⟩; have HJ14 := Lib.hid (HJ13.out.below hb14); have HA14 := Lib.hid (bkB_of ho14 (Nat.le_refl _)); have HF14 := Lib.hid (show Far w13.heap.size c N from by have := HJ13.out.qs.rack.far; rwa [HJ13.out.nn] at this); obtain ⟨a14, c14, rfl, -⟩ := own_slice' ho14; clear ho14 hb14 d0 d1 d2 d3 d4
        have CC := Lib.hid (HJ14.out.refuse ⟨by have := HL.out.s1; omega, by have := HM.out; omega⟩ 0 HA14.out HF14.out (show refused cf q true (1 + (m : Int)) 0 (blks 1 K) = 5 by
          rw [refused_ok (by decide) (by rw [HCF.out.2.1]; decide) (by rw [blks_length, HK.out]), show (true || q.off) = true from rfl, if_pos rfl]) (by decide))
        go_wp2_with fail; refine CC.out.mono ?_; rintro e w15 ⟨v15, hkv15, rfl, hj15, hb15⟩; have HJ15 := Lib.hid hj15; have HKV15 := Lib.hid hkv15; obtain ⟨T15, u15, hv15⟩ := hkv15.some (by decide); subst hv15; clear hkv15 hj15 hb15; go_wp2_with fail; refine (kind_kv HKV15.out w15 (HTY.out _ HJ15.out.qs.base)).mono ?_; rintro e w16 ⟨rfl, hb16⟩; have HB16 := Lib.hid (bthen HJ15.out.qs.base hb16); have CRU := Lib.hid (runs_any w16 (HTY.out _ HB16.out)); clear hb16; go_wp2_with fail; refine CRU.out.mono ?_; rintro e w17 ⟨rfl, hb17⟩; have HB17 := Lib.hid (HBW.out _ (bthen HB16.out hb17)); clear hb17; go_wp2_with fail; go_ret; exact bit rfl HB17.out
end Go.Proofs.YtfemgajplohogaaGreatDoor
namespace Go.Proofs.YtfemgajplohogaaGreatDoor.volumeNumbers
open Go.ChangeShapes Go.WideShapes Go.ChangeAt Go.RowKit
set_option maxRecDepth 100000 in
theorem contract (H : Type) (enc : TypeId × Value → H) (W : World) (base : Nat) (args : Array Value) (ds gs : List (DataW H)) (before : List MemPlace)
    (hval : ∀ (j : Nat) t v, Tryz.f12.params[j]? = some t → args[j]? = some v → Value.okWide Tryz.prog W .any base t v)
    (hW : DataW.Whole enc Tryz.prog Tryz.f12.params.toList Rows.volumeNumbersSpec.vars false W args.toList ds gs before) (hL : laidMetH Tryz.prog Rows.volumeNumbersRow.laid W) :
    Calls Tryz.prog 12 args W fun e W' => ∃ v, e = .returned v ∧ Rows.volumeNumbersSpec.post enc Tryz.prog Tryz.f12 false true false false W args v W' := by
  have hW' := hW
  obtain ⟨p, q, hA0, hV, rfl, hfz, hnd⟩ := hW
  have hA : DataW.TrodAll enc Tryz.prog W 0 (fun _ => true) true Tryz.f12.params.toList args.toList ds p := hA0
  rw [Tryz.params12] at hA hval
  obtain ⟨v0, vs0, d0, ds0, p0, q0, hargs, rfl, rfl, h0, r0⟩ := trodAll_cons hA
  obtain ⟨v1, vs1, d1, ds1, p1, q1, rfl, rfl, rfl, h1, r1⟩ := trodAll_cons r0
  obtain ⟨v2, vs2, d2, ds2, p2, q2, rfl, rfl, rfl, h2, r2⟩ := trodAll_cons r1
  obtain ⟨rfl, rfl, rfl⟩ := trodAll_nil r2
  obtain rfl : args = #[v0, v1, v2] := Array.ext' hargs
  obtain ⟨k_, rfl, rfl, rfl, _⟩ := open_int Tryz.underlying3 (hval 0 3 v0 (by simp) (by simp)) h0
  obtain ⟨n_, rfl, rfl, rfl, _⟩ := open_int Tryz.underlying3 (hval 1 3 v1 (by simp) (by simp)) h1
  have hv2 := (hval 2 106 v2 (by simp) (by simp))
  obtain ⟨l, hsl, hll⟩ := open_nums hv2 h2
  obtain ⟨rfl, rfl⟩ := trodVars_none hV
  clear hA0
  have hw : Calls Tryz.prog 12 #[.int .i64 k_, .int .i64 n_, v2] W (Bit true W) := numbers_any W k_ n_ v2 l hsl (handle_of_laid hL)
  refine hw.mono fun e W' ⟨he, hg⟩ => ?_
  subst he
  exact ⟨_, rfl, law_post Tryz.laidOut (by kernel_rfl) (by kernel_rfl) (by kernel_rfl) Tryz.underlying4 hW' hg rfl rfl rfl⟩
theorem reads (os : Os) {H : Type} (enc : TypeId × Value → H) : ∃ places, DataW.whole enc Tryz.prog ((laidWorld os).forCall (fun _ _ => 0) ⟨#[], #[.int .i64 0, .int .i64 0, .slice none 0 0], []⟩).memory Tryz.f12.params.toList Rows.volumeNumbersSpec.vars false (#[.int .i64 0, .int .i64 0, .slice none 0 0] : Array Value).toList 8 = some ([.lit (.int .i64 0), .lit (.int .i64 0), .nil], [], places) :=
  ⟨[], by kernel_rfl⟩
set_option maxRecDepth 100000 in
theorem lifted (os : Os) (started : os.Started) (H : Type) (enc : TypeId × Value → H) (F : Stop.Interp) :
    ReturnsInHanded {} Tryz.checked os 12 .any ((OpenSpec.ofChange Rows.volumeNumbersSpec).preRow enc Tryz.prog Tryz.f12 Rows.volumeNumbersRow.domain false Rows.volumeNumbersRow.laid) (((OpenSpec.ofChange Rows.volumeNumbersSpec).at F).post enc Tryz.prog Tryz.f12 false true false false) := by
  obtain ⟨places, hx⟩ := reads os enc
  refine returnsInHanded_of_row (C := Tryz.checked) (s := OpenSpec.ofChange Rows.volumeNumbersSpec) Tryz.own started (by kernel_rfl) Tryz.func12
    (witness_row_at (enc := enc) (C := Tryz.checked) false (laidWorld os) #[.int .i64 0, .int .i64 0, .slice none 0 0] rfl (by kernel_rfl) (by kernel_rfl) (by kernel_rfl)
      (OpenSpec.preRow_of_cond 8 hx (by kernel_rfl) (fun k hk => by cases hk) (by kernel_rfl) (laidWorld_met os _))) ?_
  intro W base args ds gs before hval hW _ _ _ hL _ _
  exact contract H enc W base args ds gs before hval hW hL
set_option maxHeartbeats 40000000 in
theorem closed : joinedFacts Tryz.prog 12 Tryz.f12 (OpenSpec.ofChange Rows.volumeNumbersSpec).bare Rows.volumeNumbersRow = true := by
  unfold joinedFacts
  simp only [Bool.and_eq_true]
  repeat' refine And.intro ?_ ?_
  all_goals (as_aux_lemma => kernel_rfl)
theorem said : Rows.VolumeNumbersSaid :=
  OpenClaim.holds_of_cond 12 Tryz.f12 rfl rfl rfl rfl rfl rfl rfl ⟨rfl, rfl, rfl, rfl, rfl⟩ rfl rfl rfl rfl rfl (by kernel_rfl) Tryz.func12 closed
    (of_decide_eq_true (by kernel_rfl)) (by unfold Func.isWrapper; first | (rw [if_pos (by decide +kernel)]; kernel_rfl) | (rw [if_neg (by decide +kernel)]; exact ⟨rfl, rfl⟩))
    (fun os started H enc _ F => by rw [OpenClaim.pre_eq_preRow]; exact lifted os started H enc F)
theorem plain (f : FuncId) (fn : Func) (hf : Tryz.pinned.checked.prog.funcNamed "stave/stavelaw12.VolumeNumbers" = some f) (hfn : Tryz.pinned.checked.prog.funcs[f]? = some fn) :
    true = Tryz.pinned.checked.prog.looks [] ∧ ∀ (j : Nat) t, fn.params[j]? = some t → Tryz.pinned.checked.prog.wantsStandIn t = false := by
  obtain rfl : f = 12 := Option.some.inj ((show Tryz.prog.funcNamed "stave/stavelaw12.VolumeNumbers" = some 12 by kernel_rfl).symm.trans hf) |>.symm
  obtain rfl : fn = Tryz.f12 := (Option.some.inj (Tryz.func12.symm.trans hfn)).symm
  have hall : (Tryz.f12.params.toList.all fun t => !Tryz.prog.wantsStandIn t) = true := by kernel_rfl
  refine ⟨by kernel_rfl, fun j t ht => ?_⟩
  have := List.all_eq_true.1 hall t (by simpa using Array.mem_of_getElem? ht)
  have h2 : Tryz.prog.wantsStandIn t = false := by simpa using this
  exact h2
end Go.Proofs.YtfemgajplohogaaGreatDoor.volumeNumbers
namespace Go.Proofs.YtfemgajplohogaaGreatDoor
theorem VolumeNumbers_card : Rows.VolumeNumbersCardSaid :=
  Claim7.holds_tied_plain_at .later [] _ _ _ _ volumeNumbers.said (fun _ h => by cases h) (by kernel_rfl) (fun _ h => by cases h) volumeNumbers_row_tie rfl ⟨rfl, rfl⟩ (by kernel_rfl) rfl volumeNumbers.plain (by kernel_rfl)
#print axioms VolumeNumbers_card
end Go.Proofs.YtfemgajplohogaaGreatDoor
