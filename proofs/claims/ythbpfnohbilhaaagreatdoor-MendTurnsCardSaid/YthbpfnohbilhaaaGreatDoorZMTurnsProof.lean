import Derived.Test.YthbpfnohbilhaaaGreatDoorZMMem
import Derived.Deep.RegionHeld3
import Derived.Test.YthbpfnohbilhaaaGreatDoorZBase
import Derived.Test.YthbpfnohbilhaaaGreatDoorZLaw
import Derived.Test.YthbpfnohbilhaaaGreatDoorZOpenV
namespace Go.Proofs.YthbpfnohbilhaaaGreatDoor
open Go.RowKit Go.Deep Crc Dk Qk Go.Maps Hf
def RelMT (w4 : World) (c : Lc) (cf : Cf) (N : Nat) (q : Rk) (b mb t : Nat) (x : Value) (wr : World) : Prop :=
 ∃ i : Nat, i ≤ t ∧ x = .int .i64 i ∧ MW w4 c cf N q 1 false b (i % groups cf) mb wr
def MwS (w4 : World) (c : Lc) (cf : Cf) (N : Nat) (q : Rk) (down : Bool) (b g mb bc : Nat) (w' : World) : Prop := MW w4 c cf N q 1 down b g mb w' ∧ CfB cf bc w' ∧ bc < w'.heap.size
theorem MwS.then {w4 : World} {c : Lc} {cf : Cf} {N : Nat} {q : Rk} {down : Bool} {b g mb bc : Nat} {w w' : World} (h : MwS w4 c cf N q down b g mb bc w) (hb : Below w.heap.size w w') : MwS w4 c cf N q down b g mb bc w' := ⟨h.1.below hb, CfB.below h.2.1 h.2.2 hb, Nat.lt_of_lt_of_le h.2.2 hb.size⟩
theorem MwS.drew {w4 : World} {c : Lc} {cf : Cf} {N : Nat} {q : Rk} {down : Bool} {b g mb bc : Nat} {w : World} (h : MwS w4 c cf N q down b g mb bc w) : MwS w4 c cf N q down b g mb bc w.drew := ⟨h.1.drew, h.2.1, h.2.2⟩
theorem MW.tickDown {w1 : World} {c : Lc} {cf : Cf} {n : Nat} {q : Rk} {vg : Int} {down : Bool} {b g mb : Nat} {w : World} (h : MW w1 c cf n q vg down b g mb w) (hd : down = true ∨ q.off = true) :
  Calls Tryz.prog 22 #[.pointer (some ⟨mb, 0, none⟩)] w (fun e w' => ∃ v, KV 5 v ∧ e = .returned (.tuple #[.int .i64 0, v]) ∧ MW w1 c cf n q vg down b g mb w' ∧ Below w.heap.size w w') := by
 refine (tick_down w h.vw.qs.rack h.vw.vb h.cu hd).mono ?_
 rintro e w' ⟨rfl, hb, _⟩
 exact ⟨_, (KV.err (k := 5) (by decide)).wrap (by decide) _ _, rfl, h.below hb, hb⟩
theorem MW.fail {w1 : World} {c : Lc} {cf : Cf} {n : Nat} {q : Rk} {vg : Int} {down : Bool} {b g mb : Nat} {w : World} (h : MW w1 c cf n q vg down b g mb w) : Calls Tryz.prog 28 #[.pointer (some ⟨b, 0, none⟩)] w (fun e w' => e = .returned (.tuple #[]) ∧ MW w1 c cf n q vg true b g mb w') := by
 refine (vfail_any w h.vw.vb).mono ?_
 rintro e w' ⟨rfl, rfl⟩
 exact ⟨rfl, h.vol ⟨⟨h.vw.qs.rack.setV (by rw [h.vw.nn]; exact h.vw.farv) _ _, h.vw.qs.base.setCell (p := ⟨b, 7, none⟩) h.vw.le _⟩, h.vw.nn, h.vw.vb.setDown true, h.vw.farv, h.vw.le⟩ (RCV.set c n b 7 _ w)⟩
theorem slU_none (B : Nat) (w : World) : SlU B w (.slice none 0 0) [] := Or.inl ⟨rfl, _, _, rfl⟩
theorem flush_off {q : Rk} (h : 0 < q.n) (ho : q.off = false) (hl : (q.s 0).dead = false) : ((q.arm 0).flush 0).off = true := by
 have hr : (q.arm 0).ready ((0 : Nat) : Int) = 0 := ready_ok (q := q.arm 0) h ho hl
 have := (flush_last (q := q.arm 0) (i := ((0 : Nat) : Int)) hr rfl).1
 have e : (q.arm 0).flush 0 = (q.arm 0).spent := this
 rw [e]
 unfold Rk.spent
 rw [if_pos (show (q.arm 0).rem = 0 from rfl)]
set_option maxHeartbeats 4000000 in
set_option maxRecDepth 100000 in
theorem turns_any (w : World) (k_ n_ t_ : Int) (hT : Typ w) : Calls Tryz.prog 3 #[.int .i64 k_, .int .i64 n_, .int .i64 t_] w (Bit true w) := by
 have HT := hI hT
 clear hT
 go_enter Tryz.func3, Tryz.ntmps3
 go_wp2_with fail
 refine (fixed_any k_ n_ 3 2 _ (by omega) (by omega)).mono ?_
 rintro e w1 ⟨cf, hcf, rfl, hb1⟩
 have H2 := hI (show JfS cf w1.heap.size w (w1.alloc (.cells (cfA cf) 23)) from ⟨cfB_new w1 cf, by simp, balloc hb1 _⟩)
 have HCF := hI hcf
 have COP := hI (fun w' => opened13_ok w' cf hcf.1)
 obtain ⟨d0, d1, d2, d3, d4⟩ := CfB.cells H2.out.1
 clear hb1 hcf
 go_wp2_with fail
 generalize w1.alloc (.cells (cfA cf) 23) = w2 at *
 generalize w1.heap.size = bc at *
 refine (COP.out _).mono ?_
 rintro e w3 ⟨c, b, q0, w4, rfl, hvw, hb4, hlive, hrem, halive, hkk, hnn⟩
 have HJ3 := hI hvw
 have HL3 := hI hlive
 have HR3 := hI hrem
 have HALV := hI halive
 have HKQ := hI hkk
 have HNQ := hI hnn
 have HB4 := hI hb4
 have HBW := hI (fun (w' : World) (h : Below w4.heap.size w4 w') => show Below w.heap.size w w' from bthen H2.out.2.2 (bthen hb4 h))
 have HTY := hI (fun (w' : World) (h : Below w4.heap.size w4 w') => show Typ w' from HT.out.below (HBW.out w' h))
 have HCC := hI (fun (w' : World) (h : Below w4.heap.size w4 w') => show CfB cf bc w' from CfB.below H2.out.1 H2.out.2.1 (bthen hb4 h))
 have HRT := hI (show CfRight cf from hlive.on.right)
 have HENO := hI (show Enough cf (allP q0) q0.n from allP_enough hlive.on.fits)
 obtain ⟨N, hN⟩ : ∃ N, q0.n = N := ⟨_, rfl⟩
 rw [hN] at HJ3
 have HN := hI hN
 obtain ⟨K, hK⟩ : ∃ K : Nat, cf.k = K := ⟨cf.k.toNat, by have := hlive.on.right.2.2.1; omega⟩
 have HK := hI hK
 have HK8 := hI (show K ≤ 8 by have := hlive.on.right.2.2.2.1; have := hlive.on.right.2.2.2.2.1; omega)
 have HFAR := hI (show Far w3.heap.size c N from by have := hvw.qs.rack.far; rwa [hN] at this)
 have HCELL := hI (fun (w' : World) (h : Below w4.heap.size w4 w') => show w'.cell? ⟨bc, 0, none⟩ = some (.int .i64 cf.id) ∧ w'.cell? ⟨bc, 1, none⟩ = some (.int .i64 K) ∧ w'.cell? ⟨bc, 2, none⟩ = some (.int .i64 cf.n) ∧ w'.cell? ⟨bc, 3, none⟩ = some (.int .i64 cf.t) ∧ w'.cell? ⟨bc, 4, none⟩ = some (.int .i64 cf.s) by
  have := CfB.cells (HCC.out w' h); rwa [hK] at this)
 clear hvw hb4 hlive hrem halive hkk hnn hN hK d0 d1 d2 d3 d4
 have HTT := hI (show cf.t = 3 ∧ cf.s = 2 from HCF.out.2)
 have HG6 := hI (show groups cf = 6 by unfold groups; rw [HTT.out.1, HTT.out.2]; rfl)
 have HALL := hI (show ∀ g, g < groups cf → HasG cf (V0 cf) q0 g from by have h := HL3.out; rw [allP_on HALV.out] at h; exact h.hasAll)
 have CGR := hI (fun W => show Calls Tryz.prog 23 #[.agg (cfA cf)] W (Num 6 W) from by have := mgroups_any W cf HRT.out; rwa [HG6.out] at this)
 go_wp2_with fail
 refine (mnew_any _ b).mono ?_
 rintro e w5 ⟨rfl, hm5, hb5⟩
 have HM5 := hI (HJ3.out.cursor hm5 hb5)
 generalize w3.heap.size = mb at *
 clear hm5 hb5
 go_wp2_with fail
 refine HM5.out.at.mono ?_
 rintro e w5' ⟨rfl, hw⟩
 subst hw
 go_wp2_with fail
 refine (within_int t_ 0 30 _ (by omega) (by omega) (by omega)).mono ?_
 rintro e w5' ⟨tI, htI, rfl, hw⟩
 subst hw
 obtain ⟨t, rfl⟩ := Int.eq_ofNat_of_zero_le htI.1
 have ht30 : t ≤ 30 := by omega
 clear htI
 go_wp2_with fail
 go_loopw [12] (fun x wr => RelMT w4 c cf N q0 b mb t x wr) (fun x _ => t - (intOf x).toNat)
 case atStart => exact ⟨0, Nat.zero_le _, rfl, by rw [HG6.out]; exact HM5.out⟩
 case round =>
  obtain ⟨i, hi, rfl, hM⟩ := hrel
  by_cases hlt : i < t
  ·have CT := hI (hM.tick HL3.out.on.fits (by rw [HG6.out]; omega) HL3.out.on.off HL3.out.whole)
   clear hM; go_wp2_with fail; refine CT.out.mono ?_; rintro e wt ⟨q', k, m, v, rfl, hkv, hT, _, hM', hC'⟩; obtain ⟨hk0, hqq, hm0⟩ := tick_idle HL3.out (by rw [HN.out]; rw [HN.out] at HENO; exact HENO.out) HR3.out (HALL.out (i % groups cf) (by rw [HG6.out]; omega)) (by rw [HG6.out]; omega) hT; subst hk0 hm0; rw [hqq] at hM'; obtain rfl := hkv.nil rfl
   have h2 : MwS w4 c cf N q0 false b ((i + 1) % 6) mb bc wt := ⟨by have := hM'; rw [HG6.out, show (i % 6 + 1) % 6 = (i + 1) % 6 by omega] at this; exact this, HCC.out _ hM'.vw.qs.base, Nat.lt_of_lt_of_le H2.out.2.1 (by have := hM'.vw.qs.base.size; have := HB4.out.size; omega)⟩
   have d0 : ∀ w', MwS w4 c cf N q0 false b ((i + 1) % 6) mb bc w' → w'.cell? ⟨bc, 0, none⟩ = some (.int .i64 cf.id) := fun w' h => h.2.1.cell 0
   have d1 : ∀ w', MwS w4 c cf N q0 false b ((i + 1) % 6) mb bc w' → w'.cell? ⟨bc, 1, none⟩ = some (.int .i64 cf.k) := fun w' h => h.2.1.cell 1
   have d2 : ∀ w', MwS w4 c cf N q0 false b ((i + 1) % 6) mb bc w' → w'.cell? ⟨bc, 2, none⟩ = some (.int .i64 cf.n) := fun w' h => h.2.1.cell 2
   have d3 : ∀ w', MwS w4 c cf N q0 false b ((i + 1) % 6) mb bc w' → w'.cell? ⟨bc, 3, none⟩ = some (.int .i64 cf.t) := fun w' h => h.2.1.cell 3
   have d4 : ∀ w', MwS w4 c cf N q0 false b ((i + 1) % 6) mb bc w' → w'.cell? ⟨bc, 4, none⟩ = some (.int .i64 cf.s) := fun w' h => h.2.1.cell 4
   have hw1 : IntKind.i64.wrap ((i : Int) + 1) = (i : Int) + 1 := IntWalk.i64_in _ (by omega); have htm : Int.tmod ((i : Int) + 1) 6 = ((i : Int) + 1) % 6 := Int.tmod_eq_emod_of_nonneg (by omega)
   have hmd : ((((i + 1) % 6 : Nat) : Int) != ((i : Int) + 1) % 6) = false := by
    have : (((i + 1) % 6 : Nat) : Int) = ((i : Int) + 1) % 6 := by omega
    rw [this]; simp
   clear hkv hT hM' hC' hqq; go_wp2_with fail; refine wp_region_noPanic ?_; refine wp_region_held_drew (S := (fun w' => MwS w4 c cf N q0 false b ((i + 1) % 6) mb bc w')) (by kernel_rfl) h2.drew (fun hHeld => ?_); refine hT 0 ⟨some 50, _, _, _, _, _⟩ ?_ rfl hHeld ?_ ?_
   rotate_left
   ·intro w hSw; (go_simp; try with_reducible rfl)
   simp only [hP]; refine hT 1 ⟨some 51, _, _, _, _, _⟩ ?_ rfl hHeld ?_ ?_
   rotate_left
   ·intro w hSw; (go_simp; try with_reducible rfl)
   simp only [hP]; refine hT 2 ⟨some 52, _, _, _, _, _⟩ ?_ rfl hHeld ?_ ?_
   rotate_left
   ·intro w hSw; (go_simp; try with_reducible rfl)
   simp only [hP]; refine hT 3 ⟨some 53, _, _, _, _, _⟩ ?_ rfl hHeld ?_ ?_
   rotate_left
   ·intro w hSw; (go_simp; try with_reducible rfl)
   simp only [hP]; refine hT 4 ⟨some 54, _, _, _, _, _⟩ ?_ rfl hHeld ?_ ?_
   rotate_left
   ·intro w hSw; (go_simp; try with_reducible rfl)
   simp only [hP]; refine hT 5 ⟨some 55, _, _, _, _, _⟩ ?_ rfl hHeld ?_ ?_
   rotate_left
   ·intro w hSw; (go_simp; try with_reducible rfl)
   simp only [hP]; refine hT 6 ⟨some 56, _, _, _, _, _⟩ ?_ rfl hHeld ?_ ?_
   rotate_left
   ·intro w hSw; (go_simp; try with_reducible rfl)
   simp only [hP]; refine hT 7 ⟨some 57, _, _, _, _, _⟩ ?_ rfl hHeld ?_ ?_
   rotate_left
   ·intro w hSw; (go_simp; try with_reducible rfl)
   simp only [hP]; refine hT 9 ⟨some 59, _, _, _, _, _⟩ ?_ rfl hHeld ?_ ?_
   rotate_left
   ·intro w hSw; (go_simp; try with_reducible rfl)
   simp only [hP]; refine hT 10 ⟨some 60, _, _, _, _, _⟩ ?_ rfl hHeld ?_ ?_
   rotate_left
   ·intro w hSw; (go_simp; try with_reducible rfl)
   simp only [hP]; refine hT 11 ⟨some 61, _, _, _, _, _⟩ ?_ rfl hHeld ?_ ?_
   rotate_left
   ·intro w hSw; (go_simp; try with_reducible rfl)
   simp only [hP]
   refine hC 8 rfl fun K hK => ?_
   go_simp; refine hHeld.1.at.mono ?_; rintro e w' ⟨rfl, hwx⟩; subst hwx; refine hK.out _ _ hHeld (fun _ => ?_); clear hK K
   refine hC 12 rfl fun K hK => ?_
   go_simp; refine (CGR.out _).mono ?_; rintro e wgh3 ⟨rfl, hbg⟩
   have h3 := MwS.then hHeld hbg
   clear hbg; refine hK.out _ _ h3 (fun _ => ?_); clear hK K; refine hT 13 ⟨some 63, _, _, _, _, _⟩ ?_ rfl h3 ?_ ?_
   rotate_left
   ·intro w hSw; (go_simp; try with_reducible rfl)
   simp only [hP]; refine hT 14 ⟨some 64, _, _, _, _, _⟩ ?_ rfl h3 ?_ ?_
   rotate_left
   ·intro w hSw; (go_simp; try with_reducible rfl)
   simp only [hP]; refine hT 15 ⟨some 65, _, _, _, _, _⟩ ?_ rfl h3 ?_ ?_
   rotate_left
   ·intro w hSw; (go_simp; try with_reducible rfl)
   simp only [hP]; refine wpAnyH_done (by kernel_rfl) ?_ _; refine NoPanic.normal ?_; have H3 := hI h3.1; clear h2 h3 hHeld d0 d1 d2 d3 d4 hw1 hmd htm; go_wp2_with fail
   go_roundw
   case rel => exact ⟨i + 1, by omega, by go_num, by rw [HG6.out]; exact H3.out⟩
   case measure => simp [intOf]; omega
  ·obtain rfl : i = t := by omega
   have HM := hI hM; clear hM; have hal0 : (q0.s 0).dead = false := HALV.out 0 (by have := HL3.out.on.ok.n0; omega); have HOFF := hI (flush_off (by have := HL3.out.on.ok.n0; omega) HL3.out.on.off hal0); go_wp2_with fail; refine (HM.out.vw.arm 0 (by decide) (by decide)).mono ?_; rintro e wa ⟨rfl, hva, hca⟩; have HMa := hI (HM.out.rack hva hca); clear hva hca hal0; have CFL := hI (HMa.out.vw.step (qflush_any wa HMa.out.vw.qs.rack 0) (flush_n _ _)); generalize evs opQFlush ((q0.arm 0).fcode 0) 0 = ev at *; generalize (q0.arm 0).flush 0 = q1 at *; go_wp2_with fail; refine CFL.out.mono ?_; rintro e wb ⟨rfl, hvb, hcb⟩; have HMb := hI (HMa.out.rack hvb hcb); clear hvb hcb; go_wp2_with fail; refine (HMb.out.tickDown (Or.inr HOFF.out)).mono ?_; rintro e wt ⟨v, hkv, rfl, hM', hb'⟩; have HKV := hI hkv; rw [HG6.out] at hM'
   have h2 : MwS w4 c cf N q1 false b (i % 6) mb bc wt := ⟨hM', HCC.out _ hM'.vw.qs.base, Nat.lt_of_lt_of_le H2.out.2.1 (by have := hM'.vw.qs.base.size; have := HB4.out.size; omega)⟩
   have d0 : ∀ w', MwS w4 c cf N q1 false b (i % 6) mb bc w' → w'.cell? ⟨bc, 0, none⟩ = some (.int .i64 cf.id) := fun w' h => h.2.1.cell 0
   have d1 : ∀ w', MwS w4 c cf N q1 false b (i % 6) mb bc w' → w'.cell? ⟨bc, 1, none⟩ = some (.int .i64 cf.k) := fun w' h => h.2.1.cell 1
   have d2 : ∀ w', MwS w4 c cf N q1 false b (i % 6) mb bc w' → w'.cell? ⟨bc, 2, none⟩ = some (.int .i64 cf.n) := fun w' h => h.2.1.cell 2
   have d3 : ∀ w', MwS w4 c cf N q1 false b (i % 6) mb bc w' → w'.cell? ⟨bc, 3, none⟩ = some (.int .i64 cf.t) := fun w' h => h.2.1.cell 3
   have d4 : ∀ w', MwS w4 c cf N q1 false b (i % 6) mb bc w' → w'.cell? ⟨bc, 4, none⟩ = some (.int .i64 cf.s) := fun w' h => h.2.1.cell 4
   have htm : Int.tmod (i : Int) 6 = (i : Int) % 6 := Int.tmod_eq_emod_of_nonneg (by omega); clear hkv hM' hb'; go_wp2_with fail; refine wp_region_noPanic ?_; refine wp_region_held_drew (S := (fun w' => MwS w4 c cf N q1 false b (i % 6) mb bc w')) (by kernel_rfl) h2.drew (fun hHeld => ?_); refine hT 0 ⟨some 75, _, _, _, _, _⟩ ?_ rfl hHeld ?_ ?_
   rotate_left
   ·intro w hSw; (go_simp; try with_reducible rfl)
   simp only [hP]; refine hT 1 ⟨some 76, _, _, _, _, _⟩ ?_ rfl hHeld ?_ ?_
   rotate_left
   ·intro w hSw; (go_simp; try with_reducible rfl)
   simp only [hP]; refine hT 2 ⟨some 77, _, _, _, _, _⟩ ?_ rfl hHeld ?_ ?_
   rotate_left
   ·intro w hSw; (go_simp; try with_reducible rfl)
   simp only [hP]; refine hT 3 ⟨some 78, _, _, _, _, _⟩ ?_ rfl hHeld ?_ ?_
   rotate_left
   ·intro w hSw; (go_simp; try with_reducible rfl)
   simp only [hP]
   refine hC 4 rfl fun K hK => ?_
   go_simp; refine (kind_kv HKV.out _ (HTY.out _ hHeld.1.vw.qs.base)).mono ?_; rintro e wkh3 ⟨rfl, hbk⟩
   have h3 := MwS.then hHeld hbk
   clear hbk; refine hK.out _ _ h3 (fun _ => ?_); clear hK K; refine hT 5 ⟨some 80, _, _, _, _, _⟩ ?_ rfl h3 ?_ ?_
   rotate_left
   ·intro w hSw; (go_simp; try with_reducible rfl)
   simp only [hP]; refine hT 6 ⟨some 81, _, _, _, _, _⟩ ?_ rfl h3 ?_ ?_
   rotate_left
   ·intro w hSw; (go_simp; try with_reducible rfl)
   simp only [hP]; refine hT 7 ⟨some 82, _, _, _, _, _⟩ ?_ rfl h3 ?_ ?_
   rotate_left
   ·intro w hSw; (go_simp; try with_reducible rfl)
   simp only [hP]; refine hT 8 ⟨some 83, _, _, _, _, _⟩ ?_ rfl h3 ?_ ?_
   rotate_left
   ·intro w hSw; (go_simp; try with_reducible rfl)
   simp only [hP]; refine hT 10 ⟨some 85, _, _, _, _, _⟩ ?_ rfl h3 ?_ ?_
   rotate_left
   ·intro w hSw; (go_simp; try with_reducible rfl)
   simp only [hP]; refine hT 11 ⟨some 86, _, _, _, _, _⟩ ?_ rfl h3 ?_ ?_
   rotate_left
   ·intro w hSw; (go_simp; try with_reducible rfl)
   simp only [hP]
   refine hC 9 rfl fun K hK => ?_
   go_simp; refine h3.1.at.mono ?_; rintro e w' ⟨rfl, hwx⟩; subst hwx; refine hK.out _ _ h3 (fun _ => ?_); clear hK K
   refine hC 12 rfl fun K hK => ?_
   go_simp; refine (CGR.out _).mono ?_; rintro e wgh4 ⟨rfl, hbg⟩
   have h4 := MwS.then h3 hbg
   clear hbg; refine hK.out _ _ h4 (fun _ => ?_); clear hK K; refine hT 13 ⟨some 88, _, _, _, _, _⟩ ?_ rfl h4 ?_ ?_
   rotate_left
   ·intro w hSw; (go_simp; try with_reducible rfl)
   simp only [hP]; refine hT 14 ⟨some 89, _, _, _, _, _⟩ ?_ rfl h4 ?_ ?_
   rotate_left
   ·intro w hSw; (go_simp; try with_reducible rfl)
   simp only [hP]; refine hT 15 ⟨some 90, _, _, _, _, _⟩ ?_ rfl h4 ?_ ?_
   rotate_left
   ·intro w hSw; (go_simp; try with_reducible rfl)
   simp only [hP]; refine wpAnyH_done (by kernel_rfl) ?_ _; refine NoPanic.normal ?_; have H4 := hI h4.1; clear h2 h3 h4 hHeld d0 d1 d2 d3 d4; go_wp2_with fail; refine (H4.out.vw.boot (.slice none 0 0) [] (slU_none _ _) (Nat.le_refl _) (fun x hx => absurd hx (by simp))).mono ?_; rintro e wc ⟨rfl, hvc, hcc⟩; have HMc := hI (H4.out.rack hvc hcc); clear hvc hcc; generalize (q1.boot fun i => ([] : List Nat).getD i 0) = q2 at *; go_wp2_with fail; refine HMc.out.fail.mono ?_; rintro e wd ⟨rfl, hMd⟩; have HMd := hI hMd; clear hMd; go_wp2_with fail; refine (HMd.out.tickDown (Or.inl rfl)).mono ?_; rintro e wt ⟨v, hkv, rfl, hM', hb'⟩; have HKV := hI hkv
   have h2 : MwS w4 c cf N q2 true b (i % 6) mb bc wt := ⟨hM', HCC.out _ hM'.vw.qs.base, Nat.lt_of_lt_of_le H2.out.2.1 (by have := hM'.vw.qs.base.size; have := HB4.out.size; omega)⟩
   have d0 : ∀ w', MwS w4 c cf N q2 true b (i % 6) mb bc w' → w'.cell? ⟨bc, 0, none⟩ = some (.int .i64 cf.id) := fun w' h => h.2.1.cell 0
   have d1 : ∀ w', MwS w4 c cf N q2 true b (i % 6) mb bc w' → w'.cell? ⟨bc, 1, none⟩ = some (.int .i64 cf.k) := fun w' h => h.2.1.cell 1
   have d2 : ∀ w', MwS w4 c cf N q2 true b (i % 6) mb bc w' → w'.cell? ⟨bc, 2, none⟩ = some (.int .i64 cf.n) := fun w' h => h.2.1.cell 2
   have d3 : ∀ w', MwS w4 c cf N q2 true b (i % 6) mb bc w' → w'.cell? ⟨bc, 3, none⟩ = some (.int .i64 cf.t) := fun w' h => h.2.1.cell 3
   have d4 : ∀ w', MwS w4 c cf N q2 true b (i % 6) mb bc w' → w'.cell? ⟨bc, 4, none⟩ = some (.int .i64 cf.s) := fun w' h => h.2.1.cell 4
   clear hkv hM' hb'; go_wp2_with fail; refine wp_region_noPanic ?_; refine wp_region_held_drew (S := (fun w' => MwS w4 c cf N q2 true b (i % 6) mb bc w')) (by kernel_rfl) h2.drew (fun hHeld => ?_); refine hT 0 ⟨some 100, _, _, _, _, _⟩ ?_ rfl hHeld ?_ ?_
   rotate_left
   ·intro w hSw; (go_simp; try with_reducible rfl)
   simp only [hP]; refine hT 1 ⟨some 101, _, _, _, _, _⟩ ?_ rfl hHeld ?_ ?_
   rotate_left
   ·intro w hSw; (go_simp; try with_reducible rfl)
   simp only [hP]; refine hT 2 ⟨some 102, _, _, _, _, _⟩ ?_ rfl hHeld ?_ ?_
   rotate_left
   ·intro w hSw; (go_simp; try with_reducible rfl)
   simp only [hP]; refine hT 3 ⟨some 103, _, _, _, _, _⟩ ?_ rfl hHeld ?_ ?_
   rotate_left
   ·intro w hSw; (go_simp; try with_reducible rfl)
   simp only [hP]
   refine hC 4 rfl fun K hK => ?_
   go_simp; refine (kind_kv HKV.out _ (HTY.out _ hHeld.1.vw.qs.base)).mono ?_; rintro e wkh3 ⟨rfl, hbk⟩
   have h3 := MwS.then hHeld hbk
   clear hbk; refine hK.out _ _ h3 (fun _ => ?_); clear hK K; refine hT 5 ⟨some 105, _, _, _, _, _⟩ ?_ rfl h3 ?_ ?_
   rotate_left
   ·intro w hSw; (go_simp; try with_reducible rfl)
   simp only [hP]; refine hT 6 ⟨some 106, _, _, _, _, _⟩ ?_ rfl h3 ?_ ?_
   rotate_left
   ·intro w hSw; (go_simp; try with_reducible rfl)
   simp only [hP]; refine hT 7 ⟨some 107, _, _, _, _, _⟩ ?_ rfl h3 ?_ ?_
   rotate_left
   ·intro w hSw; (go_simp; try with_reducible rfl)
   simp only [hP]; refine hT 8 ⟨some 108, _, _, _, _, _⟩ ?_ rfl h3 ?_ ?_
   rotate_left
   ·intro w hSw; (go_simp; try with_reducible rfl)
   simp only [hP]; refine hT 10 ⟨some 110, _, _, _, _, _⟩ ?_ rfl h3 ?_ ?_
   rotate_left
   ·intro w hSw; (go_simp; try with_reducible rfl)
   simp only [hP]; refine hT 11 ⟨some 111, _, _, _, _, _⟩ ?_ rfl h3 ?_ ?_
   rotate_left
   ·intro w hSw; (go_simp; try with_reducible rfl)
   simp only [hP]
   refine hC 9 rfl fun K hK => ?_
   go_simp; refine h3.1.at.mono ?_; rintro e w' ⟨rfl, hwx⟩; subst hwx; refine hK.out _ _ h3 (fun _ => ?_); clear hK K
   refine hC 12 rfl fun K hK => ?_
   go_simp; refine (CGR.out _).mono ?_; rintro e wgh4 ⟨rfl, hbg⟩
   have h4 := MwS.then h3 hbg
   clear hbg; refine hK.out _ _ h4 (fun _ => ?_); clear hK K; refine hT 13 ⟨some 113, _, _, _, _, _⟩ ?_ rfl h4 ?_ ?_
   rotate_left
   ·intro w hSw; (go_simp; try with_reducible rfl)
   simp only [hP]; refine hT 14 ⟨some 114, _, _, _, _, _⟩ ?_ rfl h4 ?_ ?_
   rotate_left
   ·intro w hSw; (go_simp; try with_reducible rfl)
   simp only [hP]; refine hT 15 ⟨some 115, _, _, _, _, _⟩ ?_ rfl h4 ?_ ?_
   rotate_left
   ·intro w hSw; (go_simp; try with_reducible rfl)
   simp only [hP]; refine hT 16 ⟨some 116, _, _, _, _, _⟩ ?_ rfl h4 ?_ ?_
   rotate_left
   ·intro w hSw; (go_simp; try with_reducible rfl)
   simp only [hP]
   refine hC 17 rfl fun K hK => ?_
   go_simp; refine (mruns_any _).mono ?_; rintro e wr ⟨rfl, hbr⟩
   have h5 := MwS.then h4 hbr
   clear hbr; refine hK.out _ _ h5 (fun _ => ?_); clear hK K; refine hT 18 ⟨some 118, _, _, _, _, _⟩ ?_ rfl h5 ?_ ?_
   rotate_left
   ·intro w hSw; (go_simp; try with_reducible rfl)
   simp only [hP]; refine hT 19 ⟨some 6, _, _, _, _, _⟩ ?_ rfl h5 ?_ ?_
   rotate_left
   ·intro w hSw; (go_simp; try with_reducible rfl)
   simp only [hP]; refine wpAnyH_done (by kernel_rfl) ?_ _; refine NoPanic.normal ?_; have H5 := hI h5.1; clear h2 h3 h4 h5 hHeld d0 d1 d2 d3 d4; go_wp2_with fail; go_ret; exact bit rfl (HBW.out _ H5.out.vw.qs.base)
end Go.Proofs.YthbpfnohbilhaaaGreatDoor
namespace Go.Proofs.YthbpfnohbilhaaaGreatDoor.mendTurns
open Go.ChangeShapes Go.WideShapes Go.ChangeAt Go.RowKit
set_option maxRecDepth 100000 in
theorem contract (H : Type) (enc : TypeId × Value → H) (W : World) (base : Nat) (args : Array Value) (ds gs : List (DataW H)) (before : List MemPlace)
  (hval : ∀ (j : Nat) t v, Tryz.f3.params[j]? = some t → args[j]? = some v → Value.okWide Tryz.prog W .any base t v)
  (hW : DataW.Whole enc Tryz.prog Tryz.f3.params.toList Rows.mendTurnsSpec.vars false W args.toList ds gs before) (hL : laidMetH Tryz.prog Rows.mendTurnsRow.laid W) :
  Calls Tryz.prog 3 args W fun e W' => ∃ v, e = .returned v ∧ Rows.mendTurnsSpec.post enc Tryz.prog Tryz.f3 false true false false W args v W' := by
 have hW' := hW
 obtain ⟨p, q, hA0, hV, rfl, hfz, hnd⟩ := hW
 have hA : DataW.TrodAll enc Tryz.prog W 0 (fun _ => true) true Tryz.f3.params.toList args.toList ds p := hA0
 rw [Tryz.params3] at hA hval
 obtain ⟨v0, vs0, d0, ds0, p0, q0, hargs, rfl, rfl, h0, r0⟩ := trodAll_cons hA
 obtain ⟨v1, vs1, d1, ds1, p1, q1, rfl, rfl, rfl, h1, r1⟩ := trodAll_cons r0
 obtain ⟨v2, vs2, d2, ds2, p2, q2, rfl, rfl, rfl, h2, r2⟩ := trodAll_cons r1
 obtain ⟨rfl, rfl, rfl⟩ := trodAll_nil r2
 obtain rfl : args = #[v0, v1, v2] := Array.ext' hargs
 obtain ⟨k_, rfl, rfl, rfl, _⟩ := open_int Tryz.underlying3 (hval 0 3 v0 (by simp) (by simp)) h0
 obtain ⟨n_, rfl, rfl, rfl, _⟩ := open_int Tryz.underlying3 (hval 1 3 v1 (by simp) (by simp)) h1
 obtain ⟨t_, rfl, rfl, rfl, _⟩ := open_int Tryz.underlying3 (hval 2 3 v2 (by simp) (by simp)) h2
 obtain ⟨rfl, rfl⟩ := trodVars_none hV
 clear hA0
 have hw : Calls Tryz.prog 3 #[.int .i64 k_, .int .i64 n_, .int .i64 t_] W (Bit true W) := turns_any W k_ n_ t_ (handle_of_laid hL)
 refine hw.mono fun e W' ⟨he, hg⟩ => ?_
 subst he
 exact ⟨_, rfl, law_post Tryz.laidOut (by kernel_rfl) (by kernel_rfl) (by kernel_rfl) Tryz.underlying4 hW' hg rfl rfl rfl⟩
theorem reads (os : Os) {H : Type} (enc : TypeId × Value → H) : ∃ places, DataW.whole enc Tryz.prog ((laidWorld os).forCall (fun _ _ => 0) ⟨#[], #[.int .i64 0, .int .i64 0, .int .i64 0], []⟩).memory Tryz.f3.params.toList Rows.mendTurnsSpec.vars false (#[.int .i64 0, .int .i64 0, .int .i64 0] : Array Value).toList 8 = some ([.lit (.int .i64 0), .lit (.int .i64 0), .lit (.int .i64 0)], [], places) :=
 ⟨[], by kernel_rfl⟩
set_option maxRecDepth 100000 in
theorem lifted (os : Os) (started : os.Started) (H : Type) (enc : TypeId × Value → H) (F : Stop.Interp) :
  ReturnsInHanded {} Tryz.checked os 3 .any ((OpenSpec.ofChange Rows.mendTurnsSpec).preRow enc Tryz.prog Tryz.f3 Rows.mendTurnsRow.domain false Rows.mendTurnsRow.laid) (((OpenSpec.ofChange Rows.mendTurnsSpec).at F).post enc Tryz.prog Tryz.f3 false true false false) := by
 obtain ⟨places, hx⟩ := reads os enc
 refine returnsInHanded_of_row (C := Tryz.checked) (s := OpenSpec.ofChange Rows.mendTurnsSpec) Tryz.own started (by kernel_rfl) Tryz.func3
  (witness_row_at (enc := enc) (C := Tryz.checked) false (laidWorld os) #[.int .i64 0, .int .i64 0, .int .i64 0] rfl (by kernel_rfl) (by kernel_rfl) (by kernel_rfl)
   (OpenSpec.preRow_of_cond 8 hx (by kernel_rfl) (fun k hk => by cases hk) (by kernel_rfl) (laidWorld_met os _))) ?_
 intro W base args ds gs before hval hW _ _ _ hL _ _
 exact contract H enc W base args ds gs before hval hW hL
set_option maxHeartbeats 40000000 in
theorem closed : joinedFacts Tryz.prog 3 Tryz.f3 (OpenSpec.ofChange Rows.mendTurnsSpec).bare Rows.mendTurnsRow = true := by
 unfold joinedFacts
 simp only [Bool.and_eq_true]
 repeat' refine And.intro ?_ ?_
 all_goals (as_aux_lemma => kernel_rfl)
theorem said : Rows.MendTurnsSaid :=
 OpenClaim.holds_of_cond 3 Tryz.f3 rfl rfl rfl rfl rfl rfl rfl ⟨rfl, rfl, rfl, rfl, rfl⟩ rfl rfl rfl rfl rfl (by kernel_rfl) Tryz.func3 closed
  (of_decide_eq_true (by kernel_rfl)) (by unfold Func.isWrapper; first | (rw [if_pos (by decide +kernel)]; kernel_rfl) | (rw [if_neg (by decide +kernel)]; exact ⟨rfl, rfl⟩))
  (fun os started H enc _ F => by rw [OpenClaim.pre_eq_preRow]; exact lifted os started H enc F)
theorem plain (f : FuncId) (fn : Func) (hf : Tryz.pinned.checked.prog.funcNamed "stave/stavelaw13.MendTurns" = some f) (hfn : Tryz.pinned.checked.prog.funcs[f]? = some fn) :
  true = Tryz.pinned.checked.prog.looks [] ∧ ∀ (j : Nat) t, fn.params[j]? = some t → Tryz.pinned.checked.prog.wantsStandIn t = false := by
 obtain rfl : f = 3 := Option.some.inj ((show Tryz.prog.funcNamed "stave/stavelaw13.MendTurns" = some 3 by kernel_rfl).symm.trans hf) |>.symm
 obtain rfl : fn = Tryz.f3 := (Option.some.inj (Tryz.func3.symm.trans hfn)).symm
 have hall : (Tryz.f3.params.toList.all fun t => !Tryz.prog.wantsStandIn t) = true := by kernel_rfl
 refine ⟨by kernel_rfl, fun j t ht => ?_⟩
 have := List.all_eq_true.1 hall t (by simpa using Array.mem_of_getElem? ht)
 have h2 : Tryz.prog.wantsStandIn t = false := by simpa using this
 exact h2
end Go.Proofs.YthbpfnohbilhaaaGreatDoor.mendTurns
namespace Go.Proofs.YthbpfnohbilhaaaGreatDoor
theorem MendTurns_card : Rows.MendTurnsCardSaid :=
 Claim7.holds_tied_plain_at .later [] _ _ _ _ mendTurns.said (fun _ h => by cases h) (by kernel_rfl) (fun _ h => by cases h) mendTurns_row_tie rfl ⟨rfl, rfl⟩ (by kernel_rfl) rfl mendTurns.plain (by kernel_rfl)
#print axioms MendTurns_card
end Go.Proofs.YthbpfnohbilhaaaGreatDoor
