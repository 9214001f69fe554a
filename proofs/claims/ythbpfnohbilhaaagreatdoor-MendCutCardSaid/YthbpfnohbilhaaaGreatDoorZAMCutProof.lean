import Derived.Test.YthbpfnohbilhaaaGreatDoorZAMMem
import Derived.Test.YthbpfnohbilhaaaGreatDoorZAMNums
import Derived.Test.YthbpfnohbilhaaaGreatDoorZAOpenV
import Derived.Deep.RegionHeld3
import Derived.Test.YthbpfnohbilhaaaGreatDoorZABase
import Derived.Test.YthbpfnohbilhaaaGreatDoorZALaw
namespace Go.Proofs.YthbpfnohbilhaaaGreatDoor
open Go.RowKit Go.Deep Crc Dk Qk Go.Maps Hf
def RelMC1 (w4 : World) (c : Lc) (cf : Cf) (N K b : Nat) (w0 : World) (x : Value) (wr : World) : Prop :=
 ∃ (s : Nat) (V : Vl) (q : Rk), s ≤ 3 ∧ x = .int .i64 s ∧ VW w4 c cf N q (1 + s) false b wr ∧ Live cf V (allP q) q (1 + s) ∧ q.rem = -1 ∧ (∀ t, t < s → V.B t = blks (t : Int) K) ∧ w0.heap.size ≤ wr.heap.size
def RelMC2 (w4 : World) (c : Lc) (cf : Cf) (N D b : Nat) (V : Vl) (w0 : World) (x : Value) (wr : World) : Prop :=
 ∃ (j : Nat) (P : Nat → Bool) (q : Rk), j ≤ D ∧ x = .int .i64 j ∧ VW w4 c cf N q 4 false b wr ∧ Live cf V P q 4 ∧ q.rem = -1 ∧ N ≤ ((List.range N).filter P).length + j ∧ w0.heap.size ≤ wr.heap.size
def RelMC3 (w4 : World) (c : Lc) (cf : Cf) (N b mb : Nat) (V : Vl) (P : Nat → Bool) (w0 : World) (x : Value) (wr : World) : Prop :=
 ∃ (i : Nat) (q : Rk), i ≤ 6 ∧ x = .int .i64 i ∧ MW w4 c cf N q 4 false b (i % 6) mb wr ∧ Live cf V P q 4 ∧ w0.heap.size ≤ wr.heap.size
def RelMC4 (w4 : World) (c : Lc) (cf : Cf) (N : Nat) (q : Rk) (g : Int) (b : Nat) (w0 : World) (x : Value) (wr : World) : Prop :=
 ∃ s : Nat, s ≤ 3 ∧ x = .int .i64 s ∧ VW w4 c cf N q g false b wr ∧ w0.heap.size ≤ wr.heap.size
set_option maxHeartbeats 8000000 in
set_option maxRecDepth 100000 in
theorem mcut_any (w : World) (k_ n_ f_ : Int) (vg : Value) (lg : List Int) (hvg : SlI w.heap.size w vg lg) (vl : Value) (l : List Nat) (hvl : SlU w.heap.size w vl l) (hll : ∀ x, x < l.length → l.getD x 0 < 18446744073709551616) (hT : Typ w) : Calls Tryz.prog 5 #[.int .i64 k_, .int .i64 n_, .int .i64 f_, vg, vl] w (Bit true w) := by
 have HT := hI hT
 have HVG := hI hvg
 have HVL := hI hvl
 have HLL := hI hll
 obtain ⟨ag, cg, rfl⟩ := hvg.len
 obtain ⟨al, cl, rfl⟩ := hvl.len
 clear hT hvg hvl hll
 go_enter Tryz.func5, Tryz.ntmps5
 go_wp2_with fail
 refine (fixed_any k_ n_ 3 2 _ (by omega) (by omega)).mono ?_
 rintro e w1 ⟨cf, hcf, rfl, hb1⟩
 have H2 := hI (show JfS cf w1.heap.size w (w1.alloc (.cells (cfA cf) 23)) from ⟨cfB_new w1 cf, by simp, balloc hb1 _⟩)
 have HCF := hI hcf
 have COP := hI (fun w' => opened13_ok w' cf hcf.1)
 obtain ⟨d0, d1, d2, d3, d4⟩ := CfB.cells H2.out.1
 clear hb1 hcf
 go_wp2_with fail
 generalize w1.alloc (.cells (cfA cf) 23) = w2 at *
 generalize w1.heap.size = bc at *
 refine (COP.out _).mono ?_
 rintro e w3 ⟨c, b, q0, w4, rfl, hvw, hb4, hlive, hrem, halive, hkk, hnn⟩
 have HJ3 := hI hvw
 have HL3 := hI hlive
 have HR3 := hI hrem
 have HALV := hI halive
 have HKQ := hI hkk
 have HNQ := hI hnn
 have HB4 := hI hb4
 have HBW := hI (fun (w' : World) (h : Below w4.heap.size w4 w') => show Below w.heap.size w w' from bthen H2.out.2.2 (bthen hb4 h))
 have HTY := hI (fun (w' : World) (h : Below w4.heap.size w4 w') => show Typ w' from HT.out.below (HBW.out w' h))
 have HCC := hI (fun (w' : World) (h : Below w4.heap.size w4 w') => show CfB cf bc w' from CfB.below H2.out.1 H2.out.2.1 (bthen hb4 h))
 have HRT := hI (show CfRight cf from hlive.on.right)
 have HENO := hI (show Enough cf (allP q0) q0.n from allP_enough hlive.on.fits)
 obtain ⟨N, hN⟩ : ∃ N, q0.n = N := ⟨_, rfl⟩
 rw [hN] at HJ3
 have HN := hI hN
 obtain ⟨K, hK⟩ : ∃ K : Nat, cf.k = K := ⟨cf.k.toNat, by have := hlive.on.right.2.2.1; omega⟩
 have HK := hI hK
 have HK8 := hI (show K ≤ 8 by have := hlive.on.right.2.2.2.1; have := hlive.on.right.2.2.2.2.1; omega)
 have HFAR := hI (show Far w3.heap.size c N from by have := hvw.qs.rack.far; rwa [hN] at this)
 have HCELL := hI (fun (w' : World) (h : Below w4.heap.size w4 w') => show w'.cell? ⟨bc, 0, none⟩ = some (.int .i64 cf.id) ∧ w'.cell? ⟨bc, 1, none⟩ = some (.int .i64 K) ∧ w'.cell? ⟨bc, 2, none⟩ = some (.int .i64 cf.n) ∧ w'.cell? ⟨bc, 3, none⟩ = some (.int .i64 cf.t) ∧ w'.cell? ⟨bc, 4, none⟩ = some (.int .i64 cf.s) by
  have := CfB.cells (HCC.out w' h); rwa [hK] at this)
 clear hvw hb4 hlive hrem halive hkk hnn hN hK d0 d1 d2 d3 d4
 have HTT := hI (show cf.t = 3 ∧ cf.s = 2 from HCF.out.2)
 have HG6 := hI (show groups cf = 6 by unfold groups; rw [HTT.out.1, HTT.out.2]; rfl)
 have CBK := hI (fun (z : Int) w3 => blocks_any K z w3 HK8.out)
 have HBL := hI (fun z : Int => show (blks z K).length = cf.k.toNat by rw [blks_length, HK.out]; rfl)
 have HNC := hI (show cf.n = (N : Int) by have := HNQ.out; rw [HN.out] at this; exact this.symm)
 have HKN := hI (show 1 ≤ K ∧ K ≤ N ∧ N ≤ 8 by have h1 := HRT.out.2.2.1; have h2 := HRT.out.2.2.2.1; have h3 := HRT.out.2.2.2.2.1; have := HK.out; have := HNC.out; omega)
 go_wp2_with fail
 go_loopw [14] (fun x wr => RelMC1 w4 c cf N K b w3 x wr) (fun x _ => 3 - (intOf x).toNat)
 case atStart => exact ⟨0, V0 cf, q0, by decide, rfl, HJ3.out, HL3.out, HR3.out, fun t ht => absurd ht (by omega), Nat.le_refl _⟩
 case round =>
  obtain ⟨s, V, q, hs, rfl, hv, hL, hrem, hB, hsz⟩ := hrel
  by_cases hlt : s < 3
  ·have HV := hI hv
   have HL := hI hL; have HREM := hI hrem; have HB := hI hB; have HSZ := hI hsz; have HE := hI (allP_enough (q := q) hL.on.fits); obtain ⟨d0, d1, d2, d3, d4⟩ := HCELL.out _ hv.qs.base; clear hv hL hrem hB hsz; go_wp2_with fail; refine (CBK.out (s : Int) _).mono ?_; rintro e w5 ⟨v5, rfl, ho5, hb5⟩; have HV5 := hI (HV.out.below hb5); have HA5 := hI (bkB_of (B := w3.heap.size) ho5 HSZ.out); have HS5 := hI (Nat.le_trans HSZ.out hb5.size); obtain ⟨a5, c5, rfl, -⟩ := own_slice' ho5; clear ho5 hb5 d0 d1 d2 d3 d4; have CC := hI (HV5.out.commits HL.out HE.out (by omega) (s := s) (by rw [HTT.out.1]; omega) (HBL.out (s : Int)) HA5.out HFAR.out); generalize hA : blks (s : Int) K = A at *; have HAE := hI hA; clear hA; go_wp2_with fail; refine CC.out.mono ?_; rintro e w6 ⟨v6, q6, rfl, hrc6, hn6, _, ⟨rfl, hf6, hvw6, hl6⟩ | ⟨_, hne, _⟩⟩
   rotate_left
   ·exact absurd HREM.out hne
   obtain ⟨V', hV'⟩ : ∃ V', V' = addY cf V (cRec (1 + (s : Int)) s A) := ⟨_, rfl⟩
   have HBB := hI (fun t => show V'.B t = if t = s then A else V.B t by rw [hV']; exact addY_B cf V (1 + (s : Int)) s t A); rw [← hV'] at hl6; clear hV'; have HV6 := hI (show VW w4 c cf N q6 (1 + ((s + 1 : Nat) : Int)) false b w6 by rw [show (1 + ((s + 1 : Nat) : Int)) = 1 + (s : Int) + 1 by omega]; exact hvw6); have HL6 := hI (show Live cf V' (allP q6) q6 (1 + ((s + 1 : Nat) : Int)) by rw [show allP q6 = allP q by unfold allP; rw [hn6], show (1 + ((s + 1 : Nat) : Int)) = 1 + (s : Int) + 1 by omega]; exact hl6); have HR6 := hI (hf6 HREM.out); have HS6 := hI (Nat.le_trans HS5.out hrc6.size); clear hrc6 hn6 hf6 hvw6 hl6; go_wp2_with fail
   go_roundw
   case rel => exact ⟨s + 1, V', q6, by omega, by go_num, HV6.out, HL6.out, HR6.out, fun t ht => by
    rw [HBB.out t]
    by_cases e : t = s
    ·subst e; rw [if_pos rfl]; exact HAE.out.symm
    ·rw [if_neg e]; exact HB.out t (by omega), HS6.out⟩
   case measure => simp [intOf]; omega
  ·obtain rfl : s = 3 := by omega
   have HV := hI (show VW w4 c cf N q 4 false b wr from hv); have HL := hI (show Live cf V (allP q) q 4 from hL); have HREM := hI hrem; have HB3 := hI hB; have HSZ := hI hsz; have HQN := hI (show q.n = N from hv.nn); clear hv hL hrem hB hsz
   obtain ⟨V3, hV3⟩ : ∃ V3, V3 = V := ⟨_, rfl⟩
   subst hV3
   obtain ⟨D, hD⟩ : ∃ D : Nat, D = N - K := ⟨_, rfl⟩
   have HD := hI hD
   have hwD : IntKind.i64.wrap (cf.n - (K : Int)) = (D : Int) := by rw [HNC.out]; have := HKN.out; rw [IntWalk.i64_in _ (by omega)]; omega
   have hw1 : IntKind.i64.wrap (cf.n - 1) = cf.n - 1 := by rw [HNC.out]; have := HKN.out; exact IntWalk.i64_in _ (by omega)
   clear hD; go_wp2_with fail; simp only [show ((3 : Nat) : Int) = 3 from rfl]
   go_loopw [15] (fun x wr => RelMC2 w4 c cf N D b V3 w3 x wr) (fun x _ => D - (intOf x).toNat)
   case atStart => exact ⟨0, allP q, q, Nat.zero_le _, rfl, HV.out, HL.out, HREM.out, by rw [← HQN.out, allP_count]; exact Nat.le_refl _, HSZ.out⟩
   case round =>
    obtain ⟨j, P, q, hj, rfl, hv, hL, hrem, hcnt, hsz⟩ := hrel; have hqn : q.n = N := hv.nn; have hkn := HKN.out; obtain ⟨d0, d1, d2, d3, d4⟩ := HCELL.out _ hv.qs.base
    by_cases hlt : j < D
    ·have HV := hI hv
     have HL := hI hL; have HREM := hI hrem; have HSZ := hI hsz
     have hjN : j < N := by have := HD.out; omega
     by_cases hjl : j < lg.length
     ·obtain ⟨bl, ol, cl', hs1, hcell⟩ := HVG.out.num (Nat.le_refl _) (HBW.out _ hv.qs.base) hjl
      injection hs1 with hs1 hs2 hs3; subst hs1 hs3; clear hs2
      have HLC := hI (fun (w' : World) (h : Below w4.heap.size w4 w') => show w'.cell? ⟨bl, ol + j, none⟩ = some (.int .i64 (lg.getD j 0)) by
       obtain ⟨b1, o1, c1, e1, e2⟩ := HVG.out.num (Nat.le_refl _) (HBW.out _ h) hjl; injection e1 with e1 _ _; injection e1 with e1; injection e1 with e1 e3 _; subst e1 e3
       exact e2)
      have hb0 := hv.qs.base.drew; clear hv hL hrem hsz hcell; generalize lg.getD j 0 = lg' at *; go_wp2_with fail; clear d0 d1 d2 d3 d4; have lc := HLC.out
      have d2 := fun (w' : World) (h : Below w4.heap.size w4 w') => (HCELL.out w' h).2.2.1
      refine wp_region_noPanic ?_; refine wp_region_held_drew (S := (fun w' => Below w4.heap.size w4 w')) (by kernel_rfl) hb0 (fun hHeld => ?_); refine hT 0 ⟨some 63, _, _, _, _, _⟩ rfl hHeld ?_; simp only [hP]; refine hT 1 ⟨some 64, _, _, _, _, _⟩ rfl hHeld ?_; simp only [hP]; refine hT 2 ⟨some 65, _, _, _, _, _⟩ rfl hHeld ?_; simp only [hP]; refine hT 3 ⟨some 66, _, _, _, _, _⟩ rfl hHeld ?_; simp only [hP]; refine hT 4 ⟨some 67, _, _, _, _, _⟩ rfl hHeld ?_; simp only [hP]; refine hT 5 ⟨some 68, _, _, _, _, _⟩ rfl hHeld ?_; simp only [hP]; refine hT 6 ⟨some 69, _, _, _, _, _⟩ rfl hHeld ?_; simp only [hP]
      refine hC 7 rfl fun K hK => ?_
      go_simp; refine (within_int lg' 0 (cf.n - 1) _ (by omega) (by have := HNC.out; omega) (by have := HNC.out; omega)).mono ?_; rintro e wI ⟨dI, hdI, rfl, hwI⟩; subst hwI; refine hK.out _ _ hHeld (fun _ => ?_); clear hK K; refine hT 8 ⟨some 16, _, _, _, _, _⟩ rfl hHeld ?_; simp only [hP]; refine wpAnyH_done (by kernel_rfl) ?_ _; refine NoPanic.normal ?_
      have hdN : dI.toNat < N := by have := HNC.out; omega
      obtain ⟨d, rfl⟩ := Int.eq_ofNat_of_zero_le hdI.1
      have hdN : d < N := by have := HNC.out; omega
      clear lc d2 hb0 hHeld hdI; have HV := hI HV.out.drew; have HLG := hI (HL.out.gone (d := d) (by rw [hqn]; exact hdN) false); have CR := hI (HV.out.replace (d : Int)); have HCN := hI (pd_count (P := P) (d := d) (n := N) hdN); go_wp2_with fail; refine CR.out.mono ?_; rintro e wr2 ⟨rfl, hv2, hc2⟩; have HV2 := hI hv2; have HS2 := hI (Nat.le_trans HSZ.out hc2.size); clear hv2 hc2; go_wp2_with fail
      go_roundw
      case rel => exact ⟨j + 1, _, _, by omega, by go_num, HV2.out, HLG.out.1, HLG.out.2.2.2.trans HREM.out, by have := HCN.out; omega, HS2.out⟩
      case measure => simp [intOf]; omega
     ·clear hv hL hrem hsz
      have hdN : j < N := hjN; have HLG := hI (HL.out.gone (d := j) (by rw [hqn]; exact hdN) false); have CR := hI (HV.out.replace (j : Int)); have HCN := hI (pd_count (P := P) (d := j) (n := N) hdN); go_wp2_with fail; refine CR.out.mono ?_; rintro e wr2 ⟨rfl, hv2, hc2⟩; have HV2 := hI hv2; have HS2 := hI (Nat.le_trans HSZ.out hc2.size); clear hv2 hc2; go_wp2_with fail
      go_roundw
      case rel => exact ⟨j + 1, _, _, by omega, by go_num, HV2.out, HLG.out.1, HLG.out.2.2.2.trans HREM.out, by have := HCN.out; omega, HS2.out⟩
      case measure => simp [intOf]; omega
    ·obtain rfl : j = D := by omega
     have HV := hI hv; have HL := hI hL; have HSZ := hI hsz
     have hkK : cf.k.toNat = K := by have := HK.out; omega
     have HEN := hI (show Enough cf P N from ⟨by rw [hkK]; have := HD.out; omega⟩); clear hv hL hrem hsz; go_wp2_with fail; clear hwD hw1; refine (mnew_any _ b).mono ?_; rintro e w5 ⟨rfl, hm5, hb5⟩; have HM5 := hI (HV.out.cursor hm5 hb5); have HS5 := hI (Nat.le_trans HSZ.out hb5.size); generalize wr.heap.size = mb at *; clear hm5 hb5 d0 d1 d2 d3 d4; go_wp2_with fail; refine (within_int f_ 0 60 _ (by omega) (by omega) (by omega)).mono ?_; rintro e w5' ⟨fI, hfI, rfl, hw⟩; subst hw; have HLA := hI (HL.out.arm (f := fI) (by omega) (by omega)); have CA := hI (HM5.out.vw.arm fI (by omega) (by omega)); have CGR := hI (fun W => show Calls Tryz.prog 23 #[.agg (cfA cf)] W (Num 6 W) from by have := mgroups_any W cf HRT.out; rwa [HG6.out] at this); generalize q.arm fI = qA at *; clear hfI; go_wp2_with fail; refine CA.out.mono ?_; rintro e w6 ⟨rfl, hv6, hc6⟩; have HM6 := hI (HM5.out.rack hv6 hc6); have HS6 := hI (Nat.le_trans HS5.out hc6.size); clear hv6 hc6; go_wp2_with fail
     go_loopw [18] (fun x wr => RelMC3 w4 c cf N b mb V3 P w3 x wr) (fun x _ => 6 - (intOf x).toNat)
     case atStart => exact ⟨0, qA, by decide, rfl, HM6.out, HLA.out, HS6.out⟩
     case round =>
      obtain ⟨i, q, hi, rfl, hM, hL, hsz⟩ := hrel; have HM := hI hM; have HL := hI hL; have HSZ := hI hsz; have HQN2 := hI (show q.n = N from hM.vw.nn); obtain ⟨d0, d1, d2, d3, d4⟩ := CfB.cells (HCC.out _ hM.vw.qs.base); clear hM hL hsz; go_wp2_with fail; refine (CGR.out _).mono ?_; rintro e w7 ⟨rfl, hb7⟩; have HM7 := hI (HM.out.below hb7); have HS7 := hI (Nat.le_trans HSZ.out hb7.size); clear hb7 d0 d1 d2 d3 d4
      by_cases hlt : i < 6
      ·have CT := hI (HM7.out.tick HL.out.on.fits (by rw [HG6.out]; omega) HL.out.on.off HL.out.whole)
       have hi6 : i % 6 = i := Nat.mod_eq_of_lt hlt; go_wp2_with fail; refine CT.out.mono ?_; rintro e wt ⟨q', k, m, v, rfl, hkv, hT, _, hM', hC'⟩; rw [HG6.out] at hM'; have HSt := hI (Nat.le_trans HS7.out hC'.size)
       rcases HL.out.ticksY (by rw [HQN2.out]; exact HEN.out) (by rw [HG6.out]; omega) hT with ⟨hk, hTk⟩ | ⟨hk, _, hoff', hal', hdn⟩
       ·subst hk
        obtain rfl := hkv.nil rfl; have HMt := hI (show MW w4 c cf N q' 4 false b ((i + 1) % 6) mb wt by rw [show (i + 1) % 6 = (i % 6 + 1) % 6 by omega]; exact hM'); have HLt := hI hTk.live; clear hkv hT hM' hC' hTk hi6; go_wp2_with fail
        go_roundw
        case rel => exact ⟨i + 1, q', by omega, by go_num, HMt.out, HLt.out, HSt.out⟩
        case measure => simp [intOf]; omega
       ·subst hk
        obtain ⟨TT, y, hy⟩ := hkv.some (by decide); subst hy; have HMt := hI (show MW w4 c cf N q' 4 true b ((i % 6 + 1) % 6) mb wt from hM'); have HDt := hI hdn; have HEt := hI (show Enough cf P q'.n by rw [hal'.n, HQN2.out]; exact HEN.out); have CKD := hI (kind_kv hkv wt (HTY.out _ hM'.vw.qs.base)); have HOF := hI hoff'; clear hkv hT hM' hC' hdn hal' hoff' hi6; go_wp2_with fail; refine CKD.out.mono ?_; rintro e wk ⟨rfl, hbk⟩; have HMk := hI (HMt.out.below hbk); have HSk := hI (Nat.le_trans HSt.out hbk.size); have CO2 := hI (qoff_any wk HMk.out.vw.qs.rack); rw [HOF.out] at CO2; clear hbk; go_wp2_with fail; refine CO2.out.mono ?_; rintro e wk2 ⟨rfl, hwk⟩; subst hwk; go_wp2_with fail; refine (vdown_any wk HMk.out.vw.vb).mono ?_; rintro e wk2 ⟨rfl, hwk⟩; subst hwk; go_wp2_with fail; have CB := hI (HMk.out.vw.boot (.slice al l.length cl) l (HVL.out.below (HBW.out _ HMk.out.vw.qs.base)) (Nat.le_trans (HBW.out _ HMk.out.vw.qs.base).size (Nat.le_refl _)) HLL.out); have HRW := hI (HDt.out.boot fun i => l.getD i 0); generalize (q'.boot fun i => l.getD i 0) = qB at *; go_wp2_with fail; refine CB.out.mono ?_; rintro e wB ⟨rfl, hvB, hcB⟩; have HVB := hI hvB; have CO := hI (qs_opens hvB.qs hvB.nn HRW.out.1 (by rw [HRW.out.2.2.1]; exact HEt.out)); have HSB := hI (Nat.le_trans HSk.out hcB.size); clear hvB hcB; go_wp2_with fail; refine CO.out.mono ?_; rintro e wO ⟨qO, hrcO, _, hnO, _, ⟨bO, gO, VO, rfl, hvO, _, _, hlO, hevO, _⟩ | ⟨v9, _, _, hne, _⟩⟩
        rotate_left
        ·exact absurd HRW.out.2.1 hne
        have hVO : VO = V3 := by
         rcases hevO with ⟨h1, _⟩ | ⟨y, h1, _⟩
         ·exact h1
         ·cases h1
        subst hVO; have HVO := hI hvO; have HLO := hI hlO; have HEO := hI (show Enough cf P qO.n by rw [hnO, HRW.out.2.2.1]; exact HEt.out); have HSO := hI (Nat.le_trans HSB.out hrcO.size); clear hrcO hnO hvO hlO hevO; go_wp2_with fail
        go_loopw [23] (fun x wr => RelMC4 w4 c cf N qO gO bO w3 x wr) (fun x _ => 3 - (intOf x).toNat)
        case atStart => exact ⟨0, by decide, rfl, HVO.out, HSO.out⟩
        case round =>
         obtain ⟨s, hs, rfl, hv, hsz⟩ := hrel
         by_cases hlt : s < 3
         ·have CR := hI (show Calls Tryz.prog 39 #[.pointer (some ⟨bO, 0, none⟩), .int .i64 (s : Int)] wr (GotB (VO.G s) (VO.B s) wr) from hv.reads HLO.out.inv HLO.out.on (t := s) (by rw [HTT.out.1]; omega) (HLO.out.read HEO.out (t := s) (by rw [HTT.out.1]; omega)).1)
          rw [HB3.out s hlt] at CR; have HV := hI hv; have HSZ := hI hsz; have HIA := hI (blks_is (s : Int) K); have hlA : (blks (s : Int) K).length = K := blks_length _ _; have CBK := hI (fun w' => blocks_any K (s : Int) w' HK8.out); have hlK := HK8.out; clear hv hsz; generalize blks (s : Int) K = A at *; generalize VO.G s = gS at *; go_wp2_with fail; refine CR.out.mono ?_; rintro e we ⟨vx, rfl, hx, hbe⟩; have HVe := hI (HV.out.below hbe); have HX := hI (show BkB w3.heap.size A vx we from ⟨HIA.out, own_base hx HSZ.out⟩); have HSe := hI (Nat.le_trans HSZ.out hbe.size); obtain ⟨gx, cx, rfl, -⟩ := own_slice' hx; rw [hlA] at HX; rw [hlA]; clear hx hbe; obtain ⟨d0, d1, d2, d3, d4⟩ := HCELL.out _ HVe.out.qs.base; go_wp2_with fail; refine (CBK.out _).mono ?_; rintro e wf ⟨vb, rfl, hvb, hbf⟩; have HVf := hI (HVe.out.below hbf); have HSf := hI (Nat.le_trans HSe.out hbf.size); have CS := hI (same_blocks _ vb A A wf (HX.out.below hbf).slk (slK_own hvb HIA.out rfl) (by rw [hlA]; exact hlK)); rw [show decide (A = A) = true from decide_eq_true rfl] at CS; obtain ⟨gb, cb, rfl, -⟩ := own_slice' hvb; rw [hlA] at CS; rw [hlA]; clear hvb hbf d0 d1 d2 d3 d4; go_wp2_with fail; refine CS.out.mono ?_; rintro e wg ⟨rfl, hbg⟩; have HVg := hI (HVf.out.below hbg); have HSg := hI (Nat.le_trans HSf.out hbg.size); clear hbg; go_wp2_with fail
          go_roundw
          case rel => exact ⟨s + 1, by omega, by go_num, HVg.out, HSg.out⟩
          case measure => simp [intOf]; omega
         ·obtain rfl : s = 3 := by omega
          have HV := hI hv; clear hv hsz; go_wp2_with fail; refine (mruns_any _).mono ?_; rintro e wz ⟨rfl, hbz⟩; have HVz := hI (HV.out.below hbz); clear hbz; go_wp2_with fail; go_ret; exact bit rfl (HBW.out _ HVz.out.qs.base)
      ·obtain rfl : i = 6 := by omega
       have HDt := hI HL.out.down; have HEt := hI (show Enough cf P q.n by rw [HQN2.out]; exact HEN.out); go_wp2_with fail; have CB := hI (HM7.out.vw.boot (.slice al l.length cl) l (HVL.out.below (HBW.out _ HM7.out.vw.qs.base)) (Nat.le_trans (HBW.out _ HM7.out.vw.qs.base).size (Nat.le_refl _)) HLL.out); have HRW := hI (HDt.out.boot fun i => l.getD i 0); generalize (q.boot fun i => l.getD i 0) = qB at *; go_wp2_with fail; refine CB.out.mono ?_; rintro e wB ⟨rfl, hvB, hcB⟩; have HVB := hI hvB; have CO := hI (qs_opens hvB.qs hvB.nn HRW.out.1 (by rw [HRW.out.2.2.1]; exact HEt.out)); have HSB := hI (Nat.le_trans HS7.out hcB.size); clear hvB hcB; go_wp2_with fail; refine CO.out.mono ?_; rintro e wO ⟨qO, hrcO, _, hnO, _, ⟨bO, gO, VO, rfl, hvO, _, _, hlO, hevO, _⟩ | ⟨v9, _, _, hne, _⟩⟩
       rotate_left
       ·exact absurd HRW.out.2.1 hne
       have hVO : VO = V3 := by
        rcases hevO with ⟨h1, _⟩ | ⟨y, h1, _⟩
        ·exact h1
        ·cases h1
       subst hVO; have HVO := hI hvO; have HLO := hI hlO; have HEO := hI (show Enough cf P qO.n by rw [hnO, HRW.out.2.2.1]; exact HEt.out); have HSO := hI (Nat.le_trans HSB.out hrcO.size); clear hrcO hnO hvO hlO hevO; go_wp2_with fail
       go_loopw [23] (fun x wr => RelMC4 w4 c cf N qO gO bO w3 x wr) (fun x _ => 3 - (intOf x).toNat)
       case atStart => exact ⟨0, by decide, rfl, HVO.out, HSO.out⟩
       case round =>
        obtain ⟨s, hs, rfl, hv, hsz⟩ := hrel
        by_cases hlt : s < 3
        ·have CR := hI (show Calls Tryz.prog 39 #[.pointer (some ⟨bO, 0, none⟩), .int .i64 (s : Int)] wr (GotB (VO.G s) (VO.B s) wr) from hv.reads HLO.out.inv HLO.out.on (t := s) (by rw [HTT.out.1]; omega) (HLO.out.read HEO.out (t := s) (by rw [HTT.out.1]; omega)).1)
         rw [HB3.out s hlt] at CR; have HV := hI hv; have HSZ := hI hsz; have HIA := hI (blks_is (s : Int) K); have hlA : (blks (s : Int) K).length = K := blks_length _ _; have CBK := hI (fun w' => blocks_any K (s : Int) w' HK8.out); have hlK := HK8.out; clear hv hsz; generalize blks (s : Int) K = A at *; generalize VO.G s = gS at *; go_wp2_with fail; refine CR.out.mono ?_; rintro e we ⟨vx, rfl, hx, hbe⟩; have HVe := hI (HV.out.below hbe); have HX := hI (show BkB w3.heap.size A vx we from ⟨HIA.out, own_base hx HSZ.out⟩); have HSe := hI (Nat.le_trans HSZ.out hbe.size); obtain ⟨gx, cx, rfl, -⟩ := own_slice' hx; rw [hlA] at HX; rw [hlA]; clear hx hbe; obtain ⟨d0, d1, d2, d3, d4⟩ := HCELL.out _ HVe.out.qs.base; go_wp2_with fail; refine (CBK.out _).mono ?_; rintro e wf ⟨vb, rfl, hvb, hbf⟩; have HVf := hI (HVe.out.below hbf); have HSf := hI (Nat.le_trans HSe.out hbf.size); have CS := hI (same_blocks _ vb A A wf (HX.out.below hbf).slk (slK_own hvb HIA.out rfl) (by rw [hlA]; exact hlK)); rw [show decide (A = A) = true from decide_eq_true rfl] at CS; obtain ⟨gb, cb, rfl, -⟩ := own_slice' hvb; rw [hlA] at CS; rw [hlA]; clear hvb hbf d0 d1 d2 d3 d4; go_wp2_with fail; refine CS.out.mono ?_; rintro e wg ⟨rfl, hbg⟩; have HVg := hI (HVf.out.below hbg); have HSg := hI (Nat.le_trans HSf.out hbg.size); clear hbg; go_wp2_with fail
         go_roundw
         case rel => exact ⟨s + 1, by omega, by go_num, HVg.out, HSg.out⟩
         case measure => simp [intOf]; omega
        ·obtain rfl : s = 3 := by omega
         have HV := hI hv; clear hv hsz; go_wp2_with fail; refine (mruns_any _).mono ?_; rintro e wz ⟨rfl, hbz⟩; have HVz := hI (HV.out.below hbz); clear hbz; go_wp2_with fail; go_ret; exact bit rfl (HBW.out _ HVz.out.qs.base)
end Go.Proofs.YthbpfnohbilhaaaGreatDoor
namespace Go.Proofs.YthbpfnohbilhaaaGreatDoor.mendCut
open Go.ChangeShapes Go.WideShapes Go.ChangeAt Go.RowKit
set_option maxRecDepth 100000 in
theorem contract (H : Type) (enc : TypeId × Value → H) (W : World) (base : Nat) (args : Array Value) (ds gs : List (DataW H)) (before : List MemPlace)
  (hval : ∀ (j : Nat) t v, Tryz.f5.params[j]? = some t → args[j]? = some v → Value.okWide Tryz.prog W .any base t v)
  (hW : DataW.Whole enc Tryz.prog Tryz.f5.params.toList Rows.mendCutSpec.vars false W args.toList ds gs before) (hL : laidMetH Tryz.prog Rows.mendCutRow.laid W) :
  Calls Tryz.prog 5 args W fun e W' => ∃ v, e = .returned v ∧ Rows.mendCutSpec.post enc Tryz.prog Tryz.f5 false true false false W args v W' := by
 have hW' := hW
 obtain ⟨p, q, hA0, hV, rfl, hfz, hnd⟩ := hW
 have hA : DataW.TrodAll enc Tryz.prog W 0 (fun _ => true) true Tryz.f5.params.toList args.toList ds p := hA0
 rw [Tryz.params5] at hA hval
 obtain ⟨v0, vs0, d0, ds0, p0, q0, hargs, rfl, rfl, h0, r0⟩ := trodAll_cons hA
 obtain ⟨v1, vs1, d1, ds1, p1, q1, rfl, rfl, rfl, h1, r1⟩ := trodAll_cons r0
 obtain ⟨v2, vs2, d2, ds2, p2, q2, rfl, rfl, rfl, h2, r2⟩ := trodAll_cons r1
 obtain ⟨v3, vs3, d3, ds3, p3, q3, rfl, rfl, rfl, h3, r3⟩ := trodAll_cons r2
 obtain ⟨v4, vs4, d4, ds4, p4, q4, rfl, rfl, rfl, h4, r4⟩ := trodAll_cons r3
 obtain ⟨rfl, rfl, rfl⟩ := trodAll_nil r4
 obtain rfl : args = #[v0, v1, v2, v3, v4] := Array.ext' hargs
 obtain ⟨k_, rfl, rfl, rfl, _⟩ := open_int Tryz.underlying3 (hval 0 3 v0 (by simp) (by simp)) h0
 obtain ⟨n_, rfl, rfl, rfl, _⟩ := open_int Tryz.underlying3 (hval 1 3 v1 (by simp) (by simp)) h1
 obtain ⟨f_, rfl, rfl, rfl, _⟩ := open_int Tryz.underlying3 (hval 2 3 v2 (by simp) (by simp)) h2
 have hv3 := (hval 3 53 v3 (by simp) (by simp))
 have hv4 := (hval 4 54 v4 (by simp) (by simp))
 obtain ⟨lg, hslg, hllg⟩ := open_nums hv3 h3
 obtain ⟨l, hsl, hll⟩ := open_u64s hv4 h4
 obtain ⟨rfl, rfl⟩ := trodVars_none hV
 clear hA0
 have hw : Calls Tryz.prog 5 #[.int .i64 k_, .int .i64 n_, .int .i64 f_, v3, v4] W (Bit true W) := mcut_any W k_ n_ f_ v3 lg hslg v4 l hsl hll (handle_of_laid hL)
 refine hw.mono fun e W' ⟨he, hg⟩ => ?_
 subst he
 exact ⟨_, rfl, law_post Tryz.laidOut (by kernel_rfl) (by kernel_rfl) (by kernel_rfl) Tryz.underlying4 hW' hg rfl rfl rfl⟩
theorem reads (os : Os) {H : Type} (enc : TypeId × Value → H) : ∃ places, DataW.whole enc Tryz.prog ((laidWorld os).forCall (fun _ _ => 0) ⟨#[], #[.int .i64 0, .int .i64 0, .int .i64 0, .slice none 0 0, .slice none 0 0], []⟩).memory Tryz.f5.params.toList Rows.mendCutSpec.vars false (#[.int .i64 0, .int .i64 0, .int .i64 0, .slice none 0 0, .slice none 0 0] : Array Value).toList 8 = some ([.lit (.int .i64 0), .lit (.int .i64 0), .lit (.int .i64 0), .nil, .nil], [], places) :=
 ⟨[], by kernel_rfl⟩
set_option maxRecDepth 100000 in
theorem lifted (os : Os) (started : os.Started) (H : Type) (enc : TypeId × Value → H) (F : Stop.Interp) :
  ReturnsInHanded {} Tryz.checked os 5 .any ((OpenSpec.ofChange Rows.mendCutSpec).preRow enc Tryz.prog Tryz.f5 Rows.mendCutRow.domain false Rows.mendCutRow.laid) (((OpenSpec.ofChange Rows.mendCutSpec).at F).post enc Tryz.prog Tryz.f5 false true false false) := by
 obtain ⟨places, hx⟩ := reads os enc
 refine returnsInHanded_of_row (C := Tryz.checked) (s := OpenSpec.ofChange Rows.mendCutSpec) Tryz.own started (by kernel_rfl) Tryz.func5
  (witness_row_at (enc := enc) (C := Tryz.checked) false (laidWorld os) #[.int .i64 0, .int .i64 0, .int .i64 0, .slice none 0 0, .slice none 0 0] rfl (by kernel_rfl) (by kernel_rfl) (by kernel_rfl)
   (OpenSpec.preRow_of_cond 8 hx (by kernel_rfl) (fun k hk => by cases hk) (by kernel_rfl) (laidWorld_met os _))) ?_
 intro W base args ds gs before hval hW _ _ _ hL _ _
 exact contract H enc W base args ds gs before hval hW hL
set_option maxHeartbeats 40000000 in
theorem closed : joinedFacts Tryz.prog 5 Tryz.f5 (OpenSpec.ofChange Rows.mendCutSpec).bare Rows.mendCutRow = true := by
 unfold joinedFacts
 simp only [Bool.and_eq_true]
 repeat' refine And.intro ?_ ?_
 all_goals (as_aux_lemma => kernel_rfl)
theorem said : Rows.MendCutSaid :=
 OpenClaim.holds_of_cond 5 Tryz.f5 rfl rfl rfl rfl rfl rfl rfl ⟨rfl, rfl, rfl, rfl, rfl⟩ rfl rfl rfl rfl rfl (by kernel_rfl) Tryz.func5 closed
  (of_decide_eq_true (by kernel_rfl)) (by unfold Func.isWrapper; first | (rw [if_pos (by decide +kernel)]; kernel_rfl) | (rw [if_neg (by decide +kernel)]; exact ⟨rfl, rfl⟩))
  (fun os started H enc _ F => by rw [OpenClaim.pre_eq_preRow]; exact lifted os started H enc F)
theorem plain (f : FuncId) (fn : Func) (hf : Tryz.pinned.checked.prog.funcNamed "stave/stavelaw13.MendCut" = some f) (hfn : Tryz.pinned.checked.prog.funcs[f]? = some fn) :
  true = Tryz.pinned.checked.prog.looks [] ∧ ∀ (j : Nat) t, fn.params[j]? = some t → Tryz.pinned.checked.prog.wantsStandIn t = false := by
 obtain rfl : f = 5 := Option.some.inj ((show Tryz.prog.funcNamed "stave/stavelaw13.MendCut" = some 5 by kernel_rfl).symm.trans hf) |>.symm
 obtain rfl : fn = Tryz.f5 := (Option.some.inj (Tryz.func5.symm.trans hfn)).symm
 have hall : (Tryz.f5.params.toList.all fun t => !Tryz.prog.wantsStandIn t) = true := by kernel_rfl
 refine ⟨by kernel_rfl, fun j t ht => ?_⟩
 have := List.all_eq_true.1 hall t (by simpa using Array.mem_of_getElem? ht)
 have h2 : Tryz.prog.wantsStandIn t = false := by simpa using this
 exact h2
end Go.Proofs.YthbpfnohbilhaaaGreatDoor.mendCut
namespace Go.Proofs.YthbpfnohbilhaaaGreatDoor
theorem MendCut_card : Rows.MendCutCardSaid :=
 Claim7.holds_tied_plain_at .later [] _ _ _ _ mendCut.said (fun _ h => by cases h) (by kernel_rfl) (fun _ h => by cases h) mendCut_row_tie rfl ⟨rfl, rfl⟩ (by kernel_rfl) rfl mendCut.plain (by kernel_rfl)
#print axioms MendCut_card
end Go.Proofs.YthbpfnohbilhaaaGreatDoor
