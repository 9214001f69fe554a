import Derived.Test.YthbpfnohbilhaaaGreatDoorZBMMem
import Derived.Test.YthbpfnohbilhaaaGreatDoorZBMNums
import Derived.Deep.RegionHeld3
import Derived.Test.YthbpfnohbilhaaaGreatDoorZBBase
import Derived.Test.YthbpfnohbilhaaaGreatDoorZBLaw
import Derived.Test.YthbpfnohbilhaaaGreatDoorZBOpenV
namespace Go.Proofs.YthbpfnohbilhaaaGreatDoor
open Go.RowKit Go.Deep Crc Dk Qk Go.Maps Hf
set_option maxHeartbeats 40000000
set_option maxRecDepth 100000
variable {c : Lc} {q : Rk}
theorem whole_any {lo : Nat} (w : World) (h : RackIn lo w c q) (cf : Cf) (t : Int) {m k : Nat} {x : Bool} (e1 : (tpts q cf t).length = m) (e2 : (ups q).length = k) (hx : ((m : Int) == (k : Int)) = x) :
  Calls Tryz.prog 32 #[.pointer (some ⟨c.r, 0, none⟩), .agg (cfA cf), .int .i64 t] w (Bit x w) := by
 have CLK := hI (fun b' w' (hb : JfS cf b' w w') => tlook_any w' (h.below hb.2.2) cf t)
 have CU := hI (fun b' w' (hb : JfS cf b' w w') => qonline_any w' (h.below hb.2.2))
 have H2 := hI (show JfS cf w.heap.size w (w.alloc (.cells (cfA cf) 23)) from ⟨cfB_new w cf, by simp, one_below _ _⟩)
 obtain ⟨d0, d1, d2, d3, d4⟩ := CfB.cells H2.out.1
 clear h
 go_enter Tryz.func32, Tryz.ntmps32
 go_wp2_with fail
 generalize w.alloc (.cells (cfA cf) 23) = w2 at *
 generalize w.heap.size = b at *
 refine (CLK.out _ _ H2.out).mono ?_
 rintro e w3 ⟨v, rfl, hp, hb3⟩
 have H3 := hI (H2.out.then hb3)
 obtain ⟨a, cap, rfl⟩ : ∃ a cap, v = .slice a m cap := by
  rcases hp with ⟨e, a, cap, h⟩ | ⟨b', o, cap, h, _⟩
  ·rw [e] at e1; subst e1; exact ⟨a, cap, h⟩
  ·rw [e1] at h; exact ⟨_, cap, h⟩
 clear hp hb3 d0 d1 d2 d3 d4
 go_wp2_with fail
 refine (CU.out _ _ H3.out).mono ?_
 rintro e w4 ⟨v4, rfl, ho, hb4⟩
 obtain ⟨a4, c4, rfl, -⟩ := own_slice' ho
 have H4 := hI (H3.out.then hb4)
 rw [e2]
 clear ho hb4
 go_wp2_with fail
 go_ret
 exact bit rfl H4.out.2.2
theorem VW.rot {w1 : World} {cf : Cf} {n : Nat} {g : Int} {down : Bool} {b : Nat} {w : World} (h : VW w1 c cf n q g down b w) (i sec a : Int) (x : Nat) :
  Calls Tryz.prog 30 #[.pointer (some ⟨c.r, 0, none⟩), .int .i64 i, .int .i64 sec, .int .i64 a, .int .u32 (x : Int)] w (VN w1 c cf n (Rk.rotten q i sec a x) g down b (.bool (Rk.rots q i sec a x)) w) :=
 h.step (qrot_any w h.qs.rack i sec a x) (by unfold Rk.rotten; split <;> rfl)
def RelML1 (w4 : World) (c : Lc) (cf : Cf) (N D X b : Nat) (w0 : World) (v : Value) (wr : World) : Prop :=
 ∃ (d : Nat) (q : Rk), d ≤ D + 1 ∧ v = .int .i64 d ∧ VW w4 c cf N q 1 false b wr ∧ LoI cf q (Lt X D d 0) ∧ LoR cf q d 0 ∧ w0.heap.size ≤ wr.heap.size
def RelML2 (w4 : World) (c : Lc) (cf : Cf) (N D X d b : Nat) (w0 : World) (v : Value) (wr : World) : Prop :=
 ∃ (i : Nat) (q : Rk), i ≤ 4 ∧ v = .int .i64 i ∧ VW w4 c cf N q 1 false b wr ∧ LoI cf q (Lt X D d i) ∧ LoR cf q d i ∧ w0.heap.size ≤ wr.heap.size
def RelML3 (w4 : World) (c : Lc) (cf : Cf) (N K X b mb : Nat) (w0 : World) (v : Value) (wr : World) : Prop :=
 ∃ (i : Nat) (q : Rk) (T : Nat → Nat → Bool), i ≤ 18 ∧ v = .int .i64 i ∧ MW w4 c cf N q 1 false b (i % 6) mb wr ∧ LoI cf q T ∧ TOk X (N - K) N i T ∧ w0.heap.size ≤ wr.heap.size
def RelML4 (w4 : World) (c : Lc) (cf : Cf) (N : Nat) (q : Rk) (b g mb : Nat) (w0 : World) (v : Value) (wr : World) : Prop :=
 ∃ i : Nat, i ≤ 4 ∧ v = .int .i64 i ∧ MW w4 c cf N q 1 false b g mb wr ∧ w0.heap.size ≤ wr.heap.size
theorem mlost_any (w : World) (k_ n_ s_ r_ : Int) (hT : Typ w) : Calls Tryz.prog 4 #[.int .i64 k_, .int .i64 n_, .int .i64 s_, .int .i64 r_] w (Bit true w) := by
 have HT := hI hT
 clear hT
 go_enter Tryz.func4, Tryz.ntmps4
 go_wp2_with fail
 refine (fixed_any k_ n_ 4 1 _ (by omega) (by omega)).mono ?_
 rintro e w1 ⟨cf, hcf, rfl, hb1⟩
 have H2 := hI (show JfS cf w1.heap.size w (w1.alloc (.cells (cfA cf) 23)) from ⟨cfB_new w1 cf, by simp, balloc hb1 _⟩)
 have HCF := hI hcf
 have COP := hI (fun w' => opened13N_ok w' cf hcf.1)
 obtain ⟨d0, d1, d2, d3, d4⟩ := CfB.cells H2.out.1
 clear hb1 hcf
 go_wp2_with fail
 generalize w1.alloc (.cells (cfA cf) 23) = w2 at *
 generalize w1.heap.size = bc at *
 refine (COP.out _).mono ?_
 rintro e w3 ⟨c, b, q0, w4, hnr, rfl, hvw, hb4, hlive, hrem, halive, hkk, hnn⟩
 have HNR := hI hnr
 clear hnr
 have HJ3 := hI hvw
 have HL3 := hI hlive
 have HR3 := hI hrem
 have HALV := hI halive
 have HKQ := hI hkk
 have HNQ := hI hnn
 have HB4 := hI hb4
 have HBW := hI (fun (w' : World) (h : Below w4.heap.size w4 w') => show Below w.heap.size w w' from bthen H2.out.2.2 (bthen hb4 h))
 have HTY := hI (fun (w' : World) (h : Below w4.heap.size w4 w') => show Typ w' from HT.out.below (HBW.out w' h))
 have HCC := hI (fun (w' : World) (h : Below w4.heap.size w4 w') => show CfB cf bc w' from CfB.below H2.out.1 H2.out.2.1 (bthen hb4 h))
 have HRT := hI (show CfRight cf from hlive.on.right)
 have HENO := hI (show Enough cf (allP q0) q0.n from allP_enough hlive.on.fits)
 obtain ⟨N, hN⟩ : ∃ N, q0.n = N := ⟨_, rfl⟩
 rw [hN] at HJ3
 have HN := hI hN
 obtain ⟨K, hK⟩ : ∃ K : Nat, cf.k = K := ⟨cf.k.toNat, by have := hlive.on.right.2.2.1; omega⟩
 have HK := hI hK
 have HK8 := hI (show K ≤ 8 by have := hlive.on.right.2.2.2.1; have := hlive.on.right.2.2.2.2.1; omega)
 have HFAR := hI (show Far w3.heap.size c N from by have := hvw.qs.rack.far; rwa [hN] at this)
 have HCELL := hI (fun (w' : World) (h : Below w4.heap.size w4 w') => show w'.cell? ⟨bc, 0, none⟩ = some (.int .i64 cf.id) ∧ w'.cell? ⟨bc, 1, none⟩ = some (.int .i64 K) ∧ w'.cell? ⟨bc, 2, none⟩ = some (.int .i64 cf.n) ∧ w'.cell? ⟨bc, 3, none⟩ = some (.int .i64 cf.t) ∧ w'.cell? ⟨bc, 4, none⟩ = some (.int .i64 cf.s) by
  have := CfB.cells (HCC.out w' h); rwa [hK] at this)
 clear hvw hb4 hlive hrem halive hkk hnn hN hK d0 d1 d2 d3 d4
 have HTT := hI (show cf.t = 4 ∧ cf.s = 1 from HCF.out.2)
 have HG6 := hI (show groups cf = 6 by unfold groups; rw [HTT.out.1, HTT.out.2]; rfl)
 have HNC := hI (show cf.n = (N : Int) by have := HNQ.out; rw [HN.out] at this; exact this.symm)
 have HKN := hI (show 1 ≤ K ∧ K ≤ N ∧ N ≤ 8 by have h1 := HRT.out.2.2.1; have h2 := HRT.out.2.2.2.1; have h3 := HRT.out.2.2.2.2.1; have := HK.out; have := HNC.out; omega)
 have HSEC := hI (fun i : Nat => show ((tsec cf i : Nat) : Int) = 1 + (K : Int) + (i : Int) by
  unfold tsec; rw [HTT.out.2, show cf.k.toNat = K by have := HK.out; omega]
  simp)
 have CGR := hI (fun W => show Calls Tryz.prog 23 #[.agg #[.int .i64 cf.id, .int .i64 K, .int .i64 cf.n, .int .i64 cf.t, .int .i64 cf.s]] W (Num 6 W) from by have := mgroups_any W cf HRT.out; rw [HG6.out] at this; unfold cfA at this; rwa [HK.out] at this)
 go_wp2_with fail
 refine (within_int s_ 0 3 _ (by omega) (by omega) (by omega)).mono ?_
 rintro e w5' ⟨xI, hxI, rfl, hw⟩
 subst hw
 obtain ⟨X, rfl⟩ := Int.eq_ofNat_of_zero_le hxI.1
 have HX := hI (show X < 4 by omega)
 clear hxI
 obtain ⟨D, hD⟩ : ∃ D : Nat, D = N - K := ⟨_, rfl⟩
 have HD := hI hD
 clear hD
 have HLO := hI ((LoI.first HL3.out HALV.out HR3.out).congr (T' := Lt X D 0 0) fun t d _ _ => (decide_eq_true (show ¬ ((d < 0 ∨ (d = 0 ∧ t < 0)) ∧ (t = X ∨ d < D)) by omega)).symm)
 have HLR := hI (show LoR cf q0 0 0 from fun d p _ => HNR.out d p)
 have hwD : IntKind.i64.wrap (cf.n - (K : Int)) = (D : Int) := by rw [HNC.out]; have := HKN.out; have := HD.out; rw [IntWalk.i64_in _ (by omega)]; omega
 go_wp2_with fail
 go_loopw [13] (fun x wr => RelML1 w4 c cf N D X b w3 x wr) (fun x _ => D + 1 - (intOf x).toNat)
 case atStart => exact ⟨0, q0, Nat.zero_le _, rfl, HJ3.out, HLO.out, HLR.out, Nat.le_refl _⟩
 case round =>
  obtain ⟨d, q, hd, rfl, hv, hL, hR, hsz⟩ := hrel; obtain ⟨d0, d1, d2, d3, d4⟩ := HCELL.out _ hv.qs.base
  by_cases hlt : d ≤ D
  ·have HV := hI hv
   have HL := hI hL; have HR := hI hR; have HSZ := hI hsz; clear hv hL hR hsz
   have hdi : (d : Int) ≤ (D : Int) := by omega
   have HLT := hI hlt; go_wp2_with fail; clear d0 d1 d2 d3 d4
   go_loopw [14] (fun x wr => RelML2 w4 c cf N D X d b w3 x wr) (fun x _ => 4 - (intOf x).toNat)
   case atStart => exact ⟨0, q, by decide, rfl, HV.out, HL.out, HR.out, HSZ.out⟩
   case round =>
    obtain ⟨i, q2, hi, rfl, hv, hL, hR, hsz⟩ := hrel; obtain ⟨d0, d1, d2, d3, d4⟩ := HCELL.out _ hv.qs.base; have hqn : q2.n = N := hv.nn; have hkn := HKN.out; have hDD := HD.out
    by_cases hlt2 : i < 4
    ·have hi4 : (i : Int) < 4 := by omega
     have hw1 : IntKind.i64.wrap (1 + (K : Int)) = 1 + (K : Int) := IntWalk.i64_in _ (by omega); have hw2 : IntKind.i64.wrap (1 + (K : Int) + (i : Int)) = 1 + (K : Int) + (i : Int) := IntWalk.i64_in _ (by omega)
     by_cases hix : i = X
     ·have hee : ((i : Int) == (X : Int)) = true := by rw [hix]; simp
      have HRN := hI (hL.rotNext hR (by rw [hqn]; omega) (by rw [HTT.out.1]; omega) (Or.inl hix)); rw [show ((tsec cf i : Nat) : Int) = 1 + (K : Int) + (i : Int) from HSEC.out i] at HRN
      have CR := hI (show Calls Tryz.prog 30 #[.pointer (some ⟨c.r, 0, none⟩), .int .i64 (d : Int), .int .i64 (1 + (K : Int) + (i : Int)), .int .i64 9, .int .u32 1] wr (VN w4 c cf N (Rk.rotten q2 (d : Int) (1 + (K : Int) + (i : Int)) 9 1) 1 false b (.bool true) wr) by
       have := hv.rot (d : Int) (1 + (K : Int) + (i : Int)) 9 1; rw [HRN.out.1] at this
       exact this)
      have HSZ2 := hI hsz; clear hv hL hR hsz hqn hkn hDD hix; go_wp2_with fail; refine CR.out.mono ?_; rintro e w6 ⟨rfl, hv6, hc6⟩; have HV6 := hI hv6; have HS6 := hI (Nat.le_trans HSZ2.out hc6.size); clear hv6 hc6; go_wp2_with fail
      go_roundw
      case rel => exact ⟨i + 1, _, by omega, by go_num, HV6.out, HRN.out.2.1, HRN.out.2.2.1, HS6.out⟩
      case measure => simp [intOf]; omega
     ·have hee : ((i : Int) == (X : Int)) = false := by simpa using (by omega : ¬ (i : Int) = (X : Int))
      by_cases hdD : d < D
      ·have hdl : (d : Int) < (D : Int) := by omega
       have HRN := hI (hL.rotNext hR (by rw [hqn]; omega) (by rw [HTT.out.1]; omega) (Or.inr hdD)); rw [show ((tsec cf i : Nat) : Int) = 1 + (K : Int) + (i : Int) from HSEC.out i] at HRN
       have CR := hI (show Calls Tryz.prog 30 #[.pointer (some ⟨c.r, 0, none⟩), .int .i64 (d : Int), .int .i64 (1 + (K : Int) + (i : Int)), .int .i64 9, .int .u32 1] wr (VN w4 c cf N (Rk.rotten q2 (d : Int) (1 + (K : Int) + (i : Int)) 9 1) 1 false b (.bool true) wr) by
        have := hv.rot (d : Int) (1 + (K : Int) + (i : Int)) 9 1; rw [HRN.out.1] at this
        exact this)
       have HSZ2 := hI hsz; clear hv hL hR hsz hqn hkn hDD hix; go_wp2_with fail; refine CR.out.mono ?_; rintro e w6 ⟨rfl, hv6, hc6⟩; have HV6 := hI hv6; have HS6 := hI (Nat.le_trans HSZ2.out hc6.size); clear hv6 hc6; go_wp2_with fail
       go_roundw
       case rel => exact ⟨i + 1, _, by omega, by go_num, HV6.out, HRN.out.2.1, HRN.out.2.2.1, HS6.out⟩
       case measure => simp [intOf]; omega
      ·have hdl : ¬ (d : Int) < (D : Int) := by omega
       have HV6 := hI hv; have HRN := hI (hL.rotSkip hR (by omega)); have HSZ2 := hI hsz; clear hv hL hR hsz hqn hkn hDD hix; go_wp2_with fail
       go_roundw
       case rel => exact ⟨i + 1, q2, by omega, by go_num, HV6.out, HRN.out.1, HRN.out.2, HSZ2.out⟩
       case measure => simp [intOf]; omega
    ·obtain rfl : i = 4 := by omega
     have HV2 := hI hv; have HRD := hI (hL.rotDisk hR (by rw [HTT.out.1]; rfl)); have HSZ2 := hI hsz
     have hwd : IntKind.i64.wrap ((d : Int) + 1) = (d : Int) + 1 := by have := HLT.out; exact IntWalk.i64_in _ (by omega)
     clear hv hL hR hsz d0 d1 d2 d3 d4 hqn hkn hDD; go_wp2_with fail
     go_roundw
     case rel => exact ⟨d + 1, q2, by have := HLT.out; omega, by go_num, HV2.out, HRD.out.1, HRD.out.2, HSZ2.out⟩
     case measure => simp [intOf]; have := HLT.out; omega
  ·obtain rfl : d = D + 1 := by omega
   have HV := hI hv; have HL := hI hL; have HSZ := hI hsz; clear hv hL hR hsz
   have hdi : ¬ ((D + 1 : Nat) : Int) ≤ (D : Int) := by omega
   go_wp2_with fail; clear d0 d1 d2 d3 d4 hdi hwD; refine (mnew_any _ b).mono ?_; rintro e w5 ⟨rfl, hm5, hb5⟩; have HM5 := hI (HV.out.cursor hm5 hb5); have HS5 := hI (Nat.le_trans HSZ.out hb5.size); have HTO := hI (show TOk X (N - K) N 0 (Lt X D (D + 1) 0) by rw [← HD.out]; exact TOk.first X D N); generalize wr.heap.size = mb at *; clear hm5 hb5; go_wp2_with fail
   go_loopw [16] (fun x wr => RelML3 w4 c cf N K X b mb w3 x wr) (fun x _ => 18 - (intOf x).toNat)
   case atStart => exact ⟨0, q, _, by decide, rfl, HM5.out, HL.out, HTO.out, HS5.out⟩
   case round =>
    obtain ⟨i, q2, T, hi, rfl, hM, hL, hTO, hsz⟩ := hrel
    obtain ⟨gg, hgg⟩ : ∃ gg, gg = i % 6 := ⟨_, rfl⟩
    rw [← hgg] at hM; have HGG := hI hgg; clear hgg; have HM := hI hM; have HL2 := hI hL; have HTO2 := hI hTO; have HSZ2 := hI hsz; obtain ⟨d0, d1, d2, d3, d4⟩ := HCELL.out _ hM.vw.qs.base; clear hM hL hTO hsz; go_wp2_with fail; refine (CGR.out _).mono ?_; rintro e w7 ⟨rfl, hb7⟩; have HM7 := hI (HM.out.below hb7); have HS7 := hI (Nat.le_trans HSZ2.out hb7.size); clear hb7 d0 d1 d2 d3 d4; go_wp2_with fail; refine (within_int r_ 1 3 _ (by omega) (by omega) (by omega)).mono ?_; rintro e w7' ⟨rI, hrI, rfl, hw⟩; subst hw; have hwm : IntKind.i64.wrap (6 * rI) = 6 * rI := IntWalk.i64_in _ (by omega)
    by_cases hlt3 : (i : Int) < 6 * rI
    ·have CT := hI (HM7.out.tick HL2.out.live.on.fits (by rw [HG6.out, HGG.out]; omega) HL2.out.live.on.off HL2.out.live.whole)
     have CAT := hI HM7.out.at
     have hw2x : IntKind.i64.wrap (2 + (X : Int)) = 2 + (X : Int) := by have := HX.out; exact IntWalk.i64_in _ (by omega)
     have HI18 := hI (show i < 18 by omega); clear hrI; go_wp2_with fail; refine CAT.out.mono ?_; rintro e w7' ⟨rfl, hw⟩; subst hw; go_wp2_with fail; refine CT.out.mono ?_; rintro e wt ⟨q', k, m, v, rfl, hkv, hTk, hvv, hM', hC'⟩; rw [HG6.out] at hM'
     have hMN : MW w4 c cf N q' 1 (decide (k = 5)) b ((i + 1) % 6) mb wt := by rw [show (i + 1) % 6 = (gg + 1) % 6 by rw [HGG.out]; omega]; exact hM'
     have HSt := hI (Nat.le_trans HS7.out hC'.size); have HTyp := hI (HTY.out _ hM'.vw.qs.base); clear hM' hC'
     rcases HL2.out.step HTO2.out HM7.out.vw.nn HK.out ⟨HKN.out.1, HKN.out.2.1⟩ HTT.out.2 HTT.out.1 HX.out (by rw [HGG.out] at hTk; exact hTk) with ⟨hk, hne, _, T', hL', hTO'⟩ | ⟨hk, he, hqq, hTO', hc0, hvx⟩
     ·subst hk
      obtain rfl := hkv.nil rfl; have HMt := hI (show MW w4 c cf N q' 1 false b ((i + 1) % 6) mb wt from hMN); have HLt := hI hL'; have HTt := hI hTO'
      have hge : ((gg : Int) == 2 + (X : Int)) = false := by have := HGG.out; simpa using (by omega : ¬ (gg : Int) = 2 + (X : Int))
      have CL := hI (lost_nil wt); clear hkv hTk hvv hMN hL' hTO' hne; go_wp2_with fail; refine CL.out.mono ?_; rintro e w8 ⟨rfl, hb8⟩; have HM8 := hI (HMt.out.below (balloc hb8 (.cells #[.int .i64 0, .int .i64 0, .int .i64 0] 48))); have HS8 := hI (Nat.le_trans HSt.out (balloc hb8 (.cells #[.int .i64 0, .int .i64 0, .int .i64 0] 48)).size); clear hb8; go_wp2_with fail
      go_roundw
      case rel => exact ⟨i + 1, q', T', HI18.out, by go_num, HM8.out, HLt.out, HTt.out, HS8.out⟩
      case measure => simp [intOf]; have := HI18.out; omega
     ·subst hk hqq
      have HMt := hI (show MW w4 c cf N q' 1 false b ((i + 1) % 6) mb wt from hMN); have HTt := hI hTO'
      have hge : ((gg : Int) == 2 + (X : Int)) = true := by have := HGG.out; simpa using (by omega : (gg : Int) = 2 + (X : Int))
      have hv1 := hvv X (by rw [HTT.out.2, HGG.out]; exact he) hc0; rw [hvx] at hv1; obtain ⟨TT, y, hy⟩ := hkv.some (by decide); have CL := hI (lost_loss [(opTick, (gg : Int)), (opTGet, (X : Int))] X ((K : Int) - 1) K wt v hv1 HTyp.out); subst hy
      have hwk : IntKind.i64.wrap ((K : Int) - 1) = (K : Int) - 1 := by have := HKN.out; exact IntWalk.i64_in _ (by omega)
      clear hkv hTk hvv hMN hTO' hc0 hvx hv1 he; go_wp2_with fail; refine CL.out.mono ?_; rintro e w8 ⟨rfl, hb8⟩; have HM8 := hI (HMt.out.below (balloc hb8 (.cells #[.int .i64 (X : Int), .int .i64 ((K : Int) - 1), .int .i64 K] 48))); have HS8 := hI (Nat.le_trans HSt.out (balloc hb8 (.cells #[.int .i64 (X : Int), .int .i64 ((K : Int) - 1), .int .i64 K] 48)).size)
      have hql := fun w => neql_loss (X : Int) ((K : Int) - 1) K w
      have hgd := guard_loss; obtain ⟨d0, d1, d2, d3, d4⟩ := HCELL.out _ HM8.out.vw.qs.base; clear hb8; go_wp2_with fail
      go_roundw
      case rel => exact ⟨i + 1, q', T, HI18.out, by go_num, HM8.out, HL2.out, HTt.out, HS8.out⟩
      case measure => simp [intOf]; have := HI18.out; omega
    ·have HI6 := hI (show 6 ≤ i by omega)
     clear hrI; go_wp2_with fail; clear hlt3 hwm
     go_loopw [22] (fun x wr => RelML4 w4 c cf N q2 b gg mb w3 x wr) (fun x _ => 4 - (intOf x).toNat)
     case atStart => exact ⟨0, by decide, rfl, HM7.out, HS7.out⟩
     case round =>
      obtain ⟨j, hj, rfl, hM, hsz⟩ := hrel; obtain ⟨d0, d1, d2, d3, d4⟩ := HCELL.out _ hM.vw.qs.base
      by_cases hlt4 : j < 4
      ·have HMj := hI hM
       have HSj := hI hsz; have hlk := HL2.out.look (t := j) (by rw [HTT.out.1]; omega); have hq2n : q2.n = N := hM.vw.nn
       by_cases hjx : j = X
       ·have hjx' : X = j := hjx.symm
        subst hjx'
        have hee : ((X : Int) == (X : Int)) = true := by simp
        have CW := hI (fun W (hR : RackIn w4.heap.size W c q2) => show Calls Tryz.prog 32 #[.pointer (some ⟨c.r, 0, none⟩), .agg #[.int .i64 cf.id, .int .i64 K, .int .i64 cf.n, .int .i64 cf.t, .int .i64 cf.s], .int .i64 (X : Int)] W (Bit false W) by
         have := whole_any W hR cf (X : Int) (m := N - (N - K + 1)) (k := N) (x := false) (hlk.1.trans (HTO2.out.few hq2n)) (hlk.2.trans hq2n) (by have := HKN.out; simpa using (by omega : ¬ ((N - (N - K + 1) : Nat) : Int) = (N : Int)))
         unfold cfA at this; rwa [HK.out] at this)
        clear hM hsz hlk hq2n hjx; go_wp2_with fail; refine (CW.out _ HMj.out.vw.qs.rack).mono ?_; rintro e w8 ⟨rfl, hb8⟩; have HM8 := hI (HMj.out.below hb8); have HS8 := hI (Nat.le_trans HSj.out hb8.size); clear hb8 d0 d1 d2 d3 d4; obtain ⟨d0, d1, d2, d3, d4⟩ := HCELL.out _ HM8.out.vw.qs.base; go_wp2_with fail
        go_roundw
        case rel => exact ⟨X + 1, by omega, by go_num, HM8.out, HS8.out⟩
        case measure => simp [intOf]; omega
       ·have hee : ((j : Int) == (X : Int)) = false := by simpa using (by omega : ¬ (j : Int) = (X : Int))
        have hnn : ((j : Int) != (X : Int)) = true := by simpa using (by omega : ¬ (j : Int) = (X : Int))
        have hno : ¬ (j : Int) = (X : Int) := by omega
        have CW := hI (fun W (hR : RackIn w4.heap.size W c q2) => show Calls Tryz.prog 32 #[.pointer (some ⟨c.r, 0, none⟩), .agg #[.int .i64 cf.id, .int .i64 K, .int .i64 cf.n, .int .i64 cf.t, .int .i64 cf.s], .int .i64 (j : Int)] W (Bit true W) by
         have := whole_any W hR cf (j : Int) (m := N) (k := N) (x := true) (hlk.1.trans (HTO2.out.full hq2n hlt4 hjx (by have := HI6.out; omega))) (hlk.2.trans hq2n) (by simp)
         unfold cfA at this; rwa [HK.out] at this)
        clear hM hsz hlk hq2n hjx; go_wp2_with fail; refine (CW.out _ HMj.out.vw.qs.rack).mono ?_; rintro e w8 ⟨rfl, hb8⟩; have HM8 := hI (HMj.out.below hb8); have HS8 := hI (Nat.le_trans HSj.out hb8.size); clear hb8 d0 d1 d2 d3 d4; obtain ⟨d0, d1, d2, d3, d4⟩ := HCELL.out _ HM8.out.vw.qs.base; go_wp2_with fail; refine (CW.out _ HM8.out.vw.qs.rack).mono ?_; rintro e w9 ⟨rfl, hb9⟩; have HM9 := hI (HM8.out.below hb9); have HS9 := hI (Nat.le_trans HS8.out hb9.size); clear hb9 d0 d1 d2 d3 d4; go_wp2_with fail
        go_roundw
        case rel => exact ⟨j + 1, by omega, by go_num, HM9.out, HS9.out⟩
        case measure => simp [intOf]; omega
      ·obtain rfl : j = 4 := by omega
       have HMj := hI hM; clear hM hsz d0 d1 d2 d3 d4; go_wp2_with fail; refine (mruns_any _).mono ?_; rintro e wz ⟨rfl, hbz⟩; have HMz := hI (HMj.out.below hbz); clear hbz; go_wp2_with fail; go_ret; exact bit rfl (HBW.out _ HMz.out.vw.qs.base)
end Go.Proofs.YthbpfnohbilhaaaGreatDoor
namespace Go.Proofs.YthbpfnohbilhaaaGreatDoor.mendLost
open Go.ChangeShapes Go.WideShapes Go.ChangeAt Go.RowKit
set_option maxHeartbeats 40000000
set_option maxRecDepth 100000
theorem contract (H : Type) (enc : TypeId × Value → H) (W : World) (base : Nat) (args : Array Value) (ds gs : List (DataW H)) (before : List MemPlace)
  (hval : ∀ (j : Nat) t v, Tryz.f4.params[j]? = some t → args[j]? = some v → Value.okWide Tryz.prog W .any base t v)
  (hW : DataW.Whole enc Tryz.prog Tryz.f4.params.toList Rows.mendLostSpec.vars false W args.toList ds gs before) (hL : laidMetH Tryz.prog Rows.mendLostRow.laid W) :
  Calls Tryz.prog 4 args W fun e W' => ∃ v, e = .returned v ∧ Rows.mendLostSpec.post enc Tryz.prog Tryz.f4 false true false false W args v W' := by
 have hW' := hW
 obtain ⟨p, q, hA0, hV, rfl, hfz, hnd⟩ := hW
 have hA : DataW.TrodAll enc Tryz.prog W 0 (fun _ => true) true Tryz.f4.params.toList args.toList ds p := hA0
 rw [Tryz.params4] at hA hval
 obtain ⟨v0, vs0, d0, ds0, p0, q0, hargs, rfl, rfl, h0, r0⟩ := trodAll_cons hA
 obtain ⟨v1, vs1, d1, ds1, p1, q1, rfl, rfl, rfl, h1, r1⟩ := trodAll_cons r0
 obtain ⟨v2, vs2, d2, ds2, p2, q2, rfl, rfl, rfl, h2, r2⟩ := trodAll_cons r1
 obtain ⟨v3, vs3, d3, ds3, p3, q3, rfl, rfl, rfl, h3, r3⟩ := trodAll_cons r2
 obtain ⟨rfl, rfl, rfl⟩ := trodAll_nil r3
 obtain rfl : args = #[v0, v1, v2, v3] := Array.ext' hargs
 obtain ⟨k_, rfl, rfl, rfl, _⟩ := open_int Tryz.underlying3 (hval 0 3 v0 (by simp) (by simp)) h0
 obtain ⟨n_, rfl, rfl, rfl, _⟩ := open_int Tryz.underlying3 (hval 1 3 v1 (by simp) (by simp)) h1
 obtain ⟨s_, rfl, rfl, rfl, _⟩ := open_int Tryz.underlying3 (hval 2 3 v2 (by simp) (by simp)) h2
 obtain ⟨r_, rfl, rfl, rfl, _⟩ := open_int Tryz.underlying3 (hval 3 3 v3 (by simp) (by simp)) h3
 obtain ⟨rfl, rfl⟩ := trodVars_none hV
 clear hA0
 have hw : Calls Tryz.prog 4 #[.int .i64 k_, .int .i64 n_, .int .i64 s_, .int .i64 r_] W (Bit true W) := mlost_any W k_ n_ s_ r_ (handle_of_laid hL)
 refine hw.mono fun e W' ⟨he, hg⟩ => ?_
 subst he
 exact ⟨_, rfl, law_post Tryz.laidOut (by kernel_rfl) (by kernel_rfl) (by kernel_rfl) Tryz.underlying4 hW' hg rfl rfl rfl⟩
theorem reads (os : Os) {H : Type} (enc : TypeId × Value → H) : ∃ places, DataW.whole enc Tryz.prog ((laidWorld os).forCall (fun _ _ => 0) ⟨#[], #[.int .i64 0, .int .i64 0, .int .i64 0, .int .i64 0], []⟩).memory Tryz.f4.params.toList Rows.mendLostSpec.vars false (#[.int .i64 0, .int .i64 0, .int .i64 0, .int .i64 0] : Array Value).toList 8 = some ([.lit (.int .i64 0), .lit (.int .i64 0), .lit (.int .i64 0), .lit (.int .i64 0)], [], places) :=
 ⟨[], by kernel_rfl⟩
theorem lifted (os : Os) (started : os.Started) (H : Type) (enc : TypeId × Value → H) (F : Stop.Interp) :
  ReturnsInHanded {} Tryz.checked os 4 .any ((OpenSpec.ofChange Rows.mendLostSpec).preRow enc Tryz.prog Tryz.f4 Rows.mendLostRow.domain false Rows.mendLostRow.laid) (((OpenSpec.ofChange Rows.mendLostSpec).at F).post enc Tryz.prog Tryz.f4 false true false false) := by
 obtain ⟨places, hx⟩ := reads os enc
 refine returnsInHanded_of_row (C := Tryz.checked) (s := OpenSpec.ofChange Rows.mendLostSpec) Tryz.own started (by kernel_rfl) Tryz.func4
  (witness_row_at (enc := enc) (C := Tryz.checked) false (laidWorld os) #[.int .i64 0, .int .i64 0, .int .i64 0, .int .i64 0] rfl (by kernel_rfl) (by kernel_rfl) (by kernel_rfl)
   (OpenSpec.preRow_of_cond 8 hx (by kernel_rfl) (fun k hk => by cases hk) (by kernel_rfl) (laidWorld_met os _))) ?_
 intro W base args ds gs before hval hW _ _ _ hL _ _
 exact contract H enc W base args ds gs before hval hW hL
theorem closed : joinedFacts Tryz.prog 4 Tryz.f4 (OpenSpec.ofChange Rows.mendLostSpec).bare Rows.mendLostRow = true := by
 unfold joinedFacts
 simp only [Bool.and_eq_true]
 repeat' refine And.intro ?_ ?_
 all_goals (as_aux_lemma => kernel_rfl)
theorem said : Rows.MendLostSaid :=
 OpenClaim.holds_of_cond 4 Tryz.f4 rfl rfl rfl rfl rfl rfl rfl ⟨rfl, rfl, rfl, rfl, rfl⟩ rfl rfl rfl rfl rfl (by kernel_rfl) Tryz.func4 closed
  (of_decide_eq_true (by kernel_rfl)) (by unfold Func.isWrapper; first | (rw [if_pos (by decide +kernel)]; kernel_rfl) | (rw [if_neg (by decide +kernel)]; exact ⟨rfl, rfl⟩))
  (fun os started H enc _ F => by rw [OpenClaim.pre_eq_preRow]; exact lifted os started H enc F)
theorem plain (f : FuncId) (fn : Func) (hf : Tryz.pinned.checked.prog.funcNamed "stave/stavelaw13.MendLost" = some f) (hfn : Tryz.pinned.checked.prog.funcs[f]? = some fn) :
  true = Tryz.pinned.checked.prog.looks [] ∧ ∀ (j : Nat) t, fn.params[j]? = some t → Tryz.pinned.checked.prog.wantsStandIn t = false := by
 obtain rfl : f = 4 := Option.some.inj ((show Tryz.prog.funcNamed "stave/stavelaw13.MendLost" = some 4 by kernel_rfl).symm.trans hf) |>.symm
 obtain rfl : fn = Tryz.f4 := (Option.some.inj (Tryz.func4.symm.trans hfn)).symm
 have hall : (Tryz.f4.params.toList.all fun t => !Tryz.prog.wantsStandIn t) = true := by kernel_rfl
 refine ⟨by kernel_rfl, fun j t ht => ?_⟩
 have := List.all_eq_true.1 hall t (by simpa using Array.mem_of_getElem? ht)
 have h2 : Tryz.prog.wantsStandIn t = false := by simpa using this
 exact h2
end Go.Proofs.YthbpfnohbilhaaaGreatDoor.mendLost
namespace Go.Proofs.YthbpfnohbilhaaaGreatDoor
theorem MendLost_card : Rows.MendLostCardSaid :=
 Claim7.holds_tied_plain_at .later [] _ _ _ _ mendLost.said (fun _ h => by cases h) (by kernel_rfl) (fun _ h => by cases h) mendLost_row_tie rfl ⟨rfl, rfl⟩ (by kernel_rfl) rfl mendLost.plain (by kernel_rfl)
#print axioms MendLost_card
end Go.Proofs.YthbpfnohbilhaaaGreatDoor
