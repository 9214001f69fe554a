import Derived.Test.YthbpfnohbilhaaaGreatDoorZVYMem
import Derived.Test.YthbpfnohbilhaaaGreatDoorZVOpenV
import Derived.Deep.RegionHeld3
import Derived.Test.YthbpfnohbilhaaaGreatDoorZVBase
import Derived.Test.YthbpfnohbilhaaaGreatDoorZVLaw
namespace Go.Proofs.YthbpfnohbilhaaaGreatDoor
open Go.RowKit Go.Deep Crc Dk Qk Go.Maps Hf
def VCe (w1 : World) (c : Lc) (cf : Cf) (n b : Nat) (P : Nat → Bool) (q : Rk) (g : Int) (w : World) (e : Ending) (w' : World) : Prop :=
 ∃ v : Value, e = .returned v ∧ Below w1.heap.size w1 w' ∧ w.heap.size ≤ w'.heap.size ∧ ((v = .nilIface ∧ ∃ (q' : Rk) (V' : Vl), VW w1 c cf n q' (g + 1) false b w' ∧ Live cf V' P q' (g + 1) ∧ q'.n = q.n) ∨ ((∃ T x, v = .iface T x) ∧ ∃ (q' : Rk) (V' : Vl) (Y' : Option Rc), QS w1 c q' w' ∧ q'.n = q.n ∧ Down cf V' Y' P q' (g + 1)))
variable {w1 w : World} {c : Lc} {n : Nat} {V : Vl} {P : Nat → Bool} {q : Rk}
theorem VW.commite {cf : Cf} {g : Int} {b : Nat} (h : VW w1 c cf n q g false b w) (hL : Live cf V P q g) (hP : Enough cf P q.n) (hg : g < 1152921504606846976) {s : Nat} (hs : (s : Int) < cf.t) {bs : List (List UInt8)} (hl : bs.length = cf.k.toNat) {v0 : Value} {B : Nat} (hb : BkB B bs v0 w) (hf : Far B c n) :
  Calls Tryz.prog 33 #[.pointer (some ⟨b, 0, none⟩), .int .i64 s, v0] w (VCe w1 c cf n b P q g w) := by
 refine (h.commits hL hP hg hs hl hb hf).mono ?_
 rintro e w' ⟨v, q', rfl, hc, hn, _, ⟨rfl, _, hv, hl'⟩ | ⟨hkv, _, hv, _, hd⟩⟩
 ·exact ⟨_, rfl, hv.qs.base, hc.size, Or.inl ⟨rfl, q', _, hv, hl', hn⟩⟩
 ·exact ⟨v, rfl, hv.qs.base, hc.size, Or.inr ⟨hkv.some (by decide), q', _, _, hv.qs, hn, hd⟩⟩
def OpAny (w1 : World) (c : Lc) (cf : Cf) (P : Nat → Bool) (q : Rk) (w : World) (e : Ending) (w' : World) : Prop :=
 ∃ (v : Value) (q' : Rk) (V' : Vl) (Y' : Option Rc) (M' : Int), e = .returned v ∧ w.heap.size ≤ w'.heap.size ∧ QS w1 c q' w' ∧ q'.n = q.n ∧ Down cf V' Y' P q' M'
theorem qs_openany {cf : Cf} {Y : Option Rc} {M : Int} (h : QS w1 c q w) (hn : q.n = n) (hR : Raw cf V Y P q M) (hP : Enough cf P q.n) : Calls Tryz.prog 38 #[.pointer (some ⟨c.r, 0, none⟩)] w (OpAny w1 c cf P q w) := by
 refine (qs_opens h hn hR hP).mono ?_
 rintro e w' ⟨q', hrc, hr, hn', _, ⟨b, g, V', rfl, _, _, _, hl, _, _⟩ | ⟨v, _, rfl, _, _, V', Y', hd, _⟩⟩
 ·exact ⟨_, q', V', none, g, rfl, hrc.size, h.next hr (by rw [hn]; exact hrc), hn', hl.down⟩
 ·exact ⟨_, q', V', Y', M, rfl, hrc.size, h.next hr (by rw [hn]; exact hrc), hn', hd⟩
def RelA1 (cf : Cf) (w4 : World) (c : Lc) (N : Nat) (P : Nat → Bool) (b B : Nat) (i : Value) (wr : World) : Prop :=
 ∃ (m : Nat) (V : Vl) (q : Rk), m ≤ 6 ∧ i = .int .i64 m ∧ VW w4 c cf N q (1 + m) false b wr ∧ Live cf V P q (1 + m) ∧ B ≤ wr.heap.size
def RelA2 (cf : Cf) (w4 : World) (c : Lc) (P : Nat → Bool) (N B : Nat) (i : Value) (wr : World) : Prop :=
 ∃ (m : Nat) (q : Rk) (V : Vl) (Y : Option Rc) (M : Int), m ≤ 4 ∧ i = .int .i64 m ∧ QS w4 c q wr ∧ q.n = N ∧ Down cf V Y P q M ∧ B ≤ wr.heap.size
def RelA3 (cf : Cf) (w4 : World) (c : Lc) (N : Nat) (q : Rk) (gx gy : Int) (bx b_ : Nat) (B : Nat) (i : Value) (wr : World) : Prop :=
 ∃ m : Nat, (m : Int) ≤ cf.t ∧ i = .int .i64 m ∧ VW w4 c cf N q gx false bx wr ∧ VW w4 c cf N q gy false b_ wr ∧ B ≤ wr.heap.size
set_option maxHeartbeats 8000000 in
set_option maxRecDepth 100000 in
theorem again_any (w : World) (k_ n_ t_ s_ : Int) (vl : Value) (l : List Int) (hvl : SlI w.heap.size w vl l) (f_ : Int) (vc : Value) (lc : List Int) (hvc : SlI w.heap.size w vc lc) (vb : Value) (lb : List Nat) (hvb : SlU w.heap.size w vb lb) (hlb : ∀ x, x < lb.length → lb.getD x 0 < 18446744073709551616) (hT : Typ w) : Calls Tryz.prog 9 #[.int .i64 k_, .int .i64 n_, .int .i64 t_, .int .i64 s_, vl, .int .i64 f_, vc, vb] w (Bit true w) := by
 have HT := hI hT
 have HVL := hI hvl
 have HVC := hI hvc
 have HVB := hI hvb
 have HLB := hI hlb
 obtain ⟨al, cl, rfl⟩ := hvl.len
 obtain ⟨ac, cc, rfl⟩ := hvc.len
 obtain ⟨ab, cb, rfl⟩ := hvb.len
 clear hT hvl hvc hvb hlb
 go_enter Tryz.func9, Tryz.ntmps9
 go_wp2_with fail
 refine (config_any k_ n_ t_ s_ _).mono ?_
 rintro e w1 ⟨cf, hcf, rfl, hb1⟩
 have H2 := hI (show JfS cf w1.heap.size w (w1.alloc (.cells (cfA cf) 23)) from ⟨cfB_new w1 cf, by simp, balloc hb1 _⟩)
 have HCF := hI hcf
 have COP := hI (fun w' => opened_any w' cf hcf)
 obtain ⟨d0, d1, d2, d3, d4⟩ := CfB.cells H2.out.1
 clear hb1 hcf
 go_wp2_with fail
 generalize w1.alloc (.cells (cfA cf) 23) = w2 at *
 generalize w1.heap.size = bc at *
 refine (COP.out _).mono ?_
 rintro e w3 ⟨c, b, q0, w4, rfl, hvw, hb4, hlive, hrem, halive, hkk, hnn⟩
 have HJ3 := hI hvw
 have HL3 := hI hlive
 have HR3 := hI hrem
 have HALV := hI halive
 have HKQ := hI hkk
 have HNQ := hI hnn
 have HB4 := hI hb4
 have HBW := hI (fun (w' : World) (h : Below w4.heap.size w4 w') => show Below w.heap.size w w' from bthen H2.out.2.2 (bthen hb4 h))
 have HTY := hI (fun (w' : World) (h : Below w4.heap.size w4 w') => show Typ w' from HT.out.below (HBW.out w' h))
 have HCC := hI (fun (w' : World) (h : Below w4.heap.size w4 w') => show CfB cf bc w' from CfB.below H2.out.1 H2.out.2.1 (bthen hb4 h))
 have HRT := hI (show CfRight cf from hlive.on.right)
 have HENO := hI (show Enough cf (allP q0) q0.n from allP_enough hlive.on.fits)
 obtain ⟨N, hN⟩ : ∃ N, q0.n = N := ⟨_, rfl⟩
 rw [hN] at HJ3
 have HN := hI hN
 obtain ⟨K, hK⟩ : ∃ K : Nat, cf.k = K := ⟨cf.k.toNat, by have := hlive.on.right.2.2.1; omega⟩
 have HK := hI hK
 have HK8 := hI (show K ≤ 8 by have := hlive.on.right.2.2.2.1; have := hlive.on.right.2.2.2.2.1; omega)
 have HFAR := hI (show Far w3.heap.size c N from by have := hvw.qs.rack.far; rwa [hN] at this)
 have HCELL := hI (fun (w' : World) (h : Below w4.heap.size w4 w') => show w'.cell? ⟨bc, 0, none⟩ = some (.int .i64 cf.id) ∧ w'.cell? ⟨bc, 1, none⟩ = some (.int .i64 K) ∧ w'.cell? ⟨bc, 2, none⟩ = some (.int .i64 cf.n) ∧ w'.cell? ⟨bc, 3, none⟩ = some (.int .i64 cf.t) ∧ w'.cell? ⟨bc, 4, none⟩ = some (.int .i64 cf.s) by
  have := CfB.cells (HCC.out w' h); rwa [hK] at this)
 clear hvw hb4 hlive hrem halive hkk hnn hN hK d0 d1 d2 d3 d4
 have HCT := hI (show 1 ≤ cf.t ∧ cf.t ≤ 6 from ⟨HCF.out.2.2.2.2.2.1, HCF.out.2.2.2.2.2.2.1⟩)
 have CBK := hI (fun (z : Int) w3 => blocks_any K z w3 HK8.out)
 have HBL := hI (fun z : Int => show (blks z K).length = cf.k.toNat by rw [blks_length, HK.out]; rfl)
 have hwT : IntKind.i64.wrap (cf.t - 1) = cf.t - 1 := by have := HCT.out; exact IntWalk.i64_in _ (by omega)
 go_wp2_with fail
 refine (within_int f_ 0 60 w3 (by omega) (by omega) (by omega)).mono ?_
 rintro e w0 ⟨fI, hfI, rfl, hw0⟩
 subst hw0
 have HL5 := hI (HL3.out.arm (f := fI) (by omega) (by omega))
 have CARM := hI (HJ3.out.arm fI (by omega) (by omega))
 generalize q0.arm fI = qA0 at *
 clear hfI
 go_wp2_with fail
 refine CARM.out.mono ?_
 rintro e w5 ⟨rfl, hvw5, hrc5⟩
 have HJ5 := hI hvw5
 have HS5 := hI hrc5.size
 clear hvw5 hrc5
 go_wp2_with fail
 go_loopw [20] (fun i wr => RelA1 cf w4 c N (allP q0) b w3.heap.size i wr) (fun i _ => 6 - (intOf i).toNat)
 case atStart => exact ⟨0, _, _, by decide, rfl, HJ5.out, HL5.out, HS5.out⟩
 case round =>
  obtain ⟨m, V, q, hm, rfl, hv, hL, hsz⟩ := hrel; have HV := hI hv; have HL := hI hL; have HSZ := hI hsz; have HE := hI (show Enough cf (allP q0) q.n by rw [hv.nn, ← HN.out]; exact HENO.out)
  by_cases hlt : m < l.length ∧ m < 6
  ·obtain ⟨hlt1, hlt2⟩ := hlt
   have HLC := hI (fun (w' : World) (h : Below w4.heap.size w4 w') => HVL.out.num (Nat.le_refl _) (HBW.out _ h) hlt1); obtain ⟨bl, ol, cl', hs1, hcell⟩ := HLC.out _ hv.qs.base; injection hs1 with hs1 hs2 hs3; subst hs1 hs3; clear hs2 hcell
   have HLC2 := hI (fun (w' : World) (h : Below w4.heap.size w4 w') => show w'.cell? ⟨bl, ol + m, none⟩ = some (.int .i64 (l.getD m 0)) by
    obtain ⟨b1, o1, c1, e1, e2⟩ := HLC.out w' h; injection e1 with e1 _ _; injection e1 with e1; injection e1 with e1 e3 _; subst e1 e3
    exact e2)
   clear HLC; have hb0 := hv.qs.base.drew; clear hv hL hsz; generalize l.getD m 0 = lx at *; have lc' := HLC2.out
   have d1 := fun (w' : World) (h : Below w4.heap.size w4 w') => (HCELL.out w' h).2.1
   have d3 := fun (w' : World) (h : Below w4.heap.size w4 w') => (HCELL.out w' h).2.2.2.1
   go_wp2_with fail; refine wp_region_noPanic ?_; refine wp_region_held_drew (S := (fun w' => Below w4.heap.size w4 w')) (by kernel_rfl) hb0 (fun hHeld => ?_); refine hT 0 ⟨some 59, _, _, _, _, _⟩ rfl hHeld ?_; simp only [hP]; refine hT 1 ⟨some 60, _, _, _, _, _⟩ rfl hHeld ?_; simp only [hP]; refine hT 2 ⟨some 61, _, _, _, _, _⟩ rfl hHeld ?_; simp only [hP]; refine hT 3 ⟨some 62, _, _, _, _, _⟩ rfl hHeld ?_; simp only [hP]; refine hT 4 ⟨some 63, _, _, _, _, _⟩ rfl hHeld ?_; simp only [hP]; refine hT 5 ⟨some 64, _, _, _, _, _⟩ rfl hHeld ?_; simp only [hP]; refine hT 6 ⟨some 65, _, _, _, _, _⟩ rfl hHeld ?_; simp only [hP]; refine hT 7 ⟨some 66, _, _, _, _, _⟩ rfl hHeld ?_; simp only [hP]; refine hT 9 ⟨some 68, _, _, _, _, _⟩ rfl hHeld ?_; simp only [hP]; refine hT 10 ⟨some 69, _, _, _, _, _⟩ rfl hHeld ?_; simp only [hP]; refine hT 11 ⟨some 70, _, _, _, _, _⟩ rfl hHeld ?_; simp only [hP]; refine hT 12 ⟨some 71, _, _, _, _, _⟩ rfl hHeld ?_; simp only [hP]; refine hT 13 ⟨some 72, _, _, _, _, _⟩ rfl hHeld ?_; simp only [hP]; refine hT 14 ⟨some 73, _, _, _, _, _⟩ rfl hHeld ?_; simp only [hP]; refine hT 15 ⟨some 74, _, _, _, _, _⟩ rfl hHeld ?_; simp only [hP]; refine hT 16 ⟨some 75, _, _, _, _, _⟩ rfl hHeld ?_; simp only [hP]
   refine hC 8 rfl fun K hK => ?_
   go_simp; refine (within_int lx 0 (cf.t - 1) _ (by omega) (by have := HCT.out; omega) (by have := HCT.out; omega)).mono ?_; rintro e wI ⟨sI, hsI, rfl, hwI⟩; subst hwI; obtain ⟨s, rfl⟩ := Int.eq_ofNat_of_zero_le hsI.1; have HS := hI (show (s : Int) < cf.t by omega); clear hsI; refine hK.out _ _ hHeld (fun _ => ?_); clear hK K
   refine hC 17 rfl fun K hK => ?_
   go_simp; refine (CBK.out _ _).mono ?_; rintro e w6 ⟨v6, rfl, ho6, hb6⟩; have HV6 := hI (HV.out.drew.below hb6); have h6 := HV6.out.qs.base; have HA6 := hI (bkB_of (B := w3.heap.size) ho6 (Nat.le_trans HSZ.out (Nat.le_refl _))); have HS6 := hI (Nat.le_trans HSZ.out hb6.size); obtain ⟨a6, c6, rfl, -⟩ := own_slice' ho6; rw [blks_length] at HA6; rw [blks_length]; clear ho6 hb6; refine hK.out _ _ h6 (fun _ => ?_); clear hK K
   refine hC 18 rfl fun K hK => ?_
   go_simp; refine (HV6.out.commite HL.out HE.out (by omega) HS.out (HBL.out _) HA6.out HFAR.out).mono ?_; rintro e w7 ⟨v7, rfl, h7, hs7, ⟨rfl, q7, V7, hv7, hl7, hn7⟩ | ⟨⟨T7, x7, rfl⟩, q7, V7, Y7, hq7, hn7, hd7⟩⟩
   all_goals
    refine hK.out _ _ h7 (fun _ => ?_); clear hK K; refine hT 19 ⟨some 78, _, _, _, _, _⟩ rfl h7 ?_; simp only [hP]; refine wpAnyH_done (by kernel_rfl) ?_ _; refine NoPanic.normal ?_
   ·have HV7 := hI (show VW w4 c cf N q7 (1 + ((m + 1 : Nat) : Int)) false b w7 by rw [show (1 + ((m + 1 : Nat) : Int)) = 1 + (m : Int) + 1 by omega]; exact hv7)
    have HL7 := hI (show Live cf V7 (allP q0) q7 (1 + ((m + 1 : Nat) : Int)) by rw [show (1 + ((m + 1 : Nat) : Int)) = 1 + (m : Int) + 1 by omega]; exact hl7); have HS7 := hI (Nat.le_trans HS6.out hs7); clear lc' d1 d3 h6 hb0 hHeld hv7 hl7 hn7 h7 hs7; go_wp2_with fail
    go_roundw
    case rel => exact ⟨m + 1, V7, q7, by omega, by go_num, HV7.out, HL7.out, HS7.out⟩
    case measure => simp [intOf]; omega
   ·have HQ7 := hI hq7
    have HN7 := hI (show q7.n = N from hn7.trans HV.out.nn); have HD7 := hI hd7; have HS7 := hI (Nat.le_trans HS6.out hs7); clear lc' d1 d3 h6 hb0 hHeld hq7 hn7 hd7 h7 hs7; go_wp2_with fail
    go_loopw [21] (fun i wr => RelA2 cf w4 c (allP q0) N w3.heap.size i wr) (fun i _ => 4 - (intOf i).toNat)
    case atStart => exact ⟨0, _, _, _, _, by decide, rfl, HQ7.out, HN7.out, HD7.out, HS7.out⟩
    case round =>
     obtain ⟨m, q, V, Y, M, hm, rfl, hq, hqn, hd, hsz⟩ := hrel; have HQ := hI hq; have HQN := hI hqn; have HD := hI hd; have HSZ := hI hsz; have HRW := hI (hd.boot fun i => lb.getD i 0); have CB := hI (hq.boot (.slice ab lb.length cb) lb ((HVB.out.below (HBW.out _ hq.base)).wider (HBW.out _ hq.base).size) HLB.out); have hbase := hq.base; clear hq hqn hd hsz; generalize (q.boot fun i => lb.getD i 0) = qB at *
     by_cases hlt : m < lc.length ∧ m < 4
     ·obtain ⟨hlt1, hlt2⟩ := hlt
      have HLC := hI (fun (w' : World) (h : Below w4.heap.size w4 w') => HVC.out.num (Nat.le_refl _) (HBW.out _ h) hlt1); clear hbase; go_wp2_with fail; refine CB.out.mono ?_; rintro e wB ⟨rfl, hqB, hcB⟩; have HQB := hI hqB; have HSB := hI (Nat.le_trans HSZ.out hcB.size); obtain ⟨bl, ol, cl', hs1, hcell⟩ := HLC.out _ hqB.base; injection hs1 with hs1 hs2 hs3; subst hs1 hs3; clear hs2 hqB hcB; generalize lc.getD m 0 = lx at *; have CW := hI (within_int lx 0 40 wB (by omega) (by omega) (by omega)); go_wp2_with fail; refine CW.out.mono ?_; rintro e wW ⟨fJ, hfJ, rfl, hw⟩; subst hw; have HRA := hI (HRW.out.1.arm (f := fJ) (by omega) (by omega)); have CA := hI (HQB.out.arm fJ (by omega) (by omega)); have HNA := hI (show (qB.arm fJ).n = N from HRW.out.2.2.1.trans HQN.out); have HEA := hI (show Enough cf (allP q0) (qB.arm fJ).n by rw [HNA.out, ← HN.out]; exact HENO.out); generalize qB.arm fJ = qA at *; clear hfJ hcell; go_wp2_with fail; refine CA.out.mono ?_; rintro e wA ⟨rfl, hqA, hcA⟩; have HQA := hI hqA; have HSA := hI (Nat.le_trans HSB.out hcA.size); have CO := hI (qs_openany hqA HNA.out HRA.out HEA.out); clear hqA hcA; go_wp2_with fail; refine CO.out.mono ?_; rintro e wO ⟨vO, qO, VO, YO, MO, rfl, hsO, hqO, hnO, hdO⟩; have HQO := hI hqO; have HNO := hI (hnO.trans HNA.out); have HDO := hI hdO; have HSO := hI (Nat.le_trans HSA.out hsO); clear hqO hnO hdO hsO; go_wp2_with fail
      go_roundw
      case rel => exact ⟨m + 1, qO, VO, YO, MO, by omega, by go_num, HQO.out, HNO.out, HDO.out, HSO.out⟩
      case measure => simp [intOf]; omega
     ·have htail : ¬ ((m : Int) < (lc.length : Int)) ∨ ((m : Int) < (lc.length : Int)) ∧ ¬ (m : Int) < 4 := by
       by_cases h1 : m < lc.length
       ·exact Or.inr ⟨by omega, by omega⟩
       ·exact Or.inl (by omega)
      have HNB := hI (show qB.n = N from HRW.out.2.2.1.trans HQN.out); have HEB := hI (show Enough cf (allP q0) qB.n by rw [HNB.out, ← HN.out]; exact HENO.out); clear hbase hm hlt
      rcases htail with h1 | ⟨h1, h2⟩
      all_goals
       go_wp2_with fail; refine CB.out.mono ?_; rintro e wB ⟨rfl, hqB, hcB⟩; have CO := hI (qs_opens hqB HNB.out HRW.out.1 HEB.out); have HSB := hI (Nat.le_trans HSZ.out hcB.size); clear hqB hcB; go_wp2_with fail; refine CO.out.mono ?_; rintro e wx ⟨qx, hrcx, _, hnx, _, ⟨bx, gx, Vx, rfl, hvx, _, hfx, hlx, _, _⟩ | ⟨v9, _, _, hne, _⟩⟩
       rotate_left
       ·exact absurd HRW.out.2.1 hne
       have HVX := hI hvx; have HEX := hI (show Enough cf (allP q0) qx.n by rw [hnx]; exact HEB.out); have CO2 := hI (qs_opens hvx.qs hvx.nn hlx.raw HEX.out); have HRX := hI (hfx HRW.out.2.1); have HSX := hI (Nat.le_trans HSB.out hrcx.size); clear hrcx hnx hvx hfx hlx; go_wp2_with fail; refine CO2.out.mono ?_; rintro e wy ⟨qy, hrcy, hry, hny, _, ⟨b_, gy, Vy, rfl, hvy, _, _, hly, hevy, hgy⟩ | ⟨v9, _, _, hne, _⟩⟩
       rotate_left
       ·exact absurd HRX.out hne
       have HVY := hI hvy; have HVX2 := hI (HVX.out.rc hry hny hrcy); have HLY := hI hly; have HEY := hI (show Enough cf (allP q0) qy.n by rw [hny]; exact HEX.out); have HSY := hI (Nat.le_trans HSX.out hrcy.size)
       have hgt : ¬ gx < gy := by omega
       clear hrcy hry hny hvy hly hevy hgy; go_wp2_with fail; refine (vseq_any _ HVY.out.vb).mono ?_; rintro e wz ⟨rfl, hwz⟩; subst hwz; go_wp2_with fail; refine (vseq_any _ HVX2.out.vb).mono ?_; rintro e wz ⟨rfl, hwz⟩; subst hwz; go_wp2_with fail; clear hgt
       go_loopw [26] (fun i wr => RelA3 cf w4 c N qy gx gy bx b_ w3.heap.size i wr) (fun i _ => cf.t.toNat - (intOf i).toNat)
       case atStart => exact ⟨0, by have := HCT.out; omega, rfl, HVX2.out, HVY.out, HSY.out⟩
       case round =>
        obtain ⟨s, hs, rfl, hx, hy, hsz⟩ := hrel; have HX := hI hx; have HY := hI hy; have HSZ := hI hsz; obtain ⟨d0, d1, d2, d3, d4⟩ := HCELL.out _ hx.qs.base
        by_cases hlt : (s : Int) < cf.t
        ·have CR := hI (hx.reads HLY.out.inv HLY.out.on (t := s) hlt (HLY.out.read HEY.out (t := s) hlt).1)
         have CR2 := hI (fun w' (h : Below wr.heap.size wr w') => (hy.below h).reads HLY.out.inv HLY.out.on (t := s) hlt (HLY.out.read HEY.out (t := s) hlt).1); obtain ⟨hA1, hA2⟩ := HLY.out.is (t := s) hlt; have HIA := hI hA1
         have hlA : (Vy.B s).length = K := by rw [hA2, HK.out]; rfl
         have hlK := HK8.out; have hlt3 := hI hlt
         have hs6 : (s : Int) < 6 := by have := HCT.out; omega
         clear hx hy hsz hA1 hA2; generalize Vy.B s = A at *; generalize Vy.G s = gS at *; go_wp2_with fail; clear d0 d1 d2 d3 d4 hlt; refine CR.out.mono ?_; rintro e we ⟨va, rfl, ha, hbe⟩; have HXe := hI (HX.out.below hbe); have HYe := hI (HY.out.below hbe); have HA := hI (show BkB w3.heap.size A va we from ⟨HIA.out, own_base ha HSZ.out⟩); have CR3 := hI (CR2.out _ hbe); have HSe := hI (Nat.le_trans HSZ.out hbe.size); obtain ⟨ga, ca, rfl, -⟩ := own_slice' ha; rw [hlA] at HA; rw [hlA]; clear ha hbe; go_wp2_with fail; refine CR3.out.mono ?_; rintro e wf ⟨vb2, rfl, hb2, hbf⟩; have HXf := hI (HXe.out.below hbf); have HYf := hI (HYe.out.below hbf); have HSf := hI (Nat.le_trans HSe.out hbf.size); have CS := hI (same_blocks _ vb2 A A wf (HA.out.below hbf).slk (slK_own hb2 HIA.out rfl) (by rw [hlA]; exact hlK)); rw [show decide (A = A) = true from decide_eq_true rfl] at CS; obtain ⟨gb, cb2, rfl, -⟩ := own_slice' hb2; rw [hlA] at CS; rw [hlA]; clear hb2 hbf; go_wp2_with fail; refine CS.out.mono ?_; rintro e wg ⟨rfl, hbg⟩; have HXg := hI (HXf.out.below hbg); have HYg := hI (HYf.out.below hbg); have HSg := hI (Nat.le_trans HSf.out hbg.size); clear hbg; go_wp2_with fail
         go_roundw
         case rel => exact ⟨s + 1, by have := hlt3.out; omega, by go_num, HXg.out, HYg.out, HSg.out⟩
         case measure => have := hlt3.out; simp [intOf]; omega
        ·clear hx hy hsz
         go_wp2_with fail; clear d0 d1 d2 d3 d4 hlt; have CRU := hI (runs_any _ (HTY.out _ HX.out.qs.base)); go_wp2_with fail; refine CRU.out.mono ?_; rintro e wz ⟨rfl, hbz⟩; have HVz := hI (HX.out.below hbz); clear hbz; go_wp2_with fail; go_ret; exact bit rfl (HBW.out _ HVz.out.qs.base)
  ·have htail : ¬ ((m : Int) < (l.length : Int)) ∨ ((m : Int) < (l.length : Int)) ∧ ¬ (m : Int) < 6 := by
    by_cases h1 : m < l.length
    ·exact Or.inr ⟨by omega, by omega⟩
    ·exact Or.inl (by omega)
   have HQ7 := hI hv.qs; have HN7 := hI hv.nn; have HD7 := hI hL.down; have HS7 := hI hsz; clear hv hL hsz hm hlt
   rcases htail with h1 | ⟨h1, h2⟩
   all_goals
    go_wp2_with fail
    go_loopw [21] (fun i wr => RelA2 cf w4 c (allP q0) N w3.heap.size i wr) (fun i _ => 4 - (intOf i).toNat)
    case atStart => exact ⟨0, _, _, _, _, by decide, rfl, HQ7.out, HN7.out, HD7.out, HS7.out⟩
    case round =>
     obtain ⟨m, q, V, Y, M, hm, rfl, hq, hqn, hd, hsz⟩ := hrel; have HQ := hI hq; have HQN := hI hqn; have HD := hI hd; have HSZ := hI hsz; have HRW := hI (hd.boot fun i => lb.getD i 0); have CB := hI (hq.boot (.slice ab lb.length cb) lb ((HVB.out.below (HBW.out _ hq.base)).wider (HBW.out _ hq.base).size) HLB.out); have hbase := hq.base; clear hq hqn hd hsz; generalize (q.boot fun i => lb.getD i 0) = qB at *
     by_cases hlt : m < lc.length ∧ m < 4
     ·obtain ⟨hlt1, hlt2⟩ := hlt
      have HLC := hI (fun (w' : World) (h : Below w4.heap.size w4 w') => HVC.out.num (Nat.le_refl _) (HBW.out _ h) hlt1); clear hbase; go_wp2_with fail; refine CB.out.mono ?_; rintro e wB ⟨rfl, hqB, hcB⟩; have HQB := hI hqB; have HSB := hI (Nat.le_trans HSZ.out hcB.size); obtain ⟨bl, ol, cl', hs1, hcell⟩ := HLC.out _ hqB.base; injection hs1 with hs1 hs2 hs3; subst hs1 hs3; clear hs2 hqB hcB; generalize lc.getD m 0 = lx at *; have CW := hI (within_int lx 0 40 wB (by omega) (by omega) (by omega)); go_wp2_with fail; refine CW.out.mono ?_; rintro e wW ⟨fJ, hfJ, rfl, hw⟩; subst hw; have HRA := hI (HRW.out.1.arm (f := fJ) (by omega) (by omega)); have CA := hI (HQB.out.arm fJ (by omega) (by omega)); have HNA := hI (show (qB.arm fJ).n = N from HRW.out.2.2.1.trans HQN.out); have HEA := hI (show Enough cf (allP q0) (qB.arm fJ).n by rw [HNA.out, ← HN.out]; exact HENO.out); generalize qB.arm fJ = qA at *; clear hfJ hcell; go_wp2_with fail; refine CA.out.mono ?_; rintro e wA ⟨rfl, hqA, hcA⟩; have HQA := hI hqA; have HSA := hI (Nat.le_trans HSB.out hcA.size); have CO := hI (qs_openany hqA HNA.out HRA.out HEA.out); clear hqA hcA; go_wp2_with fail; refine CO.out.mono ?_; rintro e wO ⟨vO, qO, VO, YO, MO, rfl, hsO, hqO, hnO, hdO⟩; have HQO := hI hqO; have HNO := hI (hnO.trans HNA.out); have HDO := hI hdO; have HSO := hI (Nat.le_trans HSA.out hsO); clear hqO hnO hdO hsO; go_wp2_with fail
      go_roundw
      case rel => exact ⟨m + 1, qO, VO, YO, MO, by omega, by go_num, HQO.out, HNO.out, HDO.out, HSO.out⟩
      case measure => simp [intOf]; omega
     ·have htail : ¬ ((m : Int) < (lc.length : Int)) ∨ ((m : Int) < (lc.length : Int)) ∧ ¬ (m : Int) < 4 := by
       by_cases h1 : m < lc.length
       ·exact Or.inr ⟨by omega, by omega⟩
       ·exact Or.inl (by omega)
      have HNB := hI (show qB.n = N from HRW.out.2.2.1.trans HQN.out); have HEB := hI (show Enough cf (allP q0) qB.n by rw [HNB.out, ← HN.out]; exact HENO.out); clear hbase hm hlt
      rcases htail with h1 | ⟨h1, h2⟩
      all_goals
       go_wp2_with fail; refine CB.out.mono ?_; rintro e wB ⟨rfl, hqB, hcB⟩; have CO := hI (qs_opens hqB HNB.out HRW.out.1 HEB.out); have HSB := hI (Nat.le_trans HSZ.out hcB.size); clear hqB hcB; go_wp2_with fail; refine CO.out.mono ?_; rintro e wx ⟨qx, hrcx, _, hnx, _, ⟨bx, gx, Vx, rfl, hvx, _, hfx, hlx, _, _⟩ | ⟨v9, _, _, hne, _⟩⟩
       rotate_left
       ·exact absurd HRW.out.2.1 hne
       have HVX := hI hvx; have HEX := hI (show Enough cf (allP q0) qx.n by rw [hnx]; exact HEB.out); have CO2 := hI (qs_opens hvx.qs hvx.nn hlx.raw HEX.out); have HRX := hI (hfx HRW.out.2.1); have HSX := hI (Nat.le_trans HSB.out hrcx.size); clear hrcx hnx hvx hfx hlx; go_wp2_with fail; refine CO2.out.mono ?_; rintro e wy ⟨qy, hrcy, hry, hny, _, ⟨b_, gy, Vy, rfl, hvy, _, _, hly, hevy, hgy⟩ | ⟨v9, _, _, hne, _⟩⟩
       rotate_left
       ·exact absurd HRX.out hne
       have HVY := hI hvy; have HVX2 := hI (HVX.out.rc hry hny hrcy); have HLY := hI hly; have HEY := hI (show Enough cf (allP q0) qy.n by rw [hny]; exact HEX.out); have HSY := hI (Nat.le_trans HSX.out hrcy.size)
       have hgt : ¬ gx < gy := by omega
       clear hrcy hry hny hvy hly hevy hgy; go_wp2_with fail; refine (vseq_any _ HVY.out.vb).mono ?_; rintro e wz ⟨rfl, hwz⟩; subst hwz; go_wp2_with fail; refine (vseq_any _ HVX2.out.vb).mono ?_; rintro e wz ⟨rfl, hwz⟩; subst hwz; go_wp2_with fail; clear hgt
       go_loopw [26] (fun i wr => RelA3 cf w4 c N qy gx gy bx b_ w3.heap.size i wr) (fun i _ => cf.t.toNat - (intOf i).toNat)
       case atStart => exact ⟨0, by have := HCT.out; omega, rfl, HVX2.out, HVY.out, HSY.out⟩
       case round =>
        obtain ⟨s, hs, rfl, hx, hy, hsz⟩ := hrel; have HX := hI hx; have HY := hI hy; have HSZ := hI hsz; obtain ⟨d0, d1, d2, d3, d4⟩ := HCELL.out _ hx.qs.base
        by_cases hlt : (s : Int) < cf.t
        ·have CR := hI (hx.reads HLY.out.inv HLY.out.on (t := s) hlt (HLY.out.read HEY.out (t := s) hlt).1)
         have CR2 := hI (fun w' (h : Below wr.heap.size wr w') => (hy.below h).reads HLY.out.inv HLY.out.on (t := s) hlt (HLY.out.read HEY.out (t := s) hlt).1); obtain ⟨hA1, hA2⟩ := HLY.out.is (t := s) hlt; have HIA := hI hA1
         have hlA : (Vy.B s).length = K := by rw [hA2, HK.out]; rfl
         have hlK := HK8.out; have hlt3 := hI hlt
         have hs6 : (s : Int) < 6 := by have := HCT.out; omega
         clear hx hy hsz hA1 hA2; generalize Vy.B s = A at *; generalize Vy.G s = gS at *; go_wp2_with fail; clear d0 d1 d2 d3 d4 hlt; refine CR.out.mono ?_; rintro e we ⟨va, rfl, ha, hbe⟩; have HXe := hI (HX.out.below hbe); have HYe := hI (HY.out.below hbe); have HA := hI (show BkB w3.heap.size A va we from ⟨HIA.out, own_base ha HSZ.out⟩); have CR3 := hI (CR2.out _ hbe); have HSe := hI (Nat.le_trans HSZ.out hbe.size); obtain ⟨ga, ca, rfl, -⟩ := own_slice' ha; rw [hlA] at HA; rw [hlA]; clear ha hbe; go_wp2_with fail; refine CR3.out.mono ?_; rintro e wf ⟨vb2, rfl, hb2, hbf⟩; have HXf := hI (HXe.out.below hbf); have HYf := hI (HYe.out.below hbf); have HSf := hI (Nat.le_trans HSe.out hbf.size); have CS := hI (same_blocks _ vb2 A A wf (HA.out.below hbf).slk (slK_own hb2 HIA.out rfl) (by rw [hlA]; exact hlK)); rw [show decide (A = A) = true from decide_eq_true rfl] at CS; obtain ⟨gb, cb2, rfl, -⟩ := own_slice' hb2; rw [hlA] at CS; rw [hlA]; clear hb2 hbf; go_wp2_with fail; refine CS.out.mono ?_; rintro e wg ⟨rfl, hbg⟩; have HXg := hI (HXf.out.below hbg); have HYg := hI (HYf.out.below hbg); have HSg := hI (Nat.le_trans HSf.out hbg.size); clear hbg; go_wp2_with fail
         go_roundw
         case rel => exact ⟨s + 1, by have := hlt3.out; omega, by go_num, HXg.out, HYg.out, HSg.out⟩
         case measure => have := hlt3.out; simp [intOf]; omega
        ·clear hx hy hsz
         go_wp2_with fail; clear d0 d1 d2 d3 d4 hlt; have CRU := hI (runs_any _ (HTY.out _ HX.out.qs.base)); go_wp2_with fail; refine CRU.out.mono ?_; rintro e wz ⟨rfl, hbz⟩; have HVz := hI (HX.out.below hbz); clear hbz; go_wp2_with fail; go_ret; exact bit rfl (HBW.out _ HVz.out.qs.base)
end Go.Proofs.YthbpfnohbilhaaaGreatDoor
namespace Go.Proofs.YthbpfnohbilhaaaGreatDoor.volumeAgain
open Go.ChangeShapes Go.WideShapes Go.ChangeAt Go.RowKit
set_option maxRecDepth 100000 in
theorem contract (H : Type) (enc : TypeId × Value → H) (W : World) (base : Nat) (args : Array Value) (ds gs : List (DataW H)) (before : List MemPlace)
  (hval : ∀ (j : Nat) t v, Tryz.f9.params[j]? = some t → args[j]? = some v → Value.okWide Tryz.prog W .any base t v)
  (hW : DataW.Whole enc Tryz.prog Tryz.f9.params.toList Rows.volumeAgainSpec.vars false W args.toList ds gs before) (hL : laidMetH Tryz.prog Rows.volumeAgainRow.laid W) :
  Calls Tryz.prog 9 args W fun e W' => ∃ v, e = .returned v ∧ Rows.volumeAgainSpec.post enc Tryz.prog Tryz.f9 false true false false W args v W' := by
 have hW' := hW
 obtain ⟨p, q, hA0, hV, rfl, hfz, hnd⟩ := hW
 have hA : DataW.TrodAll enc Tryz.prog W 0 (fun _ => true) true Tryz.f9.params.toList args.toList ds p := hA0
 rw [Tryz.params9] at hA hval
 obtain ⟨v0, vs0, d0, ds0, p0, q0, hargs, rfl, rfl, h0, r0⟩ := trodAll_cons hA
 obtain ⟨v1, vs1, d1, ds1, p1, q1, rfl, rfl, rfl, h1, r1⟩ := trodAll_cons r0
 obtain ⟨v2, vs2, d2, ds2, p2, q2, rfl, rfl, rfl, h2, r2⟩ := trodAll_cons r1
 obtain ⟨v3, vs3, d3, ds3, p3, q3, rfl, rfl, rfl, h3, r3⟩ := trodAll_cons r2
 obtain ⟨v4, vs4, d4, ds4, p4, q4, rfl, rfl, rfl, h4, r4⟩ := trodAll_cons r3
 obtain ⟨v5, vs5, d5, ds5, p5, q5, rfl, rfl, rfl, h5, r5⟩ := trodAll_cons r4
 obtain ⟨v6, vs6, d6, ds6, p6, q6, rfl, rfl, rfl, h6, r6⟩ := trodAll_cons r5
 obtain ⟨v7, vs7, d7, ds7, p7, q7, rfl, rfl, rfl, h7, r7⟩ := trodAll_cons r6
 obtain ⟨rfl, rfl, rfl⟩ := trodAll_nil r7
 obtain rfl : args = #[v0, v1, v2, v3, v4, v5, v6, v7] := Array.ext' hargs
 obtain ⟨k_, rfl, rfl, rfl, _⟩ := open_int Tryz.underlying3 (hval 0 3 v0 (by simp) (by simp)) h0
 obtain ⟨n_, rfl, rfl, rfl, _⟩ := open_int Tryz.underlying3 (hval 1 3 v1 (by simp) (by simp)) h1
 obtain ⟨t_, rfl, rfl, rfl, _⟩ := open_int Tryz.underlying3 (hval 2 3 v2 (by simp) (by simp)) h2
 obtain ⟨s_, rfl, rfl, rfl, _⟩ := open_int Tryz.underlying3 (hval 3 3 v3 (by simp) (by simp)) h3
 have hv4 := (hval 4 53 v4 (by simp) (by simp))
 obtain ⟨f_, rfl, rfl, rfl, _⟩ := open_int Tryz.underlying3 (hval 5 3 v5 (by simp) (by simp)) h5
 have hv6 := (hval 6 53 v6 (by simp) (by simp))
 have hv7 := (hval 7 54 v7 (by simp) (by simp))
 obtain ⟨l, hsl, hll⟩ := open_nums hv4 h4
 obtain ⟨lc, hslc, hllc⟩ := open_nums hv6 h6
 obtain ⟨lb, hslb, hllb⟩ := open_u64s hv7 h7
 obtain ⟨rfl, rfl⟩ := trodVars_none hV
 clear hA0
 have hw : Calls Tryz.prog 9 #[.int .i64 k_, .int .i64 n_, .int .i64 t_, .int .i64 s_, v4, .int .i64 f_, v6, v7] W (Bit true W) := again_any W k_ n_ t_ s_ v4 l hsl f_ v6 lc hslc v7 lb hslb hllb (handle_of_laid hL)
 refine hw.mono fun e W' ⟨he, hg⟩ => ?_
 subst he
 exact ⟨_, rfl, law_post Tryz.laidOut (by kernel_rfl) (by kernel_rfl) (by kernel_rfl) Tryz.underlying4 hW' hg rfl rfl rfl⟩
theorem reads (os : Os) {H : Type} (enc : TypeId × Value → H) : ∃ places, DataW.whole enc Tryz.prog ((laidWorld os).forCall (fun _ _ => 0) ⟨#[], #[.int .i64 0, .int .i64 0, .int .i64 0, .int .i64 0, .slice none 0 0, .int .i64 0, .slice none 0 0, .slice none 0 0], []⟩).memory Tryz.f9.params.toList Rows.volumeAgainSpec.vars false (#[.int .i64 0, .int .i64 0, .int .i64 0, .int .i64 0, .slice none 0 0, .int .i64 0, .slice none 0 0, .slice none 0 0] : Array Value).toList 8 = some ([.lit (.int .i64 0), .lit (.int .i64 0), .lit (.int .i64 0), .lit (.int .i64 0), .nil, .lit (.int .i64 0), .nil, .nil], [], places) :=
 ⟨[], by kernel_rfl⟩
set_option maxRecDepth 100000 in
theorem lifted (os : Os) (started : os.Started) (H : Type) (enc : TypeId × Value → H) (F : Stop.Interp) :
  ReturnsInHanded {} Tryz.checked os 9 .any ((OpenSpec.ofChange Rows.volumeAgainSpec).preRow enc Tryz.prog Tryz.f9 Rows.volumeAgainRow.domain false Rows.volumeAgainRow.laid) (((OpenSpec.ofChange Rows.volumeAgainSpec).at F).post enc Tryz.prog Tryz.f9 false true false false) := by
 obtain ⟨places, hx⟩ := reads os enc
 refine returnsInHanded_of_row (C := Tryz.checked) (s := OpenSpec.ofChange Rows.volumeAgainSpec) Tryz.own started (by kernel_rfl) Tryz.func9
  (witness_row_at (enc := enc) (C := Tryz.checked) false (laidWorld os) #[.int .i64 0, .int .i64 0, .int .i64 0, .int .i64 0, .slice none 0 0, .int .i64 0, .slice none 0 0, .slice none 0 0] rfl (by kernel_rfl) (by kernel_rfl) (by kernel_rfl)
   (OpenSpec.preRow_of_cond 8 hx (by kernel_rfl) (fun k hk => by cases hk) (by kernel_rfl) (laidWorld_met os _))) ?_
 intro W base args ds gs before hval hW _ _ _ hL _ _
 exact contract H enc W base args ds gs before hval hW hL
set_option maxHeartbeats 40000000 in
theorem closed : joinedFacts Tryz.prog 9 Tryz.f9 (OpenSpec.ofChange Rows.volumeAgainSpec).bare Rows.volumeAgainRow = true := by
 unfold joinedFacts
 simp only [Bool.and_eq_true]
 repeat' refine And.intro ?_ ?_
 all_goals (as_aux_lemma => kernel_rfl)
theorem said : Rows.VolumeAgainSaid :=
 OpenClaim.holds_of_cond 9 Tryz.f9 rfl rfl rfl rfl rfl rfl rfl ⟨rfl, rfl, rfl, rfl, rfl⟩ rfl rfl rfl rfl rfl (by kernel_rfl) Tryz.func9 closed
  (of_decide_eq_true (by kernel_rfl)) (by unfold Func.isWrapper; first | (rw [if_pos (by decide +kernel)]; kernel_rfl) | (rw [if_neg (by decide +kernel)]; exact ⟨rfl, rfl⟩))
  (fun os started H enc _ F => by rw [OpenClaim.pre_eq_preRow]; exact lifted os started H enc F)
theorem plain (f : FuncId) (fn : Func) (hf : Tryz.pinned.checked.prog.funcNamed "stave/stavelaw12.VolumeAgain" = some f) (hfn : Tryz.pinned.checked.prog.funcs[f]? = some fn) :
  true = Tryz.pinned.checked.prog.looks [] ∧ ∀ (j : Nat) t, fn.params[j]? = some t → Tryz.pinned.checked.prog.wantsStandIn t = false := by
 obtain rfl : f = 9 := Option.some.inj ((show Tryz.prog.funcNamed "stave/stavelaw12.VolumeAgain" = some 9 by kernel_rfl).symm.trans hf) |>.symm
 obtain rfl : fn = Tryz.f9 := (Option.some.inj (Tryz.func9.symm.trans hfn)).symm
 have hall : (Tryz.f9.params.toList.all fun t => !Tryz.prog.wantsStandIn t) = true := by kernel_rfl
 refine ⟨by kernel_rfl, fun j t ht => ?_⟩
 have := List.all_eq_true.1 hall t (by simpa using Array.mem_of_getElem? ht)
 have h2 : Tryz.prog.wantsStandIn t = false := by simpa using this
 exact h2
end Go.Proofs.YthbpfnohbilhaaaGreatDoor.volumeAgain
namespace Go.Proofs.YthbpfnohbilhaaaGreatDoor
theorem VolumeAgain_card : Rows.VolumeAgainCardSaid :=
 Claim7.holds_tied_plain_at .later [] _ _ _ _ volumeAgain.said (fun _ h => by cases h) (by kernel_rfl) (fun _ h => by cases h) volumeAgain_row_tie rfl ⟨rfl, rfl⟩ (by kernel_rfl) rfl volumeAgain.plain (by kernel_rfl)
#print axioms VolumeAgain_card
end Go.Proofs.YthbpfnohbilhaaaGreatDoor
