import Derived.Test.YthbpfnohbilhaaaGreatDoorZVVTW
import Derived.Test.YthbpfnohbilhaaaGreatDoorZVMNums
import Derived.Test.YthbpfnohbilhaaaGreatDoorZVOpenV
import Derived.Deep.RegionHeld3
import Derived.Test.YthbpfnohbilhaaaGreatDoorZVBase
import Derived.Test.YthbpfnohbilhaaaGreatDoorZVLaw
namespace Go.Proofs.YthbpfnohbilhaaaGreatDoor
open Go.RowKit Go.Deep Crc Dk Qk Go.Maps Hf
def RelVo1 (w4 : World) (c : Lc) (cf : Cf) (N b B g T : Nat) (q0 : Rk) (x : Value) (wr : World) : Prop :=
 ∃ s : Nat, s ≤ T ∧ x = .int .i64 s ∧ VW w4 c cf N q0 1 false b wr ∧ WasF B g T (fun t => if t < s then zBs cf else []) wr ∧ B ≤ wr.heap.size
def RelVo2 (w4 : World) (c : Lc) (cf : Cf) (N B g T : Nat) (P : Nat → Bool) (y x : Value) (wr : World) : Prop :=
 ∃ (i : Nat) (V : Vl) (q : Rk) (sq : Int) (b : Nat), i ≤ 5 ∧ x = .int .i64 i ∧ y = .pointer (some ⟨b, 0, none⟩) ∧ VW w4 c cf N q sq false b wr ∧ Live cf V P q sq ∧ sq ≤ 1 + 5 * (i : Int) ∧ WasF B g T V.B wr ∧ B ≤ wr.heap.size
def RelVo3 (w4 : World) (c : Lc) (cf : Cf) (N b B g T : Nat) (P : Nat → Bool) (sq : Int) (x : Value) (wr : World) : Prop :=
 ∃ (m : Nat) (V : Vl) (q : Rk), m ≤ 4 ∧ x = .int .i64 m ∧ VW w4 c cf N q (sq + m) false b wr ∧ Live cf V P q (sq + m) ∧ WasF B g T V.B wr ∧ B ≤ wr.heap.size
def RelVo4 (w4 : World) (c : Lc) (cf : Cf) (N : Nat) (q : Rk) (sq : Int) (b B g T : Nat) (f f' : Nat → List (List UInt8)) (A : List (List UInt8)) (v : Value) (x : Value) (wr : World) : Prop :=
 ∃ s : Nat, s ≤ T ∧ x = .int .i64 s ∧ VW w4 c cf N q sq false b wr ∧ WasF B g T (fun t => if t < s then f' t else f t) wr ∧ BkB B A v wr ∧ B ≤ wr.heap.size
set_option maxHeartbeats 8000000 in
set_option maxRecDepth 100000 in
theorem vlong_any (w : World) (k_ n_ z_ : Int) (vl vf : Value) (l lf_ : List Int) (hvl : SlI w.heap.size w vl l) (hvf : SlI w.heap.size w vf lf_) (vb : Value) (lb : List Nat) (hvb : SlU w.heap.size w vb lb) (hlb : ∀ x, x < lb.length → lb.getD x 0 < 18446744073709551616) (hT : Typ w) : Calls Tryz.prog 16 #[.int .i64 k_, .int .i64 n_, .int .i64 z_, vl, vf, vb] w (Bit true w) := by
 have HT := hI hT
 have HVL := hI hvl
 have HVF := hI hvf
 have HVB := hI hvb
 have HLB := hI hlb
 obtain ⟨al, cl, rfl⟩ := hvl.len
 obtain ⟨af, ch, rfl⟩ := hvf.len
 obtain ⟨ab, cb, rfl⟩ := hvb.len
 clear hT hvl hvf hvb hlb
 go_enter Tryz.func16, Tryz.ntmps16
 go_wp2_with fail
 refine (within_int z_ 1 3 w (by omega) (by omega) (by omega)).mono ?_
 rintro e w0 ⟨zI, hzI, rfl, hw0⟩
 subst hw0
 go_wp2_with fail
 refine (fixed_any k_ n_ 3 zI _ (by omega) ⟨by omega, by omega⟩).mono ?_
 rintro e w1 ⟨cf, hcf, rfl, hb1⟩
 have H2 := hI (show JfS cf w1.heap.size w (w1.alloc (.cells (cfA cf) 23)) from ⟨cfB_new w1 cf, by simp, balloc hb1 _⟩)
 have HCF := hI hcf
 have COP := hI (fun w' => opened_any w' cf hcf.1)
 obtain ⟨d0, d1, d2, d3, d4⟩ := CfB.cells H2.out.1
 clear hb1 hcf
 go_wp2_with fail
 generalize w1.alloc (.cells (cfA cf) 23) = w2 at *
 generalize w1.heap.size = bc at *
 refine (COP.out _).mono ?_
 rintro e w3 ⟨c, b, q0, w4, rfl, hvw, hb4, hlive, hrem, halive, hkk, hnn⟩
 have HJ3 := hI hvw
 have HL3 := hI hlive
 have HR3 := hI hrem
 have HALV := hI halive
 have HKQ := hI hkk
 have HNQ := hI hnn
 have HB4 := hI hb4
 have HBW := hI (fun (w' : World) (h : Below w4.heap.size w4 w') => show Below w.heap.size w w' from bthen H2.out.2.2 (bthen hb4 h))
 have HTY := hI (fun (w' : World) (h : Below w4.heap.size w4 w') => show Typ w' from HT.out.below (HBW.out w' h))
 have HCC := hI (fun (w' : World) (h : Below w4.heap.size w4 w') => show CfB cf bc w' from CfB.below H2.out.1 H2.out.2.1 (bthen hb4 h))
 have HRT := hI (show CfRight cf from hlive.on.right)
 have HENO := hI (show Enough cf (allP q0) q0.n from allP_enough hlive.on.fits)
 obtain ⟨N, hN⟩ : ∃ N, q0.n = N := ⟨_, rfl⟩
 rw [hN] at HJ3
 have HN := hI hN
 obtain ⟨K, hK⟩ : ∃ K : Nat, cf.k = K := ⟨cf.k.toNat, by have := hlive.on.right.2.2.1; omega⟩
 have HK := hI hK
 have HK8 := hI (show K ≤ 8 by have := hlive.on.right.2.2.2.1; have := hlive.on.right.2.2.2.2.1; omega)
 have HFAR := hI (show Far w3.heap.size c N from by have := hvw.qs.rack.far; rwa [hN] at this)
 have HCELL := hI (fun (w' : World) (h : Below w4.heap.size w4 w') => show w'.cell? ⟨bc, 0, none⟩ = some (.int .i64 cf.id) ∧ w'.cell? ⟨bc, 1, none⟩ = some (.int .i64 K) ∧ w'.cell? ⟨bc, 2, none⟩ = some (.int .i64 cf.n) ∧ w'.cell? ⟨bc, 3, none⟩ = some (.int .i64 cf.t) ∧ w'.cell? ⟨bc, 4, none⟩ = some (.int .i64 cf.s) by
  have := CfB.cells (HCC.out w' h); rwa [hK] at this)
 clear hvw hb4 hlive hrem halive hkk hnn hN hK d0 d1 d2 d3 d4
 have HNC := hI (show cf.n = (N : Int) by have := HNQ.out; rw [HN.out] at this; exact this.symm)
 obtain ⟨T, hT3⟩ : ∃ T : Nat, T = 3 := ⟨_, rfl⟩
 have HT3 := hI hT3
 have HTT := hI (show cf.t = (T : Int) by rw [HCF.out.2.1, hT3]; rfl)
 have HTB := hI (show 1 ≤ T ∧ T ≤ 6 by omega)
 have CBK := hI (fun (z : Int) w3 => blocks_some K z w3 HK8.out)
 have HFV := hI (show FarV w3.heap.size c N from by have := HJ3.out.qs.rack.farV (Nat.le_refl _); rwa [HJ3.out.nn] at this)
 have HB0 := hI (show w4.heap.size ≤ w3.heap.size from HJ3.out.qs.base.size)
 have hmk : (Instr.makeSlice 71 (.int .i64 3) (.int .i64 3)).run Tryz.prog w3 = .ok (.slice (some ⟨w3.heap.size, 0, none⟩) T T) (w3.alloc (.cells (madeCells #[.slice none 0 0] T) 56)) := by
  have := make_was T (by omega) w3
  rwa [show ((T : Nat) : Int) = 3 from by omega] at this
 have HW5 := hI (was_madeF w3 T (by omega))
 have HJ5 := hI (HJ3.out.below (one_below w3 (.cells (madeCells #[.slice none 0 0] T) 56)))
 have HS5 := hI (show w3.heap.size ≤ (w3.alloc (.cells (madeCells #[.slice none 0 0] T) 56)).heap.size by simp)
 clear hT3
 go_wp2_with fail
 clear hmk
 generalize w3.alloc (.cells (madeCells #[.slice none 0 0] T) 56) = w5 at *
 go_loopw [45] (fun x wr => RelVo1 w4 c cf N b w3.heap.size w3.heap.size T q0 x wr) (fun x _ => T - (intOf x).toNat)
 case atStart => exact ⟨0, Nat.zero_le _, rfl, HJ5.out, HW5.out.congr fun t _ => (if_neg (Nat.not_lt_zero t)).symm, HS5.out⟩
 case round =>
  obtain ⟨s, hs, rfl, hv, hW, hsz⟩ := hrel; have HV := hI hv; have HW := hI hW; have HSZ := hI hsz; obtain ⟨d0, d1, d2, d3, d4⟩ := HCELL.out _ hv.qs.base
  by_cases hlt : s < T
  ·have hs6 : (s : Int) < 6 := by have := HTB.out; omega
   have hmk := make_blocks K HK8.out wr; have HBK := hI (bkB_made K HK8.out wr); have HV1 := hI (hv.below (one_below wr (.cells (madeCells (bytesV z108).toArray (K * 108)) 65))); have HW1 := hI (hW.below (one_below wr (.cells (madeCells (bytesV z108).toArray (K * 108)) 65))); have HS1 := hI (Nat.le_trans hsz (one_below wr (.cells (madeCells (bytesV z108).toArray (K * 108)) 65)).size); have e5 := HW1.out.frozen s; obtain ⟨a9, c9, e6, _⟩ := HW1.out.cell hlt; have hK8 := HK8.out; clear hv hW hsz; go_wp2_with fail; clear hmk d0 d1 d2 d3 d4 e5 e6; generalize hws : wr.alloc (.cells (madeCells (bytesV z108).toArray (K * 108)) 65) = ws at *
   have HU := hI (show BkB w3.heap.size (zBs cf) (.slice (some ⟨wr.heap.size, 0, none⟩) K K) ws from ⟨by
    rw [show zBs cf = List.replicate K z108 from by unfold zBs; rw [HK.out]; rfl]; exact HBK.out.is, by
    rw [show zBs cf = List.replicate K z108 from by unfold zBs; rw [HK.out]; rfl]; exact own_base HBK.out.row HSZ.out⟩)
   have HV2 := hI (vw_was (i := s) HV1.out HW1.out HFV.out HB0.out (.slice (some ⟨wr.heap.size, 0, none⟩) K K)); have HW2 := hI (HW1.out.put hlt HU.out); have HS2 := hI (Nat.le_trans HS1.out ((Below.refl 0 ws).setCell (p := ⟨w3.heap.size, s, none⟩) (Nat.zero_le _) (.slice (some ⟨wr.heap.size, 0, none⟩) K K)).size); clear hws
   go_roundw
   case rel =>
    refine ⟨s + 1, hlt, by go_num, HV2.out, HW2.out.congr fun t ht => ?_, HS2.out⟩
    show (if t = s then zBs cf else if t < s then zBs cf else []) = if t < s + 1 then zBs cf else []
    by_cases e1 : t = s
    ·rw [if_pos e1, if_pos (by omega)]
    ·rw [if_neg e1]
     by_cases e2 : t < s
     ·rw [if_pos e2, if_pos (by omega)]
     ·rw [if_neg e2, if_neg (by omega)]
   case measure => simp [intOf]; omega
  ·obtain rfl : T = s := by omega
   have HW0 := hI (show WasF w3.heap.size w3.heap.size T (V0 cf).B wr from hW.congr fun t ht => if_pos ht); clear hv hW hsz d0 d1 d2 d3 d4 hlt hs HW; go_wp2_with fail
   go_loopw [15, 18] (fun y x wr => RelVo2 w4 c cf N w3.heap.size w3.heap.size T (allP q0) y x wr) (fun _ x _ => 5 - (intOf x).toNat)
   case atStart => exact ⟨0, _, _, 1, b, by decide, rfl, rfl, HV.out, HL3.out, by decide, HW0.out, HSZ.out⟩
   case round =>
    clear HV HW0 HSZ; obtain ⟨i, V, q, sq, b, hi, rfl, rfl, hv, hL, hsq, hW, hsz⟩ := hrel; have HV := hI hv; have HL := hI hL; have HW := hI hW; have HSZ := hI hsz; have HSQ := hI hsq; clear hsq
    by_cases hlt : i < lf_.length ∧ i < 5
    ·obtain ⟨hlt1, hi5⟩ := hlt
     have HLC := hI (fun (w' : World) (h : Below w4.heap.size w4 w') => HVF.out.num (Nat.le_refl _) (HBW.out _ h) hlt1); obtain ⟨bl, ol, cl', hs1, hcell⟩ := HLC.out _ hv.qs.base; injection hs1 with hs1 hs2 hs3; subst hs1 hs3; clear hs2
     have HLC2 := hI (fun (w' : World) (h : Below w4.heap.size w4 w') => show w'.cell? ⟨bl, ol + i, none⟩ = some (.int .i64 (lf_.getD i 0)) by
      obtain ⟨b1, o1, c1, e1, e2⟩ := HLC.out w' h; injection e1 with e1 _ _; injection e1 with e1; injection e1 with e1 e3 _; subst e1 e3
      exact e2)
     clear HLC; clear hv hL hW hsz; generalize lf_.getD i 0 = fx at *; have CW := hI (within_int fx 0 100 wr (by omega) (by omega) (by omega)); go_wp2_with fail; refine CW.out.mono ?_; rintro e w0' ⟨fI, hfI, rfl, hw0⟩; subst hw0; have HL5 := hI (HL.out.arm (f := fI) (by omega) (by omega)); have CARM := hI (HV.out.arm fI (by omega) (by omega)); generalize q.arm fI = qA at *; clear hfI hcell hlt1 CW HLC2; go_wp2_with fail; refine CARM.out.mono ?_; rintro e w5' ⟨rfl, hvw5, hrc5⟩; have HJA := hI hvw5; have HWA := hI (HW.out.rc HFAR.out hrc5); have HSA := hI (Nat.le_trans HSZ.out hrc5.size); clear hvw5 hrc5 HV HL HW HSZ; go_wp2_with fail
     go_loopw [21] (fun x wr => RelVo3 w4 c cf N b w3.heap.size w3.heap.size T (allP q0) sq x wr) (fun x _ => 4 - (intOf x).toNat)
     case atStart => exact ⟨0, _, _, by decide, rfl, by simpa using HJA.out, by simpa using HL5.out, HWA.out, HSA.out⟩
     case round =>
      clear HJA HL5 HWA HSA; obtain ⟨m, V, q, hm, rfl, hv, hL, hW, hsz⟩ := hrel; have HV := hI hv; have HL := hI hL; have HW := hI hW; have HSZ := hI hsz; have HE := hI (show Enough cf (allP q0) q.n by rw [hv.nn, ← HN.out]; exact HENO.out)
      by_cases hlt : m < l.length ∧ m < 4
      ·obtain ⟨hlt1, hlt2⟩ := hlt
       have HLC := hI (fun (w' : World) (h : Below w4.heap.size w4 w') => HVL.out.num (Nat.le_refl _) (HBW.out _ h) hlt1); obtain ⟨bl, ol, cl', hs1, hcell⟩ := HLC.out _ hv.qs.base; injection hs1 with hs1 hs2 hs3; subst hs1 hs3; clear hs2
       have HLC2 := hI (fun (w' : World) (h : Below w4.heap.size w4 w') => show w'.cell? ⟨bl, ol + m, none⟩ = some (.int .i64 (l.getD m 0)) by
        obtain ⟨b1, o1, c1, e1, e2⟩ := HLC.out w' h; injection e1 with e1 _ _; injection e1 with e1; injection e1 with e1 e3 _; subst e1 e3
        exact e2)
       clear HLC; have hb0 := hv.qs.base.drew; clear hv hL hW hsz; generalize l.getD m 0 = lx at *; have lc' := HLC2.out; have CW := hI (fun z => within_int z 0 2 wr (by omega) (by omega) (by omega)); go_wp2_with fail; refine (CW.out _).mono ?_; rintro e wI ⟨sI, hsI, rfl, hwI⟩; subst hwI; obtain ⟨s, rfl⟩ := Int.eq_ofNat_of_zero_le hsI.1; have HS := hI (show s < T by have := HT3.out; omega)
       have d1 := fun (w' : World) (h : Below w4.heap.size w4 w') => (HCELL.out w' h).2.1
       clear hsI hcell CW; go_wp2_with fail; refine wp_region_noPanic ?_; refine wp_region_held_drew (S := (fun w' => Below w4.heap.size w4 w')) (by kernel_rfl) hb0 (fun hHeld => ?_); refine hT 0 ⟨some 89, _, _, _, _, _⟩ rfl hHeld ?_; simp only [hP]; refine hT 1 ⟨some 90, _, _, _, _, _⟩ rfl hHeld ?_; simp only [hP]; refine hT 2 ⟨some 91, _, _, _, _, _⟩ rfl hHeld ?_; simp only [hP]; refine hT 3 ⟨some 92, _, _, _, _, _⟩ rfl hHeld ?_; simp only [hP]; refine hT 4 ⟨some 93, _, _, _, _, _⟩ rfl hHeld ?_; simp only [hP]; refine hT 5 ⟨some 94, _, _, _, _, _⟩ rfl hHeld ?_; simp only [hP]; refine hT 6 ⟨some 95, _, _, _, _, _⟩ rfl hHeld ?_; simp only [hP]; refine hT 7 ⟨some 96, _, _, _, _, _⟩ rfl hHeld ?_; simp only [hP]; refine hT 8 ⟨some 97, _, _, _, _, _⟩ rfl hHeld ?_; simp only [hP]; refine hT 9 ⟨some 98, _, _, _, _, _⟩ rfl hHeld ?_; simp only [hP]; refine hT 10 ⟨some 99, _, _, _, _, _⟩ rfl hHeld ?_; simp only [hP]
       refine hC 11 rfl fun K hK => ?_
       go_simp; refine (CBK.out _ _).mono ?_; rintro e w6 ⟨A, a6, c6, rfl, hlA, hA6, hb6⟩; have HV6 := hI (HV.out.drew.below hb6); have h6 := HV6.out.qs.base; have HA6 := hI hA6; have HW6 := hI ((HW.out.below (Below.refl _ _).drew).below hb6); have HS6 := hI (Nat.le_trans HSZ.out hb6.size); clear hA6 hb6; refine hK.out _ _ h6 (fun _ => ?_); clear hK K; refine hT 12 ⟨some 23, _, _, _, _, _⟩ rfl h6 ?_; simp only [hP]; refine wpAnyH_done (by kernel_rfl) ?_ _; refine NoPanic.normal ?_; clear lc' d1 h6 hb0 hHeld; have CC := hI (HV6.out.commits HL.out HE.out (by have := HSQ.out; omega) (s := s) (by rw [HTT.out]; have := HS.out; omega) (by rw [hlA, HK.out]; rfl) (HA6.out) (by have := HFAR.out.mono HSZ.out; exact this)); go_wp2_with fail; refine CC.out.mono ?_; rintro e w7 ⟨v7, q7, rfl, hrc7, hn7, _, ⟨rfl, _, hv7, hl7⟩ | ⟨hkv7, _, hv7, _, hd7⟩⟩
       ·have HV7 := hI (show VW w4 c cf N q7 (sq + ((m + 1 : Nat) : Int)) false b w7 by rw [show (sq + ((m + 1 : Nat) : Int)) = sq + (m : Int) + 1 by omega]; exact hv7)
        obtain ⟨V', hV'⟩ : ∃ V', V' = addY cf V (cRec (sq + (m : Int)) s A) := ⟨_, rfl⟩
        have HBB := hI (fun t => show V'.B t = if t = s then A else V.B t by rw [hV']; exact addY_B cf V (sq + (m : Int)) s t A); rw [← hV'] at hl7; have HL7 := hI (show Live cf V' (allP q0) q7 (sq + ((m + 1 : Nat) : Int)) by rw [show (sq + ((m + 1 : Nat) : Int)) = sq + (m : Int) + 1 by omega]; exact hl7); have HW7 := hI (HW6.out.rcv HFAR.out HV6.out.vb hrc7); have HA7 := hI (show BkB w3.heap.size A (.slice a6 K c6) w7 from by have := HV6.out.row HA6.out (HFAR.out.mono HSZ.out) hrc7; exact ⟨this.is, own_base this.row HSZ.out⟩); have HS7 := hI (Nat.le_trans HS6.out hrc7.size); have hsT := HS.out
        have hsTi : (s : Int) < T := by omega
        have e5 := HW7.out.frozen s; obtain ⟨a9, c9, e6, _⟩ := HW7.out.cell hsT; clear hrc7 hn7 hv7 hl7 hV'; go_wp2_with fail; clear e5 e6; have HV8 := hI (vw_was (i := s) HV7.out HW7.out HFV.out HB0.out (.slice a6 K c6)); have HW8 := hI (HW7.out.put hsT HA7.out); have HS8 := hI (Nat.le_trans HS7.out ((Below.refl 0 w7).setCell (p := ⟨w3.heap.size, s, none⟩) (Nat.zero_le _) (.slice a6 K c6)).size)
        go_roundw
        case rel => exact ⟨m + 1, V', q7, by omega, by go_num, HV8.out, HL7.out, HW8.out.congr fun t _ => (HBB.out t).symm, HS8.out⟩
        case measure => simp [intOf]; omega
       ·obtain ⟨T7, x7, hv7e⟩ := hkv7.some (by decide)
        subst hv7e; have HW7 := hI (HW6.out.rcv HFAR.out HV6.out.vb hrc7); have HA7 := hI (show BkB w3.heap.size A (.slice a6 K c6) w7 from by have := HV6.out.row HA6.out (HFAR.out.mono HSZ.out) hrc7; exact ⟨this.is, own_base this.row HSZ.out⟩); have HS7 := hI (Nat.le_trans HS6.out hrc7.size); have HD7a := hI hd7; have HN7 := hI (show q7.n = N from hv7.nn); have HQ7 := hI hv7.qs
        obtain ⟨y7, hy7⟩ : ∃ y7, y7 = cRec (sq + (m : Int)) s A := ⟨_, rfl⟩
        have HY7 := hI (show y7.t.toNat = s ∧ y7.b = A by rw [hy7]; exact ⟨rfl, rfl⟩); have HD7 := hI HD7a.out; rw [← hy7] at HD7
        obtain ⟨s0, hs0⟩ : ∃ s0, s0 = s := ⟨_, rfl⟩
        have HY8 := hI (show y7.t.toNat = s0 ∧ y7.b = A by rw [hs0]; exact HY7.out); subst hs0; clear HD7a HY7 hy7 hkv7 hrc7 hn7 hv7 hd7; go_wp2_with fail; have CB := hI (HQ7.out.boot (.slice ab lb.length cb) lb ((HVB.out.below (HBW.out _ HQ7.out.base)).wider (HBW.out _ HQ7.out.base).size) HLB.out); have HRW := hI (HD7.out.boot fun i => lb.getD i 0); have HNB := hI (show (q7.boot fun i => lb.getD i 0).n = N from HRW.out.2.2.1.trans HN7.out); generalize (q7.boot fun i => lb.getD i 0) = qB at *; go_wp2_with fail; refine CB.out.mono ?_; rintro e wB ⟨rfl, hqB, hcB⟩; rw [HN7.out] at hcB; have HWB := hI (HW7.out.rc HFAR.out hcB); have HNXB := hI (HA7.out.rc HFAR.out hcB); have HSB := hI (Nat.le_trans HS7.out hcB.size); have HEB := hI (show Enough cf (allP q0) qB.n by rw [HNB.out, ← HN.out]; exact HENO.out); have CO := hI (qs_opens hqB HNB.out HRW.out.1 HEB.out); clear hqB hcB; go_wp2_with fail; refine CO.out.mono ?_; rintro e wO ⟨qO, hrcO, _, hnO, _, ⟨bO, gO, VO, rfl, hvO, _, _, hlO, hevO, hgO⟩ | ⟨v9, _, _, hne, _⟩⟩
        rotate_left
        ·exact absurd HRW.out.2.1 hne
        have HGO := hI hgO
        have HEVO := hI (show ∀ t, VO.B t = V.B t ∨ (t = s0 ∧ VO.B t = A) from fun t => by
         rcases hevO.old with ⟨_, e2, _⟩ | ⟨y, e0, _, _, e2⟩
         ·rw [e2]; exact Or.inl rfl
         ·injection e0 with e0
          subst e0; rw [e2, HY8.out.1, HY8.out.2]
          by_cases e : t = s0
          ·exact Or.inr ⟨e, by rw [e]; exact upd_same _ _ _⟩
          ·exact Or.inl (upd_other _ _ e))
        have HVO := hI hvO; have HLO := hI hlO; have HEO := hI (show Enough cf (allP q0) qO.n by rw [hnO]; exact HEB.out); have HWO := hI (HWB.out.rc HFAR.out hrcO); have HNO := hI (HNXB.out.rc HFAR.out hrcO); have HSO := hI (Nat.le_trans HSB.out hrcO.size); clear hrcO hnO hvO hlO hevO hgO; go_wp2_with fail
        go_loopw [129] (fun x wr => RelVo4 w4 c cf N qO gO bO w3.heap.size w3.heap.size T V.B VO.B A (.slice a6 K c6) x wr) (fun x _ => T - (intOf x).toNat)
        case atStart => exact ⟨0, Nat.zero_le _, rfl, HVO.out, HWO.out.congr fun t _ => (if_neg (Nat.not_lt_zero t)).symm, HNO.out, HSO.out⟩
        case round =>
         obtain ⟨s, hs, rfl, hv, hW, hA, hsz⟩ := hrel
         by_cases hlt : s < T
         ·have hltt : (s : Int) < cf.t := by rw [HTT.out]; omega
          have hs6 : (s : Int) < 6 := by have := HTB.out; omega
          have CR := hI (hv.reads HLO.out.inv HLO.out.on (t := s) hltt (HLO.out.read HEO.out (t := s) hltt).1); obtain ⟨hA1, hA2⟩ := HLO.out.is (t := s) hltt; have HIA := hI hA1
          have hlA : (VO.B s).length = K := by rw [hA2, HK.out]; rfl
          have HV := hI hv; have HW := hI hW; have HA := hI hA; have HSZ := hI hsz; have HEV := hI (show VO.B s = V.B s ∨ (s = s0 ∧ VO.B s = A) from HEVO.out s)
          have hlB : (V.B s).length = K := by rw [(HD7.out.inv.v.g s hltt).len, HK.out]; rfl
          have hlK := HK8.out
          have HNX := hI (fun t => show (if t = s then VO.B s else if t < s then VO.B t else V.B t) = if t < s + 1 then VO.B t else V.B t from by
           by_cases e1 : t = s
           ·subst e1; rw [if_pos rfl, if_pos (by omega)]
           ·rw [if_neg e1]
            by_cases e2 : t < s
            ·rw [if_pos e2, if_pos (by omega)]
            ·rw [if_neg e2, if_neg (by omega)])
          clear hv hW hA hsz hA1 hA2 hltt; generalize hX : VO.B s = X at *; generalize hZ : V.B s = Z at *; have HZ0 := hI hZ; clear hX hZ; generalize VO.G s = gS at *; go_wp2_with fail; refine CR.out.mono ?_; rintro e we ⟨vx, rfl, hx, hbe⟩; have HVe := hI (HV.out.below hbe); have HWe := hI (HW.out.below hbe); have HAe := hI (HA.out.below hbe); have HX := hI (show BkB w3.heap.size X vx we from ⟨HIA.out, own_base hx HSZ.out⟩); have HSe := hI (Nat.le_trans HSZ.out hbe.size); obtain ⟨gx, cx, rfl, -⟩ := own_slice' hx; rw [hlA] at HX; rw [hlA]; obtain ⟨aw, cw, hcw, hBw⟩ := HWe.out.cell hlt; rw [show (if s < s then VO.B s else V.B s) = Z from (if_neg (Nat.lt_irrefl s)).trans HZ0.out] at hcw hBw; rw [hlB] at hcw hBw; have CS := hI (same_blocks _ _ _ _ we HX.out.slk hBw.slk (by rw [hlA]; exact hlK)); clear hx hbe hBw
          by_cases heq : X = Z
          ·have hEQ : decide (X = Z) = true := decide_eq_true heq
           rw [hEQ] at CS; clear heq hEQ HEV hlA hlB; go_wp2_with fail; clear hcw; refine CS.out.mono ?_; rintro e wh ⟨rfl, hbg⟩; have HVh := hI (HVe.out.below hbg); have HWh := hI (HWe.out.below hbg); have HAh := hI (HAe.out.below hbg); have HXh := hI (HX.out.below hbg); have HSh := hI (Nat.le_trans HSe.out hbg.size); clear hbg; have e5 := HWh.out.frozen s; obtain ⟨a9, c9, e6, _⟩ := HWh.out.cell hlt; have HVs := hI (vw_was (i := s) HVh.out HWh.out HFV.out HB0.out (.slice gx K cx)); have HWs := hI ((HWh.out.put hlt HXh.out).congr fun t _ => HNX.out t); have HAs := hI (HWh.out.other (i := s) (u := .slice gx K cx) HAh.out); have HSs := hI (Nat.le_trans HSh.out ((Below.refl 0 wh).setCell (p := ⟨w3.heap.size, s, none⟩) (Nat.zero_le _) (.slice gx K cx)).size); go_wp2_with fail; clear e5 e6
           go_roundw
           case rel => exact ⟨s + 1, hlt, by go_num, HVs.out, HWs.out, HAs.out, HSs.out⟩
           case measure => simp [intOf]; omega
          ·have hEQ : decide (X = Z) = false := decide_eq_false heq
           rw [hEQ] at CS
           obtain ⟨hsx, hXA⟩ : s = s0 ∧ X = A := by
            rcases HEV.out with h | h
            ·exact absurd h heq
            ·exact h
           have HAX := hI HAe.out; rw [← hXA] at HAX; have CS2 := hI (fun wg (hb : Below we.heap.size we wg) => same_blocks _ _ _ _ wg (HX.out.below hb).slk (HAX.out.below hb).slk (by rw [hlA]; exact hlK)); rw [show decide (X = X) = true from decide_eq_true rfl] at CS2; subst hsx; clear heq hEQ HEV hlA hlB hXA; go_wp2_with fail; clear hcw; refine CS.out.mono ?_; rintro e wg ⟨rfl, hbg⟩; have HVg := hI (HVe.out.below hbg); have HWg := hI (HWe.out.below hbg); have HAg := hI (HAe.out.below hbg); have HXg := hI (HX.out.below hbg); have HSg := hI (Nat.le_trans HSe.out hbg.size); have CS3 := hI (CS2.out _ hbg); clear hbg; go_wp2_with fail; refine CS3.out.mono ?_; rintro e wh ⟨rfl, hbh⟩; have HVh := hI (HVg.out.below hbh); have HWh := hI (HWg.out.below hbh); have HAh := hI (HAg.out.below hbh); have HXh := hI (HXg.out.below hbh); have HSh := hI (Nat.le_trans HSg.out hbh.size); clear hbh; have e5 := HWh.out.frozen s; obtain ⟨a9, c9, e6, _⟩ := HWh.out.cell hlt; have HVs := hI (vw_was (i := s) HVh.out HWh.out HFV.out HB0.out (.slice gx K cx)); have HWs := hI ((HWh.out.put hlt HXh.out).congr fun t _ => HNX.out t); have HAs := hI (HWh.out.other (i := s) (u := .slice gx K cx) HAh.out); have HSs := hI (Nat.le_trans HSh.out ((Below.refl 0 wh).setCell (p := ⟨w3.heap.size, s, none⟩) (Nat.zero_le _) (.slice gx K cx)).size); go_wp2_with fail; clear e5 e6
           go_roundw
           case rel => exact ⟨s + 1, hlt, by go_num, HVs.out, HWs.out, HAs.out, HSs.out⟩
           case measure => simp [intOf]; omega
         ·obtain rfl : T = s := by omega
          have HV := hI hv; have HWz := hI (show WasF w3.heap.size w3.heap.size T VO.B wr from hW.congr fun t ht => if_pos ht); have HSz := hI hsz; have HGz := hI (show gO ≤ 1 + 5 * ((i + 1 : Nat) : Int) by have h1 := HGO.out; have h2 := HSQ.out; omega); clear hv hW hA hsz; go_wp2_with fail
          go_roundw
          case rel => exact ⟨i + 1, VO, qO, gO, bO, by omega, by go_num, rfl, HV.out, HLO.out, HGz.out, HWz.out, HSz.out⟩
          case measure => simp [intOf]; omega
      ·have htail : ¬ ((m : Int) < (l.length : Int)) ∨ ((m : Int) < (l.length : Int)) ∧ ¬ (m : Int) < 4 := by
        by_cases h1 : m < l.length
        ·exact Or.inr ⟨by omega, by omega⟩
        ·exact Or.inl (by omega)
       have HQ7 := hI hv.qs; have HN7 := hI hv.nn; have HD7 := hI hL.down; have HW7 := hI hW; have HS7 := hI hsz; clear hv hL hW hsz hlt
       rcases htail with h1 | ⟨h1, h2⟩
       all_goals
        go_wp2_with fail; have CB := hI (HQ7.out.boot (.slice ab lb.length cb) lb ((HVB.out.below (HBW.out _ HQ7.out.base)).wider (HBW.out _ HQ7.out.base).size) HLB.out); have HRW := hI (HD7.out.boot fun i => lb.getD i 0); have HNB := hI (show (q.boot fun i => lb.getD i 0).n = N from HRW.out.2.2.1.trans HN7.out); generalize (q.boot fun i => lb.getD i 0) = qB at *; go_wp2_with fail; refine CB.out.mono ?_; rintro e wB ⟨rfl, hqB, hcB⟩; rw [HN7.out] at hcB; have HWB := hI (HW7.out.rc HFAR.out hcB); have HSB := hI (Nat.le_trans HS7.out hcB.size); have HEB := hI (show Enough cf (allP q0) qB.n by rw [HNB.out, ← HN.out]; exact HENO.out); have CO := hI (qs_opens hqB HNB.out HRW.out.1 HEB.out); clear hqB hcB; go_wp2_with fail; refine CO.out.mono ?_; rintro e wO ⟨qO, hrcO, _, hnO, _, ⟨bO, gO, VO, rfl, hvO, _, _, hlO, hevO, hgO⟩ | ⟨v9, _, _, hne, _⟩⟩
        rotate_left
        ·exact absurd HRW.out.2.1 hne
        have HGO := hI hgO; have HEVO := hI (show ∀ t, VO.B t = V.B t from fun t => by rw [evo_none hevO]); have HVO := hI hvO; have HLO := hI hlO; have HEO := hI (show Enough cf (allP q0) qO.n by rw [hnO]; exact HEB.out); have HWO := hI (HWB.out.rc HFAR.out hrcO); have HSO := hI (Nat.le_trans HSB.out hrcO.size); clear hrcO hnO hvO hlO hevO hgO; go_wp2_with fail
        go_loopw [129] (fun x wr => RelVo4 w4 c cf N qO gO bO w3.heap.size w3.heap.size T V.B VO.B [] nilK x wr) (fun x _ => T - (intOf x).toNat)
        case atStart => exact ⟨0, Nat.zero_le _, rfl, HVO.out, HWO.out.congr fun t _ => (if_neg (Nat.not_lt_zero t)).symm, ⟨fun d hd => (by cases hd), World.ownsRow_nil _ _ _ _⟩, HSO.out⟩
        case round =>
         obtain ⟨s, hs, rfl, hv, hW, hA, hsz⟩ := hrel
         by_cases hlt : s < T
         ·have hltt : (s : Int) < cf.t := by rw [HTT.out]; omega
          have hs6 : (s : Int) < 6 := by have := HTB.out; omega
          have CR := hI (hv.reads HLO.out.inv HLO.out.on (t := s) hltt (HLO.out.read HEO.out (t := s) hltt).1); obtain ⟨hA1, hA2⟩ := HLO.out.is (t := s) hltt; have HIA := hI hA1
          have hlA : (VO.B s).length = K := by rw [hA2, HK.out]; rfl
          have HV := hI hv; have HW := hI hW; have HA := hI hA; have HSZ := hI hsz; have HEV := hI (show VO.B s = V.B s from HEVO.out s)
          have hlB : (V.B s).length = K := by rw [(HD7.out.inv.v.g s hltt).len, HK.out]; rfl
          have hlK := HK8.out
          have HNX := hI (fun t => show (if t = s then VO.B s else if t < s then VO.B t else V.B t) = if t < s + 1 then VO.B t else V.B t from by
           by_cases e1 : t = s
           ·subst e1; rw [if_pos rfl, if_pos (by omega)]
           ·rw [if_neg e1]
            by_cases e2 : t < s
            ·rw [if_pos e2, if_pos (by omega)]
            ·rw [if_neg e2, if_neg (by omega)])
          clear hv hW hA hsz hA1 hA2 hltt; generalize hX : VO.B s = X at *; generalize hZ : V.B s = Z at *; have HZ0 := hI hZ; clear hX hZ; generalize VO.G s = gS at *; go_wp2_with fail; refine CR.out.mono ?_; rintro e we ⟨vx, rfl, hx, hbe⟩; have HVe := hI (HV.out.below hbe); have HWe := hI (HW.out.below hbe); have HAe := hI (HA.out.below hbe); have HX := hI (show BkB w3.heap.size X vx we from ⟨HIA.out, own_base hx HSZ.out⟩); have HSe := hI (Nat.le_trans HSZ.out hbe.size); obtain ⟨gx, cx, rfl, -⟩ := own_slice' hx; rw [hlA] at HX; rw [hlA]; obtain ⟨aw, cw, hcw, hBw⟩ := HWe.out.cell hlt; rw [show (if s < s then VO.B s else V.B s) = Z from (if_neg (Nat.lt_irrefl s)).trans HZ0.out] at hcw hBw; rw [hlB] at hcw hBw; have CS := hI (same_blocks _ _ _ _ we HX.out.slk hBw.slk (by rw [hlA]; exact hlK)); clear hx hbe hBw; have heq := HEV.out; have hEQ : decide (X = Z) = true := decide_eq_true heq; rw [hEQ] at CS; clear heq hEQ HEV hlA hlB; go_wp2_with fail; clear hcw; refine CS.out.mono ?_; rintro e wh ⟨rfl, hbg⟩; have HVh := hI (HVe.out.below hbg); have HWh := hI (HWe.out.below hbg); have HAh := hI (HAe.out.below hbg); have HXh := hI (HX.out.below hbg); have HSh := hI (Nat.le_trans HSe.out hbg.size); clear hbg; have e5 := HWh.out.frozen s; obtain ⟨a9, c9, e6, _⟩ := HWh.out.cell hlt; have HVs := hI (vw_was (i := s) HVh.out HWh.out HFV.out HB0.out (.slice gx K cx)); have HWs := hI ((HWh.out.put hlt HXh.out).congr fun t _ => HNX.out t)
          have HAs := hI (HWh.out.other (i := s) (u := .slice gx K cx) HAh.out); have HSs := hI (Nat.le_trans HSh.out ((Below.refl 0 wh).setCell (p := ⟨w3.heap.size, s, none⟩) (Nat.zero_le _) (.slice gx K cx)).size); go_wp2_with fail; clear e5 e6
          go_roundw
          case rel => exact ⟨s + 1, hlt, by go_num, HVs.out, HWs.out, HAs.out, HSs.out⟩
          case measure => simp [intOf]; omega
         ·obtain rfl : T = s := by omega
          have HV := hI hv; have HWz := hI (show WasF w3.heap.size w3.heap.size T VO.B wr from hW.congr fun t ht => if_pos ht); have HSz := hI hsz; have HGz := hI (show gO ≤ 1 + 5 * ((i + 1 : Nat) : Int) by have h1 := HGO.out; have h2 := HSQ.out; omega); clear hv hW hA hsz; go_wp2_with fail
          go_roundw
          case rel => exact ⟨i + 1, VO, qO, gO, bO, by omega, by go_num, rfl, HV.out, HLO.out, HGz.out, HWz.out, HSz.out⟩
          case measure => simp [intOf]; omega
    ·have htail : ¬ ((i : Int) < (lf_.length : Int)) ∨ ((i : Int) < (lf_.length : Int)) ∧ ¬ (i : Int) < 5 := by
      by_cases h1 : i < lf_.length
      ·exact Or.inr ⟨by omega, by omega⟩
      ·exact Or.inl (by omega)
     have CRU := hI (runs_any _ (HTY.out _ hv.qs.base)); clear hv hL hW hsz hi hlt
     rcases htail with h1 | ⟨h1, h2⟩
     all_goals
      go_wp2_with fail; refine CRU.out.mono ?_; rintro e wz ⟨rfl, hbz⟩; have HVz := hI (HV.out.below hbz); clear hbz; go_wp2_with fail; go_ret; exact bit rfl (HBW.out _ HVz.out.qs.base)
end Go.Proofs.YthbpfnohbilhaaaGreatDoor
namespace Go.Proofs.YthbpfnohbilhaaaGreatDoor.volumeLong
open Go.ChangeShapes Go.WideShapes Go.ChangeAt Go.RowKit
set_option maxRecDepth 100000 in
theorem contract (H : Type) (enc : TypeId × Value → H) (W : World) (base : Nat) (args : Array Value) (ds gs : List (DataW H)) (before : List MemPlace)
  (hval : ∀ (j : Nat) t v, Tryz.f16.params[j]? = some t → args[j]? = some v → Value.okWide Tryz.prog W .any base t v)
  (hW : DataW.Whole enc Tryz.prog Tryz.f16.params.toList Rows.volumeLongSpec.vars false W args.toList ds gs before) (hL : laidMetH Tryz.prog Rows.volumeLongRow.laid W) :
  Calls Tryz.prog 16 args W fun e W' => ∃ v, e = .returned v ∧ Rows.volumeLongSpec.post enc Tryz.prog Tryz.f16 false true false false W args v W' := by
 have hW' := hW
 obtain ⟨p, q, hA0, hV, rfl, hfz, hnd⟩ := hW
 have hA : DataW.TrodAll enc Tryz.prog W 0 (fun _ => true) true Tryz.f16.params.toList args.toList ds p := hA0
 rw [Tryz.params16] at hA hval
 obtain ⟨v0, vs0, d0, ds0, p0, q0, hargs, rfl, rfl, h0, r0⟩ := trodAll_cons hA
 obtain ⟨v1, vs1, d1, ds1, p1, q1, rfl, rfl, rfl, h1, r1⟩ := trodAll_cons r0
 obtain ⟨v2, vs2, d2, ds2, p2, q2, rfl, rfl, rfl, h2, r2⟩ := trodAll_cons r1
 obtain ⟨v3, vs3, d3, ds3, p3, q3, rfl, rfl, rfl, h3, r3⟩ := trodAll_cons r2
 obtain ⟨v4, vs4, d4, ds4, p4, q4, rfl, rfl, rfl, h4, r4⟩ := trodAll_cons r3
 obtain ⟨v5, vs5, d5, ds5, p5, q5, rfl, rfl, rfl, h5, r5⟩ := trodAll_cons r4
 obtain ⟨rfl, rfl, rfl⟩ := trodAll_nil r5
 obtain rfl : args = #[v0, v1, v2, v3, v4, v5] := Array.ext' hargs
 obtain ⟨k_, rfl, rfl, rfl, _⟩ := open_int Tryz.underlying3 (hval 0 3 v0 (by simp) (by simp)) h0
 obtain ⟨n_, rfl, rfl, rfl, _⟩ := open_int Tryz.underlying3 (hval 1 3 v1 (by simp) (by simp)) h1
 obtain ⟨z_, rfl, rfl, rfl, _⟩ := open_int Tryz.underlying3 (hval 2 3 v2 (by simp) (by simp)) h2
 have hv3 := (hval 3 53 v3 (by simp) (by simp))
 have hv4 := (hval 4 53 v4 (by simp) (by simp))
 have hv5 := (hval 5 54 v5 (by simp) (by simp))
 obtain ⟨l, hsl, hll⟩ := open_nums hv3 h3
 obtain ⟨lf, hslf, hllf⟩ := open_nums hv4 h4
 obtain ⟨lb, hslb, hllb⟩ := open_u64s hv5 h5
 obtain ⟨rfl, rfl⟩ := trodVars_none hV
 clear hA0
 have hw : Calls Tryz.prog 16 #[.int .i64 k_, .int .i64 n_, .int .i64 z_, v3, v4, v5] W (Bit true W) := vlong_any W k_ n_ z_ v3 v4 l lf hsl hslf v5 lb hslb hllb (handle_of_laid hL)
 refine hw.mono fun e W' ⟨he, hg⟩ => ?_
 subst he
 exact ⟨_, rfl, law_post Tryz.laidOut (by kernel_rfl) (by kernel_rfl) (by kernel_rfl) Tryz.underlying4 hW' hg rfl rfl rfl⟩
theorem reads (os : Os) {H : Type} (enc : TypeId × Value → H) : ∃ places, DataW.whole enc Tryz.prog ((laidWorld os).forCall (fun _ _ => 0) ⟨#[], #[.int .i64 0, .int .i64 0, .int .i64 0, .slice none 0 0, .slice none 0 0, .slice none 0 0], []⟩).memory Tryz.f16.params.toList Rows.volumeLongSpec.vars false (#[.int .i64 0, .int .i64 0, .int .i64 0, .slice none 0 0, .slice none 0 0, .slice none 0 0] : Array Value).toList 8 = some ([.lit (.int .i64 0), .lit (.int .i64 0), .lit (.int .i64 0), .nil, .nil, .nil], [], places) :=
 ⟨[], by kernel_rfl⟩
set_option maxRecDepth 100000 in
theorem lifted (os : Os) (started : os.Started) (H : Type) (enc : TypeId × Value → H) (F : Stop.Interp) :
  ReturnsInHanded {} Tryz.checked os 16 .any ((OpenSpec.ofChange Rows.volumeLongSpec).preRow enc Tryz.prog Tryz.f16 Rows.volumeLongRow.domain false Rows.volumeLongRow.laid) (((OpenSpec.ofChange Rows.volumeLongSpec).at F).post enc Tryz.prog Tryz.f16 false true false false) := by
 obtain ⟨places, hx⟩ := reads os enc
 refine returnsInHanded_of_row (C := Tryz.checked) (s := OpenSpec.ofChange Rows.volumeLongSpec) Tryz.own started (by kernel_rfl) Tryz.func16
  (witness_row_at (enc := enc) (C := Tryz.checked) false (laidWorld os) #[.int .i64 0, .int .i64 0, .int .i64 0, .slice none 0 0, .slice none 0 0, .slice none 0 0] rfl (by kernel_rfl) (by kernel_rfl) (by kernel_rfl)
   (OpenSpec.preRow_of_cond 8 hx (by kernel_rfl) (fun k hk => by cases hk) (by kernel_rfl) (laidWorld_met os _))) ?_
 intro W base args ds gs before hval hW _ _ _ hL _ _
 exact contract H enc W base args ds gs before hval hW hL
set_option maxHeartbeats 40000000 in
theorem closed : joinedFacts Tryz.prog 16 Tryz.f16 (OpenSpec.ofChange Rows.volumeLongSpec).bare Rows.volumeLongRow = true := by
 unfold joinedFacts
 simp only [Bool.and_eq_true]
 repeat' refine And.intro ?_ ?_
 all_goals (as_aux_lemma => kernel_rfl)
theorem said : Rows.VolumeLongSaid :=
 OpenClaim.holds_of_cond 16 Tryz.f16 rfl rfl rfl rfl rfl rfl rfl ⟨rfl, rfl, rfl, rfl, rfl⟩ rfl rfl rfl rfl rfl (by kernel_rfl) Tryz.func16 closed
  (of_decide_eq_true (by kernel_rfl)) (by unfold Func.isWrapper; first | (rw [if_pos (by decide +kernel)]; kernel_rfl) | (rw [if_neg (by decide +kernel)]; exact ⟨rfl, rfl⟩))
  (fun os started H enc _ F => by rw [OpenClaim.pre_eq_preRow]; exact lifted os started H enc F)
theorem plain (f : FuncId) (fn : Func) (hf : Tryz.pinned.checked.prog.funcNamed "stave/stavelaw12.VolumeLong" = some f) (hfn : Tryz.pinned.checked.prog.funcs[f]? = some fn) :
  true = Tryz.pinned.checked.prog.looks [] ∧ ∀ (j : Nat) t, fn.params[j]? = some t → Tryz.pinned.checked.prog.wantsStandIn t = false := by
 obtain rfl : f = 16 := Option.some.inj ((show Tryz.prog.funcNamed "stave/stavelaw12.VolumeLong" = some 16 by kernel_rfl).symm.trans hf) |>.symm
 obtain rfl : fn = Tryz.f16 := (Option.some.inj (Tryz.func16.symm.trans hfn)).symm
 have hall : (Tryz.f16.params.toList.all fun t => !Tryz.prog.wantsStandIn t) = true := by kernel_rfl
 refine ⟨by kernel_rfl, fun j t ht => ?_⟩
 have := List.all_eq_true.1 hall t (by simpa using Array.mem_of_getElem? ht)
 have h2 : Tryz.prog.wantsStandIn t = false := by simpa using this
 exact h2
end Go.Proofs.YthbpfnohbilhaaaGreatDoor.volumeLong
namespace Go.Proofs.YthbpfnohbilhaaaGreatDoor
theorem VolumeLong_card : Rows.VolumeLongCardSaid :=
 Claim7.holds_tied_plain_at .later [] _ _ _ _ volumeLong.said (fun _ h => by cases h) (by kernel_rfl) (fun _ h => by cases h) volumeLong_row_tie rfl ⟨rfl, rfl⟩ (by kernel_rfl) rfl volumeLong.plain (by kernel_rfl)
#print axioms VolumeLong_card
end Go.Proofs.YthbpfnohbilhaaaGreatDoor
