import Derived.Test.YtfemgajplohogaaGreatDoorZYMem
import Derived.Test.YtfemgajplohogaaGreatDoorZOpenV
import Derived.Deep.RegionHeld3
import Derived.Test.YtfemgajplohogaaGreatDoorZBase
import Derived.Test.YtfemgajplohogaaGreatDoorZLaw
namespace Go.Proofs.YtfemgajplohogaaGreatDoor
open Go.RowKit Go.Deep Crc Dk Qk Go.Maps Hf
theorem err_eqN {k : Int} {v : Value} (h : KV k v) (W : World) : (binOp .eql 29 v .nilIface).run Tryz.prog W = .ok (.bool (decide (k = 0))) W := by
  by_cases hk : k = 0
  · rw [h.nil hk, decide_eq_true hk]; go_simp
  · obtain ⟨T, x, rfl⟩ := h.some hk
    rw [decide_eq_false hk]; go_simp
theorem err_guardN {k : Int} {v : Value} (h : KV k v) (a : Operand) (W : World) : (eqGuard .eql 29 a (.const .nilIface) v .nilIface).run Tryz.prog W = .ok () W := by
  by_cases hk : k = 0
  · rw [h.nil hk]; go_simp
  · obtain ⟨T, x, rfl⟩ := h.some hk
    go_simp
def cf8 (c : Cf) : Cf := ⟨8, c.k, c.n, c.t, c.s⟩
theorem cf8_fits {c : Cf} {q : Rk} (h : c.fits q = true) : (cf8 c).fits q = true := by
  obtain ⟨⟨_, _, h3, h4, h5, h6, h7, h8, h9⟩, h2, hs⟩ := fits_right h
  unfold Cf.fits
  have e : cfRightB (cf8 c) = true := decide_eq_true (show CfRight (cf8 c) from ⟨by show (1 : Int) ≤ 8; decide, by show (8 : Int) ≤ 2147483647; decide, h3, h4, h5, h6, h7, h8, h9⟩)
  have e2 : decide ((cf8 c).n = q.n) = true := decide_eq_true h2
  have e3 : decide ((cf8 c).secs ≤ q.k) = true := decide_eq_true hs
  rw [e, e2, e3]; rfl
def RelVe (cd : Cf) (w4 : World) (c : Lc) (N : Nat) (q : Rk) (g : Int) (b bx : Nat) (i : Value) (wr : World) : Prop :=
  ∃ m : Nat, m ≤ 3 ∧ i = .int .i64 m ∧ VW w4 c cd N q g false b wr ∧ CfB cd bx wr ∧ bx < wr.heap.size
set_option maxHeartbeats 8000000 in
set_option maxRecDepth 100000 in
theorem new_any (w : World) (k_ n_ f_ a_ : Int) (vl : Value) (l : List Nat) (hvl : SlU w.heap.size w vl l) (hll : ∀ x, x < l.length → l.getD x 0 < 18446744073709551616) (hT : Typ w) : Calls Tryz.prog 11 #[.int .i64 k_, .int .i64 n_, .int .i64 f_, .int .i64 a_, vl] w (Bit true w) := by
  have HT := Lib.hid hT
  have HVL := Lib.hid hvl
  have HLL := Lib.hid hll
  obtain ⟨al, cl, rfl⟩ := hvl.len
  clear hT hvl hll
  go_enter Tryz.func11, Tryz.ntmps11
  go_wp2_with fail
  refine (fixed_any k_ n_ 3 2 _ (by omega) (by omega)).mono ?_
  rintro e w1 ⟨cf, hcf, rfl, hb1⟩
  have H2 := Lib.hid (show JfS cf w1.heap.size w (w1.alloc (.cells (cfA cf) 24)) from ⟨cfB_new w1 cf, by simp, balloc hb1 _⟩)
  have HCF := Lib.hid hcf
  have COP := Lib.hid (fun w' => opened_any w' cf hcf.1)
  obtain ⟨d0, d1, d2, d3, d4⟩ := CfB.cells H2.out.1
  clear hb1 hcf
  go_wp2_with fail
  generalize w1.alloc (.cells (cfA cf) 24) = w2 at *
  generalize w1.heap.size = bc at *
  refine (COP.out _).mono ?_
  rintro e w3 ⟨c, b, q0, w4, rfl, hvw, hb4, hlive, hrem, halive, hkk, hnn⟩
  have HJ3 := Lib.hid hvw
  have HL3 := Lib.hid hlive
  have HR3 := Lib.hid hrem
  have HALV := Lib.hid halive
  have HKQ := Lib.hid hkk
  have HNQ := Lib.hid hnn
  have HB4 := Lib.hid hb4
  have HBW := Lib.hid (fun (w' : World) (h : Below w4.heap.size w4 w') => show Below w.heap.size w w' from bthen H2.out.2.2 (bthen hb4 h))
  have HTY := Lib.hid (fun (w' : World) (h : Below w4.heap.size w4 w') => show Typ w' from HT.out.below (HBW.out w' h))
  have HCC := Lib.hid (fun (w' : World) (h : Below w4.heap.size w4 w') => show CfB cf bc w' from CfB.below H2.out.1 H2.out.2.1 (bthen hb4 h))
  have HRT := Lib.hid (show CfRight cf from hlive.on.right)
  have HENO := Lib.hid (show Enough cf (allP q0) q0.n from allP_enough hlive.on.fits)
  obtain ⟨N, hN⟩ : ∃ N, q0.n = N := ⟨_, rfl⟩
  rw [hN] at HJ3
  have HN := Lib.hid hN
  obtain ⟨K, hK⟩ : ∃ K : Nat, cf.k = K := ⟨cf.k.toNat, by have := hlive.on.right.2.2.1; omega⟩
  have HK := Lib.hid hK
  have HK8 := Lib.hid (show K ≤ 8 by have := hlive.on.right.2.2.2.1; have := hlive.on.right.2.2.2.2.1; omega)
  have HFAR := Lib.hid (show Far w3.heap.size c N from by have := hvw.qs.rack.far; rwa [hN] at this)
  have HCELL := Lib.hid (fun (w' : World) (h : Below w4.heap.size w4 w') => show w'.cell? ⟨bc, 0, none⟩ = some (.int .i64 cf.id) ∧ w'.cell? ⟨bc, 1, none⟩ = some (.int .i64 K) ∧ w'.cell? ⟨bc, 2, none⟩ = some (.int .i64 cf.n) ∧ w'.cell? ⟨bc, 3, none⟩ = some (.int .i64 cf.t) ∧ w'.cell? ⟨bc, 4, none⟩ = some (.int .i64 cf.s) by
    have := CfB.cells (HCC.out w' h); rwa [hK] at this)
  clear hvw hb4 hlive hrem halive hkk hnn hN hK d0 d1 d2 d3 d4
  have CB := Lib.hid (fun (z : Int) w3 => blocks_any K z w3 HK8.out)
  have HBL := Lib.hid (fun z : Int => show (blks z K).length = cf.k.toNat by rw [blks_length, HK.out]; rfl)
  obtain ⟨d0, d1, d2, d3, d4⟩ := HCELL.out _ HJ3.out.qs.base
  go_wp2_with fail
  refine (CB.out _ _).mono ?_
  rintro e w5 ⟨v5, rfl, ho5, hb5⟩
  have HJ5 := Lib.hid (HJ3.out.below hb5)
  have HA5 := Lib.hid (bkB_of ho5 (Nat.le_refl _))
  have HFF5 := Lib.hid (show Far w3.heap.size c N from by have := HJ3.out.qs.rack.far; rwa [HJ3.out.nn] at this)
  obtain ⟨a5, c5, rfl, -⟩ := own_slice' ho5
  clear ho5 hb5 d0 d1 d2 d3 d4
  have CC5 := Lib.hid (show Calls Tryz.prog 45 #[.pointer (some ⟨b, 0, none⟩), .int .i64 1, _] w5 _ from HJ5.out.commits HL3.out HENO.out (by decide) (s := 1) (by rw [HCF.out.2.1]; decide) (HBL.out _) HA5.out HFF5.out)
  go_wp2_with fail
  refine CC5.out.mono ?_
  rintro e w6 ⟨v6, q6, rfl, hrc, hn6, _, ⟨rfl, hf, hvw, hl⟩ | ⟨_, hne, _⟩⟩
  rotate_left
  · exact absurd HR3.out hne
  have HJ6 := Lib.hid hvw
  have HL6 := Lib.hid hl
  have HR6 := Lib.hid (hf HR3.out)
  have HE6 := Lib.hid (show Enough cf (allP q0) q6.n by rw [hn6]; exact HENO.out)
  have HN6 := Lib.hid hn6
  clear hrc hn6 hf hvw hl
  obtain ⟨d0, d1, d2, d3, d4⟩ := HCELL.out _ HJ6.out.qs.base
  go_wp2_with fail
  refine (CB.out _ _).mono ?_
  rintro e w7 ⟨v7, rfl, ho7, hb7⟩
  have HJ7 := Lib.hid (HJ6.out.below hb7)
  have HA7 := Lib.hid (bkB_of ho7 (Nat.le_refl _))
  have HFF7 := Lib.hid (show Far w6.heap.size c N from by have := HJ6.out.qs.rack.far; rwa [HJ6.out.nn] at this)
  obtain ⟨a7, c7, rfl, -⟩ := own_slice' ho7
  clear ho7 hb7 d0 d1 d2 d3 d4
  have CC7 := Lib.hid (show Calls Tryz.prog 45 #[.pointer (some ⟨b, 0, none⟩), .int .i64 2, _] w7 _ from HJ7.out.commits HL6.out HE6.out (by decide) (s := 2) (by rw [HCF.out.2.1]; decide) (HBL.out _) HA7.out HFF7.out)
  go_wp2_with fail
  refine CC7.out.mono ?_
  rintro e w8 ⟨v8, q8, rfl, hrc, hn8, _, ⟨rfl, hf, hvw, hl⟩ | ⟨_, hne, _⟩⟩
  rotate_left
  · exact absurd HR6.out hne
  have HJ8 := Lib.hid hvw
  have HL8 := Lib.hid hl
  have HR8 := Lib.hid (hf HR6.out)
  have HE8 := Lib.hid (show Enough cf (allP q0) q8.n by rw [hn8]; exact HE6.out)
  have HN8 := Lib.hid hn8
  clear hrc hn8 hf hvw hl
  have HNQ8 := Lib.hid (show q8.n = q0.n from HN8.out.trans HN6.out)
  generalize hV : addY cf (addY cf (V0 cf) _) _ = V at *
  have HV := Lib.hid (show V.G 1 = 2 ∧ V.B 1 = blks a_ K by rw [← hV]; exact ⟨rfl, rfl⟩)
  clear hV
  obtain ⟨d0, d1, d2, d3, d4⟩ := CfB.cells (HCC.out _ HJ8.out.qs.base)
  go_wp2_with fail
  clear d0 d1 d2 d3 d4
  have HBX := Lib.hid (one_below w8 (.cells (cfA (cf8 cf)) 24))
  have HCX := Lib.hid (cfB_new w8 (cf8 cf))
  have HJX := Lib.hid (HJ8.out.below HBX.out)
  have HFB := Lib.hid (show Far w8.heap.size c N from by have := HJ8.out.qs.rack.far; rwa [HJ8.out.nn] at this)
  have HXL := Lib.hid (show w8.heap.size < (w8.alloc (.cells (cfA (cf8 cf)) 24)).heap.size from (Array.getElem?_eq_some_iff.1 HCX.out).1)
  have HB48 := Lib.hid HJ8.out.qs.base.size
  clear HBX
  refine (within_int f_ 0 200 _ (by omega) (by omega) (by omega)).mono ?_
  rintro e w0 ⟨fI, hfI, rfl, hw0⟩
  subst hw0
  unfold cf8 cfA at HCX HJX HXL
  simp only at HCX HJX HXL
  generalize w8.alloc (.cells #[.int .i64 8, .int .i64 cf.k, .int .i64 cf.n, .int .i64 cf.t, .int .i64 cf.s] 24) = w9 at *
  generalize w8.heap.size = bx at *
  have hall : allP q0 = allP q8 := by unfold allP; rw [HNQ8.out]
  have HL8' := Lib.hid (show Live cf V (allP q8) q8 (1 + 1 + 1) by rw [← hall]; exact HL8.out)
  have HMO := Lib.hid (fun (q' : Rk) (e' g' : Int) (hop : OpensTo ((Rk.vmake (q8.arm fI) (cf8 cf)).boot fun i => l.getD i 0) q' e' g') => make_over HL8'.out (allP_alive HL8'.out) (cf8_fits HL8.out.on.fits) (f := fI) (by omega) (by omega) (fun i => l.getD i 0) rfl hop)
  have CARM := Lib.hid (HJX.out.arm fI (by omega) (by omega))
  clear hfI hall
  go_wp2_with fail
  refine CARM.out.mono ?_
  rintro e w10 ⟨rfl, hvw10, hrc10⟩
  have HJ10 := Lib.hid hvw10
  have HC10 := Lib.hid (HCX.out.rc HFB.out HXL.out hrc10)
  have HX10 := Lib.hid (Nat.lt_of_lt_of_le HXL.out hrc10.size)
  obtain ⟨d0, d1, d2, d3, d4⟩ := CfB.cells HC10.out
  have CM := Lib.hid (vmake_any w10 HJ10.out.qs.rack (cf8 cf))
  clear hvw10 hrc10
  go_wp2_with fail
  refine CM.out.mono ?_
  rintro e w11 ⟨v11, rfl, hkv11, hr11, hc11⟩
  have HQ11 := Lib.hid (HJ10.out.qs.next hr11 hc11)
  have hc11' : RC c N w10 w11 := by have := hc11; rw [HJ10.out.nn] at this; exact this
  have HC11 := Lib.hid (HC10.out.rc HFB.out HX10.out hc11')
  have HX11 := Lib.hid (Nat.lt_of_lt_of_le HX10.out hc11.size)
  have HKV := Lib.hid hkv11
  have HN11 := Lib.hid (show (Rk.vmake (q8.arm fI) (cf8 cf)).n = N from (vmake_n _ _).trans HJ10.out.nn)
  generalize Rk.vmakeC (q8.arm fI) (cf8 cf) = k at *
  generalize Rk.vmake (q8.arm fI) (cf8 cf) = q11 at *
  have CBO := Lib.hid (HQ11.out.boot (.slice al l.length cl) l ((HVL.out.below ((HBW.out _ HQ11.out.base).mono (Nat.le_refl _))).wider (HBW.out _ HQ11.out.base).size) HLL.out)
  clear hkv11 hr11 hc11 hc11' d0 d1 d2 d3 d4
  go_wp2_with fail
  refine CBO.out.mono ?_
  rintro e w12 ⟨rfl, hqs12, hrc12⟩
  have HQ12 := Lib.hid hqs12
  have hrc12' : RC c N w11 w12 := by have := hrc12; rw [HN11.out] at this; exact this
  have HC12 := Lib.hid (HC11.out.rc HFB.out HX11.out hrc12')
  have HX12 := Lib.hid (Nat.lt_of_lt_of_le HX11.out hrc12.size)
  have HN12 := Lib.hid (show (q11.boot fun i => l.getD i 0).n = N from HN11.out)
  clear hqs12 hrc12 hrc12'
  generalize (q11.boot fun i => l.getD i 0) = q12 at *
  have CO := Lib.hid (vopen_any w12 HQ12.out.rack)
  go_wp2_with fail
  refine CO.out.mono ?_
  rintro e w13 ⟨q13, e13, g13, hop, hr13, hrc13, hout⟩
  obtain ⟨hk, hno⟩ := HMO.out _ _ _ hop
  have HQ13 := Lib.hid (HQ12.out.next hr13 hrc13)
  have hrc13' : RC c N w12 w13 := by have := hrc13; rw [HN12.out] at this; exact this
  have HC13 := Lib.hid (HC12.out.rc HFB.out HX12.out hrc13')
  have HX13 := Lib.hid (Nat.lt_of_lt_of_le HX12.out hrc13.size)
  clear CM CBO CO HMO
  rcases hout with ⟨he, b13, rfl, hb13, hv13⟩ | ⟨he, v13, hkv13, rfl⟩
  rotate_left
  · obtain ⟨hd, h7⟩ := hno.none_ he
    have hk0 : k ≠ 0 := of_decide_eq_false hd
    have hk5 : k = 5 := by omega
    subst hk5; rw [h7] at hkv13; obtain ⟨T, u, rfl, hkvA⟩ := wrapV_ne HKV.out (by decide); obtain ⟨T2, u2, rfl, hkvB⟩ := wrapV_ne hkv13 (by decide); have CK1 := Lib.hid (kind_kv hkvA w13 (HTY.out _ HQ13.out.base)); have HKB := Lib.hid hkvB; clear hkv13 hkvA hkvB hop hr13 hrc13 hrc13' hk hno hd h7 hk0 he HKV; go_wp2_with fail; refine CK1.out.mono ?_; rintro e w14 ⟨rfl, hb14⟩; have HB14 := Lib.hid (bthen HQ13.out.base hb14); have CK2 := Lib.hid (kind_kv HKB.out w14 (HTY.out _ HB14.out)); clear hb14; go_wp2_with fail; refine CK2.out.mono ?_; rintro e w15 ⟨rfl, hb15⟩; have HB15 := Lib.hid (bthen HB14.out hb15); have CRU := Lib.hid (runs_any w15 (HTY.out _ HB15.out)); clear hb15; go_wp2_with fail; refine CRU.out.mono ?_; rintro e w16 ⟨rfl, hb16⟩; have HB16 := Lib.hid (HBW.out _ (bthen HB15.out hb16)); clear hb16; go_wp2_with fail; go_ret; exact bit rfl HB16.out
  have HN13 := Lib.hid (show q13.n = N from hno.n.trans HN12.out)
  have hle : w4.heap.size ≤ b13 := Nat.le_trans HQ12.out.base.size hb13
  have hfv : FarV b13 c N := by have := HQ12.out.rack.farV hb13; rwa [HN12.out] at this
  have heg := fun W => err_guardN HKV.out (.tmp 73) W
  obtain ⟨hfo, hcase⟩ := hno.some_ he
  rcases hcase with ⟨hfc, hd, V', hi', ho', hG', hB'⟩ | ⟨hfc, hg1, V', hi', ho', hG', hB'⟩
  · have hk0 : k ≠ 0 := of_decide_eq_false hd
    have hk5 : k = 5 := by omega
    subst hk5; obtain ⟨T, u, rfl, -⟩ := wrapV_ne HKV.out (by decide); rw [hfc] at hv13; have HJ13 := Lib.hid (show VW w4 c cf N q13 g13 false b13 w13 from ⟨HQ13.out, HN13.out, hv13, hfv, hle⟩); have HIV := Lib.hid hi'; have HON := Lib.hid ho'; have HVV := Lib.hid (show V'.G 1 = 2 ∧ V'.B 1 = blks a_ K by rw [hG', hB']; exact HV.out); have HE13 := Lib.hid (show Enough cf (allP q12) q13.n by have := allP_enough ho'.fits; rwa [show allP q13 = allP q12 by unfold allP; rw [hno.n]] at this); clear hv13 hi' ho' hG' hB' hfc hd hk0 hop hr13 hrc13 hrc13' hk hno he hfo hle hfv hb13 HKV heg
    have hceq : ∀ W : World, (binOp .eql 24 (.agg (cfA cf)) (.agg (cfA cf))).run Tryz.prog W = .ok (.bool true) W := fun W => by rw [eql_conf, decide_eq_true rfl]
    have hcg := guard_conf; go_wp2_with fail; have h2 := HJ13.out.drew.qs.base
    have d0 : ∀ w', Below w4.heap.size w4 w' → w'.cell? ⟨bc, 0, none⟩ = some (.int .i64 cf.id) := fun w' h => (CfB.cells (HCC.out w' h)).1
    have d1 : ∀ w', Below w4.heap.size w4 w' → w'.cell? ⟨bc, 1, none⟩ = some (.int .i64 cf.k) := fun w' h => (CfB.cells (HCC.out w' h)).2.1
    have d2 : ∀ w', Below w4.heap.size w4 w' → w'.cell? ⟨bc, 2, none⟩ = some (.int .i64 cf.n) := fun w' h => (CfB.cells (HCC.out w' h)).2.2.1
    have d3 : ∀ w', Below w4.heap.size w4 w' → w'.cell? ⟨bc, 3, none⟩ = some (.int .i64 cf.t) := fun w' h => (CfB.cells (HCC.out w' h)).2.2.2.1
    have d4 : ∀ w', Below w4.heap.size w4 w' → w'.cell? ⟨bc, 4, none⟩ = some (.int .i64 cf.s) := fun w' h => (CfB.cells (HCC.out w' h)).2.2.2.2
    refine wp_region_noPanic ?_; refine wp_region_held_drew (S := (fun w' => Below w4.heap.size w4 w')) (by kernel_rfl) h2 (fun hHeld => ?_); refine wpAnyH_take (i := 0) (oi := ⟨some 99, _, _, _, _, _⟩) (v := ?_) rfl (by kernel_rfl) (by kernel_rfl) (by kernel_rfl) (fun _ _ _ h => h) (Or.inl ⟨by rfl, ?_⟩) hHeld ?_
    rotate_left
    · intro w hSw; (go_simp; try with_reducible rfl)
    simp only [Act.put, List.setIfInBounds_toArray, List.set_cons_zero, List.set_cons_succ]; refine wpAnyH_take (i := 2) (oi := ⟨some 101, _, _, _, _, _⟩) (v := ?_) rfl (by kernel_rfl) (by kernel_rfl) (by kernel_rfl) (fun _ _ _ h => h) (Or.inl ⟨by rfl, ?_⟩) hHeld ?_
    rotate_left
    · intro w hSw; (go_simp; try with_reducible rfl)
    simp only [Act.put, List.setIfInBounds_toArray, List.set_cons_zero, List.set_cons_succ]; refine wpAnyH_ready (rs := [1]) (by kernel_rfl) (by simp) (AllReadyH.cons rfl (fun K hK => ?_) AllReadyH.nil); go_simp; refine (vconfig_any _ HJ13.out.drew.vb).mono ?_; rintro e w14 ⟨rfl, hb14⟩; have HJ14 := Lib.hid (HJ13.out.drew.below hb14); have h14 := HJ14.out.qs.base; clear hb14; refine hK.out _ _ h14 (fun _ => ?_); clear hK K; refine wpAnyH_take (i := 3) (oi := ⟨some 102, _, _, _, _, _⟩) (v := ?_) rfl (by kernel_rfl) (by kernel_rfl) (by kernel_rfl) (fun _ _ _ h => h) (Or.inl ⟨by rfl, ?_⟩) h14 ?_
    rotate_left
    · intro w hSw; (go_simp; try with_reducible rfl)
    simp only [Act.put, List.setIfInBounds_toArray, List.set_cons_zero, List.set_cons_succ]; refine wpAnyH_done (by kernel_rfl) ?_ _; refine NoPanic.normal ?_; clear d0 d1 d2 d3 d4 h2 hHeld h14 hceq hcg; have CR := Lib.hid (show Calls Tryz.prog 46 #[.pointer (some ⟨b13, 0, none⟩), .int .i64 1] w14 (GotB (V'.G 1) (V'.B 1) w14) from HJ14.out.reads HIV.out HON.out (t := 1) (by rw [HCF.out.2.1]; decide) (HIV.out.read HON.out (t := 1) (by rw [HCF.out.2.1]; decide) HE13.out.le).1); rw [HVV.out.1, HVV.out.2] at CR; go_wp2_with fail; refine CR.out.mono ?_; rintro e w15 ⟨vx, rfl, hx15, hb15⟩; have HX15 := Lib.hid (slK_own hx15 (blks_is _ _) rfl); have HJ15 := Lib.hid (HJ14.out.below hb15); obtain ⟨ax, cx, rfl, -⟩ := own_slice' hx15; clear hx15 hb15; obtain ⟨d0, d1, d2, d3, d4⟩ := HCELL.out _ HJ15.out.qs.base; go_wp2_with fail; refine (CB.out _ _).mono ?_; rintro e w16 ⟨v16, rfl, ho16, hb16⟩; have HX16 := Lib.hid ((HX15.out.below hb16).wider hb16.size); have HS16 := Lib.hid (slK_own ho16 (blks_is _ _) rfl); have HJ16 := Lib.hid (HJ15.out.below hb16); obtain ⟨a16, c16, rfl, -⟩ := own_slice' ho16; clear ho16 hb16 d0 d1 d2 d3 d4; have S1 := Lib.hid (same_blocks _ _ _ _ w16 HX16.out HS16.out (by rw [blks_length]; exact HK8.out)); rw [decide_eq_true rfl] at S1; go_wp2_with fail; refine S1.out.mono ?_; rintro e w17 ⟨rfl, hb17⟩; have HB17 := Lib.hid (bthen HJ16.out.qs.base hb17); have CRU := Lib.hid (runs_any w17 (HTY.out _ HB17.out)); clear hb17; go_wp2_with fail; refine CRU.out.mono ?_
    rintro e w18 ⟨rfl, hb18⟩; have HB18 := Lib.hid (HBW.out _ (bthen HB17.out hb18)); clear hb18; go_wp2_with fail; go_ret; exact bit rfl HB18.out
  · subst hg1
    rw [hfc] at hv13; have HJ13 := Lib.hid (show VW w4 c (cf8 cf) N q13 1 false b13 w13 from ⟨HQ13.out, HN13.out, hv13, hfv, hle⟩); have HIV := Lib.hid hi'; have HON := Lib.hid ho'; have HVV := Lib.hid (fun x : Nat => show V'.G x = 1 ∧ V'.B x = List.replicate K z108 by rw [hG', hB']; exact ⟨rfl, by show List.replicate cf.k.toNat z108 = _; rw [HK.out]; rfl⟩); have HE13 := Lib.hid (show Enough (cf8 cf) (allP q12) q13.n by have := allP_enough ho'.fits; rwa [show allP q13 = allP q12 by unfold allP; rw [hno.n]] at this)
    have hne : cf8 cf ≠ cf := fun e => by have h1 := congrArg Cf.id e; have h2 : (8 : Int) = cf.id := h1; rw [HCF.out.1.1] at h2; cases h2
    have hceq : ∀ W : World, (binOp .eql 24 (.agg (cfA (cf8 cf))) (.agg (cfA cf))).run Tryz.prog W = .ok (.bool false) W := fun W => by rw [eql_conf, decide_eq_false hne]
    have hceq2 : ∀ W : World, (binOp .eql 24 (.agg (cfA (cf8 cf))) (.agg (cfA (cf8 cf)))).run Tryz.prog W = .ok (.bool true) W := fun W => by rw [eql_conf, decide_eq_true rfl]
    have hcg := guard_conf; clear hv13 hi' ho' hG' hB' hfc hop hr13 hrc13 hrc13' hno he hfo hle hfv hb13 heg hne
    obtain rfl | rfl := hk
    · rw [HKV.out.nil rfl]
      clear HKV; go_wp2_with fail; have h2 := HJ13.out.drew.qs.base
      have d0 : ∀ w', Below w4.heap.size w4 w' → w'.cell? ⟨bc, 0, none⟩ = some (.int .i64 cf.id) := fun w' h => (CfB.cells (HCC.out w' h)).1
      have d1 : ∀ w', Below w4.heap.size w4 w' → w'.cell? ⟨bc, 1, none⟩ = some (.int .i64 cf.k) := fun w' h => (CfB.cells (HCC.out w' h)).2.1
      have d2 : ∀ w', Below w4.heap.size w4 w' → w'.cell? ⟨bc, 2, none⟩ = some (.int .i64 cf.n) := fun w' h => (CfB.cells (HCC.out w' h)).2.2.1
      have d3 : ∀ w', Below w4.heap.size w4 w' → w'.cell? ⟨bc, 3, none⟩ = some (.int .i64 cf.t) := fun w' h => (CfB.cells (HCC.out w' h)).2.2.2.1
      have d4 : ∀ w', Below w4.heap.size w4 w' → w'.cell? ⟨bc, 4, none⟩ = some (.int .i64 cf.s) := fun w' h => (CfB.cells (HCC.out w' h)).2.2.2.2
      refine wp_region_noPanic ?_; refine wp_region_held_drew (S := (fun w' => Below w4.heap.size w4 w')) (by kernel_rfl) h2 (fun hHeld => ?_); refine wpAnyH_take (i := 0) (oi := ⟨some 99, _, _, _, _, _⟩) (v := ?_) rfl (by kernel_rfl) (by kernel_rfl) (by kernel_rfl) (fun _ _ _ h => h) (Or.inl ⟨by rfl, ?_⟩) hHeld ?_
      rotate_left
      · intro w hSw; (go_simp; try with_reducible rfl)
      simp only [Act.put, List.setIfInBounds_toArray, List.set_cons_zero, List.set_cons_succ]; refine wpAnyH_take (i := 2) (oi := ⟨some 101, _, _, _, _, _⟩) (v := ?_) rfl (by kernel_rfl) (by kernel_rfl) (by kernel_rfl) (fun _ _ _ h => h) (Or.inl ⟨by rfl, ?_⟩) hHeld ?_
      rotate_left
      · intro w hSw; (go_simp; try with_reducible rfl)
      simp only [Act.put, List.setIfInBounds_toArray, List.set_cons_zero, List.set_cons_succ]; refine wpAnyH_ready (rs := [1]) (by kernel_rfl) (by simp) (AllReadyH.cons rfl (fun K hK => ?_) AllReadyH.nil); go_simp; refine (vconfig_any _ HJ13.out.drew.vb).mono ?_; rintro e w14 ⟨rfl, hb14⟩; have HJ14 := Lib.hid (HJ13.out.drew.below hb14); have HC14 := Lib.hid (show CfB (cf8 cf) bx w14 ∧ bx < w14.heap.size from ⟨CfB.below (CfB.below HC13.out HX13.out ((Below.refl _ _).drew)) HX13.out hb14, Nat.lt_of_lt_of_le HX13.out hb14.size⟩); have h14 := HJ14.out.qs.base; clear hb14; refine hK.out _ _ h14 (fun _ => ?_); clear hK K; refine wpAnyH_take (i := 3) (oi := ⟨some 102, _, _, _, _, _⟩) (v := ?_) rfl (by kernel_rfl) (by kernel_rfl) (by kernel_rfl) (fun _ _ _ h => h) (Or.inl ⟨by rfl, ?_⟩) h14 ?_
      rotate_left
      · intro w hSw; (go_simp; try with_reducible rfl)
      simp only [Act.put, List.setIfInBounds_toArray, List.set_cons_zero, List.set_cons_succ]; refine wpAnyH_done (by kernel_rfl) ?_ _; refine NoPanic.normal ?_; clear d0 d1 d2 d3 d4 h2 hHeld h14 hceq; go_wp2_with fail
      go_loopw [22] (fun i wr => RelVe (cf8 cf) w4 c N q13 1 b13 bx i wr) (fun i _ => 3 - (intOf i).toNat)
      case atStart => exact ⟨0, by omega, rfl, HJ14.out, HC14.out.1, HC14.out.2⟩
      case round =>
        obtain ⟨m, hm, rfl, hJ, hc, hx⟩ := hrel; have HJ := Lib.hid hJ; have HCB := Lib.hid (And.intro hc hx)
        by_cases hlt : m < 3
        · have hmt : ((m : Nat) : Int) < (cf8 cf).t := by show (m : Int) < cf.t; rw [HCF.out.2.1]; omega
          have CR := Lib.hid (show Calls Tryz.prog 46 #[.pointer (some ⟨b13, 0, none⟩), .int .i64 m] wr (GotB (V'.G m) (V'.B m) wr) from hJ.reads HIV.out HON.out (t := m) hmt (HIV.out.read HON.out (t := m) hmt HE13.out.le).1); rw [(HVV.out m).1, (HVV.out m).2] at CR; clear hJ hc hx hmt; go_wp2_with fail; refine CR.out.mono ?_; rintro e w15 ⟨vx, rfl, hx15, hb15⟩; have HX15 := Lib.hid (slK_own hx15 (fun d hd => by rw [List.eq_of_mem_replicate hd]; simp [z108]) rfl); have HJ15 := Lib.hid (HJ.out.below hb15); have HC15 := Lib.hid (show CfB (cf8 cf) bx w15 ∧ bx < w15.heap.size from ⟨CfB.below HCB.out.1 HCB.out.2 hb15, Nat.lt_of_lt_of_le HCB.out.2 hb15.size⟩); obtain ⟨ax, cx, rfl, -⟩ := own_slice' hx15; rw [List.length_replicate] at HX15; rw [List.length_replicate]; clear hx15 hb15; have hmk := make_blocks K HK8.out w15; have HMB := Lib.hid (made_blocks K HK8.out w15); obtain ⟨d0, d1, d2, d3, d4⟩ := HCELL.out _ HJ15.out.qs.base; have S1 := Lib.hid (same_blocks _ _ _ _ _ ((HX15.out.below (one_below w15 (.cells (madeCells (bytesV z108).toArray (K * 108)) 70))).wider (one_below w15 (.cells (madeCells (bytesV z108).toArray (K * 108)) 70)).size) HMB.out (by rw [List.length_replicate]; exact HK8.out)); rw [decide_eq_true rfl] at S1; go_wp2_with fail; refine S1.out.mono ?_; rintro e w16 ⟨rfl, hb16⟩; have hb16' := bthen (one_below w15 (.cells (madeCells (bytesV z108).toArray (K * 108)) 70)) hb16; have HJ16 := Lib.hid (HJ15.out.below hb16')
          have HC16 := Lib.hid (show CfB (cf8 cf) bx w16 ∧ bx < w16.heap.size from ⟨CfB.below HC15.out.1 HC15.out.2 hb16', Nat.lt_of_lt_of_le HC15.out.2 hb16'.size⟩); clear hb16 hb16' d0 d1 d2 d3 d4 hmk; go_wp2_with fail
          go_roundw
          case rel => exact ⟨m + 1, hlt, by go_num, HJ16.out, HC16.out.1, HC16.out.2⟩
          case measure => simp [intOf]; omega
        · obtain rfl : m = 3 := by omega
          rw [show ((3 : Nat) : Int) = 3 from rfl]
          have h2 : Below w4.heap.size w4 wr.drew ∧ CfB (cf8 cf) bx wr.drew ∧ bx < wr.drew.heap.size := ⟨hJ.drew.qs.base, CfB.below hc hx ((Below.refl _ _).drew), hx⟩
          clear hJ hc hx; go_wp2_with fail
          have d0 : ∀ w', (Below w4.heap.size w4 w' ∧ CfB (cf8 cf) bx w' ∧ bx < w'.heap.size) → w'.cell? ⟨bx, 0, none⟩ = some (.int .i64 8) := fun w' h => h.2.1.cell 0
          have d1 : ∀ w', (Below w4.heap.size w4 w' ∧ CfB (cf8 cf) bx w' ∧ bx < w'.heap.size) → w'.cell? ⟨bx, 1, none⟩ = some (.int .i64 cf.k) := fun w' h => h.2.1.cell 1
          have d2 : ∀ w', (Below w4.heap.size w4 w' ∧ CfB (cf8 cf) bx w' ∧ bx < w'.heap.size) → w'.cell? ⟨bx, 2, none⟩ = some (.int .i64 cf.n) := fun w' h => h.2.1.cell 2
          have d3 : ∀ w', (Below w4.heap.size w4 w' ∧ CfB (cf8 cf) bx w' ∧ bx < w'.heap.size) → w'.cell? ⟨bx, 3, none⟩ = some (.int .i64 cf.t) := fun w' h => h.2.1.cell 3
          have d4 : ∀ w', (Below w4.heap.size w4 w' ∧ CfB (cf8 cf) bx w' ∧ bx < w'.heap.size) → w'.cell? ⟨bx, 4, none⟩ = some (.int .i64 cf.s) := fun w' h => h.2.1.cell 4
          have g0 : (cf8 cf).id = 8 := rfl; have g1 : (cf8 cf).k = cf.k := rfl; have g2 : (cf8 cf).n = cf.n := rfl; have g3 : (cf8 cf).t = cf.t := rfl; have g4 : (cf8 cf).s = cf.s := rfl; refine wp_region_noPanic ?_; refine wp_region_held_drew (S := (fun w' => Below w4.heap.size w4 w' ∧ CfB (cf8 cf) bx w' ∧ bx < w'.heap.size)) (by kernel_rfl) h2 (fun hHeld2 => ?_); refine wpAnyH_take (i := 0) (oi := ⟨some 151, _, _, _, _, _⟩) (v := ?_) rfl (by kernel_rfl) (by kernel_rfl) (by kernel_rfl) (fun _ _ _ h => h) (Or.inl ⟨by rfl, ?_⟩) hHeld2 ?_
          rotate_left
          · intro w hSw; (go_simp; try with_reducible rfl)
          simp only [Act.put, List.setIfInBounds_toArray, List.set_cons_zero, List.set_cons_succ]; refine wpAnyH_take (i := 2) (oi := ⟨some 153, _, _, _, _, _⟩) (v := ?_) rfl (by kernel_rfl) (by kernel_rfl) (by kernel_rfl) (fun _ _ _ h => h) (Or.inl ⟨by rfl, ?_⟩) hHeld2 ?_
          rotate_left
          · intro w hSw; (go_simp; try with_reducible rfl)
          simp only [Act.put, List.setIfInBounds_toArray, List.set_cons_zero, List.set_cons_succ]; refine wpAnyH_ready (rs := [1]) (by kernel_rfl) (by simp) (AllReadyH.cons rfl (fun K hK => ?_) AllReadyH.nil); go_simp; refine (vconfig_any _ HJ.out.drew.vb).mono ?_; rintro e w15 ⟨rfl, hb15⟩; have HJ15 := Lib.hid (HJ.out.drew.below hb15)
          have h15 : Below w4.heap.size w4 w15 ∧ CfB (cf8 cf) bx w15 ∧ bx < w15.heap.size := ⟨HJ15.out.qs.base, CfB.below hHeld2.2.1 hHeld2.2.2 hb15, Nat.lt_of_lt_of_le hHeld2.2.2 hb15.size⟩
          clear hb15; refine hK.out _ _ h15 (fun _ => ?_); clear hK K; refine wpAnyH_take (i := 3) (oi := ⟨some 154, _, _, _, _, _⟩) (v := ?_) rfl (by kernel_rfl) (by kernel_rfl) (by kernel_rfl) (fun _ _ _ h => h) (Or.inl ⟨by rfl, ?_⟩) h15 ?_
          rotate_left
          · intro w hSw; (go_simp; try with_reducible rfl)
          simp only [Act.put, List.setIfInBounds_toArray, List.set_cons_zero, List.set_cons_succ]; refine wpAnyH_take (i := 4) (oi := ⟨some 155, _, _, _, _, _⟩) (v := ?_) rfl (by kernel_rfl) (by kernel_rfl) (by kernel_rfl) (fun _ _ _ h => h) (Or.inl ⟨by rfl, ?_⟩) h15 ?_
          rotate_left
          · intro w hSw; (go_simp; try with_reducible rfl)
          simp only [Act.put, List.setIfInBounds_toArray, List.set_cons_zero, List.set_cons_succ]; refine wpAnyH_take (i := 5) (oi := ⟨some 156, _, _, _, _, _⟩) (v := ?_) rfl (by kernel_rfl) (by kernel_rfl) (by kernel_rfl) (fun _ _ _ h => h) (Or.inl ⟨by rfl, ?_⟩) h15 ?_
          rotate_left
          · intro w hSw; (go_simp; try with_reducible rfl)
          simp only [Act.put, List.setIfInBounds_toArray, List.set_cons_zero, List.set_cons_succ]; refine wpAnyH_ready (rs := [6]) (by kernel_rfl) (by simp) (AllReadyH.cons rfl (fun K hK => ?_) AllReadyH.nil); go_simp; refine (vseq_any _ HJ15.out.vb).mono ?_; rintro e w16 ⟨rfl, hw16⟩; subst hw16; refine hK.out _ _ h15 (fun _ => ?_); clear hK K; refine wpAnyH_take (i := 7) (oi := ⟨some 158, _, _, _, _, _⟩) (v := ?_) rfl (by kernel_rfl) (by kernel_rfl) (by kernel_rfl) (fun _ _ _ h => h) (Or.inl ⟨by rfl, ?_⟩) h15 ?_
          rotate_left
          · intro w hSw; (go_simp; try with_reducible rfl)
          simp only [Act.put, List.setIfInBounds_toArray, List.set_cons_zero, List.set_cons_succ]; refine wpAnyH_take (i := 8) (oi := ⟨some 159, _, _, _, _, _⟩) (v := ?_) rfl (by kernel_rfl) (by kernel_rfl) (by kernel_rfl) (fun _ _ _ h => h) (Or.inl ⟨by rfl, ?_⟩) h15 ?_
          rotate_left
          · intro w hSw; (go_simp; try with_reducible rfl)
          simp only [Act.put, List.setIfInBounds_toArray, List.set_cons_zero, List.set_cons_succ]; refine wpAnyH_take (i := 9) (oi := ⟨some 160, _, _, _, _, _⟩) (v := ?_) rfl (by kernel_rfl) (by kernel_rfl) (by kernel_rfl) (fun _ _ _ h => h) (Or.inl ⟨by rfl, ?_⟩) h15 ?_
          rotate_left
          · intro w hSw; (go_simp; try with_reducible rfl)
          simp only [Act.put, List.setIfInBounds_toArray, List.set_cons_zero, List.set_cons_succ]; refine wpAnyH_ready (rs := [10]) (by kernel_rfl) (by simp) (AllReadyH.cons rfl (fun K hK => ?_) AllReadyH.nil); go_simp; refine (runs_any _ (HTY.out _ HJ15.out.qs.base)).mono ?_; rintro e w17 ⟨rfl, hb17⟩
          have h17 : Below w4.heap.size w4 w17 ∧ CfB (cf8 cf) bx w17 ∧ bx < w17.heap.size := ⟨bthen HJ15.out.qs.base hb17, CfB.below h15.2.1 h15.2.2 hb17, Nat.lt_of_lt_of_le h15.2.2 hb17.size⟩
          have HB17 := Lib.hid (HBW.out _ h17.1); clear hb17; refine hK.out _ _ h17 (fun _ => ?_); clear hK K; refine wpAnyH_take (i := 11) (oi := ⟨some 162, _, _, _, _, _⟩) (v := ?_) rfl (by kernel_rfl) (by kernel_rfl) (by kernel_rfl) (fun _ _ _ h => h) (Or.inl ⟨by rfl, ?_⟩) h17 ?_
          rotate_left
          · intro w hSw; (go_simp; try with_reducible rfl)
          simp only [Act.put, List.setIfInBounds_toArray, List.set_cons_zero, List.set_cons_succ]; refine wpAnyH_take (i := 12) (oi := ⟨some 10, _, _, _, _, _⟩) (v := ?_) rfl (by kernel_rfl) (by kernel_rfl) (by kernel_rfl) (fun _ _ _ h => h) (Or.inl ⟨by rfl, ?_⟩) h17 ?_
          rotate_left
          · intro w hSw; (go_simp; try with_reducible rfl)
          simp only [Act.put, List.setIfInBounds_toArray, List.set_cons_zero, List.set_cons_succ]; refine wpAnyH_done (by kernel_rfl) ?_ _; refine NoPanic.normal ?_; clear d0 d1 d2 d3 d4 h2 hHeld2 h15 h17; go_wp2_with fail; go_ret; exact bit rfl HB17.out
    · obtain ⟨T, u, rfl, -⟩ := wrapV_ne HKV.out (by decide)
      clear HKV; go_wp2_with fail; have h2 := HJ13.out.drew.qs.base
      have d0 : ∀ w', Below w4.heap.size w4 w' → w'.cell? ⟨bc, 0, none⟩ = some (.int .i64 cf.id) := fun w' h => (CfB.cells (HCC.out w' h)).1
      have d1 : ∀ w', Below w4.heap.size w4 w' → w'.cell? ⟨bc, 1, none⟩ = some (.int .i64 cf.k) := fun w' h => (CfB.cells (HCC.out w' h)).2.1
      have d2 : ∀ w', Below w4.heap.size w4 w' → w'.cell? ⟨bc, 2, none⟩ = some (.int .i64 cf.n) := fun w' h => (CfB.cells (HCC.out w' h)).2.2.1
      have d3 : ∀ w', Below w4.heap.size w4 w' → w'.cell? ⟨bc, 3, none⟩ = some (.int .i64 cf.t) := fun w' h => (CfB.cells (HCC.out w' h)).2.2.2.1
      have d4 : ∀ w', Below w4.heap.size w4 w' → w'.cell? ⟨bc, 4, none⟩ = some (.int .i64 cf.s) := fun w' h => (CfB.cells (HCC.out w' h)).2.2.2.2
      refine wp_region_noPanic ?_; refine wp_region_held_drew (S := (fun w' => Below w4.heap.size w4 w')) (by kernel_rfl) h2 (fun hHeld => ?_); refine wpAnyH_take (i := 0) (oi := ⟨some 99, _, _, _, _, _⟩) (v := ?_) rfl (by kernel_rfl) (by kernel_rfl) (by kernel_rfl) (fun _ _ _ h => h) (Or.inl ⟨by rfl, ?_⟩) hHeld ?_
      rotate_left
      · intro w hSw; (go_simp; try with_reducible rfl)
      simp only [Act.put, List.setIfInBounds_toArray, List.set_cons_zero, List.set_cons_succ]; refine wpAnyH_take (i := 2) (oi := ⟨some 101, _, _, _, _, _⟩) (v := ?_) rfl (by kernel_rfl) (by kernel_rfl) (by kernel_rfl) (fun _ _ _ h => h) (Or.inl ⟨by rfl, ?_⟩) hHeld ?_
      rotate_left
      · intro w hSw; (go_simp; try with_reducible rfl)
      simp only [Act.put, List.setIfInBounds_toArray, List.set_cons_zero, List.set_cons_succ]; refine wpAnyH_ready (rs := [1]) (by kernel_rfl) (by simp) (AllReadyH.cons rfl (fun K hK => ?_) AllReadyH.nil); go_simp; refine (vconfig_any _ HJ13.out.drew.vb).mono ?_; rintro e w14 ⟨rfl, hb14⟩; have HJ14 := Lib.hid (HJ13.out.drew.below hb14); have HC14 := Lib.hid (show CfB (cf8 cf) bx w14 ∧ bx < w14.heap.size from ⟨CfB.below (CfB.below HC13.out HX13.out ((Below.refl _ _).drew)) HX13.out hb14, Nat.lt_of_lt_of_le HX13.out hb14.size⟩); have h14 := HJ14.out.qs.base; clear hb14; refine hK.out _ _ h14 (fun _ => ?_); clear hK K; refine wpAnyH_take (i := 3) (oi := ⟨some 102, _, _, _, _, _⟩) (v := ?_) rfl (by kernel_rfl) (by kernel_rfl) (by kernel_rfl) (fun _ _ _ h => h) (Or.inl ⟨by rfl, ?_⟩) h14 ?_
      rotate_left
      · intro w hSw; (go_simp; try with_reducible rfl)
      simp only [Act.put, List.setIfInBounds_toArray, List.set_cons_zero, List.set_cons_succ]; refine wpAnyH_done (by kernel_rfl) ?_ _; refine NoPanic.normal ?_; clear d0 d1 d2 d3 d4 h2 hHeld h14 hceq; go_wp2_with fail
      go_loopw [22] (fun i wr => RelVe (cf8 cf) w4 c N q13 1 b13 bx i wr) (fun i _ => 3 - (intOf i).toNat)
      case atStart => exact ⟨0, by omega, rfl, HJ14.out, HC14.out.1, HC14.out.2⟩
      case round =>
        obtain ⟨m, hm, rfl, hJ, hc, hx⟩ := hrel; have HJ := Lib.hid hJ; have HCB := Lib.hid (And.intro hc hx)
        by_cases hlt : m < 3
        · have hmt : ((m : Nat) : Int) < (cf8 cf).t := by show (m : Int) < cf.t; rw [HCF.out.2.1]; omega
          have CR := Lib.hid (show Calls Tryz.prog 46 #[.pointer (some ⟨b13, 0, none⟩), .int .i64 m] wr (GotB (V'.G m) (V'.B m) wr) from hJ.reads HIV.out HON.out (t := m) hmt (HIV.out.read HON.out (t := m) hmt HE13.out.le).1); rw [(HVV.out m).1, (HVV.out m).2] at CR; clear hJ hc hx hmt; go_wp2_with fail; refine CR.out.mono ?_; rintro e w15 ⟨vx, rfl, hx15, hb15⟩; have HX15 := Lib.hid (slK_own hx15 (fun d hd => by rw [List.eq_of_mem_replicate hd]; simp [z108]) rfl); have HJ15 := Lib.hid (HJ.out.below hb15); have HC15 := Lib.hid (show CfB (cf8 cf) bx w15 ∧ bx < w15.heap.size from ⟨CfB.below HCB.out.1 HCB.out.2 hb15, Nat.lt_of_lt_of_le HCB.out.2 hb15.size⟩); obtain ⟨ax, cx, rfl, -⟩ := own_slice' hx15; rw [List.length_replicate] at HX15; rw [List.length_replicate]; clear hx15 hb15; have hmk := make_blocks K HK8.out w15; have HMB := Lib.hid (made_blocks K HK8.out w15); obtain ⟨d0, d1, d2, d3, d4⟩ := HCELL.out _ HJ15.out.qs.base; have S1 := Lib.hid (same_blocks _ _ _ _ _ ((HX15.out.below (one_below w15 (.cells (madeCells (bytesV z108).toArray (K * 108)) 70))).wider (one_below w15 (.cells (madeCells (bytesV z108).toArray (K * 108)) 70)).size) HMB.out (by rw [List.length_replicate]; exact HK8.out)); rw [decide_eq_true rfl] at S1; go_wp2_with fail; refine S1.out.mono ?_; rintro e w16 ⟨rfl, hb16⟩; have hb16' := bthen (one_below w15 (.cells (madeCells (bytesV z108).toArray (K * 108)) 70)) hb16; have HJ16 := Lib.hid (HJ15.out.below hb16')
          have HC16 := Lib.hid (show CfB (cf8 cf) bx w16 ∧ bx < w16.heap.size from ⟨CfB.below HC15.out.1 HC15.out.2 hb16', Nat.lt_of_lt_of_le HC15.out.2 hb16'.size⟩); clear hb16 hb16' d0 d1 d2 d3 d4 hmk; go_wp2_with fail
          go_roundw
          case rel => exact ⟨m + 1, hlt, by go_num, HJ16.out, HC16.out.1, HC16.out.2⟩
          case measure => simp [intOf]; omega
        · obtain rfl : m = 3 := by omega
          rw [show ((3 : Nat) : Int) = 3 from rfl]
          have h2 : Below w4.heap.size w4 wr.drew ∧ CfB (cf8 cf) bx wr.drew ∧ bx < wr.drew.heap.size := ⟨hJ.drew.qs.base, CfB.below hc hx ((Below.refl _ _).drew), hx⟩
          clear hJ hc hx; go_wp2_with fail
          have d0 : ∀ w', (Below w4.heap.size w4 w' ∧ CfB (cf8 cf) bx w' ∧ bx < w'.heap.size) → w'.cell? ⟨bx, 0, none⟩ = some (.int .i64 8) := fun w' h => h.2.1.cell 0
          have d1 : ∀ w', (Below w4.heap.size w4 w' ∧ CfB (cf8 cf) bx w' ∧ bx < w'.heap.size) → w'.cell? ⟨bx, 1, none⟩ = some (.int .i64 cf.k) := fun w' h => h.2.1.cell 1
          have d2 : ∀ w', (Below w4.heap.size w4 w' ∧ CfB (cf8 cf) bx w' ∧ bx < w'.heap.size) → w'.cell? ⟨bx, 2, none⟩ = some (.int .i64 cf.n) := fun w' h => h.2.1.cell 2
          have d3 : ∀ w', (Below w4.heap.size w4 w' ∧ CfB (cf8 cf) bx w' ∧ bx < w'.heap.size) → w'.cell? ⟨bx, 3, none⟩ = some (.int .i64 cf.t) := fun w' h => h.2.1.cell 3
          have d4 : ∀ w', (Below w4.heap.size w4 w' ∧ CfB (cf8 cf) bx w' ∧ bx < w'.heap.size) → w'.cell? ⟨bx, 4, none⟩ = some (.int .i64 cf.s) := fun w' h => h.2.1.cell 4
          have g0 : (cf8 cf).id = 8 := rfl; have g1 : (cf8 cf).k = cf.k := rfl; have g2 : (cf8 cf).n = cf.n := rfl; have g3 : (cf8 cf).t = cf.t := rfl; have g4 : (cf8 cf).s = cf.s := rfl; refine wp_region_noPanic ?_; refine wp_region_held_drew (S := (fun w' => Below w4.heap.size w4 w' ∧ CfB (cf8 cf) bx w' ∧ bx < w'.heap.size)) (by kernel_rfl) h2 (fun hHeld2 => ?_); refine wpAnyH_take (i := 0) (oi := ⟨some 151, _, _, _, _, _⟩) (v := ?_) rfl (by kernel_rfl) (by kernel_rfl) (by kernel_rfl) (fun _ _ _ h => h) (Or.inl ⟨by rfl, ?_⟩) hHeld2 ?_
          rotate_left
          · intro w hSw; (go_simp; try with_reducible rfl)
          simp only [Act.put, List.setIfInBounds_toArray, List.set_cons_zero, List.set_cons_succ]; refine wpAnyH_take (i := 2) (oi := ⟨some 153, _, _, _, _, _⟩) (v := ?_) rfl (by kernel_rfl) (by kernel_rfl) (by kernel_rfl) (fun _ _ _ h => h) (Or.inl ⟨by rfl, ?_⟩) hHeld2 ?_
          rotate_left
          · intro w hSw; (go_simp; try with_reducible rfl)
          simp only [Act.put, List.setIfInBounds_toArray, List.set_cons_zero, List.set_cons_succ]; refine wpAnyH_ready (rs := [1]) (by kernel_rfl) (by simp) (AllReadyH.cons rfl (fun K hK => ?_) AllReadyH.nil); go_simp; refine (vconfig_any _ HJ.out.drew.vb).mono ?_; rintro e w15 ⟨rfl, hb15⟩; have HJ15 := Lib.hid (HJ.out.drew.below hb15)
          have h15 : Below w4.heap.size w4 w15 ∧ CfB (cf8 cf) bx w15 ∧ bx < w15.heap.size := ⟨HJ15.out.qs.base, CfB.below hHeld2.2.1 hHeld2.2.2 hb15, Nat.lt_of_lt_of_le hHeld2.2.2 hb15.size⟩
          clear hb15; refine hK.out _ _ h15 (fun _ => ?_); clear hK K; refine wpAnyH_take (i := 3) (oi := ⟨some 154, _, _, _, _, _⟩) (v := ?_) rfl (by kernel_rfl) (by kernel_rfl) (by kernel_rfl) (fun _ _ _ h => h) (Or.inl ⟨by rfl, ?_⟩) h15 ?_
          rotate_left
          · intro w hSw; (go_simp; try with_reducible rfl)
          simp only [Act.put, List.setIfInBounds_toArray, List.set_cons_zero, List.set_cons_succ]; refine wpAnyH_take (i := 4) (oi := ⟨some 155, _, _, _, _, _⟩) (v := ?_) rfl (by kernel_rfl) (by kernel_rfl) (by kernel_rfl) (fun _ _ _ h => h) (Or.inl ⟨by rfl, ?_⟩) h15 ?_
          rotate_left
          · intro w hSw; (go_simp; try with_reducible rfl)
          simp only [Act.put, List.setIfInBounds_toArray, List.set_cons_zero, List.set_cons_succ]; refine wpAnyH_take (i := 5) (oi := ⟨some 156, _, _, _, _, _⟩) (v := ?_) rfl (by kernel_rfl) (by kernel_rfl) (by kernel_rfl) (fun _ _ _ h => h) (Or.inl ⟨by rfl, ?_⟩) h15 ?_
          rotate_left
          · intro w hSw; (go_simp; try with_reducible rfl)
          simp only [Act.put, List.setIfInBounds_toArray, List.set_cons_zero, List.set_cons_succ]; refine wpAnyH_ready (rs := [6]) (by kernel_rfl) (by simp) (AllReadyH.cons rfl (fun K hK => ?_) AllReadyH.nil); go_simp; refine (vseq_any _ HJ15.out.vb).mono ?_; rintro e w16 ⟨rfl, hw16⟩; subst hw16; refine hK.out _ _ h15 (fun _ => ?_); clear hK K; refine wpAnyH_take (i := 7) (oi := ⟨some 158, _, _, _, _, _⟩) (v := ?_) rfl (by kernel_rfl) (by kernel_rfl) (by kernel_rfl) (fun _ _ _ h => h) (Or.inl ⟨by rfl, ?_⟩) h15 ?_
          rotate_left
          · intro w hSw; (go_simp; try with_reducible rfl)
          simp only [Act.put, List.setIfInBounds_toArray, List.set_cons_zero, List.set_cons_succ]; refine wpAnyH_take (i := 8) (oi := ⟨some 159, _, _, _, _, _⟩) (v := ?_) rfl (by kernel_rfl) (by kernel_rfl) (by kernel_rfl) (fun _ _ _ h => h) (Or.inl ⟨by rfl, ?_⟩) h15 ?_
          rotate_left
          · intro w hSw; (go_simp; try with_reducible rfl)
          simp only [Act.put, List.setIfInBounds_toArray, List.set_cons_zero, List.set_cons_succ]; refine wpAnyH_take (i := 9) (oi := ⟨some 160, _, _, _, _, _⟩) (v := ?_) rfl (by kernel_rfl) (by kernel_rfl) (by kernel_rfl) (fun _ _ _ h => h) (Or.inl ⟨by rfl, ?_⟩) h15 ?_
          rotate_left
          · intro w hSw; (go_simp; try with_reducible rfl)
          simp only [Act.put, List.setIfInBounds_toArray, List.set_cons_zero, List.set_cons_succ]; refine wpAnyH_ready (rs := [10]) (by kernel_rfl) (by simp) (AllReadyH.cons rfl (fun K hK => ?_) AllReadyH.nil); go_simp; refine (runs_any _ (HTY.out _ HJ15.out.qs.base)).mono ?_; rintro e w17 ⟨rfl, hb17⟩
          have h17 : Below w4.heap.size w4 w17 ∧ CfB (cf8 cf) bx w17 ∧ bx < w17.heap.size := ⟨bthen HJ15.out.qs.base hb17, CfB.below h15.2.1 h15.2.2 hb17, Nat.lt_of_lt_of_le h15.2.2 hb17.size⟩
          have HB17 := Lib.hid (HBW.out _ h17.1); clear hb17; refine hK.out _ _ h17 (fun _ => ?_); clear hK K; refine wpAnyH_take (i := 11) (oi := ⟨some 162, _, _, _, _, _⟩) (v := ?_) rfl (by kernel_rfl) (by kernel_rfl) (by kernel_rfl) (fun _ _ _ h => h) (Or.inl ⟨by rfl, ?_⟩) h17 ?_
          rotate_left
          · intro w hSw; (go_simp; try with_reducible rfl)
          simp only [Act.put, List.setIfInBounds_toArray, List.set_cons_zero, List.set_cons_succ]; refine wpAnyH_take (i := 12) (oi := ⟨some 10, _, _, _, _, _⟩) (v := ?_) rfl (by kernel_rfl) (by kernel_rfl) (by kernel_rfl) (fun _ _ _ h => h) (Or.inl ⟨by rfl, ?_⟩) h17 ?_
          rotate_left
          · intro w hSw; (go_simp; try with_reducible rfl)
          simp only [Act.put, List.setIfInBounds_toArray, List.set_cons_zero, List.set_cons_succ]; refine wpAnyH_done (by kernel_rfl) ?_ _; refine NoPanic.normal ?_; clear d0 d1 d2 d3 d4 h2 hHeld2 h15 h17; go_wp2_with fail; go_ret; exact bit rfl HB17.out
end Go.Proofs.YtfemgajplohogaaGreatDoor
namespace Go.Proofs.YtfemgajplohogaaGreatDoor.volumeNew
open Go.ChangeShapes Go.WideShapes Go.ChangeAt Go.RowKit
set_option maxRecDepth 100000 in
theorem contract (H : Type) (enc : TypeId × Value → H) (W : World) (base : Nat) (args : Array Value) (ds gs : List (DataW H)) (before : List MemPlace)
    (hval : ∀ (j : Nat) t v, Tryz.f11.params[j]? = some t → args[j]? = some v → Value.okWide Tryz.prog W .any base t v)
    (hW : DataW.Whole enc Tryz.prog Tryz.f11.params.toList Rows.volumeNewSpec.vars false W args.toList ds gs before) (hL : laidMetH Tryz.prog Rows.volumeNewRow.laid W) :
    Calls Tryz.prog 11 args W fun e W' => ∃ v, e = .returned v ∧ Rows.volumeNewSpec.post enc Tryz.prog Tryz.f11 false true false false W args v W' := by
  have hW' := hW
  obtain ⟨p, q, hA0, hV, rfl, hfz, hnd⟩ := hW
  have hA : DataW.TrodAll enc Tryz.prog W 0 (fun _ => true) true Tryz.f11.params.toList args.toList ds p := hA0
  rw [Tryz.params11] at hA hval
  obtain ⟨v0, vs0, d0, ds0, p0, q0, hargs, rfl, rfl, h0, r0⟩ := trodAll_cons hA
  obtain ⟨v1, vs1, d1, ds1, p1, q1, rfl, rfl, rfl, h1, r1⟩ := trodAll_cons r0
  obtain ⟨v2, vs2, d2, ds2, p2, q2, rfl, rfl, rfl, h2, r2⟩ := trodAll_cons r1
  obtain ⟨v3, vs3, d3, ds3, p3, q3, rfl, rfl, rfl, h3, r3⟩ := trodAll_cons r2
  obtain ⟨v4, vs4, d4, ds4, p4, q4, rfl, rfl, rfl, h4, r4⟩ := trodAll_cons r3
  obtain ⟨rfl, rfl, rfl⟩ := trodAll_nil r4
  obtain rfl : args = #[v0, v1, v2, v3, v4] := Array.ext' hargs
  obtain ⟨k_, rfl, rfl, rfl, _⟩ := open_int Tryz.underlying3 (hval 0 3 v0 (by simp) (by simp)) h0
  obtain ⟨n_, rfl, rfl, rfl, _⟩ := open_int Tryz.underlying3 (hval 1 3 v1 (by simp) (by simp)) h1
  obtain ⟨f_, rfl, rfl, rfl, _⟩ := open_int Tryz.underlying3 (hval 2 3 v2 (by simp) (by simp)) h2
  obtain ⟨a_, rfl, rfl, rfl, _⟩ := open_int Tryz.underlying3 (hval 3 3 v3 (by simp) (by simp)) h3
  have hv4 := (hval 4 37 v4 (by simp) (by simp))
  obtain ⟨l, hsl, hll⟩ := open_u64s hv4 h4
  obtain ⟨rfl, rfl⟩ := trodVars_none hV
  clear hA0
  have hw : Calls Tryz.prog 11 #[.int .i64 k_, .int .i64 n_, .int .i64 f_, .int .i64 a_, v4] W (Bit true W) := new_any W k_ n_ f_ a_ v4 l hsl hll (handle_of_laid hL)
  refine hw.mono fun e W' ⟨he, hg⟩ => ?_
  subst he
  exact ⟨_, rfl, law_post Tryz.laidOut (by kernel_rfl) (by kernel_rfl) (by kernel_rfl) Tryz.underlying4 hW' hg rfl rfl rfl⟩
theorem reads (os : Os) {H : Type} (enc : TypeId × Value → H) : ∃ places, DataW.whole enc Tryz.prog ((laidWorld os).forCall (fun _ _ => 0) ⟨#[], #[.int .i64 0, .int .i64 0, .int .i64 0, .int .i64 0, .slice none 0 0], []⟩).memory Tryz.f11.params.toList Rows.volumeNewSpec.vars false (#[.int .i64 0, .int .i64 0, .int .i64 0, .int .i64 0, .slice none 0 0] : Array Value).toList 8 = some ([.lit (.int .i64 0), .lit (.int .i64 0), .lit (.int .i64 0), .lit (.int .i64 0), .nil], [], places) :=
  ⟨[], by kernel_rfl⟩
set_option maxRecDepth 100000 in
theorem lifted (os : Os) (started : os.Started) (H : Type) (enc : TypeId × Value → H) (F : Stop.Interp) :
    ReturnsInHanded {} Tryz.checked os 11 .any ((OpenSpec.ofChange Rows.volumeNewSpec).preRow enc Tryz.prog Tryz.f11 Rows.volumeNewRow.domain false Rows.volumeNewRow.laid) (((OpenSpec.ofChange Rows.volumeNewSpec).at F).post enc Tryz.prog Tryz.f11 false true false false) := by
  obtain ⟨places, hx⟩ := reads os enc
  refine returnsInHanded_of_row (C := Tryz.checked) (s := OpenSpec.ofChange Rows.volumeNewSpec) Tryz.own started (by kernel_rfl) Tryz.func11
    (witness_row_at (enc := enc) (C := Tryz.checked) false (laidWorld os) #[.int .i64 0, .int .i64 0, .int .i64 0, .int .i64 0, .slice none 0 0] rfl (by kernel_rfl) (by kernel_rfl) (by kernel_rfl)
      (OpenSpec.preRow_of_cond 8 hx (by kernel_rfl) (fun k hk => by cases hk) (by kernel_rfl) (laidWorld_met os _))) ?_
  intro W base args ds gs before hval hW _ _ _ hL _ _
  exact contract H enc W base args ds gs before hval hW hL
set_option maxHeartbeats 40000000 in
theorem closed : joinedFacts Tryz.prog 11 Tryz.f11 (OpenSpec.ofChange Rows.volumeNewSpec).bare Rows.volumeNewRow = true := by
  unfold joinedFacts
  simp only [Bool.and_eq_true]
  repeat' refine And.intro ?_ ?_
  all_goals (as_aux_lemma => kernel_rfl)
theorem said : Rows.VolumeNewSaid :=
  OpenClaim.holds_of_cond 11 Tryz.f11 rfl rfl rfl rfl rfl rfl rfl ⟨rfl, rfl, rfl, rfl, rfl⟩ rfl rfl rfl rfl rfl (by kernel_rfl) Tryz.func11 closed
    (of_decide_eq_true (by kernel_rfl)) (by unfold Func.isWrapper; first | (rw [if_pos (by decide +kernel)]; kernel_rfl) | (rw [if_neg (by decide +kernel)]; exact ⟨rfl, rfl⟩))
    (fun os started H enc _ F => by rw [OpenClaim.pre_eq_preRow]; exact lifted os started H enc F)
theorem plain (f : FuncId) (fn : Func) (hf : Tryz.pinned.checked.prog.funcNamed "stave/stavelaw12.VolumeNew" = some f) (hfn : Tryz.pinned.checked.prog.funcs[f]? = some fn) :
    true = Tryz.pinned.checked.prog.looks [] ∧ ∀ (j : Nat) t, fn.params[j]? = some t → Tryz.pinned.checked.prog.wantsStandIn t = false := by
  obtain rfl : f = 11 := Option.some.inj ((show Tryz.prog.funcNamed "stave/stavelaw12.VolumeNew" = some 11 by kernel_rfl).symm.trans hf) |>.symm
  obtain rfl : fn = Tryz.f11 := (Option.some.inj (Tryz.func11.symm.trans hfn)).symm
  have hall : (Tryz.f11.params.toList.all fun t => !Tryz.prog.wantsStandIn t) = true := by kernel_rfl
  refine ⟨by kernel_rfl, fun j t ht => ?_⟩
  have := List.all_eq_true.1 hall t (by simpa using Array.mem_of_getElem? ht)
  have h2 : Tryz.prog.wantsStandIn t = false := by simpa using this
  exact h2
end Go.Proofs.YtfemgajplohogaaGreatDoor.volumeNew
namespace Go.Proofs.YtfemgajplohogaaGreatDoor
theorem VolumeNew_card : Rows.VolumeNewCardSaid :=
  Claim7.holds_tied_plain_at .later [] _ _ _ _ volumeNew.said (fun _ h => by cases h) (by kernel_rfl) (fun _ h => by cases h) volumeNew_row_tie rfl ⟨rfl, rfl⟩ (by kernel_rfl) rfl volumeNew.plain (by kernel_rfl)
#print axioms VolumeNew_card
end Go.Proofs.YtfemgajplohogaaGreatDoor
