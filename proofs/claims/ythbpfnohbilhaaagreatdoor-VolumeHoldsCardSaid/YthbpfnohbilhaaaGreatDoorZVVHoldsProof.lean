import Derived.Test.YthbpfnohbilhaaaGreatDoorZVVTW
import Derived.Test.YthbpfnohbilhaaaGreatDoorZVMNums
import Derived.Test.YthbpfnohbilhaaaGreatDoorZVOpenV
import Derived.Test.YthbpfnohbilhaaaGreatDoorZVBase
import Derived.Test.YthbpfnohbilhaaaGreatDoorZVLaw
namespace Go.Proofs.YthbpfnohbilhaaaGreatDoor
open Go.RowKit Go.Deep Crc Dk Qk Go.Maps Hf
def FC (cf : Cf) (V : Vl) (Y : Option Rc) (M : Int) (N : Nat) (L : List Nat) (q : Rk) : Prop :=
 L.Nodup ∧ (∀ d ∈ L, d < N) ∧ q.n = N ∧ q.rem = -1 ∧ ∃ P : Nat → Bool, (∀ d ∈ L, P d = true) ∧ Raw cf V Y P q M ∧ L.length ≤ ((List.range N).filter P).length
variable {V : Vl} {Y : Option Rc} {M : Int} {N : Nat} {q : Rk} {P : Nat → Bool}
theorem fc_start {cf : Cf} (hn : q.n = N) (hr : q.rem = -1) (hP : ∀ d, d < N → P d = true) (h : Raw cf V Y P q M) : FC cf V Y M N (List.range N) q :=
 ⟨List.nodup_range, fun d hd => List.mem_range.1 hd, hn, hr, P, fun d hd => hP d (List.mem_range.1 hd), h, by
  rw [List.filter_eq_self.2 fun d hd => hP d (List.mem_range.1 hd)]; exact Nat.le_refl _⟩
theorem fc_step {cf : Cf} : ∀ (L : List Nat) (q q' : Rk) (x : Nat), x < L.length → FC cf V Y M N L q → Wore q (L.getD x 0) q' → FC cf V Y M N (L.eraseIdx x) q' := by
 rintro L q q' x hx ⟨h1, h2, h3, h4, P, h5, h6, h7⟩ hw
 have hm := erase_mem h1 hx
 have hd : L.getD x 0 ∈ L := getD_memN hx
 obtain ⟨a1, a2, _, a4⟩ := h6.wore (h5 _ hd) hw
 refine ⟨h1.sublist (List.eraseIdx_sublist _ _), fun d hd => h2 d ((hm d).1 hd).1, a2.trans h3, a4.trans h4, _, fun d hd => ?_, a1, ?_⟩
 ·obtain ⟨b1, b2⟩ := (hm d).1 hd
  show (P d && decide (d ≠ L.getD x 0)) = true
  rw [h5 d b1, decide_eq_true b2]; rfl
 ·have := pd_count (P := P) (n := N) (h2 _ hd)
  rw [List.length_eraseIdx, if_pos hx]; omega
variable {w : World}
theorem SlI.to {w' : World} {v : Value} {l : List Int} (h : SlI w.heap.size w v l) (hb : Below w.heap.size w w') : SlI w'.heap.size w' v l := by
 rcases h with h | ⟨b, o, cap, e, h1, h2, h3⟩
 ·exact Or.inl h
 ·exact Or.inr ⟨b, o, cap, e, Nat.lt_of_lt_of_le h1 hb.size, fun x hx => (World.cell?_of_block (hb.block _ h1)).trans (h2 x hx), h3⟩
def VOa (w1 : World) (c : Lc) (cf : Cf) (n : Nat) (V : Vl) (w : World) (e : Ending) (w' : World) : Prop :=
 RC c n w w' ∧ ((∃ (q' : Rk) (b : Nat) (g : Int), e = .returned (.tuple #[.pointer (some ⟨b, 0, none⟩), .nilIface]) ∧ VW w1 c cf n q' g false b w' ∧ Inv cf V none noP q' ∧ On q' cf ∧ ∀ t : Nat, (t : Int) < cf.t → tcode q' cf t = 0) ∨
  (∃ (v : Value) (k : Int), (k = 6 ∨ k = 7) ∧ KV k v ∧ e = .returned (.tuple #[.pointer none, v]) ∧ Below w1.heap.size w1 w'))
variable {w1 : World} {c : Lc} {n : Nat}
theorem qs_opensany {cf : Cf} {Q : Nat → Bool} (h : QS w1 c q w) (hn : q.n = n) (hi : Inv cf V none P q) (hs : Sup cf Q q) (ho : On q cf) (hrem : q.rem = -1) (hc : Closed V (InR cf V)) : Calls Tryz.prog 38 #[.pointer (some ⟨c.r, 0, none⟩)] w (VOa w1 c cf n V w) := by
 refine (vopen_any w h.rack).mono ?_
 rintro e w' ⟨q', e', g, hop, hr, hcc, hout⟩
 have hcc0 := hcc
 rw [hn] at hcc
 refine ⟨hcc, ?_⟩
 rcases hout with ⟨h0, b, rfl, hb, hv⟩ | ⟨h0, v, hkv, rfl⟩
 ·rcases any_opens hi hs ho hrem hc hop with h6 | ⟨_, hn1, _, a3, a4, a5⟩
  ·omega
  ·have hf : fndC q = cf := by
    rcases hs.foundAny ho with ⟨_, f2⟩ | f1
    ·exact f2
    ·unfold OpensTo at hop
     rw [if_neg (by rw [ho.off]; decide), if_pos f1] at hop; omega
   rw [hf] at hv; exact Or.inl ⟨q', b, g, rfl, ⟨h.next hr hcc0, hn1.trans hn, hv, by rw [← hn]; exact h.rack.farV hb, Nat.le_trans h.base.size hb⟩, a3, a4, a5⟩
 ·rcases any_opens hi hs ho hrem hc hop with h6 | ⟨h6, _⟩
  ·exact Or.inr ⟨v, e', h6, hkv, rfl, hcc0.below h.rack h.base h.base.size⟩
  ·exact absurd h6 h0
def VCd (w1 : World) (c : Lc) (cf : Cf) (n : Nat) (V : Vl) (P : Nat → Bool) (g : Int) (s : Nat) (bs : List (List UInt8)) (w : World) (e : Ending) (w' : World) : Prop :=
 ∃ (v : Value) (k : Int) (q' : Rk) (V' : Vl) (Y' : Option Rc), e = .returned v ∧ KV k v ∧ w.heap.size ≤ w'.heap.size ∧ Below w1.heap.size w1 w' ∧ QS w1 c q' w' ∧ q'.n = n ∧ Down cf V' Y' P q' (g + 1) ∧ ((k = 0 ∧ V' = addY cf V (cRec g s bs) ∧ Y' = none) ∨ (k ≠ 0 ∧ V' = V ∧ Y' = some (cRec g s bs)))
theorem VW.commitd {cf : Cf} {g : Int} {b : Nat} (h : VW w1 c cf n q g false b w) (hL : Live cf V P q g) (hP : Enough cf P q.n) (hg : g < 1152921504606846976) {s : Nat} (hs : (s : Int) < cf.t) {bs : List (List UInt8)} (hl : bs.length = cf.k.toNat) {v0 : Value} {B : Nat} (hb : BkB B bs v0 w) (hf : Far B c n) :
  Calls Tryz.prog 33 #[.pointer (some ⟨b, 0, none⟩), .int .i64 s, v0] w (VCd w1 c cf n V P g s bs w) := by
 refine (h.commits hL hP hg hs hl hb hf).mono ?_
 rintro e w' ⟨v, q', rfl, hc, hn, _, ⟨rfl, _, hv, hl'⟩ | ⟨hkv, _, hv, _, hd⟩⟩
 ·exact ⟨_, 0, q', _, none, rfl, KV.zero, hc.size, hv.qs.base, hv.qs, hv.nn, hl'.down, Or.inl ⟨rfl, rfl, rfl⟩⟩
 ·exact ⟨v, 5, q', _, _, rfl, hkv, hc.size, hv.qs.base, hv.qs, hv.nn, hd, Or.inr ⟨by decide, rfl, rfl⟩⟩
set_option maxHeartbeats 8000000 in
set_option maxRecDepth 100000 in
theorem vholds_any (w : World) (k_ n_ a_ b_ f_ : Int) (vb : Value) (lb : List Nat) (hvb : SlU w.heap.size w vb lb) (hlb : ∀ x, x < lb.length → lb.getD x 0 < 18446744073709551616) (vo vh : Value) (lo lh : List Int) (hvo : SlI w.heap.size w vo lo) (hvh : SlI w.heap.size w vh lh) (m_ : Int) (hT : Typ w) : Calls Tryz.prog 15 #[.int .i64 k_, .int .i64 n_, .int .i64 a_, .int .i64 b_, .int .i64 f_, vb, vo, vh, .int .i64 m_] w (Bit true w) := by
 have HT := hI hT
 have HVB := hI hvb
 have HLB := hI hlb
 have HVO := hI hvo
 have HVH := hI hvh
 obtain ⟨ab, cb, rfl⟩ := hvb.len
 obtain ⟨ao, co, rfl⟩ := hvo.len
 obtain ⟨ah, ch, rfl⟩ := hvh.len
 clear hT hvb hlb hvo hvh
 go_enter Tryz.func15, Tryz.ntmps15
 go_wp2_with fail
 refine (fixed_any k_ n_ 1 2 _ (by omega) (by omega)).mono ?_
 rintro e w1 ⟨cf, hcf, rfl, hb1⟩
 have H2 := hI (show JfS cf w1.heap.size w (w1.alloc (.cells (cfA cf) 23)) from ⟨cfB_new w1 cf, by simp, balloc hb1 _⟩)
 have HCF := hI hcf
 have COP := hI (fun w' => opened_any w' cf hcf.1)
 obtain ⟨d0, d1, d2, d3, d4⟩ := CfB.cells H2.out.1
 clear hb1 hcf
 go_wp2_with fail
 generalize w1.alloc (.cells (cfA cf) 23) = w2 at *
 generalize w1.heap.size = bc at *
 refine (COP.out _).mono ?_
 rintro e w3 ⟨c, b, q0, w4, rfl, hvw, hb4, hlive, hrem, halive, hkk, hnn⟩
 have HJ3 := hI hvw
 have HL3 := hI hlive
 have HR3 := hI hrem
 have HALV := hI halive
 have HKQ := hI hkk
 have HNQ := hI hnn
 have HB4 := hI hb4
 have HBW := hI (fun (w' : World) (h : Below w4.heap.size w4 w') => show Below w.heap.size w w' from bthen H2.out.2.2 (bthen hb4 h))
 have HTY := hI (fun (w' : World) (h : Below w4.heap.size w4 w') => show Typ w' from HT.out.below (HBW.out w' h))
 have HCC := hI (fun (w' : World) (h : Below w4.heap.size w4 w') => show CfB cf bc w' from CfB.below H2.out.1 H2.out.2.1 (bthen hb4 h))
 have HRT := hI (show CfRight cf from hlive.on.right)
 have HENO := hI (show Enough cf (allP q0) q0.n from allP_enough hlive.on.fits)
 obtain ⟨N, hN⟩ : ∃ N, q0.n = N := ⟨_, rfl⟩
 rw [hN] at HJ3
 have HN := hI hN
 obtain ⟨K, hK⟩ : ∃ K : Nat, cf.k = K := ⟨cf.k.toNat, by have := hlive.on.right.2.2.1; omega⟩
 have HK := hI hK
 have HK8 := hI (show K ≤ 8 by have := hlive.on.right.2.2.2.1; have := hlive.on.right.2.2.2.2.1; omega)
 have HFAR := hI (show Far w3.heap.size c N from by have := hvw.qs.rack.far; rwa [hN] at this)
 have HCELL := hI (fun (w' : World) (h : Below w4.heap.size w4 w') => show w'.cell? ⟨bc, 0, none⟩ = some (.int .i64 cf.id) ∧ w'.cell? ⟨bc, 1, none⟩ = some (.int .i64 K) ∧ w'.cell? ⟨bc, 2, none⟩ = some (.int .i64 cf.n) ∧ w'.cell? ⟨bc, 3, none⟩ = some (.int .i64 cf.t) ∧ w'.cell? ⟨bc, 4, none⟩ = some (.int .i64 cf.s) by
  have := CfB.cells (HCC.out w' h); rwa [hK] at this)
 clear hvw hb4 hlive hrem halive hkk hnn hN hK d0 d1 d2 d3 d4
 have HNC := hI (show cf.n = (N : Int) by have := HNQ.out; rw [HN.out] at this; exact this.symm)
 have HKN := hI (show 1 ≤ K ∧ K ≤ N ∧ N ≤ 8 by have h1 := HRT.out.2.2.1; have h2 := HRT.out.2.2.2.1; have h3 := HRT.out.2.2.2.2.1; have := HK.out; have := HNC.out; omega)
 have HN8 := hI (show N ≤ 8 from HKN.out.2.2)
 have HTT := hI (show ((0 : Nat) : Int) < cf.t by rw [HCF.out.2.1]; decide)
 have CBK := hI (fun (z : Int) w3 => blocks_some K z w3 HK8.out)
 have HVO4 := hI (show SlI w4.heap.size w4 (.slice ao lo.length co) lo from HVO.out.to (HBW.out _ (Below.refl _ _)))
 have HVH4 := hI (show SlI w4.heap.size w4 (.slice ah lh.length ch) lh from HVH.out.to (HBW.out _ (Below.refl _ _)))
 obtain ⟨d0, d1, d2, d3, d4⟩ := HCELL.out _ HJ3.out.qs.base
 go_wp2_with fail
 refine (CBK.out a_ _).mono ?_
 rintro e w5 ⟨A1, a5, c5, rfl, hlA, hA5, hb5⟩
 have HJ5 := hI (HJ3.out.below hb5)
 have HS5 := hI hb5.size
 have CC := hI (show Calls Tryz.prog 33 #[.pointer (some ⟨b, 0, none⟩), .int .i64 0, _] w5 _ from HJ5.out.commits HL3.out HENO.out (by decide) (s := 0) HTT.out (by rw [hlA, HK.out]; rfl) hA5 HFAR.out)
 clear hA5 hb5 d0 d1 d2 d3 d4 hlA
 go_wp2_with fail
 refine CC.out.mono ?_
 rintro e w6 ⟨v6, q6, rfl, hrc6, hn6, _, ⟨rfl, hf6, hvw6, hl6⟩ | ⟨_, hne, _⟩⟩
 rotate_left
 ·exact absurd HR3.out hne
 have HJ6 := hI hvw6
 have hjn : Jn cf (addY cf (V0 cf) (cRec 1 (0 : Nat) A1)) (1 + 1) := (jn_new cf).add HL3.out.inv.v HL3.out.le HRT.out rfl (Int.le_refl 0)
 obtain ⟨V1, hV1⟩ : ∃ V1, V1 = addY cf (V0 cf) (cRec 1 (0 : Nat) A1) := ⟨_, rfl⟩
 rw [← hV1] at hl6 hjn
 have HL6 := hI (show Live cf V1 (allP q0) q6 2 from hl6)
 have HJN := hI (show Jn cf V1 2 from hjn)
 have HE6 := hI (show Enough cf (allP q0) q6.n by rw [hn6]; exact HENO.out)
 have HN6 := hI (show q6.n = N from hvw6.nn)
 have HS6 := hI (Nat.le_trans HS5.out hrc6.size)
 clear hrc6 hn6 hf6 hvw6 hl6 hjn hV1
 go_wp2_with fail
 refine (within_int f_ 0 45 w6 (by omega) (by omega) (by omega)).mono ?_
 rintro e w0 ⟨fI, hfI, rfl, hw0⟩
 subst hw0
 have HLA := hI (HL6.out.arm (f := fI) (by omega) (by omega))
 have CARM := hI (HJ6.out.arm fI (by omega) (by omega))
 have HEA := hI (show Enough cf (allP q0) (q6.arm fI).n from HE6.out)
 generalize q6.arm fI = qA at *
 clear hfI
 go_wp2_with fail
 refine CARM.out.mono ?_
 rintro e w7 ⟨rfl, hvw7, hrc7⟩
 have HJ7 := hI (show VW w4 c cf N qA 2 false b w7 from hvw7)
 have HS7 := hI (Nat.le_trans HS6.out hrc7.size)
 obtain ⟨d0, d1, d2, d3, d4⟩ := HCELL.out _ hvw7.qs.base
 clear hvw7 hrc7
 go_wp2_with fail
 refine (CBK.out b_ _).mono ?_
 rintro e w8 ⟨A2, a8, c8, rfl, hlA, hA8, hb8⟩
 have HJ8 := hI (HJ7.out.below hb8)
 have HS8 := hI (Nat.le_trans HS7.out hb8.size)
 have CC2 := hI (show Calls Tryz.prog 33 #[.pointer (some ⟨b, 0, none⟩), .int .i64 0, _] w8 _ from HJ8.out.commitd HLA.out HEA.out (by decide) (s := 0) HTT.out (by rw [hlA, HK.out]; rfl) hA8 (HFAR.out.mono HS7.out))
 clear hA8 hb8 d0 d1 d2 d3 d4 hlA
 go_wp2_with fail
 refine CC2.out.mono ?_
 rintro e w9 ⟨v9, k9, q9, V9, Y9, rfl, _, hsz9, hbw9, hqs9, hn9, hd9, hc9⟩
 have HQ9 := hI hqs9
 have HN9 := hI hn9
 have HD9 := hI (show Down cf V9 Y9 (allP q0) q9 3 from hd9)
 have HC9 := hI hc9
 have HS9 := hI (Nat.le_trans HS8.out hsz9)
 have CBO := hI (hqs9.boot (.slice ab lb.length cb) lb ((HVB.out.below (HBW.out _ hbw9)).wider (HBW.out _ hbw9).size) HLB.out)
 have HBT := hI (hd9.boot fun i => lb.getD i 0)
 clear hsz9 hbw9 hqs9 hn9 hd9 hc9
 go_wp2_with fail
 refine CBO.out.mono ?_
 rintro e w10 ⟨rfl, hqs10, hrc10⟩
 have HS10 := hI (Nat.le_trans HS9.out hrc10.size)
 have HNB := hI (show (q9.boot fun i => lb.getD i 0).n = N from HBT.out.2.2.1.trans HN9.out)
 have HEB := hI (show Enough cf (allP q0) (q9.boot fun i => lb.getD i 0).n by rw [HNB.out, ← HN.out]; exact HENO.out)
 have CO := hI (qs_opens hqs10 HNB.out HBT.out.1 HEB.out)
 have HRB := hI HBT.out.2.1
 clear hqs10 hrc10
 generalize (q9.boot fun i => lb.getD i 0) = q10 at *
 go_wp2_with fail
 refine CO.out.mono ?_
 rintro e w11 ⟨q11, hrc11, _, hn11, _, ⟨b11, g11, V, rfl, hvw11, _, hf11, hl11, hev11, _⟩ | ⟨v11, _, _, hne, _⟩⟩
 rotate_left
 ·exact absurd HRB.out hne
 have HJ11 := hI hvw11
 have HL11 := hI hl11
 have HR11 := hI (hf11 HRB.out)
 have HN11 := hI (show q11.n = N from hn11.trans HNB.out)
 have HE11 := hI (show Enough cf (allP q0) q11.n by rw [hn11]; exact HEB.out)
 have HS11 := hI (Nat.le_trans HS10.out hrc11.size)
 have HCL := hI (show Closed V (InR cf V) from by
  rcases HC9.out with ⟨_, rfl, rfl⟩ | ⟨_, rfl, rfl⟩
  ·obtain rfl := evo_none hev11
   exact ((show Jn cf _ (2 + 1) from HJN.out.add HL6.out.inv.v HL6.out.le HRT.out rfl (Int.le_refl 0))).closed HL11.out.inv.v HD9.out.le HRT.out
  ·exact HJN.out.evo HL6.out.inv.v HL6.out.le HRT.out HL11.out.inv.v (fun y hy => by injection hy with hy; subst hy; exact ⟨rfl, Int.le_refl 0⟩) (by decide) hev11)
 have CR := hI (show Calls Tryz.prog 39 #[.pointer (some ⟨b11, 0, none⟩), .int .i64 0] w11 (GotB (V.G 0) (V.B 0) w11) from HJ11.out.reads HL11.out.inv HL11.out.on (t := 0) HTT.out (HL11.out.read HE11.out (t := 0) HTT.out).1)
 obtain ⟨hA1, hA2⟩ := HL11.out.is (t := 0) HTT.out
 have HIA := hI hA1
 have hlB : (V.B 0).length = K := by rw [hA2, HK.out]; rfl
 have hlK := HK8.out
 clear hrc11 hn11 hf11 hvw11 hl11 hev11 hA1 hA2
 go_wp2_with fail
 refine CR.out.mono ?_
 rintro e w12 ⟨vx, rfl, hx12, hb12⟩
 have HJ12 := hI (HJ11.out.below hb12)
 have HX12 := hI (show BkB w3.heap.size (V.B 0) vx w12 from ⟨HIA.out, own_base hx12 HS11.out⟩)
 have HS12 := hI (Nat.le_trans HS11.out hb12.size)
 obtain ⟨ax, cx, rfl, -⟩ := own_slice' hx12
 rw [hlB] at HX12
 rw [hlB]
 clear hx12 hb12
 have HTA := hI (fun (T : Nat) (hT : T ≤ N) => taint_any (FC cf V none g11 N) fc_step w12 HJ12.out.qs HJ12.out.nn rfl HN8.out (by have := HJ12.out.qs.rack.ok.k0; have := HJ12.out.qs.rack.ok.k8; omega) (fc_start HJ12.out.nn HR11.out (fun d hd => decide_eq_true (by rw [HN.out]; exact hd)) HL11.out.raw) T hT (.slice ao lo.length co) (.slice ah lh.length ch) lo lh HVO4.out HVH4.out)
 obtain ⟨d0, d1, d2, d3, d4⟩ := HCELL.out _ HJ12.out.qs.base
 rw [HNC.out] at d2
 have hN8 := HN8.out
 have CW := hI (within_int m_ 0 (N : Int) w12 (by omega) (by omega) (by omega))
 generalize hgx : V.G 0 = gx at *
 have HGX := hI hgx
 clear hgx
 go_wp2_with fail
 clear d0 d1 d2 d3 d4
 refine CW.out.mono ?_
 rintro e w0' ⟨fI, hfI, rfl, hw0⟩
 subst hw0
 obtain ⟨D, rfl⟩ := Int.eq_ofNat_of_zero_le hfI.1
 have CT := hI (HTA.out D (by omega))
 clear hfI
 go_wp2_with fail
 refine CT.out.mono ?_
 rintro e wt ⟨L, qT, rfl, _, hFC, hTS⟩
 obtain ⟨_, _, _, hremT, P, _, hraw, _⟩ := hFC
 have HXT := hI (HX12.out.rc HFAR.out hTS.rc)
 have HST := hI (Nat.le_trans HS12.out hTS.rc.size)
 have CO2 := hI (qs_opensany hTS.qs hTS.nn hraw.tnt.inv hraw.tnt.sup hraw.tnt.on hremT HCL.out)
 clear hTS hremT hraw
 go_wp2_with fail
 refine CO2.out.mono ?_
 rintro e wO ⟨hrcO, ⟨qO, bO, gO, rfl, hvO, hiO, hoO, htO⟩ | ⟨vO, k, hk, hkv, rfl, hbO⟩⟩
 ·have HVO2 := hI hvO
  have HXO := hI (HXT.out.rc HFAR.out hrcO); have HSO := hI (Nat.le_trans HST.out hrcO.size); have CR2 := hI (show Calls Tryz.prog 39 #[.pointer (some ⟨bO, 0, none⟩), .int .i64 0] wO (GotB (V.G 0) (V.B 0) wO) from hvO.reads hiO hoO (t := 0) HTT.out (htO 0 HTT.out)); rw [HGX.out] at CR2; clear hrcO hvO hiO hoO htO; go_wp2_with fail; refine CR2.out.mono ?_; rintro e wr ⟨vy, rfl, hy, hbr⟩; have HVr := hI (HVO2.out.below hbr); have CS := hI (same_blocks _ _ _ _ wr (slK_own hy HIA.out rfl) (HXO.out.below hbr).slk (by rw [hlB]; exact hlK)); rw [show decide (V.B 0 = V.B 0) = true from decide_eq_true rfl] at CS; obtain ⟨ay, cy, rfl, -⟩ := own_slice' hy; rw [hlB] at CS; rw [hlB]; clear hy hbr; go_wp2_with fail; refine CS.out.mono ?_; rintro e wg ⟨rfl, hbg⟩; have HVg := hI (HVr.out.below hbg); have CRU := hI (runs_any _ (HTY.out _ HVg.out.qs.base)); clear hbg; go_wp2_with fail; refine CRU.out.mono ?_; rintro e wz ⟨rfl, hbz⟩; have HVz := hI (HVg.out.below hbz); clear hbz; go_wp2_with fail; go_ret; exact bit rfl (HBW.out _ HVz.out.qs.base)
 ·have CKD := hI (kind_kv hkv wO (HTY.out _ hbO))
  have HBO := hI hbO; clear hrcO hkv hbO
  rcases hk with rfl | rfl
  all_goals
   go_wp2_with fail; refine CKD.out.mono ?_; rintro e wk ⟨rfl, hbk⟩; have HBk := hI (bthen HBO.out hbk); have CRU := hI (runs_any _ (HTY.out _ HBk.out)); clear hbk; go_wp2_with fail; refine CRU.out.mono ?_; rintro e wz ⟨rfl, hbz⟩; have HBz := hI (HBW.out _ (bthen HBk.out hbz)); clear hbz; go_wp2_with fail; go_ret; exact bit rfl HBz.out
end Go.Proofs.YthbpfnohbilhaaaGreatDoor
namespace Go.Proofs.YthbpfnohbilhaaaGreatDoor.volumeHolds
open Go.ChangeShapes Go.WideShapes Go.ChangeAt Go.RowKit
set_option maxRecDepth 100000 in
theorem contract (H : Type) (enc : TypeId × Value → H) (W : World) (base : Nat) (args : Array Value) (ds gs : List (DataW H)) (before : List MemPlace)
  (hval : ∀ (j : Nat) t v, Tryz.f15.params[j]? = some t → args[j]? = some v → Value.okWide Tryz.prog W .any base t v)
  (hW : DataW.Whole enc Tryz.prog Tryz.f15.params.toList Rows.volumeHoldsSpec.vars false W args.toList ds gs before) (hL : laidMetH Tryz.prog Rows.volumeHoldsRow.laid W) :
  Calls Tryz.prog 15 args W fun e W' => ∃ v, e = .returned v ∧ Rows.volumeHoldsSpec.post enc Tryz.prog Tryz.f15 false true false false W args v W' := by
 have hW' := hW
 obtain ⟨p, q, hA0, hV, rfl, hfz, hnd⟩ := hW
 have hA : DataW.TrodAll enc Tryz.prog W 0 (fun _ => true) true Tryz.f15.params.toList args.toList ds p := hA0
 rw [Tryz.params15] at hA hval
 obtain ⟨v0, vs0, d0, ds0, p0, q0, hargs, rfl, rfl, h0, r0⟩ := trodAll_cons hA
 obtain ⟨v1, vs1, d1, ds1, p1, q1, rfl, rfl, rfl, h1, r1⟩ := trodAll_cons r0
 obtain ⟨v2, vs2, d2, ds2, p2, q2, rfl, rfl, rfl, h2, r2⟩ := trodAll_cons r1
 obtain ⟨v3, vs3, d3, ds3, p3, q3, rfl, rfl, rfl, h3, r3⟩ := trodAll_cons r2
 obtain ⟨v4, vs4, d4, ds4, p4, q4, rfl, rfl, rfl, h4, r4⟩ := trodAll_cons r3
 obtain ⟨v5, vs5, d5, ds5, p5, q5, rfl, rfl, rfl, h5, r5⟩ := trodAll_cons r4
 obtain ⟨v6, vs6, d6, ds6, p6, q6, rfl, rfl, rfl, h6, r6⟩ := trodAll_cons r5
 obtain ⟨v7, vs7, d7, ds7, p7, q7, rfl, rfl, rfl, h7, r7⟩ := trodAll_cons r6
 obtain ⟨v8, vs8, d8, ds8, p8, q8, rfl, rfl, rfl, h8, r8⟩ := trodAll_cons r7
 obtain ⟨rfl, rfl, rfl⟩ := trodAll_nil r8
 obtain rfl : args = #[v0, v1, v2, v3, v4, v5, v6, v7, v8] := Array.ext' hargs
 obtain ⟨k_, rfl, rfl, rfl, _⟩ := open_int Tryz.underlying3 (hval 0 3 v0 (by simp) (by simp)) h0
 obtain ⟨n_, rfl, rfl, rfl, _⟩ := open_int Tryz.underlying3 (hval 1 3 v1 (by simp) (by simp)) h1
 obtain ⟨a_, rfl, rfl, rfl, _⟩ := open_int Tryz.underlying3 (hval 2 3 v2 (by simp) (by simp)) h2
 obtain ⟨b_, rfl, rfl, rfl, _⟩ := open_int Tryz.underlying3 (hval 3 3 v3 (by simp) (by simp)) h3
 obtain ⟨f_, rfl, rfl, rfl, _⟩ := open_int Tryz.underlying3 (hval 4 3 v4 (by simp) (by simp)) h4
 have hv5 := (hval 5 54 v5 (by simp) (by simp))
 have hv6 := (hval 6 53 v6 (by simp) (by simp))
 have hv7 := (hval 7 53 v7 (by simp) (by simp))
 obtain ⟨m_, rfl, rfl, rfl, _⟩ := open_int Tryz.underlying3 (hval 8 3 v8 (by simp) (by simp)) h8
 obtain ⟨lb, hslb, hllb⟩ := open_u64s hv5 h5
 obtain ⟨lo, hslo, hllo⟩ := open_nums hv6 h6
 obtain ⟨lh, hslh, hllh⟩ := open_nums hv7 h7
 obtain ⟨rfl, rfl⟩ := trodVars_none hV
 clear hA0
 have hw : Calls Tryz.prog 15 #[.int .i64 k_, .int .i64 n_, .int .i64 a_, .int .i64 b_, .int .i64 f_, v5, v6, v7, .int .i64 m_] W (Bit true W) := vholds_any W k_ n_ a_ b_ f_ v5 lb hslb hllb v6 v7 lo lh hslo hslh m_ (handle_of_laid hL)
 refine hw.mono fun e W' ⟨he, hg⟩ => ?_
 subst he
 exact ⟨_, rfl, law_post Tryz.laidOut (by kernel_rfl) (by kernel_rfl) (by kernel_rfl) Tryz.underlying4 hW' hg rfl rfl rfl⟩
theorem reads (os : Os) {H : Type} (enc : TypeId × Value → H) : ∃ places, DataW.whole enc Tryz.prog ((laidWorld os).forCall (fun _ _ => 0) ⟨#[], #[.int .i64 0, .int .i64 0, .int .i64 0, .int .i64 0, .int .i64 0, .slice none 0 0, .slice none 0 0, .slice none 0 0, .int .i64 0], []⟩).memory Tryz.f15.params.toList Rows.volumeHoldsSpec.vars false (#[.int .i64 0, .int .i64 0, .int .i64 0, .int .i64 0, .int .i64 0, .slice none 0 0, .slice none 0 0, .slice none 0 0, .int .i64 0] : Array Value).toList 8 = some ([.lit (.int .i64 0), .lit (.int .i64 0), .lit (.int .i64 0), .lit (.int .i64 0), .lit (.int .i64 0), .nil, .nil, .nil, .lit (.int .i64 0)], [], places) :=
 ⟨[], by kernel_rfl⟩
set_option maxRecDepth 100000 in
theorem lifted (os : Os) (started : os.Started) (H : Type) (enc : TypeId × Value → H) (F : Stop.Interp) :
  ReturnsInHanded {} Tryz.checked os 15 .any ((OpenSpec.ofChange Rows.volumeHoldsSpec).preRow enc Tryz.prog Tryz.f15 Rows.volumeHoldsRow.domain false Rows.volumeHoldsRow.laid) (((OpenSpec.ofChange Rows.volumeHoldsSpec).at F).post enc Tryz.prog Tryz.f15 false true false false) := by
 obtain ⟨places, hx⟩ := reads os enc
 refine returnsInHanded_of_row (C := Tryz.checked) (s := OpenSpec.ofChange Rows.volumeHoldsSpec) Tryz.own started (by kernel_rfl) Tryz.func15
  (witness_row_at (enc := enc) (C := Tryz.checked) false (laidWorld os) #[.int .i64 0, .int .i64 0, .int .i64 0, .int .i64 0, .int .i64 0, .slice none 0 0, .slice none 0 0, .slice none 0 0, .int .i64 0] rfl (by kernel_rfl) (by kernel_rfl) (by kernel_rfl)
   (OpenSpec.preRow_of_cond 8 hx (by kernel_rfl) (fun k hk => by cases hk) (by kernel_rfl) (laidWorld_met os _))) ?_
 intro W base args ds gs before hval hW _ _ _ hL _ _
 exact contract H enc W base args ds gs before hval hW hL
set_option maxHeartbeats 40000000 in
theorem closed : joinedFacts Tryz.prog 15 Tryz.f15 (OpenSpec.ofChange Rows.volumeHoldsSpec).bare Rows.volumeHoldsRow = true := by
 unfold joinedFacts
 simp only [Bool.and_eq_true]
 repeat' refine And.intro ?_ ?_
 all_goals (as_aux_lemma => kernel_rfl)
theorem said : Rows.VolumeHoldsSaid :=
 OpenClaim.holds_of_cond 15 Tryz.f15 rfl rfl rfl rfl rfl rfl rfl ⟨rfl, rfl, rfl, rfl, rfl⟩ rfl rfl rfl rfl rfl (by kernel_rfl) Tryz.func15 closed
  (of_decide_eq_true (by kernel_rfl)) (by unfold Func.isWrapper; first | (rw [if_pos (by decide +kernel)]; kernel_rfl) | (rw [if_neg (by decide +kernel)]; exact ⟨rfl, rfl⟩))
  (fun os started H enc _ F => by rw [OpenClaim.pre_eq_preRow]; exact lifted os started H enc F)
theorem plain (f : FuncId) (fn : Func) (hf : Tryz.pinned.checked.prog.funcNamed "stave/stavelaw12.VolumeHolds" = some f) (hfn : Tryz.pinned.checked.prog.funcs[f]? = some fn) :
  true = Tryz.pinned.checked.prog.looks [] ∧ ∀ (j : Nat) t, fn.params[j]? = some t → Tryz.pinned.checked.prog.wantsStandIn t = false := by
 obtain rfl : f = 15 := Option.some.inj ((show Tryz.prog.funcNamed "stave/stavelaw12.VolumeHolds" = some 15 by kernel_rfl).symm.trans hf) |>.symm
 obtain rfl : fn = Tryz.f15 := (Option.some.inj (Tryz.func15.symm.trans hfn)).symm
 have hall : (Tryz.f15.params.toList.all fun t => !Tryz.prog.wantsStandIn t) = true := by kernel_rfl
 refine ⟨by kernel_rfl, fun j t ht => ?_⟩
 have := List.all_eq_true.1 hall t (by simpa using Array.mem_of_getElem? ht)
 have h2 : Tryz.prog.wantsStandIn t = false := by simpa using this
 exact h2
end Go.Proofs.YthbpfnohbilhaaaGreatDoor.volumeHolds
namespace Go.Proofs.YthbpfnohbilhaaaGreatDoor
theorem VolumeHolds_card : Rows.VolumeHoldsCardSaid :=
 Claim7.holds_tied_plain_at .later [] _ _ _ _ volumeHolds.said (fun _ h => by cases h) (by kernel_rfl) (fun _ h => by cases h) volumeHolds_row_tie rfl ⟨rfl, rfl⟩ (by kernel_rfl) rfl volumeHolds.plain (by kernel_rfl)
#print axioms VolumeHolds_card
end Go.Proofs.YthbpfnohbilhaaaGreatDoor
