import Derived.Test.YthbpfnohbilhaaaGreatDoorZVVTW
import Derived.Test.YthbpfnohbilhaaaGreatDoorZVMNums
import Derived.Test.YthbpfnohbilhaaaGreatDoorZVOpenV
import Derived.Deep.RegionHeld3
import Derived.Test.YthbpfnohbilhaaaGreatDoorZVBase
import Derived.Test.YthbpfnohbilhaaaGreatDoorZVLaw
namespace Go.Proofs.YthbpfnohbilhaaaGreatDoor
open Go.RowKit Go.Deep Crc Dk Qk Go.Maps Hf
def FC (cf : Cf) (V : Vl) (Y : Option Rc) (M : Int) (N : Nat) (L : List Nat) (q : Rk) : Prop :=
 L.Nodup ∧ (∀ d ∈ L, d < N) ∧ q.n = N ∧ q.rem = -1 ∧ ∃ P : Nat → Bool, (∀ d ∈ L, P d = true) ∧ Raw cf V Y P q M ∧ L.length ≤ ((List.range N).filter P).length
variable {V : Vl} {Y : Option Rc} {M : Int} {N : Nat} {q : Rk} {P : Nat → Bool}
theorem fc_start {cf : Cf} (hn : q.n = N) (hr : q.rem = -1) (hP : ∀ d, d < N → P d = true) (h : Raw cf V Y P q M) : FC cf V Y M N (List.range N) q :=
 ⟨List.nodup_range, fun d hd => List.mem_range.1 hd, hn, hr, P, fun d hd => hP d (List.mem_range.1 hd), h, by
  rw [List.filter_eq_self.2 fun d hd => hP d (List.mem_range.1 hd)]; exact Nat.le_refl _⟩
theorem fc_step {cf : Cf} : ∀ (L : List Nat) (q q' : Rk) (x : Nat), x < L.length → FC cf V Y M N L q → Wore q (L.getD x 0) q' → FC cf V Y M N (L.eraseIdx x) q' := by
 rintro L q q' x hx ⟨h1, h2, h3, h4, P, h5, h6, h7⟩ hw
 have hm := erase_mem h1 hx
 have hd : L.getD x 0 ∈ L := getD_memN hx
 obtain ⟨a1, a2, _, a4⟩ := h6.wore (h5 _ hd) hw
 refine ⟨h1.sublist (List.eraseIdx_sublist _ _), fun d hd => h2 d ((hm d).1 hd).1, a2.trans h3, a4.trans h4, _, fun d hd => ?_, a1, ?_⟩
 ·obtain ⟨b1, b2⟩ := (hm d).1 hd
  show (P d && decide (d ≠ L.getD x 0)) = true
  rw [h5 d b1, decide_eq_true b2]; rfl
 ·have := pd_count (P := P) (n := N) (h2 _ hd)
  rw [List.length_eraseIdx, if_pos hx]; omega
variable {w : World}
theorem SlI.to {w' : World} {v : Value} {l : List Int} (h : SlI w.heap.size w v l) (hb : Below w.heap.size w w') : SlI w'.heap.size w' v l := by
 rcases h with h | ⟨b, o, cap, e, h1, h2, h3⟩
 ·exact Or.inl h
 ·exact Or.inr ⟨b, o, cap, e, Nat.lt_of_lt_of_le h1 hb.size, fun x hx => (World.cell?_of_block (hb.block _ h1)).trans (h2 x hx), h3⟩
def VOa (w1 : World) (c : Lc) (cf : Cf) (n : Nat) (V : Vl) (w : World) (e : Ending) (w' : World) : Prop :=
 RC c n w w' ∧ ((∃ (q' : Rk) (b : Nat) (g : Int), e = .returned (.tuple #[.pointer (some ⟨b, 0, none⟩), .nilIface]) ∧ VW w1 c cf n q' g false b w' ∧ Inv cf V none noP q' ∧ On q' cf ∧ ∀ t : Nat, (t : Int) < cf.t → tcode q' cf t = 0) ∨
  (∃ (v : Value) (k : Int), (k = 6 ∨ k = 7) ∧ KV k v ∧ e = .returned (.tuple #[.pointer none, v]) ∧ Below w1.heap.size w1 w'))
variable {w1 : World} {c : Lc} {n : Nat}
theorem qs_opensany {cf : Cf} {Q : Nat → Bool} (h : QS w1 c q w) (hn : q.n = n) (hi : Inv cf V none P q) (hs : Sup cf Q q) (ho : On q cf) (hrem : q.rem = -1) (hc : Closed V (InR cf V)) : Calls Tryz.prog 38 #[.pointer (some ⟨c.r, 0, none⟩)] w (VOa w1 c cf n V w) := by
 refine (vopen_any w h.rack).mono ?_
 rintro e w' ⟨q', e', g, hop, hr, hcc, hout⟩
 have hcc0 := hcc
 rw [hn] at hcc
 refine ⟨hcc, ?_⟩
 rcases hout with ⟨h0, b, rfl, hb, hv⟩ | ⟨h0, v, hkv, rfl⟩
 ·rcases any_opens hi hs ho hrem hc hop with h6 | ⟨_, hn1, _, a3, a4, a5⟩
  ·omega
  ·have hf : fndC q = cf := by
    rcases hs.foundAny ho with ⟨_, f2⟩ | f1
    ·exact f2
    ·unfold OpensTo at hop
     rw [if_neg (by rw [ho.off]; decide), if_pos f1] at hop; omega
   rw [hf] at hv; exact Or.inl ⟨q', b, g, rfl, ⟨h.next hr hcc0, hn1.trans hn, hv, by rw [← hn]; exact h.rack.farV hb, Nat.le_trans h.base.size hb⟩, a3, a4, a5⟩
 ·rcases any_opens hi hs ho hrem hc hop with h6 | ⟨h6, _⟩
  ·exact Or.inr ⟨v, e', h6, hkv, rfl, hcc0.below h.rack h.base h.base.size⟩
  ·exact absurd h6 h0
theorem WasF.cell_put {B g T i : Nat} {f : Nat → List (List UInt8)} (h : WasF B g T f w) (hi : i < T) {u : Value} {bs : List (List UInt8)} (hu : BkB B bs u w) : (w.setCell ⟨g, i, none⟩ u).cell? ⟨g, i, none⟩ = some u := by
 obtain ⟨us, h⟩ := h
 have h1 := h.put (i := i) (by rw [lf_len]; exact hi) hu
 have h2 := h1.cell (i := i) (by rw [List.length_set, lf_len]; exact hi)
 rwa [getD_set_eq _ _ _ _ (by rw [h.ulen, lf_len]; exact hi)] at h2
def GotA (V : Vl) (t : Nat) (w : World) (e : Ending) (w' : World) : Prop := Below w.heap.size w w' ∧ ((∃ v, e = .returned (.tuple #[v, .int .i64 (V.G t), .nilIface]) ∧ w'.ownsRow w.heap.size 65 108 v (V.B t).length ((V.B t).map bytesV).flatten) ∨ ∃ (T : TypeId) (x : Value) (k : Int), (k = 6 ∨ k = 7) ∧ KV k (.iface T x) ∧ e = .returned (.tuple #[.slice none 0 0, .int .i64 0, .iface T x]))
theorem VW.readsany {cf : Cf} {g : Int} {b : Nat} (h : VW w1 c cf n q g false b w) (hi : Inv cf V none P q) (ho : On q cf) {t : Nat} (ht : (t : Int) < cf.t) :
  Calls Tryz.prog 39 #[.pointer (some ⟨b, 0, none⟩), .int .i64 t] w (GotA V t w) := by
 refine (vread_any w h.qs.rack h.vb (t : Int)).mono ?_
 rintro e w' ⟨hb, HR⟩
 refine ⟨hb, ?_⟩
 have hR := hi.readAny ho ht
 rcases HR with ⟨_, v, bs, rfl, hown, _, hB⟩ | ⟨h1, v, hkv, rfl⟩
 ·rcases hR with ⟨_, e2, e3⟩ | e1 | e1
  ·have := e3 bs hB
   subst this; rw [e2]; exact Or.inl ⟨v, rfl, hown⟩
  ·omega
  ·omega
 ·rcases hR with ⟨e0, _⟩ | e1 | e1
  ·exact absurd e0 h1
  ·obtain ⟨T, x, rfl⟩ := hkv.some h1
   exact Or.inr ⟨T, x, _, Or.inl e1, hkv, rfl⟩
  ·obtain ⟨T, x, rfl⟩ := hkv.some h1
   exact Or.inr ⟨T, x, _, Or.inr e1, hkv, rfl⟩
def RelVb1 (w4 : World) (c : Lc) (cf : Cf) (N b B g T : Nat) (q0 : Rk) (x : Value) (wr : World) : Prop :=
 ∃ s : Nat, s ≤ T ∧ x = .int .i64 s ∧ VW w4 c cf N q0 1 false b wr ∧ WasF B g T (fun t => if t < s then zBs cf else []) wr ∧ B ≤ wr.heap.size
def RelVb2 (w4 : World) (c : Lc) (cf : Cf) (N b B g T : Nat) (P : Nat → Bool) (x : Value) (wr : World) : Prop :=
 ∃ (m : Nat) (V : Vl) (q : Rk), m ≤ 10 ∧ x = .int .i64 m ∧ VW w4 c cf N q (1 + m) false b wr ∧ Live cf V P q (1 + m) ∧ Jn cf V (1 + m) ∧ q.rem = -1 ∧ WasF B g T V.B wr ∧ B ≤ wr.heap.size
def RelVb3 (w4 : World) (c : Lc) (cf : Cf) (N : Nat) (q : Rk) (sq : Int) (b B g T : Nat) (f : Nat → List (List UInt8)) (x : Value) (wr : World) : Prop :=
 ∃ s : Nat, s ≤ T ∧ x = .int .i64 s ∧ VW w4 c cf N q sq false b wr ∧ WasF B g T f wr ∧ B ≤ wr.heap.size
set_option maxHeartbeats 8000000 in
set_option maxRecDepth 100000 in
theorem vbeyond_any (w : World) (k_ n_ t_ s_ : Int) (vl : Value) (l : List Int) (hvl : SlI w.heap.size w vl l) (f_ : Int) (vo vh : Value) (lo lh : List Int) (hvo : SlI w.heap.size w vo lo) (hvh : SlI w.heap.size w vh lh) (again : Bool) (hT : Typ w) : Calls Tryz.prog 10 #[.int .i64 k_, .int .i64 n_, .int .i64 t_, .int .i64 s_, vl, .int .i64 f_, vo, vh, .bool again] w (Bit true w) := by
 have HT := hI hT
 have HVL := hI hvl
 have HVO := hI hvo
 have HVH := hI hvh
 obtain ⟨al, cl, rfl⟩ := hvl.len
 obtain ⟨ao, co, rfl⟩ := hvo.len
 obtain ⟨ah, ch, rfl⟩ := hvh.len
 clear hT hvl hvo hvh
 go_enter Tryz.func10, Tryz.ntmps10
 go_wp2_with fail
 refine (config_any k_ n_ t_ s_ _).mono ?_
 rintro e w1 ⟨cf, hcf, rfl, hb1⟩
 have H2 := hI (show JfS cf w1.heap.size w (w1.alloc (.cells (cfA cf) 23)) from ⟨cfB_new w1 cf, by simp, balloc hb1 _⟩)
 have HCF := hI hcf
 have COP := hI (fun w' => opened_any w' cf hcf)
 obtain ⟨d0, d1, d2, d3, d4⟩ := CfB.cells H2.out.1
 clear hb1 hcf
 go_wp2_with fail
 generalize w1.alloc (.cells (cfA cf) 23) = w2 at *
 generalize w1.heap.size = bc at *
 refine (COP.out _).mono ?_
 rintro e w3 ⟨c, b, q0, w4, rfl, hvw, hb4, hlive, hrem, halive, hkk, hnn⟩
 have HJ3 := hI hvw
 have HL3 := hI hlive
 have HR3 := hI hrem
 have HALV := hI halive
 have HKQ := hI hkk
 have HNQ := hI hnn
 have HB4 := hI hb4
 have HBW := hI (fun (w' : World) (h : Below w4.heap.size w4 w') => show Below w.heap.size w w' from bthen H2.out.2.2 (bthen hb4 h))
 have HTY := hI (fun (w' : World) (h : Below w4.heap.size w4 w') => show Typ w' from HT.out.below (HBW.out w' h))
 have HCC := hI (fun (w' : World) (h : Below w4.heap.size w4 w') => show CfB cf bc w' from CfB.below H2.out.1 H2.out.2.1 (bthen hb4 h))
 have HRT := hI (show CfRight cf from hlive.on.right)
 have HENO := hI (show Enough cf (allP q0) q0.n from allP_enough hlive.on.fits)
 obtain ⟨N, hN⟩ : ∃ N, q0.n = N := ⟨_, rfl⟩
 rw [hN] at HJ3
 have HN := hI hN
 obtain ⟨K, hK⟩ : ∃ K : Nat, cf.k = K := ⟨cf.k.toNat, by have := hlive.on.right.2.2.1; omega⟩
 have HK := hI hK
 have HK8 := hI (show K ≤ 8 by have := hlive.on.right.2.2.2.1; have := hlive.on.right.2.2.2.2.1; omega)
 have HFAR := hI (show Far w3.heap.size c N from by have := hvw.qs.rack.far; rwa [hN] at this)
 have HCELL := hI (fun (w' : World) (h : Below w4.heap.size w4 w') => show w'.cell? ⟨bc, 0, none⟩ = some (.int .i64 cf.id) ∧ w'.cell? ⟨bc, 1, none⟩ = some (.int .i64 K) ∧ w'.cell? ⟨bc, 2, none⟩ = some (.int .i64 cf.n) ∧ w'.cell? ⟨bc, 3, none⟩ = some (.int .i64 cf.t) ∧ w'.cell? ⟨bc, 4, none⟩ = some (.int .i64 cf.s) by
  have := CfB.cells (HCC.out w' h); rwa [hK] at this)
 clear hvw hb4 hlive hrem halive hkk hnn hN hK d0 d1 d2 d3 d4
 have HNC := hI (show cf.n = (N : Int) by have := HNQ.out; rw [HN.out] at this; exact this.symm)
 have HKN := hI (show 1 ≤ K ∧ K ≤ N ∧ N ≤ 8 by have h1 := HRT.out.2.2.1; have h2 := HRT.out.2.2.2.1; have h3 := HRT.out.2.2.2.2.1; have := HK.out; have := HNC.out; omega)
 have HN8 := hI (show N ≤ 8 from HKN.out.2.2)
 have HTB0 := hI (show 1 ≤ cf.t ∧ cf.t ≤ 6 from ⟨HCF.out.2.2.2.2.2.1, HCF.out.2.2.2.2.2.2.1⟩)
 obtain ⟨T, hTT⟩ : ∃ T : Nat, cf.t = T := ⟨cf.t.toNat, by have := HTB0.out; omega⟩
 have HTT := hI hTT
 have HTB := hI (show 1 ≤ T ∧ T ≤ 6 by have := HTB0.out; omega)
 have HCT := hI (fun (w' : World) (h : Below w4.heap.size w4 w') => show w'.cell? ⟨bc, 0, none⟩ = some (.int .i64 cf.id) ∧ w'.cell? ⟨bc, 1, none⟩ = some (.int .i64 K) ∧ w'.cell? ⟨bc, 2, none⟩ = some (.int .i64 N) ∧ w'.cell? ⟨bc, 3, none⟩ = some (.int .i64 T) ∧ w'.cell? ⟨bc, 4, none⟩ = some (.int .i64 cf.s) by
  have := HCELL.out w' h; rwa [hTT, HNC.out] at this)
 have CBK := hI (fun (z : Int) w3 => blocks_some K z w3 HK8.out)
 have hwT : IntKind.i64.wrap ((T : Int) - 1) = (T : Int) - 1 := by have := HTB.out; exact IntWalk.i64_in _ (by omega)
 have HFV := hI (show FarV w3.heap.size c N from by have := HJ3.out.qs.rack.farV (Nat.le_refl _); rwa [HJ3.out.nn] at this)
 have HB0 := hI (show w4.heap.size ≤ w3.heap.size from HJ3.out.qs.base.size)
 have HVO4 := hI (show SlI w4.heap.size w4 (.slice ao lo.length co) lo from HVO.out.to (HBW.out _ (Below.refl _ _)))
 have HVH4 := hI (show SlI w4.heap.size w4 (.slice ah lh.length ch) lh from HVH.out.to (HBW.out _ (Below.refl _ _)))
 have hmk := make_was T (by have := HTB.out; omega) w3
 have HW5 := hI (was_madeF w3 T (by have := HTB.out; omega))
 have HJ5 := hI (HJ3.out.below (one_below w3 (.cells (madeCells #[.slice none 0 0] T) 56)))
 have HS5 := hI (show w3.heap.size ≤ (w3.alloc (.cells (madeCells #[.slice none 0 0] T) 56)).heap.size by simp)
 obtain ⟨d0, d1, d2, d3, d4⟩ := HCT.out _ HJ3.out.qs.base
 clear hTT
 go_wp2_with fail
 clear hmk d0 d1 d2 d3 d4
 generalize w3.alloc (.cells (madeCells #[.slice none 0 0] T) 56) = w5 at *
 go_loopw [52] (fun x wr => RelVb1 w4 c cf N b w3.heap.size w3.heap.size T q0 x wr) (fun x _ => T - (intOf x).toNat)
 case atStart => exact ⟨0, Nat.zero_le _, rfl, HJ5.out, HW5.out.congr fun t _ => (if_neg (Nat.not_lt_zero t)).symm, HS5.out⟩
 case round =>
  obtain ⟨s, hs, rfl, hv, hW, hsz⟩ := hrel; have HV := hI hv; have HW := hI hW; have HSZ := hI hsz; obtain ⟨d0, d1, d2, d3, d4⟩ := HCT.out _ hv.qs.base
  by_cases hlt : s < T
  ·have hs6 : (s : Int) < 6 := by have := HTB.out; omega
   have hmk := make_blocks K HK8.out wr; have HBK := hI (bkB_made K HK8.out wr); have HV1 := hI (hv.below (one_below wr (.cells (madeCells (bytesV z108).toArray (K * 108)) 65))); have HW1 := hI (hW.below (one_below wr (.cells (madeCells (bytesV z108).toArray (K * 108)) 65))); have HS1 := hI (Nat.le_trans hsz (one_below wr (.cells (madeCells (bytesV z108).toArray (K * 108)) 65)).size); have e5 := HW1.out.frozen s; obtain ⟨a9, c9, e6, _⟩ := HW1.out.cell hlt; have hK8 := HK8.out; clear hv hW hsz; go_wp2_with fail; clear hmk d0 d1 d2 d3 d4 e5 e6; generalize hws : wr.alloc (.cells (madeCells (bytesV z108).toArray (K * 108)) 65) = ws at *
   have HU := hI (show BkB w3.heap.size (zBs cf) (.slice (some ⟨wr.heap.size, 0, none⟩) K K) ws from ⟨by
    rw [show zBs cf = List.replicate K z108 from by unfold zBs; rw [HK.out]; rfl]; exact HBK.out.is, by
    rw [show zBs cf = List.replicate K z108 from by unfold zBs; rw [HK.out]; rfl]; exact own_base HBK.out.row HSZ.out⟩)
   have HV2 := hI (vw_was (i := s) HV1.out HW1.out HFV.out HB0.out (.slice (some ⟨wr.heap.size, 0, none⟩) K K)); have HW2 := hI (HW1.out.put hlt HU.out); have HS2 := hI (Nat.le_trans HS1.out ((Below.refl 0 ws).setCell (p := ⟨w3.heap.size, s, none⟩) (Nat.zero_le _) (.slice (some ⟨wr.heap.size, 0, none⟩) K K)).size); clear hws
   go_roundw
   case rel =>
    refine ⟨s + 1, hlt, by go_num, HV2.out, HW2.out.congr fun t ht => ?_, HS2.out⟩
    show (if t = s then zBs cf else if t < s then zBs cf else []) = if t < s + 1 then zBs cf else []
    by_cases e1 : t = s
    ·rw [if_pos e1, if_pos (by omega)]
    ·rw [if_neg e1]
     by_cases e2 : t < s
     ·rw [if_pos e2, if_pos (by omega)]
     ·rw [if_neg e2, if_neg (by omega)]
   case measure => simp [intOf]; omega
  ·obtain rfl : T = s := by omega
   have HW0 := hI (show WasF w3.heap.size w3.heap.size T (V0 cf).B wr from hW.congr fun t ht => if_pos ht); clear hv hW hsz d0 d1 d2 d3 d4 hlt hs HW; go_wp2_with fail
   go_loopw [24] (fun x wr => RelVb2 w4 c cf N b w3.heap.size w3.heap.size T (allP q0) x wr) (fun x _ => 10 - (intOf x).toNat)
   case atStart => exact ⟨0, _, _, by decide, rfl, HV.out, HL3.out, jn_new cf, HR3.out, HW0.out, HSZ.out⟩
   case round =>
    clear HV HSZ HW0; obtain ⟨m, V, q, hm, rfl, hv, hL, hJ, hrem, hW, hsz⟩ := hrel; have HV := hI hv; have HL := hI hL; have HJN := hI hJ; have HREM := hI hrem; have HW := hI hW; have HSZ := hI hsz; have HE := hI (show Enough cf (allP q0) q.n by rw [hv.nn, ← HN.out]; exact HENO.out)
    by_cases hlt : m < l.length ∧ m < 10
    ·obtain ⟨hlt1, hlt2⟩ := hlt
     have HLC := hI (fun (w' : World) (h : Below w4.heap.size w4 w') => HVL.out.num (Nat.le_refl _) (HBW.out _ h) hlt1); obtain ⟨bl, ol, cl', hs1, hcell⟩ := HLC.out _ hv.qs.base; injection hs1 with hs1 hs2 hs3; subst hs1 hs3; clear hs2 hcell
     have HLC2 := hI (fun (w' : World) (h : Below w4.heap.size w4 w') => show w'.cell? ⟨bl, ol + m, none⟩ = some (.int .i64 (l.getD m 0)) by
      obtain ⟨b1, o1, c1, e1, e2⟩ := HLC.out w' h; injection e1 with e1 _ _; injection e1 with e1; injection e1 with e1 e3 _; subst e1 e3
      exact e2)
     clear HLC; have hb0 := hv.qs.base.drew; clear hv hL hJ hrem hW hsz; generalize l.getD m 0 = lx at *; have lc' := HLC2.out
     have d1 := fun (w' : World) (h : Below w4.heap.size w4 w') => (HCT.out w' h).2.1
     have d3 := fun (w' : World) (h : Below w4.heap.size w4 w') => (HCT.out w' h).2.2.2.1
     go_wp2_with fail; refine wp_region_noPanic ?_; refine wp_region_held_drew (S := (fun w' => Below w4.heap.size w4 w')) (by kernel_rfl) hb0 (fun hHeld => ?_); refine hT 0 ⟨some 72, _, _, _, _, _⟩ rfl hHeld ?_; simp only [hP]; refine hT 1 ⟨some 73, _, _, _, _, _⟩ rfl hHeld ?_; simp only [hP]; refine hT 2 ⟨some 74, _, _, _, _, _⟩ rfl hHeld ?_; simp only [hP]; refine hT 3 ⟨some 75, _, _, _, _, _⟩ rfl hHeld ?_; simp only [hP]; refine hT 4 ⟨some 76, _, _, _, _, _⟩ rfl hHeld ?_; simp only [hP]; refine hT 5 ⟨some 77, _, _, _, _, _⟩ rfl hHeld ?_; simp only [hP]; refine hT 6 ⟨some 78, _, _, _, _, _⟩ rfl hHeld ?_; simp only [hP]
     refine hC 7 rfl fun K hK => ?_
     go_simp; refine (within_int lx 0 ((T : Int) - 1) _ (by omega) (by have := HTB.out; omega) (by have := HTB.out; omega)).mono ?_; rintro e wI ⟨sI, hsI, rfl, hwI⟩; subst hwI; refine hK.out _ _ hHeld (fun _ => ?_); clear hK K; refine hT 8 ⟨some 25, _, _, _, _, _⟩ rfl hHeld ?_; simp only [hP]; refine wpAnyH_done (by kernel_rfl) ?_ _; refine NoPanic.normal ?_; obtain ⟨s, rfl⟩ := Int.eq_ofNat_of_zero_le hsI.1; have HS := hI (show s < T by have := HTB.out; omega)
     have hsTi : (s : Int) < T := by have := HS.out; omega
     have hb1 := hb0.drew; have HVW := hI (fun (w6 : World) (v : Value) (h : VW w4 c cf N q (1 + m) false b w6) (hw : WasF w3.heap.size w3.heap.size T V.B w6) => vw_was (i := s) h hw HFV.out HB0.out v); clear hsI hHeld; go_wp2_with fail; refine wp_region_noPanic ?_; refine wp_region_held_drew (S := (fun w' => Below w4.heap.size w4 w')) (by kernel_rfl) hb1 (fun hHeld => ?_); refine hT 0 ⟨some 80, _, _, _, _, _⟩ rfl hHeld ?_; simp only [hP]; refine hT 1 ⟨some 81, _, _, _, _, _⟩ rfl hHeld ?_; simp only [hP]; refine hT 2 ⟨some 82, _, _, _, _, _⟩ rfl hHeld ?_; simp only [hP]; refine hT 3 ⟨some 83, _, _, _, _, _⟩ rfl hHeld ?_; simp only [hP]; refine hT 4 ⟨some 84, _, _, _, _, _⟩ rfl hHeld ?_; simp only [hP]; refine hT 5 ⟨some 85, _, _, _, _, _⟩ rfl hHeld ?_; simp only [hP]; refine hT 6 ⟨some 86, _, _, _, _, _⟩ rfl hHeld ?_; simp only [hP]; refine hT 7 ⟨some 87, _, _, _, _, _⟩ rfl hHeld ?_; simp only [hP]; refine hT 8 ⟨some 88, _, _, _, _, _⟩ rfl hHeld ?_; simp only [hP]; refine hT 9 ⟨some 89, _, _, _, _, _⟩ rfl hHeld ?_; simp only [hP]; refine hT 10 ⟨some 90, _, _, _, _, _⟩ rfl hHeld ?_; simp only [hP]
     refine hC 11 rfl fun K hK => ?_
     go_simp; refine (CBK.out _ _).mono ?_; rintro e w6 ⟨A, a6, c6, rfl, hlA, hA6, hb6⟩; have HV6 := hI (HV.out.drew.drew.below hb6); have h6 := HV6.out.qs.base; have HA6 := hI hA6; have HW6 := hI ((HW.out.below (Below.refl _ _).drew.drew).below hb6); have HS6 := hI (Nat.le_trans HSZ.out hb6.size); have e5 := HW6.out.frozen s; obtain ⟨a9, c9, e6, _⟩ := HW6.out.cell HS.out; clear hA6 hb6; refine hK.out _ _ h6 (fun _ => ?_); clear hK K; refine hT 12 ⟨some 92, _, _, _, _, _⟩ rfl h6 ?_; simp only [hP]
     refine hC 13 rfl fun K hK => ?_
     go_simp; refine hK.out _ _ (HVW.out _ _ HV6.out HW6.out).qs.base (fun _ => ?_); clear hK K; refine wpAnyH_done (by kernel_rfl) ?_ _; refine NoPanic.normal ?_; have HV8 := hI (HVW.out _ (.slice a6 K c6) HV6.out HW6.out); have e7 := HW6.out.cell_put HS.out (show BkB w3.heap.size A (.slice a6 K c6) w6 from ⟨HA6.out.is, own_base HA6.out.row HSZ.out⟩); have HW8 := hI (HW6.out.put HS.out (show BkB w3.heap.size A (.slice a6 K c6) w6 from ⟨HA6.out.is, own_base HA6.out.row HSZ.out⟩)); have HA8 := hI (HW6.out.other (i := s) (u := .slice a6 K c6) HA6.out); have HS8 := hI (Nat.le_trans HS6.out ((Below.refl 0 w6).setCell (p := ⟨w3.heap.size, s, none⟩) (Nat.zero_le _) (.slice a6 K c6)).size); clear lc' d1 d3 h6 hb0 hb1 hHeld e5 e6; generalize w6.setCell ⟨w3.heap.size, s, none⟩ (.slice a6 K c6) = w8 at *; have CC := hI (HV8.out.commits HL.out HE.out (by omega) (s := s) (by rw [HTT.out]; have := HS.out; omega) (by rw [hlA, HK.out]; rfl) HA8.out (by have := HFAR.out.mono HSZ.out; exact this)); go_wp2_with fail; clear e7; refine CC.out.mono ?_; rintro e w7 ⟨v7, q7, rfl, hrc7, hn7, _, ⟨rfl, hf7, hv7, hl7⟩ | ⟨_, hne, _⟩⟩
     rotate_left
     ·exact absurd HREM.out hne
     have HV7 := hI (show VW w4 c cf N q7 (1 + ((m + 1 : Nat) : Int)) false b w7 by rw [show (1 + ((m + 1 : Nat) : Int)) = 1 + (m : Int) + 1 by omega]; exact hv7); have hjn : Jn cf (addY cf V (cRec (1 + (m : Int)) s A)) (1 + (m : Int) + 1) := HJN.out.add HL.out.inv.v HL.out.le HRT.out rfl (show (0 : Int) ≤ (s : Int) by omega)
     obtain ⟨V', hV'⟩ : ∃ V', V' = addY cf V (cRec (1 + (m : Int)) s A) := ⟨_, rfl⟩
     have HBB := hI (fun t => show V'.B t = if t = s then A else V.B t by rw [hV']; exact addY_B cf V (1 + (m : Int)) s t A); rw [← hV'] at hl7 hjn; have HJ7 := hI (show Jn cf V' (1 + ((m + 1 : Nat) : Int)) by rw [show (1 + ((m + 1 : Nat) : Int)) = 1 + (m : Int) + 1 by omega]; exact hjn); have HL7 := hI (show Live cf V' (allP q0) q7 (1 + ((m + 1 : Nat) : Int)) by rw [show (1 + ((m + 1 : Nat) : Int)) = 1 + (m : Int) + 1 by omega]; exact hl7); have HR7 := hI (hf7 HREM.out); have HW7 := hI (HW8.out.rcv HFAR.out HV8.out.vb hrc7); have HS7 := hI (Nat.le_trans HS8.out hrc7.size); clear hrc7 hn7 hf7 hv7 hl7 hV' hjn; go_wp2_with fail
     go_roundw
     case rel => exact ⟨m + 1, V', q7, by omega, by go_num, HV7.out, HL7.out, HJ7.out, HR7.out, HW7.out.congr fun t _ => (HBB.out t).symm, HS7.out⟩
     case measure => simp [intOf]; omega
    ·have htail : ¬ ((m : Int) < (l.length : Int)) ∨ ((m : Int) < (l.length : Int)) ∧ ¬ (m : Int) < 10 := by
      by_cases h1 : m < l.length
      ·exact Or.inr ⟨by omega, by omega⟩
      ·exact Or.inl (by omega)
     have HVI := hI (fun (s : Nat) (h : (s : Int) < cf.t) => hL.is (t := s) h); have HCL := hI (hJ.closed hL.inv.v hL.le HRT.out); have hN8 := HN8.out; have HTA := hI (fun (T : Nat) (hT : T ≤ N) => taint_any (FC cf V none (1 + (m : Int)) N) fc_step wr hv.qs hv.nn rfl HN8.out (by have := hv.qs.rack.ok.k0; have := hv.qs.rack.ok.k8; omega) (fc_start hv.nn hrem (fun d hd => decide_eq_true (by rw [HN.out]; exact hd)) hL.raw) T hT (.slice ao lo.length co) (.slice ah lh.length ch) lo lh HVO4.out HVH4.out); obtain ⟨d0, d1, d2, d3, d4⟩ := HCT.out _ hv.qs.base; have CW := hI (within_int f_ 0 (N : Int) wr (by omega) (by omega) (by omega)); clear hv hL hJ hrem hW hsz hm hlt
     rcases htail with h1 | ⟨h1, h2⟩
     all_goals
      go_wp2_with fail; clear d0 d1 d2 d3 d4; refine CW.out.mono ?_; rintro e w0' ⟨fI, hfI, rfl, hw0⟩; subst hw0; obtain ⟨D, rfl⟩ := Int.eq_ofNat_of_zero_le hfI.1; have CT := hI (HTA.out D (by omega)); clear hfI; go_wp2_with fail; refine CT.out.mono ?_; rintro e wt ⟨L, qT, rfl, _, hFC, hTS⟩; obtain ⟨_, _, _, hremT, P, _, hraw, _⟩ := hFC; have HVT := hI (HV.out.rc hTS.qs.rack (hTS.nn.trans HV.out.nn.symm) hTS.rc); have HWT := hI (HW.out.rc HFAR.out hTS.rc); have HST := hI (Nat.le_trans HSZ.out hTS.rc.size); have HIT := hI hraw.tnt.inv; have HOT := hI hraw.tnt.on; have CO := hI (qs_opensany hTS.qs hTS.nn hraw.tnt.inv hraw.tnt.sup hraw.tnt.on hremT HCL.out); clear hTS hremT hraw
      cases again with
      | false =>
       go_wp2_with fail
       go_loopw [132] (fun x wr => RelVb3 w4 c cf N qT (1 + (m : Int)) b w3.heap.size w3.heap.size T V.B x wr) (fun x _ => T - (intOf x).toNat)
       case atStart => exact ⟨0, Nat.zero_le _, rfl, HVT.out, HWT.out, HST.out⟩
       case round =>
        obtain ⟨s, hs, rfl, hv, hW, hsz⟩ := hrel
        by_cases hlt : s < T
        ·have hltt : (s : Int) < cf.t := by rw [HTT.out]; omega
         have hs6 : (s : Int) < 6 := by have := HTB.out; omega
         have CR := hI (hv.readsany HIT.out HOT.out (t := s) hltt); obtain ⟨hA1, hA2⟩ := HVI.out s hltt; have HIA := hI hA1
         have hlA : (V.B s).length = K := by rw [hA2, HK.out]; rfl
         have HV := hI hv; have HW := hI hW; have HSZ := hI hsz; have hlK := HK8.out; clear hv hW hsz hA1 hA2 hltt; go_wp2_with fail; refine CR.out.mono ?_; rintro e we ⟨hbe, ⟨vx, rfl, hx⟩ | ⟨TT, xx, k, hk, hkv, rfl⟩⟩
         ·have HVe := hI (HV.out.below hbe)
          have HWe := hI (HW.out.below hbe); have HX := hI (show BkB w3.heap.size (V.B s) vx we from ⟨HIA.out, own_base hx HSZ.out⟩); have HSe := hI (Nat.le_trans HSZ.out hbe.size); obtain ⟨gx, cx, rfl, -⟩ := own_slice' hx; obtain ⟨aw, cw, hcw, hBw⟩ := HWe.out.cell hlt; have CS := hI (same_blocks _ _ _ _ we HX.out.slk hBw.slk (by rw [hlA]; exact hlK)); rw [show decide (V.B s = V.B s) = true from decide_eq_true rfl] at CS; rw [hlA] at HX hcw CS; rw [hlA]; generalize V.G s = gS at *; clear hx hbe hBw hlA; go_wp2_with fail; clear hcw; refine CS.out.mono ?_; rintro e wg ⟨rfl, hbg⟩; have HVg := hI (HVe.out.below hbg); have HWg := hI (HWe.out.below hbg); have HSg := hI (Nat.le_trans HSe.out hbg.size); clear hbg; have CKD := hI (kind_kv KV.zero wg (HTY.out _ HVg.out.qs.base)); go_wp2_with fail; refine CKD.out.mono ?_; rintro e wk ⟨rfl, hbk⟩; have HVk := hI (HVg.out.below hbk); have HWk := hI (HWg.out.below hbk); have HSk := hI (Nat.le_trans HSg.out hbk.size); clear hbk; go_wp2_with fail
          go_roundw
          case rel => exact ⟨s + 1, hlt, by go_num, HVk.out, HWk.out, HSk.out⟩
          case measure => simp [intOf]; omega
         ·have HVe := hI (HV.out.below hbe)
          have HWe := hI (HW.out.below hbe); have HSe := hI (Nat.le_trans HSZ.out hbe.size); have CKD := hI (kind_kv hkv we (HTY.out _ HVe.out.qs.base)); clear hbe hlA hkv
          rcases hk with rfl | rfl
          all_goals
           go_wp2_with fail; refine CKD.out.mono ?_; rintro e wk ⟨rfl, hbk⟩; have HVk := hI (HVe.out.below hbk); have HWk := hI (HWe.out.below hbk); have HSk := hI (Nat.le_trans HSe.out hbk.size); clear hbk; go_wp2_with fail
           go_roundw
           case rel => exact ⟨s + 1, hlt, by go_num, HVk.out, HWk.out, HSk.out⟩
           case measure => simp [intOf]; omega
        ·obtain rfl : T = s := by omega
         have HV := hI hv; have CRU := hI (runs_any _ (HTY.out _ hv.qs.base)); clear hv hW hsz; go_wp2_with fail; refine CRU.out.mono ?_; rintro e wz ⟨rfl, hbz⟩; have HVz := hI (HV.out.below hbz); clear hbz; go_wp2_with fail; go_ret; exact bit rfl (HBW.out _ HVz.out.qs.base)
      | true =>
       go_wp2_with fail; refine CO.out.mono ?_; rintro e wO ⟨hrcO, ⟨qO, bO, gO, rfl, hvO, hiO, hoO, _⟩ | ⟨vO, k, hk, hkv, rfl, hbO⟩⟩
       ·have HVO2 := hI hvO
        have HWO := hI (HWT.out.rc HFAR.out hrcO); have HSO := hI (Nat.le_trans HST.out hrcO.size); have HIO := hI hiO; have HOO := hI hoO; clear hrcO hvO hiO hoO; go_wp2_with fail
        go_loopw [132] (fun x wr => RelVb3 w4 c cf N qO gO bO w3.heap.size w3.heap.size T V.B x wr) (fun x _ => T - (intOf x).toNat)
        case atStart => exact ⟨0, Nat.zero_le _, rfl, HVO2.out, HWO.out, HSO.out⟩
        case round =>
         obtain ⟨s, hs, rfl, hv, hW, hsz⟩ := hrel
         by_cases hlt : s < T
         ·have hltt : (s : Int) < cf.t := by rw [HTT.out]; omega
          have hs6 : (s : Int) < 6 := by have := HTB.out; omega
          have CR := hI (hv.readsany HIO.out HOO.out (t := s) hltt); obtain ⟨hA1, hA2⟩ := HVI.out s hltt; have HIA := hI hA1
          have hlA : (V.B s).length = K := by rw [hA2, HK.out]; rfl
          have HV := hI hv; have HW := hI hW; have HSZ := hI hsz; have hlK := HK8.out; clear hv hW hsz hA1 hA2 hltt; go_wp2_with fail; refine CR.out.mono ?_; rintro e we ⟨hbe, ⟨vx, rfl, hx⟩ | ⟨TT, xx, k, hk, hkv, rfl⟩⟩
          ·have HVe := hI (HV.out.below hbe)
           have HWe := hI (HW.out.below hbe); have HX := hI (show BkB w3.heap.size (V.B s) vx we from ⟨HIA.out, own_base hx HSZ.out⟩); have HSe := hI (Nat.le_trans HSZ.out hbe.size); obtain ⟨gx, cx, rfl, -⟩ := own_slice' hx; obtain ⟨aw, cw, hcw, hBw⟩ := HWe.out.cell hlt; have CS := hI (same_blocks _ _ _ _ we HX.out.slk hBw.slk (by rw [hlA]; exact hlK)); rw [show decide (V.B s = V.B s) = true from decide_eq_true rfl] at CS; rw [hlA] at HX hcw CS; rw [hlA]; generalize V.G s = gS at *; clear hx hbe hBw hlA; go_wp2_with fail; clear hcw; refine CS.out.mono ?_; rintro e wg ⟨rfl, hbg⟩; have HVg := hI (HVe.out.below hbg); have HWg := hI (HWe.out.below hbg); have HSg := hI (Nat.le_trans HSe.out hbg.size); clear hbg; have CKD := hI (kind_kv KV.zero wg (HTY.out _ HVg.out.qs.base)); go_wp2_with fail; refine CKD.out.mono ?_; rintro e wk ⟨rfl, hbk⟩; have HVk := hI (HVg.out.below hbk); have HWk := hI (HWg.out.below hbk); have HSk := hI (Nat.le_trans HSg.out hbk.size); clear hbk; go_wp2_with fail
           go_roundw
           case rel => exact ⟨s + 1, hlt, by go_num, HVk.out, HWk.out, HSk.out⟩
           case measure => simp [intOf]; omega
          ·have HVe := hI (HV.out.below hbe)
           have HWe := hI (HW.out.below hbe); have HSe := hI (Nat.le_trans HSZ.out hbe.size); have CKD := hI (kind_kv hkv we (HTY.out _ HVe.out.qs.base)); clear hbe hlA hkv
           rcases hk with rfl | rfl
           all_goals
            go_wp2_with fail; refine CKD.out.mono ?_; rintro e wk ⟨rfl, hbk⟩; have HVk := hI (HVe.out.below hbk); have HWk := hI (HWe.out.below hbk); have HSk := hI (Nat.le_trans HSe.out hbk.size); clear hbk; go_wp2_with fail
            go_roundw
            case rel => exact ⟨s + 1, hlt, by go_num, HVk.out, HWk.out, HSk.out⟩
            case measure => simp [intOf]; omega
         ·obtain rfl : T = s := by omega
          have HV := hI hv; have CRU := hI (runs_any _ (HTY.out _ hv.qs.base)); clear hv hW hsz; go_wp2_with fail; refine CRU.out.mono ?_; rintro e wz ⟨rfl, hbz⟩; have HVz := hI (HV.out.below hbz); clear hbz; go_wp2_with fail; go_ret; exact bit rfl (HBW.out _ HVz.out.qs.base)
       ·have CKD := hI (kind_kv hkv wO (HTY.out _ hbO))
        have HBO := hI hbO; clear hrcO hkv hbO
        rcases hk with rfl | rfl
        all_goals
         go_wp2_with fail; refine CKD.out.mono ?_; rintro e wk ⟨rfl, hbk⟩; have HBk := hI (bthen HBO.out hbk); have CRU := hI (runs_any _ (HTY.out _ HBk.out)); clear hbk; go_wp2_with fail; refine CRU.out.mono ?_; rintro e wz ⟨rfl, hbz⟩; have HBz := hI (HBW.out _ (bthen HBk.out hbz)); clear hbz; go_wp2_with fail; go_ret; exact bit rfl HBz.out
end Go.Proofs.YthbpfnohbilhaaaGreatDoor
namespace Go.Proofs.YthbpfnohbilhaaaGreatDoor.volumeBeyond
open Go.ChangeShapes Go.WideShapes Go.ChangeAt Go.RowKit
set_option maxRecDepth 100000 in
theorem contract (H : Type) (enc : TypeId × Value → H) (W : World) (base : Nat) (args : Array Value) (ds gs : List (DataW H)) (before : List MemPlace)
  (hval : ∀ (j : Nat) t v, Tryz.f10.params[j]? = some t → args[j]? = some v → Value.okWide Tryz.prog W .any base t v)
  (hW : DataW.Whole enc Tryz.prog Tryz.f10.params.toList Rows.volumeBeyondSpec.vars false W args.toList ds gs before) (hL : laidMetH Tryz.prog Rows.volumeBeyondRow.laid W) :
  Calls Tryz.prog 10 args W fun e W' => ∃ v, e = .returned v ∧ Rows.volumeBeyondSpec.post enc Tryz.prog Tryz.f10 false true false false W args v W' := by
 have hW' := hW
 obtain ⟨p, q, hA0, hV, rfl, hfz, hnd⟩ := hW
 have hA : DataW.TrodAll enc Tryz.prog W 0 (fun _ => true) true Tryz.f10.params.toList args.toList ds p := hA0
 rw [Tryz.params10] at hA hval
 obtain ⟨v0, vs0, d0, ds0, p0, q0, hargs, rfl, rfl, h0, r0⟩ := trodAll_cons hA
 obtain ⟨v1, vs1, d1, ds1, p1, q1, rfl, rfl, rfl, h1, r1⟩ := trodAll_cons r0
 obtain ⟨v2, vs2, d2, ds2, p2, q2, rfl, rfl, rfl, h2, r2⟩ := trodAll_cons r1
 obtain ⟨v3, vs3, d3, ds3, p3, q3, rfl, rfl, rfl, h3, r3⟩ := trodAll_cons r2
 obtain ⟨v4, vs4, d4, ds4, p4, q4, rfl, rfl, rfl, h4, r4⟩ := trodAll_cons r3
 obtain ⟨v5, vs5, d5, ds5, p5, q5, rfl, rfl, rfl, h5, r5⟩ := trodAll_cons r4
 obtain ⟨v6, vs6, d6, ds6, p6, q6, rfl, rfl, rfl, h6, r6⟩ := trodAll_cons r5
 obtain ⟨v7, vs7, d7, ds7, p7, q7, rfl, rfl, rfl, h7, r7⟩ := trodAll_cons r6
 obtain ⟨v8, vs8, d8, ds8, p8, q8, rfl, rfl, rfl, h8, r8⟩ := trodAll_cons r7
 obtain ⟨rfl, rfl, rfl⟩ := trodAll_nil r8
 obtain rfl : args = #[v0, v1, v2, v3, v4, v5, v6, v7, v8] := Array.ext' hargs
 obtain ⟨k_, rfl, rfl, rfl, _⟩ := open_int Tryz.underlying3 (hval 0 3 v0 (by simp) (by simp)) h0
 obtain ⟨n_, rfl, rfl, rfl, _⟩ := open_int Tryz.underlying3 (hval 1 3 v1 (by simp) (by simp)) h1
 obtain ⟨t_, rfl, rfl, rfl, _⟩ := open_int Tryz.underlying3 (hval 2 3 v2 (by simp) (by simp)) h2
 obtain ⟨s_, rfl, rfl, rfl, _⟩ := open_int Tryz.underlying3 (hval 3 3 v3 (by simp) (by simp)) h3
 have hv4 := (hval 4 53 v4 (by simp) (by simp))
 obtain ⟨f_, rfl, rfl, rfl, _⟩ := open_int Tryz.underlying3 (hval 5 3 v5 (by simp) (by simp)) h5
 have hv6 := (hval 6 53 v6 (by simp) (by simp))
 have hv7 := (hval 7 53 v7 (by simp) (by simp))
 obtain ⟨l, hsl, hll⟩ := open_nums hv4 h4
 obtain ⟨lo, hslo, hllo⟩ := open_nums hv6 h6
 obtain ⟨lh, hslh, hllh⟩ := open_nums hv7 h7
 obtain ⟨again, rfl, rfl, rfl⟩ := Go.RowKit.open_bool Tryz.underlying4 (hval 8 4 v8 (by simp) (by simp)) h8
 obtain ⟨rfl, rfl⟩ := trodVars_none hV
 clear hA0
 have hw : Calls Tryz.prog 10 #[.int .i64 k_, .int .i64 n_, .int .i64 t_, .int .i64 s_, v4, .int .i64 f_, v6, v7, .bool again] W (Bit true W) := vbeyond_any W k_ n_ t_ s_ v4 l hsl f_ v6 v7 lo lh hslo hslh again (handle_of_laid hL)
 refine hw.mono fun e W' ⟨he, hg⟩ => ?_
 subst he
 exact ⟨_, rfl, law_post Tryz.laidOut (by kernel_rfl) (by kernel_rfl) (by kernel_rfl) Tryz.underlying4 hW' hg rfl rfl rfl⟩
theorem reads (os : Os) {H : Type} (enc : TypeId × Value → H) : ∃ places, DataW.whole enc Tryz.prog ((laidWorld os).forCall (fun _ _ => 0) ⟨#[], #[.int .i64 0, .int .i64 0, .int .i64 0, .int .i64 0, .slice none 0 0, .int .i64 0, .slice none 0 0, .slice none 0 0, .bool false], []⟩).memory Tryz.f10.params.toList Rows.volumeBeyondSpec.vars false (#[.int .i64 0, .int .i64 0, .int .i64 0, .int .i64 0, .slice none 0 0, .int .i64 0, .slice none 0 0, .slice none 0 0, .bool false] : Array Value).toList 8 = some ([.lit (.int .i64 0), .lit (.int .i64 0), .lit (.int .i64 0), .lit (.int .i64 0), .nil, .lit (.int .i64 0), .nil, .nil, .lit (.bool false)], [], places) :=
 ⟨[], by kernel_rfl⟩
set_option maxRecDepth 100000 in
theorem lifted (os : Os) (started : os.Started) (H : Type) (enc : TypeId × Value → H) (F : Stop.Interp) :
  ReturnsInHanded {} Tryz.checked os 10 .any ((OpenSpec.ofChange Rows.volumeBeyondSpec).preRow enc Tryz.prog Tryz.f10 Rows.volumeBeyondRow.domain false Rows.volumeBeyondRow.laid) (((OpenSpec.ofChange Rows.volumeBeyondSpec).at F).post enc Tryz.prog Tryz.f10 false true false false) := by
 obtain ⟨places, hx⟩ := reads os enc
 refine returnsInHanded_of_row (C := Tryz.checked) (s := OpenSpec.ofChange Rows.volumeBeyondSpec) Tryz.own started (by kernel_rfl) Tryz.func10
  (witness_row_at (enc := enc) (C := Tryz.checked) false (laidWorld os) #[.int .i64 0, .int .i64 0, .int .i64 0, .int .i64 0, .slice none 0 0, .int .i64 0, .slice none 0 0, .slice none 0 0, .bool false] rfl (by kernel_rfl) (by kernel_rfl) (by kernel_rfl)
   (OpenSpec.preRow_of_cond 8 hx (by kernel_rfl) (fun k hk => by cases hk) (by kernel_rfl) (laidWorld_met os _))) ?_
 intro W base args ds gs before hval hW _ _ _ hL _ _
 exact contract H enc W base args ds gs before hval hW hL
set_option maxHeartbeats 40000000 in
theorem closed : joinedFacts Tryz.prog 10 Tryz.f10 (OpenSpec.ofChange Rows.volumeBeyondSpec).bare Rows.volumeBeyondRow = true := by
 unfold joinedFacts
 simp only [Bool.and_eq_true]
 repeat' refine And.intro ?_ ?_
 all_goals (as_aux_lemma => kernel_rfl)
theorem said : Rows.VolumeBeyondSaid :=
 OpenClaim.holds_of_cond 10 Tryz.f10 rfl rfl rfl rfl rfl rfl rfl ⟨rfl, rfl, rfl, rfl, rfl⟩ rfl rfl rfl rfl rfl (by kernel_rfl) Tryz.func10 closed
  (of_decide_eq_true (by kernel_rfl)) (by unfold Func.isWrapper; first | (rw [if_pos (by decide +kernel)]; kernel_rfl) | (rw [if_neg (by decide +kernel)]; exact ⟨rfl, rfl⟩))
  (fun os started H enc _ F => by rw [OpenClaim.pre_eq_preRow]; exact lifted os started H enc F)
theorem plain (f : FuncId) (fn : Func) (hf : Tryz.pinned.checked.prog.funcNamed "stave/stavelaw12.VolumeBeyond" = some f) (hfn : Tryz.pinned.checked.prog.funcs[f]? = some fn) :
  true = Tryz.pinned.checked.prog.looks [] ∧ ∀ (j : Nat) t, fn.params[j]? = some t → Tryz.pinned.checked.prog.wantsStandIn t = false := by
 obtain rfl : f = 10 := Option.some.inj ((show Tryz.prog.funcNamed "stave/stavelaw12.VolumeBeyond" = some 10 by kernel_rfl).symm.trans hf) |>.symm
 obtain rfl : fn = Tryz.f10 := (Option.some.inj (Tryz.func10.symm.trans hfn)).symm
 have hall : (Tryz.f10.params.toList.all fun t => !Tryz.prog.wantsStandIn t) = true := by kernel_rfl
 refine ⟨by kernel_rfl, fun j t ht => ?_⟩
 have := List.all_eq_true.1 hall t (by simpa using Array.mem_of_getElem? ht)
 have h2 : Tryz.prog.wantsStandIn t = false := by simpa using this
 exact h2
end Go.Proofs.YthbpfnohbilhaaaGreatDoor.volumeBeyond
namespace Go.Proofs.YthbpfnohbilhaaaGreatDoor
theorem VolumeBeyond_card : Rows.VolumeBeyondCardSaid :=
 Claim7.holds_tied_plain_at .later [] _ _ _ _ volumeBeyond.said (fun _ h => by cases h) (by kernel_rfl) (fun _ h => by cases h) volumeBeyond_row_tie rfl ⟨rfl, rfl⟩ (by kernel_rfl) rfl volumeBeyond.plain (by kernel_rfl)
#print axioms VolumeBeyond_card
end Go.Proofs.YthbpfnohbilhaaaGreatDoor
