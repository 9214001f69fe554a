import Derived.Test.YtfemgajplohogaaGreatDoorZYMem
import Derived.Test.YtfemgajplohogaaGreatDoorZOpenV
import Derived.Test.YtfemgajplohogaaGreatDoorZBase
import Derived.Test.YtfemgajplohogaaGreatDoorZLaw
namespace Go.Proofs.YtfemgajplohogaaGreatDoor
open Go.RowKit Go.Deep Crc Dk Qk Go.Maps Hf
theorem err_eq {k : Int} {v : Value} (h : KV k v) (W : World) : (binOp .eql 29 v .nilIface).run Tryz.prog W = .ok (.bool (decide (k = 0))) W := by
  by_cases hk : k = 0
  · rw [h.nil hk, decide_eq_true hk]; go_simp
  · obtain ⟨T, x, rfl⟩ := h.some hk
    rw [decide_eq_false hk]; go_simp
theorem err_guard {k : Int} {v : Value} (h : KV k v) (a : Operand) (W : World) : (eqGuard .eql 29 a (.const .nilIface) v .nilIface).run Tryz.prog W = .ok () W := by
  by_cases hk : k = 0
  · rw [h.nil hk]; go_simp
  · obtain ⟨T, x, rfl⟩ := h.some hk
    go_simp
def VCd (w1 : World) (c : Lc) (cf : Cf) (n : Nat) (V : Vl) (P : Nat → Bool) (g : Int) (s : Nat) (bs : List (List UInt8)) (w : World) (e : Ending) (w' : World) : Prop :=
  ∃ (v : Value) (k : Int) (q' : Rk) (V' : Vl) (Y' : Option Rc), e = .returned v ∧ KV k v ∧ w.heap.size ≤ w'.heap.size ∧ Below w1.heap.size w1 w' ∧ QS w1 c q' w' ∧ q'.n = n ∧ Down cf V' Y' P q' (g + 1) ∧ ((k = 0 ∧ V' = addY cf V (cRec g s bs) ∧ Y' = none) ∨ (k ≠ 0 ∧ V' = V ∧ Y' = some (cRec g s bs)))
theorem VW.commitd {w1 : World} {c : Lc} {cf : Cf} {n : Nat} {V : Vl} {P : Nat → Bool} {q : Rk} {g : Int} {b : Nat} {w : World} (h : VW w1 c cf n q g false b w) (hL : Live cf V P q g) (hP : Enough cf P q.n) (hg : g < 1152921504606846976) {s : Nat} (hs : (s : Int) < cf.t) {bs : List (List UInt8)} (hl : bs.length = cf.k.toNat) {v0 : Value} {B : Nat} (hb : BkB B bs v0 w) (hf : Far B c n) :
    Calls Tryz.prog 45 #[.pointer (some ⟨b, 0, none⟩), .int .i64 s, v0] w (VCd w1 c cf n V P g s bs w) := by
  refine (h.commits hL hP hg hs hl hb hf).mono ?_
  rintro e w' ⟨v, q', rfl, hc, hn, _, ⟨rfl, _, hv, hl'⟩ | ⟨hkv, _, hv, _, hd⟩⟩
  · exact ⟨_, 0, q', _, none, rfl, KV.zero, hc.size, hv.qs.base, hv.qs, hv.nn, hl'.down, Or.inl ⟨rfl, rfl, rfl⟩⟩
  · exact ⟨v, 5, q', _, _, rfl, hkv, hc.size, hv.qs.base, hv.qs, hv.nn, hd, Or.inr ⟨by decide, rfl, rfl⟩⟩
def PDn (P : Nat → Bool) : Nat → Nat → Bool
  | 0 => P
  | d + 1 => PD (PDn P d) d
theorem pdn_at (P : Nat → Bool) (d : Nat) : ∀ e, PDn P d e = (P e && decide (d ≤ e)) := by
  induction d with
  | zero => intro e; show P e = _; simp
  | succ d ih =>
    intro e
    show (PDn P d e && decide (e ≠ d)) = _
    rw [ih]
    by_cases h1 : P e = true
    · rw [h1]
      by_cases h2 : d + 1 ≤ e
      · rw [decide_eq_true h2, decide_eq_true (show d ≤ e by omega), decide_eq_true (show e ≠ d by omega)]; rfl
      · rw [decide_eq_false h2]
        by_cases h3 : e = d
        · have h4 : decide (e ≠ d) = false := decide_eq_false (fun h => h h3)
          rw [h4]; simp
        · rw [decide_eq_false (show ¬ d ≤ e by omega)]; rfl
    · have : P e = false := by simpa using h1
      rw [this]; rfl
theorem pdn_count {q : Rk} : ∀ d, d ≤ q.n → ((List.range q.n).filter (PDn (allP q) d)).length + d = q.n
  | 0, _ => by
    show ((List.range q.n).filter (allP q)).length + 0 = q.n
    have e : (List.range q.n).filter (allP q) = List.range q.n := List.filter_eq_self.2 fun d hd => decide_eq_true (List.mem_range.1 hd)
    rw [e, List.length_range]; rfl
  | d + 1, h => by
    have ih := pdn_count (q := q) d (by omega)
    have := pd_range (P := PDn (allP q) d) (d := d) (n := q.n) (by omega) (by
      rw [pdn_at]; have : allP q d = true := decide_eq_true (show d < q.n by omega)
      rw [this]; simp)
    show ((List.range q.n).filter (PD (PDn (allP q) d) d)).length + (d + 1) = q.n
    omega
def RelRe1 (cf : Cf) (w4 : World) (c : Lc) (N : Nat) (V : Vl) (P : Nat → Bool) (n0 B : Nat) (A : List (List UInt8)) (vx : Value) (i : Value) (wr : World) : Prop :=
  ∃ (m : Nat) (q : Rk) (g : Int), m ≤ 2 ∧ i = .int .i64 m ∧ QS w4 c q wr ∧ q.n = N ∧ Live cf V P q g ∧ q.rem = -1 ∧ q.n = n0 ∧ BkB B A vx wr ∧ B ≤ wr.heap.size
def RelRe2 (cf : Cf) (w4 : World) (c : Lc) (N : Nat) (V : Vl) (q0 : Rk) (B D : Nat) (A : List (List UInt8)) (vx : Value) (i : Value) (wr : World) : Prop :=
  ∃ (d : Nat) (q : Rk) (g : Int), d ≤ D ∧ i = .int .i64 d ∧ QS w4 c q wr ∧ q.n = N ∧ Live cf V (PDn (allP q0) d) q g ∧ q.rem = -1 ∧ q.n = q0.n ∧ BkB B A vx wr ∧ B ≤ wr.heap.size
set_option maxHeartbeats 8000000 in
set_option maxRecDepth 100000 in
theorem replays_any (w : World) (k_ n_ z_ a_ b_ f_ : Int) (vl : Value) (l : List Nat) (hvl : SlU w.heap.size w vl l) (hll : ∀ x, x < l.length → l.getD x 0 < 18446744073709551616) (hT : Typ w) : Calls Tryz.prog 13 #[.int .i64 k_, .int .i64 n_, .int .i64 z_, .int .i64 a_, .int .i64 b_, .int .i64 f_, vl] w (Bit true w) := by
  have HT := Lib.hid hT
  have HVL := Lib.hid hvl
  have HLL := Lib.hid hll
  obtain ⟨al, cl, rfl⟩ := hvl.len
  clear hT hvl hll
  go_enter Tryz.func13, Tryz.ntmps13
  go_wp2_with fail
  refine (within_int z_ 1 3 w (by omega) (by omega) (by omega)).mono ?_
  rintro e w0 ⟨zI, hzI, rfl, hw0⟩
  subst hw0
  go_wp2_with fail
  refine (fixed_any k_ n_ 2 zI _ (by omega) ⟨by omega, by omega⟩).mono ?_
  rintro e w1 ⟨cf, hcf, rfl, hb1⟩
  have H2 := Lib.hid (show JfS cf w1.heap.size w (w1.alloc (.cells (cfA cf) 24)) from ⟨cfB_new w1 cf, by simp, balloc hb1 _⟩)
  have HCF := Lib.hid hcf
  have COP := Lib.hid (fun w' => opened_any w' cf hcf.1)
  obtain ⟨d0, d1, d2, d3, d4⟩ := CfB.cells H2.out.1
  clear hb1 hcf
  go_wp2_with fail
  generalize w1.alloc (.cells (cfA cf) 24) = w2 at *
  generalize w1.heap.size = bc at *
  refine (COP.out _).mono ?_
  rintro e w3 ⟨c, b, q0, w4, rfl, hvw, hb4, hlive, hrem, halive, hkk, hnn⟩
  have HJ3 := Lib.hid hvw
  have HL3 := Lib.hid hlive
  have HR3 := Lib.hid hrem
  have HALV := Lib.hid halive
  have HKQ := Lib.hid hkk
  have HNQ := Lib.hid hnn
  have HB4 := Lib.hid hb4
  have HBW := Lib.hid (fun (w' : World) (h : Below w4.heap.size w4 w') => show Below w.heap.size w w' from bthen H2.out.2.2 (bthen hb4 h))
  have HTY := Lib.hid (fun (w' : World) (h : Below w4.heap.size w4 w') => show Typ w' from HT.out.below (HBW.out w' h))
  have HCC := Lib.hid (fun (w' : World) (h : Below w4.heap.size w4 w') => show CfB cf bc w' from CfB.below H2.out.1 H2.out.2.1 (bthen hb4 h))
  have HRT := Lib.hid (show CfRight cf from hlive.on.right)
  have HENO := Lib.hid (show Enough cf (allP q0) q0.n from allP_enough hlive.on.fits)
  obtain ⟨N, hN⟩ : ∃ N, q0.n = N := ⟨_, rfl⟩
  rw [hN] at HJ3
  have HN := Lib.hid hN
  obtain ⟨K, hK⟩ : ∃ K : Nat, cf.k = K := ⟨cf.k.toNat, by have := hlive.on.right.2.2.1; omega⟩
  have HK := Lib.hid hK
  have HK8 := Lib.hid (show K ≤ 8 by have := hlive.on.right.2.2.2.1; have := hlive.on.right.2.2.2.2.1; omega)
  have HFAR := Lib.hid (show Far w3.heap.size c N from by have := hvw.qs.rack.far; rwa [hN] at this)
  have HCELL := Lib.hid (fun (w' : World) (h : Below w4.heap.size w4 w') => show w'.cell? ⟨bc, 0, none⟩ = some (.int .i64 cf.id) ∧ w'.cell? ⟨bc, 1, none⟩ = some (.int .i64 K) ∧ w'.cell? ⟨bc, 2, none⟩ = some (.int .i64 cf.n) ∧ w'.cell? ⟨bc, 3, none⟩ = some (.int .i64 cf.t) ∧ w'.cell? ⟨bc, 4, none⟩ = some (.int .i64 cf.s) by
    have := CfB.cells (HCC.out w' h); rwa [hK] at this)
  clear hvw hb4 hlive hrem halive hkk hnn hN hK d0 d1 d2 d3 d4
  have CB := Lib.hid (fun (z : Int) w3 => blocks_any K z w3 HK8.out)
  have HBL := Lib.hid (fun z : Int => show (blks z K).length = cf.k.toNat by rw [blks_length, HK.out]; rfl)
  obtain ⟨d0, d1, d2, d3, d4⟩ := HCELL.out _ HJ3.out.qs.base
  go_wp2_with fail
  refine (CB.out a_ _).mono ?_
  rintro e w5 ⟨v5, rfl, ho5, hb5⟩
  have HJ5 := Lib.hid (HJ3.out.below hb5)
  have HA5 := Lib.hid (bkB_of ho5 (Nat.le_refl _))
  have HSZ5 := Lib.hid hb5.size
  obtain ⟨a5, c5, rfl, -⟩ := own_slice' ho5
  clear ho5 hb5 d0 d1 d2 d3 d4
  have CC := Lib.hid (show Calls Tryz.prog 45 #[.pointer (some ⟨b, 0, none⟩), .int .i64 0, _] w5 _ from HJ5.out.commits HL3.out HENO.out (by decide) (s := 0) (by rw [HCF.out.2.1]; decide) (HBL.out a_) HA5.out HFAR.out)
  go_wp2_with fail
  refine CC.out.mono ?_
  rintro e w6 ⟨v6, q6, rfl, hrc6, hn6, _, ⟨rfl, hf6, hvw6, hl6⟩ | ⟨_, hne, _⟩⟩
  rotate_left
  · exact absurd HR3.out hne
  have HJ6 := Lib.hid hvw6
  have HL6 := Lib.hid hl6
  have HE6 := Lib.hid (show Enough cf (allP q0) q6.n by rw [hn6]; exact HENO.out)
  have HN6 := Lib.hid hn6
  have HSZ6 := Lib.hid (Nat.le_trans HSZ5.out hrc6.size)
  clear hrc6 hn6 hf6 hvw6 hl6
  obtain ⟨V1, hV1⟩ : ∃ V1, V1 = addY cf (V0 cf) (cRec 1 (0 : Nat) (blks a_ K)) := ⟨_, rfl⟩
  rw [← hV1] at HL6
  have HV1 := Lib.hid (show V1.G 0 = 2 ∧ V1.B 0 = blks a_ K by rw [hV1]; exact ⟨rfl, rfl⟩)
  clear hV1
  go_wp2_with fail
  refine (within_int f_ 0 45 w6 (by omega) (by omega) (by omega)).mono ?_
  rintro e w0 ⟨fI, hfI, rfl, hw0⟩
  subst hw0
  have HL6' := Lib.hid (HL6.out.arm (f := fI) (by omega) (by omega))
  have CARM := Lib.hid (HJ6.out.arm fI (by omega) (by omega))
  clear hfI
  go_wp2_with fail
  refine CARM.out.mono ?_
  rintro e w7 ⟨rfl, hvw7, hrc7⟩
  have HJ7 := Lib.hid hvw7
  have HSZ7 := Lib.hid (Nat.le_trans HSZ6.out hrc7.size)
  obtain ⟨d0, d1, d2, d3, d4⟩ := HCELL.out _ hvw7.qs.base
  clear hvw7 hrc7
  go_wp2_with fail
  refine (CB.out b_ _).mono ?_
  rintro e w8 ⟨v8, rfl, ho8, hb8⟩
  have HJ8 := Lib.hid (HJ7.out.below hb8)
  have HA8 := Lib.hid (bkB_of ho8 (Nat.le_refl _))
  have HSZ8 := Lib.hid (Nat.le_trans HSZ7.out hb8.size)
  obtain ⟨a8, c8, rfl, -⟩ := own_slice' ho8
  clear ho8 hb8 d0 d1 d2 d3 d4
  have HF8 := Lib.hid (HFAR.out.mono HSZ7.out)
  have CC2 := Lib.hid (show Calls Tryz.prog 45 #[.pointer (some ⟨b, 0, none⟩), .int .i64 0, _] w8 _ from HJ8.out.commitd HL6'.out (show Enough cf (allP q0) (q6.arm fI).n from HE6.out) (by decide) (s := 0) (by rw [HCF.out.2.1]; decide) (HBL.out b_) HA8.out HF8.out)
  go_wp2_with fail
  refine CC2.out.mono ?_
  rintro e w9 ⟨v9, k9, q9, V9, Y9, rfl, hkv9, hsz9, hbw9, hqs9, hn9, hd9, hc9⟩
  have HQ9 := Lib.hid hqs9
  have HN9 := Lib.hid hn9
  have HD9 := Lib.hid hd9
  have HC9 := Lib.hid hc9
  have HSZ9 := Lib.hid (Nat.le_trans HSZ8.out hsz9)
  have heq9 := err_eq hkv9
  have heg9 := fun W => err_guard hkv9 (.tmp 66) W
  obtain ⟨dn, hdn⟩ : ∃ dn, dn = decide (k9 = 0) := ⟨_, rfl⟩
  rw [← hdn] at heq9
  have HDN := Lib.hid hdn
  have CBO := Lib.hid (hqs9.boot (.slice al l.length cl) l ((HVL.out.below ((HBW.out _ hbw9).mono (Nat.le_refl _))).wider (HBW.out _ hbw9).size) HLL.out)
  have HBT := Lib.hid (hd9.boot fun i => l.getD i 0)
  clear hkv9 hsz9 hbw9 hqs9 hn9 hd9 hc9 hdn
  go_wp2_with fail
  refine CBO.out.mono ?_
  rintro e w10 ⟨rfl, hqs10, hrc10⟩
  have HQ10 := Lib.hid hqs10
  have HSZ10 := Lib.hid (Nat.le_trans HSZ9.out hrc10.size)
  have HNB := Lib.hid (show (q9.boot fun i => l.getD i 0).n = N from HBT.out.2.2.1.trans HN9.out)
  have HEB := Lib.hid (show Enough cf (allP q0) (q9.boot fun i => l.getD i 0).n by rw [HNB.out, ← HN.out]; exact HENO.out)
  have CO := Lib.hid (qs_opens hqs10 HNB.out HBT.out.1 HEB.out)
  have HRB := Lib.hid HBT.out.2.1
  clear hqs10 hrc10 heq9 heg9
  generalize (q9.boot fun i => l.getD i 0) = q10 at *
  go_wp2_with fail
  refine CO.out.mono ?_
  rintro e w11 ⟨q11, hrc11, _, hn11, _, ⟨b11, g11, V, rfl, hvw11, _, hf11, hl11, hev11, _⟩ | ⟨v11, _, _, hne, _⟩⟩
  rotate_left
  · exact absurd HRB.out hne
  have HJ11 := Lib.hid hvw11
  have HL11 := Lib.hid hl11
  have HR11 := Lib.hid (hf11 HRB.out)
  have HN11 := Lib.hid (show q11.n = N from hn11.trans HNB.out)
  have HE11 := Lib.hid (show Enough cf (allP q0) q11.n by rw [hn11]; exact HEB.out)
  have HSZ11 := Lib.hid (Nat.le_trans HSZ10.out hrc11.size)
  have hcase : (V.G 0 = 2 ∧ V.B 0 = blks a_ K ∧ dn = false) ∨ (V.G 0 = 3 ∧ V.B 0 = blks b_ K) := by
    rcases HC9.out with ⟨hk, rfl, rfl⟩ | ⟨hk, rfl, rfl⟩
    · obtain rfl := evo_none hev11
      exact Or.inr ⟨rfl, rfl⟩
    · rcases hev11.old with ⟨e1, e2, _⟩ | ⟨y, e0, _, e1, e2⟩
      · exact Or.inl ⟨by rw [e1]; exact HV1.out.1, by rw [e2]; exact HV1.out.2, by rw [HDN.out]; exact decide_eq_false hk⟩
      · injection e0 with e0
        subst e0; exact Or.inr ⟨by rw [e1]; rfl, by rw [e2]; rfl⟩
  have CR := Lib.hid (show Calls Tryz.prog 46 #[.pointer (some ⟨b11, 0, none⟩), .int .i64 0] w11 (GotB (V.G 0) (V.B 0) w11) from HJ11.out.reads HL11.out.inv HL11.out.on (t := 0) (by rw [HCF.out.2.1]; decide) (HL11.out.read HE11.out (t := 0) (by rw [HCF.out.2.1]; decide)).1)
  have HIS := Lib.hid (fun z : Int => blks_is z K)
  have HBK2 := Lib.hid (fun z : Int => show (blks z K).length ≤ 8 by rw [blks_length]; exact HK8.out)
  clear hrc11 hn11 hf11 hvw11 hl11 hev11
  go_wp2_with fail
  refine CR.out.mono ?_
  rintro e w12 ⟨vx, rfl, hx12, hb12⟩
  have HJ12 := Lib.hid (HJ11.out.below hb12)
  have HX12 := Lib.hid hx12
  have HX12S := Lib.hid hb12.size
  have HSX := Lib.hid (Nat.le_trans HSZ11.out hb12.size)
  have HFW := Lib.hid (HFAR.out.mono HSZ11.out)
  obtain ⟨ax, cx, rfl, -⟩ := own_slice' hx12
  clear hx12 hb12
  obtain ⟨z, hz, gz, hgz, hcase⟩ : ∃ z : Int, V.B 0 = blks z K ∧ ∃ gz, V.G 0 = gz ∧ ((gz = 2 ∧ z = a_ ∧ dn = false) ∨ (gz = 3 ∧ z = b_ ∧ dn = true) ∨ (gz = 3 ∧ z = b_ ∧ dn = false)) := by
    rcases hcase with ⟨h1, h2, h3⟩ | ⟨h1, h2⟩
    · exact ⟨a_, h2, 2, h1, Or.inl ⟨rfl, rfl, h3⟩⟩
    · cases dn with
      | true => exact ⟨b_, h2, 3, h1, Or.inr (Or.inl ⟨rfl, rfl, rfl⟩)⟩
      | false => exact ⟨b_, h2, 3, h1, Or.inr (Or.inr ⟨rfl, rfl, rfl⟩)⟩
  rw [hz] at HX12
  rw [hz, hgz]
  have HZ := Lib.hid hz
  have HGZ := Lib.hid hgz
  clear hz hgz
  clear HC9 HDN
  rcases hcase with ⟨rfl, rfl, rfl⟩ | ⟨rfl, rfl, rfl⟩ | ⟨rfl, rfl, rfl⟩
  all_goals
    obtain ⟨d0, d1, d2, d3, d4⟩ := HCELL.out _ HJ12.out.qs.base; go_wp2_with fail; refine (CB.out _ _).mono ?_; rintro e w13 ⟨v13, rfl, ho13, hb13⟩; have HS13 := Lib.hid (slK_own ho13 (HIS.out _) rfl); have HX13 := Lib.hid (show BkB w11.heap.size _ _ w13 from ⟨HIS.out _, own_below HX12.out hb13⟩); have HJ13 := Lib.hid (HJ12.out.below hb13); have HSX13 := Lib.hid (Nat.le_trans (Nat.le_refl w11.heap.size) (Nat.le_trans HX12S.out hb13.size)); obtain ⟨a13, c13, rfl, -⟩ := own_slice' ho13; clear ho13 hb13 d0 d1 d2 d3 d4; have S1 := Lib.hid (same_blocks _ _ _ _ w13 HX13.out.slk HS13.out (HBK2.out _)); rw [decide_eq_true rfl] at S1; go_wp2_with fail; refine S1.out.mono ?_; rintro e w14 ⟨rfl, hb14⟩; have HX14 := Lib.hid (HX13.out.below hb14); have HQ14 := Lib.hid (HJ13.out.qs.below hb14); have HSX14 := Lib.hid (Nat.le_trans HSX13.out hb14.size); clear hb14; go_wp2_with fail
    go_loopw [24] (fun i wr => RelRe1 cf w4 c N V (allP q0) q11.n w11.heap.size (blks z K) (.slice ax (blks z K).length cx) i wr) (fun i _ => 2 - (intOf i).toNat)
    case atStart => exact ⟨0, q11, g11, by omega, rfl, HQ14.out, HN11.out, HL11.out, HR11.out, rfl, HX14.out, HSX14.out⟩
    case round =>
      obtain ⟨m, q, g, hm, rfl, hq, hqN, hL, hrem, hqn, hX, hsz⟩ := hrel; have HL := Lib.hid hL; have HX := Lib.hid hX; have HSZ := Lib.hid hsz; have HQ := Lib.hid hq; have HQN := Lib.hid hqN; have HREM := Lib.hid hrem
      by_cases hlt : m < 2
      · have CO := Lib.hid (qs_opens hq hqN hL.raw (show Enough cf (allP q0) q.n by rw [hqn]; exact HE11.out))
        have HQ11 := Lib.hid hqn; clear hL hX hsz hq hqN hrem hqn; go_wp2_with fail; refine CO.out.mono ?_; rintro e w15 ⟨q15, hrc15, _, hn15, _, ⟨b15, g15, V15, rfl, hvw15, _, hf15, hl15, hev15, _⟩ | ⟨v15, _, _, hne, _⟩⟩
        rotate_left
        · exact absurd HREM.out hne
        obtain rfl := evo_none hev15; have HJ15 := Lib.hid hvw15; have HL15 := Lib.hid hl15; have HR15 := Lib.hid (hf15 HREM.out); have HN15 := Lib.hid (show q15.n = q11.n from hn15.trans HQ11.out); have HE15 := Lib.hid (show Enough cf (allP q0) q15.n by rw [hn15, HQ11.out]; exact HE11.out); have HX15 := Lib.hid (HX.out.rc HFW.out hrc15); have HSZ15 := Lib.hid (Nat.le_trans HSZ.out hrc15.size); have CR := Lib.hid (show Calls Tryz.prog 46 #[.pointer (some ⟨b15, 0, none⟩), .int .i64 0] w15 (GotB (V15.G 0) (V15.B 0) w15) from HJ15.out.reads HL15.out.inv HL15.out.on (t := 0) (by rw [HCF.out.2.1]; decide) (HL15.out.read HE15.out (t := 0) (by rw [HCF.out.2.1]; decide)).1); rw [HGZ.out, HZ.out] at CR; clear hrc15 hn15 hf15 hvw15 hl15 hev15; go_wp2_with fail; refine CR.out.mono ?_; rintro e w16 ⟨vy, rfl, hy16, hb16⟩; have HY16 := Lib.hid (slK_own hy16 (HIS.out _) rfl); have HX16 := Lib.hid (HX15.out.below hb16); have HQ16 := Lib.hid (HJ15.out.qs.below hb16); have HSZ16 := Lib.hid (Nat.le_trans HSZ15.out hb16.size); obtain ⟨ay, cy, rfl, -⟩ := own_slice' hy16; clear hy16 hb16; have S2 := Lib.hid (same_blocks _ _ _ _ w16 HY16.out HX16.out.slk (HBK2.out _)); rw [decide_eq_true rfl] at S2; go_wp2_with fail; refine S2.out.mono ?_; rintro e w17 ⟨rfl, hb17⟩; have HX17 := Lib.hid (HX16.out.below hb17); have HQ17 := Lib.hid (HQ16.out.below hb17); have HSZ17 := Lib.hid (Nat.le_trans HSZ16.out hb17.size); clear hb17; go_wp2_with fail
        go_roundw
        case rel => exact ⟨m + 1, q15, g15, hlt, by go_num, HQ17.out, HJ15.out.nn, HL15.out, HR15.out, HN15.out, HX17.out, HSZ17.out⟩
        case measure => simp [intOf]; omega
      · obtain rfl : m = 2 := by omega
        rw [show ((2 : Nat) : Int) = 2 from rfl]; have HQ11 := Lib.hid hqn; obtain ⟨d0, d1, d2, d3, d4⟩ := HCELL.out _ hq.base; rw [← HNQ.out, HN.out] at d2; have HKN := Lib.hid (show K ≤ N by have := HRT.out.2.2.2.1; have := HNQ.out; have := HN.out; have := HK.out; omega)
        have hN8 : N ≤ 8 := by have := hL.on.ok.n8; omega
        clear hL hX hsz hq hqN hrem hqn d0 d3 d4; go_wp2_with fail; clear d1 d2
        go_loopw [30] (fun i wr => RelRe2 cf w4 c N V q0 w11.heap.size (N - K) (blks z K) (.slice ax (blks z K).length cx) i wr) (fun i _ => (N - K) - (intOf i).toNat)
        case atStart => exact ⟨0, q, g, Nat.zero_le _, rfl, HQ.out, HQN.out, HL.out, HREM.out, HQN.out.trans HN.out.symm, HX.out, HSZ.out⟩
        case round =>
          obtain ⟨d, q2, g2, hd, rfl, hq, hqN, hL, hrem, hqn, hX, hsz⟩ := hrel; obtain ⟨d0, d1, d2, d3, d4⟩ := HCELL.out _ hq.base; rw [← HNQ.out, HN.out] at d2; have hKN := HKN.out; have HL2 := Lib.hid hL; have HX2 := Lib.hid hX; have HSZ2 := Lib.hid hsz; have HQ2 := Lib.hid hq; have HQN2 := Lib.hid hqN; have HREM2 := Lib.hid hrem; have HQQ2 := Lib.hid hqn
          by_cases hlt : d < N - K
          · have hlt' : (d : Int) < (N : Int) - (K : Int) := by omega
            have HWO := Lib.hid (hL.wore (d := d) (q' := Rk.dying q2 (d : Nat) true) (by
              rw [pdn_at]; have : allP q0 d = true := decide_eq_true (by have := HN.out; omega)
              rw [this]; simp) .die)
            have CD := Lib.hid (hq.die ((d : Nat) : Int)); clear hL hX hsz hq hqN hrem hqn; go_wp2_with fail; refine CD.out.mono ?_; rintro e w18 ⟨rfl, hq18, hrc18⟩; have HX18 := Lib.hid (HX2.out.rc HFW.out (by have := hrc18; rw [HQN2.out] at this; exact this)); have HQ18 := Lib.hid hq18; have HSZ18 := Lib.hid (Nat.le_trans HSZ2.out hrc18.size); clear hq18 hrc18 d0 d1 d2 d3 d4; go_wp2_with fail
            go_roundw
            case rel => exact ⟨d + 1, _, g2, hlt, by go_num, HQ18.out, HWO.out.2.1.trans HQN2.out, HWO.out.1, HWO.out.2.2.2.trans HREM2.out, HWO.out.2.1.trans HQQ2.out, HX18.out, HSZ18.out⟩
            case measure => simp [intOf]; omega
          · have hlt' : ¬ (d : Int) < (N : Int) - (K : Int) := by omega
            have HEN := Lib.hid (show Enough cf (PDn (allP q0) d) q2.n from ⟨by
              have := pdn_count (q := q0) d (by have := HN.out; omega); rw [hqn]; have := HK.out; have := HN.out
              omega⟩)
            have CO := Lib.hid (qs_opens hq hqN hL.raw HEN.out); clear hL hX hsz hq hqN hrem hqn; go_wp2_with fail; refine CO.out.mono ?_; rintro e w15 ⟨q15, hrc15, _, hn15, _, ⟨b15, g15, V15, rfl, hvw15, _, hf15, hl15, hev15, _⟩ | ⟨v15, _, _, hne, _⟩⟩
            rotate_left
            · exact absurd HREM2.out hne
            obtain rfl := evo_none hev15; have HJ15 := Lib.hid hvw15; have HL15 := Lib.hid hl15; have HE15 := Lib.hid (show Enough cf (PDn (allP q0) d) q15.n by rw [hn15]; exact HEN.out); have HX15 := Lib.hid (HX2.out.rc HFW.out hrc15); have CR := Lib.hid (show Calls Tryz.prog 46 #[.pointer (some ⟨b15, 0, none⟩), .int .i64 0] w15 (GotB (V15.G 0) (V15.B 0) w15) from HJ15.out.reads HL15.out.inv HL15.out.on (t := 0) (by rw [HCF.out.2.1]; decide) (HL15.out.read HE15.out (t := 0) (by rw [HCF.out.2.1]; decide)).1); rw [HGZ.out, HZ.out] at CR; clear hrc15 hn15 hf15 hvw15 hl15 hev15 d0 d1 d2 d3 d4; go_wp2_with fail; refine CR.out.mono ?_; rintro e w16 ⟨vy, rfl, hy16, hb16⟩; have HY16 := Lib.hid (slK_own hy16 (HIS.out _) rfl); have HX16 := Lib.hid (HX15.out.below hb16); have HQ16 := Lib.hid (HJ15.out.qs.below hb16); obtain ⟨ay, cy, rfl, -⟩ := own_slice' hy16; clear hy16 hb16; have S2 := Lib.hid (same_blocks _ _ _ _ w16 HY16.out HX16.out.slk (HBK2.out _)); rw [decide_eq_true rfl] at S2; go_wp2_with fail; refine S2.out.mono ?_; rintro e w17 ⟨rfl, hb17⟩; have HB17 := Lib.hid (bthen HQ16.out.base hb17); have CRU := Lib.hid (runs_any w17 (HTY.out _ HB17.out)); clear hb17; go_wp2_with fail; refine CRU.out.mono ?_; rintro e w18 ⟨rfl, hb18⟩; have HB18 := Lib.hid (HBW.out _ (bthen HB17.out hb18)); clear hb18; go_wp2_with fail; go_ret; exact bit rfl HB18.out
end Go.Proofs.YtfemgajplohogaaGreatDoor
namespace Go.Proofs.YtfemgajplohogaaGreatDoor.volumeReplays
open Go.ChangeShapes Go.WideShapes Go.ChangeAt Go.RowKit
set_option maxRecDepth 100000 in
theorem contract (H : Type) (enc : TypeId × Value → H) (W : World) (base : Nat) (args : Array Value) (ds gs : List (DataW H)) (before : List MemPlace)
    (hval : ∀ (j : Nat) t v, Tryz.f13.params[j]? = some t → args[j]? = some v → Value.okWide Tryz.prog W .any base t v)
    (hW : DataW.Whole enc Tryz.prog Tryz.f13.params.toList Rows.volumeReplaysSpec.vars false W args.toList ds gs before) (hL : laidMetH Tryz.prog Rows.volumeReplaysRow.laid W) :
    Calls Tryz.prog 13 args W fun e W' => ∃ v, e = .returned v ∧ Rows.volumeReplaysSpec.post enc Tryz.prog Tryz.f13 false true false false W args v W' := by
  have hW' := hW
  obtain ⟨p, q, hA0, hV, rfl, hfz, hnd⟩ := hW
  have hA : DataW.TrodAll enc Tryz.prog W 0 (fun _ => true) true Tryz.f13.params.toList args.toList ds p := hA0
  rw [Tryz.params13] at hA hval
  obtain ⟨v0, vs0, d0, ds0, p0, q0, hargs, rfl, rfl, h0, r0⟩ := trodAll_cons hA
  obtain ⟨v1, vs1, d1, ds1, p1, q1, rfl, rfl, rfl, h1, r1⟩ := trodAll_cons r0
  obtain ⟨v2, vs2, d2, ds2, p2, q2, rfl, rfl, rfl, h2, r2⟩ := trodAll_cons r1
  obtain ⟨v3, vs3, d3, ds3, p3, q3, rfl, rfl, rfl, h3, r3⟩ := trodAll_cons r2
  obtain ⟨v4, vs4, d4, ds4, p4, q4, rfl, rfl, rfl, h4, r4⟩ := trodAll_cons r3
  obtain ⟨v5, vs5, d5, ds5, p5, q5, rfl, rfl, rfl, h5, r5⟩ := trodAll_cons r4
  obtain ⟨v6, vs6, d6, ds6, p6, q6, rfl, rfl, rfl, h6, r6⟩ := trodAll_cons r5
  obtain ⟨rfl, rfl, rfl⟩ := trodAll_nil r6
  obtain rfl : args = #[v0, v1, v2, v3, v4, v5, v6] := Array.ext' hargs
  obtain ⟨k_, rfl, rfl, rfl, _⟩ := open_int Tryz.underlying3 (hval 0 3 v0 (by simp) (by simp)) h0
  obtain ⟨n_, rfl, rfl, rfl, _⟩ := open_int Tryz.underlying3 (hval 1 3 v1 (by simp) (by simp)) h1
  obtain ⟨z_, rfl, rfl, rfl, _⟩ := open_int Tryz.underlying3 (hval 2 3 v2 (by simp) (by simp)) h2
  obtain ⟨a_, rfl, rfl, rfl, _⟩ := open_int Tryz.underlying3 (hval 3 3 v3 (by simp) (by simp)) h3
  obtain ⟨b_, rfl, rfl, rfl, _⟩ := open_int Tryz.underlying3 (hval 4 3 v4 (by simp) (by simp)) h4
  obtain ⟨f_, rfl, rfl, rfl, _⟩ := open_int Tryz.underlying3 (hval 5 3 v5 (by simp) (by simp)) h5
  have hv6 := (hval 6 37 v6 (by simp) (by simp))
  obtain ⟨l, hsl, hll⟩ := open_u64s hv6 h6
  obtain ⟨rfl, rfl⟩ := trodVars_none hV
  clear hA0
  have hw : Calls Tryz.prog 13 #[.int .i64 k_, .int .i64 n_, .int .i64 z_, .int .i64 a_, .int .i64 b_, .int .i64 f_, v6] W (Bit true W) := replays_any W k_ n_ z_ a_ b_ f_ v6 l hsl hll (handle_of_laid hL)
  refine hw.mono fun e W' ⟨he, hg⟩ => ?_
  subst he
  exact ⟨_, rfl, law_post Tryz.laidOut (by kernel_rfl) (by kernel_rfl) (by kernel_rfl) Tryz.underlying4 hW' hg rfl rfl rfl⟩
theorem reads (os : Os) {H : Type} (enc : TypeId × Value → H) : ∃ places, DataW.whole enc Tryz.prog ((laidWorld os).forCall (fun _ _ => 0) ⟨#[], #[.int .i64 0, .int .i64 0, .int .i64 0, .int .i64 0, .int .i64 0, .int .i64 0, .slice none 0 0], []⟩).memory Tryz.f13.params.toList Rows.volumeReplaysSpec.vars false (#[.int .i64 0, .int .i64 0, .int .i64 0, .int .i64 0, .int .i64 0, .int .i64 0, .slice none 0 0] : Array Value).toList 8 = some ([.lit (.int .i64 0), .lit (.int .i64 0), .lit (.int .i64 0), .lit (.int .i64 0), .lit (.int .i64 0), .lit (.int .i64 0), .nil], [], places) :=
  ⟨[], by kernel_rfl⟩
set_option maxRecDepth 100000 in
theorem lifted (os : Os) (started : os.Started) (H : Type) (enc : TypeId × Value → H) (F : Stop.Interp) :
    ReturnsInHanded {} Tryz.checked os 13 .any ((OpenSpec.ofChange Rows.volumeReplaysSpec).preRow enc Tryz.prog Tryz.f13 Rows.volumeReplaysRow.domain false Rows.volumeReplaysRow.laid) (((OpenSpec.ofChange Rows.volumeReplaysSpec).at F).post enc Tryz.prog Tryz.f13 false true false false) := by
  obtain ⟨places, hx⟩ := reads os enc
  refine returnsInHanded_of_row (C := Tryz.checked) (s := OpenSpec.ofChange Rows.volumeReplaysSpec) Tryz.own started (by kernel_rfl) Tryz.func13
    (witness_row_at (enc := enc) (C := Tryz.checked) false (laidWorld os) #[.int .i64 0, .int .i64 0, .int .i64 0, .int .i64 0, .int .i64 0, .int .i64 0, .slice none 0 0] rfl (by kernel_rfl) (by kernel_rfl) (by kernel_rfl)
      (OpenSpec.preRow_of_cond 8 hx (by kernel_rfl) (fun k hk => by cases hk) (by kernel_rfl) (laidWorld_met os _))) ?_
  intro W base args ds gs before hval hW _ _ _ hL _ _
  exact contract H enc W base args ds gs before hval hW hL
set_option maxHeartbeats 40000000 in
theorem closed : joinedFacts Tryz.prog 13 Tryz.f13 (OpenSpec.ofChange Rows.volumeReplaysSpec).bare Rows.volumeReplaysRow = true := by
  unfold joinedFacts
  simp only [Bool.and_eq_true]
  repeat' refine And.intro ?_ ?_
  all_goals (as_aux_lemma => kernel_rfl)
theorem said : Rows.VolumeReplaysSaid :=
  OpenClaim.holds_of_cond 13 Tryz.f13 rfl rfl rfl rfl rfl rfl rfl ⟨rfl, rfl, rfl, rfl, rfl⟩ rfl rfl rfl rfl rfl (by kernel_rfl) Tryz.func13 closed
    (of_decide_eq_true (by kernel_rfl)) (by unfold Func.isWrapper; first | (rw [if_pos (by decide +kernel)]; kernel_rfl) | (rw [if_neg (by decide +kernel)]; exact ⟨rfl, rfl⟩))
    (fun os started H enc _ F => by rw [OpenClaim.pre_eq_preRow]; exact lifted os started H enc F)
theorem plain (f : FuncId) (fn : Func) (hf : Tryz.pinned.checked.prog.funcNamed "stave/stavelaw12.VolumeReplays" = some f) (hfn : Tryz.pinned.checked.prog.funcs[f]? = some fn) :
    true = Tryz.pinned.checked.prog.looks [] ∧ ∀ (j : Nat) t, fn.params[j]? = some t → Tryz.pinned.checked.prog.wantsStandIn t = false := by
  obtain rfl : f = 13 := Option.some.inj ((show Tryz.prog.funcNamed "stave/stavelaw12.VolumeReplays" = some 13 by kernel_rfl).symm.trans hf) |>.symm
  obtain rfl : fn = Tryz.f13 := (Option.some.inj (Tryz.func13.symm.trans hfn)).symm
  have hall : (Tryz.f13.params.toList.all fun t => !Tryz.prog.wantsStandIn t) = true := by kernel_rfl
  refine ⟨by kernel_rfl, fun j t ht => ?_⟩
  have := List.all_eq_true.1 hall t (by simpa using Array.mem_of_getElem? ht)
  have h2 : Tryz.prog.wantsStandIn t = false := by simpa using this
  exact h2
end Go.Proofs.YtfemgajplohogaaGreatDoor.volumeReplays
namespace Go.Proofs.YtfemgajplohogaaGreatDoor
theorem VolumeReplays_card : Rows.VolumeReplaysCardSaid :=
  Claim7.holds_tied_plain_at .later [] _ _ _ _ volumeReplays.said (fun _ h => by cases h) (by kernel_rfl) (fun _ h => by cases h) volumeReplays_row_tie rfl ⟨rfl, rfl⟩ (by kernel_rfl) rfl volumeReplays.plain (by kernel_rfl)
#print axioms VolumeReplays_card
end Go.Proofs.YtfemgajplohogaaGreatDoor
