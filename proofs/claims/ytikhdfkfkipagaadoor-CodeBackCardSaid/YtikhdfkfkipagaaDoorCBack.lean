/-
  stavelaw4.CodeBack: the walk.
-/
import Derived.Test.YtikhdfkfkipagaaDoorCFirst
import Derived.IntWalk
namespace Go.Proofs.YtikhdfkfkipagaaDoor
open Go.RowKit Gf Cd
attribute [local go_sem ↓] Go.wp_at_zero Go.wp_at_succ
abbrev Qt := Pt × Value
theorem flat2_get (qs : List Qt) (j : Nat) (u : Value) (lo m : Nat) (h : (((qs.drop lo).take m).flatMap cellsPt)[j]? = some u) : (qs.flatMap cellsPt)[lo * 2 + j]? = some u := by
  have hj : j < (((qs.drop lo).take m).flatMap cellsPt).length := (List.getElem?_eq_some_iff.1 h).1
  rw [flat2_len] at hj
  have hd : (qs.flatMap cellsPt) = ((qs.take lo).flatMap cellsPt) ++ ((qs.drop lo).take m).flatMap cellsPt ++ ((qs.drop lo).drop m).flatMap cellsPt := by
    rw [← List.flatMap_append, ← List.flatMap_append, List.append_assoc, List.take_append_drop, List.take_append_drop]
  have hlo : ((qs.take lo).flatMap cellsPt).length = lo * 2 := by
    rw [flat2_len, List.length_take]
    rw [List.length_take, List.length_drop] at hj
    omega
  rw [hd, List.append_assoc, ← hlo, List.getElem?_append_right (by omega), Nat.add_sub_cancel_left, List.getElem?_append_left (by rw [flat2_len]; exact hj)]
  exact h
theorem one_pt (qs : List Qt) (h : ∀ q ∈ qs, q.2.oneCell' = true) : ∀ u ∈ qs.flatMap cellsPt, u.oneCell' = true := fun u hu => by
  obtain ⟨q, hq, hu⟩ := List.mem_flatMap.1 hu
  rcases List.mem_cons.1 hu with rfl | hu
  · rfl
  · rw [List.mem_singleton.1 hu]; exact h q hq
theorem slb_onecell {B : Nat} {w : World} {v : Value} {l : List UInt8} (h : SlB B w v l) : v.oneCell' = true := by
  obtain ⟨a, c, rfl, _⟩ := h.len
  rfl
/-- A stretch of a row of parts, as what is appended. -/
theorem src_parts {B n cap m c lo g : Nat} {w : World} {qs : List Qt} (h : w.ownsRow B 35 2 (.slice (some ⟨g, 0, none⟩) n cap) n (qs.flatMap cellsPt)) (hl : qs.length = n) (hlo : lo + m ≤ n) (h1 : ∀ q ∈ qs, q.2.oneCell' = true) :
    Src Tryd.prog 2 43 (.slice (some ⟨g, lo * 2, none⟩) m c) m (((qs.drop lo).take m).flatMap cellsPt) w :=
  Src.ofSlice _ Tryd.underlying43 ⟨g, lo * 2, none⟩ m c _ (by rw [flat2_len, List.length_take, List.length_drop]; congr 1; omega) (fun j u hu => by
    have h2 := flat2_get qs j u lo m hu
    have h3 := holds_own h _ u h2
    have hadd : (⟨g, lo * 2, none⟩ : Addr).add j = ⟨g, lo * 2 + j, none⟩ := by unfold Addr.add; split <;> simp_all
    rw [hadd]; exact h3) (one_pt _ fun q hq => h1 q (List.mem_of_mem_drop (List.mem_of_mem_take hq)))
theorem src_none {w : World} (a : Option Addr) (c : Nat) : Src Tryd.prog 2 43 (.slice a 0 c) 0 [] w := by
  cases a with
  | none => exact Src.ofNil _ Tryd.underlying43 _
  | some a => exact Src.ofSlice _ Tryd.underlying43 a 0 c [] rfl (by simp) (by simp)
theorem step_append_parts (w : World) {ops : Array Oper} {o : Oper} {a : Act} {K : Act → World → Prop} {Q : Exit → Act → World → Prop} {E : Prop} (hgd : o.guard = none) (s x : Operand)
    (ho : o.op = .call { callee := .builtin .append, args := #[s, x], argTypes := #[43, 43] })
    (base : Nat) (v : Value) (n : Nat) (xs : List Value) (hsv : a.eval s = v) (hown : w.ownsRow base 35 2 v n xs)
    (y : Value) (m : Nat) (news : List Value) (hx : a.eval x = y) (hs : Src Tryd.prog 2 43 y m news w) (h63 : n + m ≤ 100000) (hbase : base ≤ w.heap.size)
    (h : ∀ v' w', w'.ownsRow base 35 2 v' (n + m) (xs ++ news) → Grew w v.ownBlock w' v'.ownBlock → K (a.put o.dst v') w') : if Region.wanted o (yielded ops a.tmps) = true then Oper.wp Tryd.prog o a w K Q else E := by
  have hw : Region.wanted o (yielded ops a.tmps) = true := by simp [Region.wanted, hgd]
  rw [if_pos hw]
  obtain ⟨i0, hi0, hz⟩ := Option.map_eq_some_iff.1 Tryd.info35
  simp only [Prod.mk.injEq] at hz
  obtain ⟨hz0, hz1, hz2⟩ := hz
  exact wp_append_src w s x 43 43 ho base 35 i0 (.agg #[.int .i64 0, .slice none 0 0]) 2 32 Tryd.underlying43 hi0 hz0 hz1 hz2 rfl v n xs hsv hown y m news hx hs (by unfold maxLen; omega) (by omega) hbase fun v' w' h1 h2 _ => h v' w' h1 h2
/-- The parts and what is left. -/
structure Split (kk nn : Nat) (fr : Nat → List UInt8) (qp ql : List Qt) (i : Nat) : Prop where
  lp : qp.length = i
  ll : ql.length + i = nn
  nd : ((qp ++ ql).map (·.1.1)).Nodup
  ok : ∀ q ∈ qp ++ ql, 0 ≤ q.1.1 ∧ q.1.1 < nn ∧ q.1.2 = fr q.1.1.toNat
theorem cut_perm {α : Type} (l : List α) (x : Nat) (h : x < l.length) : l = l.take x ++ l[x] :: l.drop (x + 1) := by
  rw [← List.drop_eq_getElem_cons h, List.take_append_drop]
theorem Split.move {kk nn i x : Nat} {fr : Nat → List UInt8} {qp ql : List Qt} (h : Split kk nn fr qp ql i) (hx : x < ql.length) : Split kk nn fr (qp ++ [ql[x]]) (ql.take x ++ ql.drop (x + 1)) (i + 1) := by
  have hp : ((qp ++ [ql[x]]) ++ (ql.take x ++ ql.drop (x + 1))).Perm (qp ++ ql) := by
    rw [List.append_assoc]
    refine List.Perm.append_left qp ?_
    have h1 : ([ql[x]] ++ (ql.take x ++ ql.drop (x + 1))).Perm (ql.take x ++ ql[x] :: ql.drop (x + 1)) := by
      show (ql[x] :: (ql.take x ++ ql.drop (x + 1))).Perm _
      exact List.perm_middle.symm
    rw [← cut_perm ql x hx] at h1
    exact h1
  refine ⟨by rw [List.length_append, h.lp]; rfl, ?_, (hp.map _).nodup_iff.2 h.nd, fun q hq => h.ok q (hp.mem_iff.1 hq)⟩
  have := h.ll
  rw [List.length_append, List.length_take, List.length_drop]
  omega
def RelB1 (nn Bd : Nat) (fr : Nat → List UInt8) (w : World) (v c : Value) (wr : World) : Prop :=
  ∃ (i : Nat) (ql : List Qt), i ≤ nn ∧ c = .int .i64 i ∧ ql.length = i ∧ ql.map (·.1.1) = (List.range i).map (fun j : Nat => (j : Int)) ∧ (∀ q ∈ ql, 0 ≤ q.1.1 ∧ q.1.1 < nn ∧ q.1.2 = fr q.1.1.toNat) ∧ wr.ownsRow w.heap.size 35 2 v i (ql.flatMap cellsPt) ∧ (∀ q ∈ ql, SlB Bd wr q.2 q.1.2) ∧ Below w.heap.size w wr
theorem relB1_next {nn i : Nat} {fr : Nat → List UInt8} {w wr w2 : World} {v v2 u : Value} {ql : List Qt} {o : Obj} (hi : i < nn) (hl : ql.length = i) (hm : ql.map (·.1.1) = (List.range i).map (fun j : Nat => (j : Int))) (hok : ∀ q ∈ ql, 0 ≤ q.1.1 ∧ q.1.1 < nn ∧ q.1.2 = fr q.1.1.toNat)
    (hown : wr.ownsRow w.heap.size 35 2 v i (ql.flatMap cellsPt)) (hd : ∀ q ∈ ql, SlB w.heap.size wr q.2 q.1.2) (hb : Below w.heap.size w wr) (hu : SlB w.heap.size wr u (fr i))
    (ho2 : w2.ownsRow w.heap.size 35 2 v2 (i + 1) (ql.flatMap cellsPt ++ [.int .i64 i, u])) (hg : Grew (wr.alloc o) v.ownBlock w2 v2.ownBlock) : RelB1 nn w.heap.size fr w v2 (.int .i64 ((i : Int) + 1)) w2 := by
  have h1 : Below w.heap.size w (wr.alloc o) := balloc hb o
  have h2 : Below w.heap.size (wr.alloc o) w2 := hg.below h1.size fun q hq => (hown.lt q hq).1
  have h3 : Below w.heap.size wr w2 := ((one_below wr o).mono hb.size).trans h2
  refine ⟨i + 1, ql ++ [(((i : Int), fr i), u)], by omega, by go_num, by rw [List.length_append, hl]; rfl, ?_, fun q hq => ?_, by rw [List.flatMap_append]; exact ho2, fun q hq => ?_, h1.trans h2⟩
  · rw [List.map_append, hm, List.range_succ, List.map_append]; rfl
  · rcases List.mem_append.1 hq with h | h
    · exact hok q h
    · rw [List.mem_singleton.1 h]; exact ⟨by simp, by simp; omega, by simp⟩
  · rcases List.mem_append.1 hq with h | h
    · exact (hd q h).below h3
    · rw [List.mem_singleton.1 h]; exact hu.below h3
def RelB2 (kk nn : Nat) (fr : Nat → List UInt8) (w : World) (vp vl c : Value) (wr : World) : Prop :=
  ∃ (i : Nat) (qp ql : List Qt), i ≤ kk ∧ c = .int .i64 i ∧ Split kk nn fr qp ql i ∧ wr.ownsRow w.heap.size 35 2 vp i (qp.flatMap cellsPt) ∧ wr.ownsRow w.heap.size 35 2 vl (nn - i) (ql.flatMap cellsPt) ∧ (vp.ownBlock = none ∨ vp.ownBlock ≠ vl.ownBlock) ∧ (∀ q ∈ qp ++ ql, SlB w.heap.size wr q.2 q.1.2) ∧ Below w.heap.size w wr
theorem relB2_next {kk nn i x : Nat} {fr : Nat → List UInt8} {w wr wa w2 w3 : World} {vp vp2 vl2 : Value} {qp ql : List Qt} (hi : i < kk) (hS : Split kk nn fr qp ql i) (hx : x < ql.length) (hp : wr.ownsRow w.heap.size 35 2 vp i (qp.flatMap cellsPt)) (hd : ∀ q ∈ qp ++ ql, SlB w.heap.size wr q.2 q.1.2)
    (hb : Below w.heap.size w wr) (ha : Below wr.heap.size wr wa) (hp2 : w2.ownsRow w.heap.size 35 2 vp2 (i + 1) (qp.flatMap cellsPt ++ cellsPt ql[x])) (hg : Grew wa vp.ownBlock w2 vp2.ownBlock)
    (hl : w3.ownsRow w.heap.size 35 2 vl2 (x + (nn - i - (x + 1))) ((ql.take x).flatMap cellsPt ++ (ql.drop (x + 1)).flatMap cellsPt)) (hg3 : Below w2.heap.size w2 w3) (hnew : ∀ k, vl2.ownBlock = some k → w2.heap.size ≤ k) : RelB2 kk nn fr w vp2 vl2 (.int .i64 ((i : Int) + 1)) w3 := by
  have hql := hS.ll
  have h1 : Below w.heap.size w wa := bthen hb ha
  have h2 : Below w.heap.size wa w2 := hg.below h1.size fun q hq => (hp.lt q hq).1
  have h3 : Below w.heap.size w2 w3 := hg3.mono (h1.trans h2).size
  have hall : Below w.heap.size wr w3 := ((ha.mono hb.size).trans h2).trans h3
  refine ⟨i + 1, qp ++ [ql[x]], ql.take x ++ ql.drop (x + 1), by omega, by go_num, hS.move hx, ?_, ?_, ?_, fun q hq => ?_, hb.trans hall⟩
  · rw [List.flatMap_append]
    have : [ql[x]].flatMap cellsPt = cellsPt ql[x] := by simp
    rw [this]; exact own_below hp2 hg3
  · rw [List.flatMap_append, show nn - (i + 1) = x + (nn - i - (x + 1)) by omega]; exact hl
  · cases hv : vp2.ownBlock with
    | none => exact Or.inl rfl
    | some k => exact Or.inr fun e => by have := hnew k e.symm; have := (hp2.lt k hv).2; omega
  · have hq' : q ∈ qp ++ ql := by
      rcases List.mem_append.1 hq with h | h
      · rcases List.mem_append.1 h with h | h
        · exact List.mem_append_left _ h
        · rw [List.mem_singleton.1 h]; exact List.mem_append_right _ (List.getElem_mem hx)
      · rcases List.mem_append.1 h with h | h
        · exact List.mem_append_right _ (List.mem_of_mem_take h)
        · exact List.mem_append_right _ (List.mem_of_mem_drop h)
    exact (hd q hq').below hall
theorem two_apps {w5 w6 w7 : World} {o : Obj} {v6 v7 : Value} (hg6 : Grew (w5.alloc o).drew (some w5.heap.size) w6 v6.ownBlock) (hg7 : Grew w6 v6.ownBlock w7 v7.ownBlock) : Below w5.heap.size w5 w7 ∧ ∀ k, v7.ownBlock = some k → w5.heap.size ≤ k := by
  have h0 : Below w5.heap.size w5 (w5.alloc o).drew := (one_below w5 o).drew
  have k6 : ∀ k, v6.ownBlock = some k → w5.heap.size ≤ k := fun k hk => by
    rcases hg6.own with e | e
    · rw [e] at hk; injection hk with hk; omega
    · exact Nat.le_trans h0.size (e k hk)
  have h6 : Below w5.heap.size w5 w6 := h0.trans (hg6.below h0.size fun k hk => by injection hk with hk; omega)
  have h7 : Below w5.heap.size w5 w7 := h6.trans (hg7.below h6.size k6)
  refine ⟨h7, fun k hk => ?_⟩
  rcases hg7.own with e | e
  · exact k6 k (by rw [← e]; exact hk)
  · exact Nat.le_trans h6.size (e k hk)
theorem wrong_ok {n s : Nat} {ps : List Pt} (h : ∀ p ∈ ps, 0 ≤ p.1 ∧ p.1 < n ∧ p.2.length = s) : ¬ 0 ≤ wrongAt n ps := by
  have : wrongAt n ps = -1 := firstAt_none _ pt0 _ fun x hx => by
    have hm : ps.getD x pt0 ∈ ps := by simp [List.getD, hx]
    have hm0 : ps.getD 0 pt0 ∈ ps := by simp [List.getD, show 0 < ps.length by omega]
    have h1 := h _ hm
    have h2 := h _ hm0
    unfold wrongP
    rw [decide_eq_true ⟨h1.1, h1.2.1⟩, show decide ((ps.getD x pt0).2.length ≠ (ps.getD 0 pt0).2.length) = false from decide_eq_false (by rw [h1.2.2, h2.2.2]; simp)]
    rfl
  omega
theorem diff_nodup : ∀ ps : List Pt, (ps.map (·.1)).Nodup → diffP ps = ps := by
  intro ps
  induction ps using rev_ind with
  | nil => intro _; rfl
  | append_singleton l p ih =>
    intro h
    rw [List.map_append, List.nodup_append] at h
    obtain ⟨h1, _, h3⟩ := h
    have hno : hasP l p.1 = false := by
      cases hx : hasP l p.1
      · rfl
      · exact absurd rfl (h3 _ (hasP_mem.1 hx) p.1 (by simp))
    rw [diffP_snoc, diffP_has, hno, ih h1]; rfl
theorem slp_drop {B cap n g : Nat} {w : World} {ps : List Pt} (h : SlP B w (.slice (some ⟨g, 0, none⟩) n cap) ps) (hn : ps.length = n) : SlP B w (.slice (some ⟨g, 2, none⟩) (n - 1) (cap - 1)) (ps.drop 1) := by
  subst hn
  have hl : (ps.drop 1).length = ps.length - 1 := by rw [List.length_drop]
  rcases Nat.eq_zero_or_pos (ps.length - 1) with h0 | h0
  · exact Or.inl ⟨List.eq_nil_of_length_eq_zero (by omega), _, _, by rw [h0]⟩
  · obtain ⟨b, o, cap', h1, h3, h2, _⟩ := h.part (i := 0) (by omega)
    injection h1 with h1 e h1'
    injection h1 with h1
    injection h1 with h1 h6 _
    clear e
    subst h1 h1' h6
    refine Or.inr ⟨g, 2, cap - 1, by rw [hl], h2, fun y hy => ?_, by omega, by omega⟩
    have := h.part' (i := y + 1) (by omega)
    rw [show (ps.drop 1).getD y pt0 = ps.getD (y + 1) pt0 by simp [List.getD], show 2 + y * 2 = 0 + (y + 1) * 2 by omega]
    exact this
def RelB3 (nn : Nat) (w : World) (c : Value) (wr : World) : Prop := ∃ i : Nat, i ≤ nn ∧ c = .int .i64 i ∧ Below w.heap.size w wr
set_option maxHeartbeats 4000000 in
set_option maxRecDepth 100000 in
theorem back_any (k n size : Int) (vb vo : Value) (bl : List UInt8) (ol : List Int) (w : World) (hT : Typ w) (hv : SlB w.heap.size w vb bl) (hbl : bl.length ≤ maxLen) (ho : SlI w.heap.size w vo ol) (_hol : ol.length ≤ maxLen) :
    Calls Tryd.prog 6 #[.int .i64 k, .int .i64 n, .int .i64 size, vb, vo] w (Bit true w) := by
  unfold maxLen at hbl _hol
  have HT := Lib.hid hT
  have HV := Lib.hid hv
  have HOL := Lib.hid ho
  obtain ⟨av, cv, rfl, _⟩ := hv.len
  obtain ⟨ao, co, rfl⟩ := ho.len
  clear hT hv ho
  go_enter Tryd.func6, Tryd.ntmps6
  go_wp2_with fail
  refine (within_num k 1 8 _ (by omega) (by omega) (by omega)).mono ?_
  rintro e w' ⟨kk, ⟨hk1, hk8⟩, rfl, rfl⟩
  go_wp2_with fail
  refine (within_num n kk 8 _ (by omega) (by omega) (by omega)).mono ?_
  rintro e w' ⟨nn, ⟨hn1, hn8⟩, rfl, rfl⟩
  go_wp2_with fail
  refine (new_yes kk nn w (by omega) (by omega) (by omega)).mono ?_
  rintro e w1 ⟨c, rfl, hC, hb1⟩
  have HC := Lib.hid hC
  have HB1 := Lib.hid hb1
  clear hC hb1
  go_wp2_with fail
  refine (within_num size 0 12 _ (by omega) (by omega) (by omega)).mono ?_
  rintro e w' ⟨s, ⟨hs1, hs12⟩, rfl, rfl⟩
  go_wp2_with fail
  refine (made_any w.heap.size kk s _ bl w1 (HV.out.below HB1.out) HB1.out.size (by omega) (by omega) hbl).mono ?_
  rintro e w2 ⟨v2, us2, rfl, hO2, hb2⟩
  have HO2 := Lib.hid hO2
  have HB2 := Lib.hid hb2
  obtain ⟨a2, c2, rfl, _⟩ := hO2.slice
  have hml : (madeL kk s bl).length = kk := madeL_length ..
  have HML := Lib.hid hml
  have HLE := Lib.hid (show ∀ j, j < kk → ((madeL kk s bl).getD j []).length = s from madeL_len)
  clear hO2 hb2
  rw [HML.out] at HO2 ⊢
  clear hml
  generalize madeL kk s bl = bs at *
  go_wp2_with fail
  have hslb2 := HO2.out.slbs
  refine (encode_yes w1.heap.size w2.heap.size c kk nn s _ bs w2 (HC.out.below HB2.out) HB2.out.size hslb2 (Nat.le_refl _) HML.out HLE.out (by omega)).mono ?_
  rintro e w3 ⟨v3, us3, rfl, hO3, hb3⟩
  have HB3 := Lib.hid (bthen HB1.out (bthen HB2.out hb3))
  have HC3 := Lib.hid (HC.out.below (bthen HB2.out hb3))
  have HB13 := Lib.hid (bthen HB2.out hb3).size
  have HBS3 := Lib.hid ((HO2.out.below hb3).slbs)
  have hL := encL_length kk nn s bs
  obtain ⟨a3, c3, rfl, hc3⟩ := hO3.slice
  have htop := hO3.top
  rw [hL] at hc3 htop
  obtain ⟨g3, rfl⟩ := own_addr htop (by omega)
  have hrow : ∀ i, i < nn → ∃ gi ci, w3.cell? ⟨g3, i, none⟩ = some (.slice gi s ci) ∧ SlB w3.heap.size w3 (.slice gi s ci) (combo (cf kk i) bs s kk) := fun i hi => by
    obtain ⟨gi, ci, e, hci⟩ := own_slice (hO3.each i (by rw [hL]; exact hi))
    have hs := hO3.slb (i := i) (by rw [hL]; exact hi)
    rw [encL_len i hi] at e
    rw [e] at hs
    have hgd : (encL kk nn bs s).getD i [] = combo (cf kk i) bs s kk := tabL_getD _ hi
    rw [hgd] at hs
    exact ⟨gi, ci, e ▸ hO3.cell (by rw [hL]; exact hi), hs⟩
  have HROW := Lib.hid hrow
  have HG3 := Lib.hid (own_lt htop).2.1
  rw [hL]
  clear hslb2 hO3 hb3 hrow htop hL
  go_wp2_with fail
  go_loopw [19, 68] (fun v c wr => RelB1 nn w3.heap.size (fun a => combo (cf kk a) bs s kk) w3 v c wr) (fun _ c _ => nn - (intOf c).toNat)
  case atStart => exact ⟨0, [], Nat.zero_le _, rfl, rfl, rfl, (by intro q hq; cases hq), World.ownsRow_nil _ _ _ _, (by intro q hq; cases hq), Below.refl _ _⟩
  case round =>
    obtain ⟨i, ql, hi, rfl, hql, hqm, hok, hown, hd, hb⟩ := hrel
    have HQL := Lib.hid hql
    have HQM := Lib.hid hqm
    have HOK := Lib.hid hok
    have HOW := Lib.hid hown
    have HD := Lib.hid hd
    have HB := Lib.hid hb
    obtain ⟨gp, cp, rfl, _⟩ := own_slice' hown
    clear hql hqm hok hown hd hb
    by_cases hin : i < nn
    · obtain ⟨gi, ci, u1, u2⟩ := HROW.out i hin
      have u3 := (HB.out.cell (p := ⟨g3, i, none⟩) HG3.out).trans u1
      have HU := Lib.hid (u2.below HB.out)
      have HS1 := Lib.hid (show i + 1 ≤ 100000 by omega)
      have HOX := Lib.hid (fun o => HOW.out.alloc o)
      have HS2 := Lib.hid (fun o => show w3.heap.size ≤ (wr.alloc o).heap.size from (balloc HB.out o).size)
      clear u1 u2
      go_wp2_with (at_builtin; refine wpList_append_part _ rfl (.tmp 71) (.tmp 78) rfl w3.heap.size _ _ _ rfl (HOX.out _) _ (.int .i64 i) (.slice gi s ci) rfl (new_cells _ _ _ _ _ rfl) (new_cells _ _ _ _ _ rfl) rfl rfl HS1.out (HS2.out _) ?_; intro v5 w5 hown5 hg5; have HO5 := Lib.hid hown5; have HG5 := Lib.hid hg5; clear hown5 hg5)
      go_roundw
      case rel => exact relB1_next hin HQL.out HQM.out HOK.out HOW.out HD.out HB.out HU.out HO5.out HG5.out
      case measure => simp [intOf]; omega
    · obtain rfl : i = nn := by omega
      go_wp2_with fail
      go_loopw [18, 19, 21] (fun vp vl c wr => RelB2 kk i (fun a => combo (cf kk a) bs s kk) w3 vp vl c wr) (fun _ _ c _ => kk - (intOf c).toNat)
      case atStart =>
        refine ⟨0, [], ql, Nat.zero_le _, rfl, ⟨rfl, by have := HQL.out; omega, ?_, HOK.out⟩, World.ownsRow_nil _ _ _ _, by rw [Nat.sub_zero]; exact HOW.out, Or.inl rfl, HD.out, HB.out⟩
        rw [List.nil_append, HQM.out]
        unfold List.Nodup
        rw [List.pairwise_map]
        exact List.nodup_range.imp (fun {a b} h e => h (by omega))
      case round =>
        obtain ⟨j, qp, ql2, hj, rfl, hS, hp, hl, hap, hd2, hb2⟩ := hrel
        have HSP := Lib.hid hS
        have HP := Lib.hid hp
        have HL := Lib.hid hl
        have HAP := Lib.hid hap
        have HD2 := Lib.hid hd2
        have HB2 := Lib.hid hb2
        obtain ⟨gp2, cp2, rfl, _⟩ := own_slice' hp
        obtain ⟨gl2, cl2, rfl, hcl2⟩ := own_slice' hl
        clear hS hp hl hap hd2 hb2
        by_cases hjk : j < kk
        · have hjn : j < i := by omega
          have hl0 : (0 : Int) ≤ ((i - j : Nat) : Int) - 1 := by omega
          have hlen2 : ql2.length = i - j := by have := HSP.out.ll; omega
          have HLEN2 := Lib.hid hlen2
          have hgl : ∃ gb, gl2 = some ⟨gb, 0, none⟩ := by
            rcases HL.out.2 with ⟨h1, h2⟩ | ⟨g, cap, cur, h1, _⟩
            · omega
            · injection h1 with h1 _ _; exact ⟨g, h1⟩
          obtain ⟨gb, rfl⟩ := hgl
          have hgbl := (HL.out.lt gb rfl)
          have HX : Hid (∀ x, x < i - j → ∃ (a : Int) (d : List UInt8) (au : Option Addr) (cu : Nat) (h : x < ql2.length), ql2[x] = ((a, d), .slice au d.length cu) ∧ wr.cell? ⟨gb, x * 2, none⟩ = some (.int .i64 a) ∧ wr.cell? ⟨gb, x * 2 + 1, none⟩ = some (.slice au d.length cu)) := Lib.hid (fun x hx => by
            have hx' : x < ql2.length := by omega
            obtain ⟨e1, e2⟩ := flat2_at ql2 x hx'
            have h1 := holds_own HL.out _ _ e1
            have h2 := holds_own HL.out _ _ e2
            have h3 := HD2.out ql2[x] (List.mem_append_right _ (List.getElem_mem hx'))
            obtain ⟨au, cu, e3, _⟩ := h3.len
            rw [e3] at h2
            exact ⟨ql2[x].1.1, ql2[x].1.2, au, cu, hx', by rw [← e3], h1, h2⟩)
          clear hlen2
          have hcl2' : ((i - j : Nat) : Int) ≤ cl2 := by omega
          have hm8 : ((i - j : Nat) : Int) ≤ 8 := by omega
          have hjk' : (j : Int) < kk := by omega
          have HMI := Lib.hid (show i - j = i - j from rfl)
          generalize hmm : i - j = m at *
          have HMM := Lib.hid hmm
          clear hmm HMI
          have HW3 := Lib.hid (bthen HB3.out HB2.out)
          go_upto_if 90 with fail
          go_cut [22] (fun v wx => ∃ x : Nat, x < m ∧ v = .int .i64 x ∧ wx = wr)
          case first =>
            by_cases hjo : j < ol.length
            · have hjo' : (j : Int) < ol.length := by omega
              obtain ⟨b, o, cap, e1, hco⟩ := HOL.out.num (Nat.le_refl _) HW3.out hjo
              injection e1 with e1 _ e2
              subst e1 e2
              generalize ol.getD j 0 = oi at *
              go_wp2_with fail
              refine (within_num oi 0 ((m : Int) - 1) _ (by omega) (by omega) (by omega)).mono ?_
              rintro e w' ⟨x, ⟨hx0, hxm⟩, rfl, rfl⟩
              go_wp2_with fail
              go_meet
              exact ⟨x, by omega, rfl, rfl⟩
            · have hjo' : ¬ (j : Int) < ol.length := by omega
              go_wp2_with fail
              go_meet
              exact ⟨0, by omega, rfl, rfl⟩
          case rest =>
            obtain ⟨x, hxm', rfl, hwc⟩ := hcut
            obtain rfl : wr = wc := hwc.symm
            obtain ⟨a, d, au, cu, hxl, eq, z1, z2⟩ := HX.out x hxm'
            have HEQ := Lib.hid eq
            clear eq
            have hxi : (x : Int) < m := by omega
            generalize d.length = dl at *
            have HS1 := Lib.hid (show j + 1 ≤ 100000 by omega)
            have HOX := Lib.hid (fun o => HP.out.alloc o)
            have HS2 := Lib.hid (fun o => show w3.heap.size ≤ (wr.alloc o).heap.size from (balloc HB2.out o).size)
            go_wp2_with (at_builtin; refine wpList_append_part _ rfl (.tmp 99) (.tmp 104) rfl w3.heap.size _ _ _ rfl (HOX.out _) _ (.int .i64 a) (.slice au dl cu) rfl (new_cells _ _ _ _ _ rfl) (new_cells _ _ _ _ _ rfl) rfl rfl HS1.out (HS2.out _) ?_; intro v5 w5 hown5 hg5; have HO5 := Lib.hid hown5; have HG5 := Lib.hid hg5; clear hown5 hg5)
            have HONE := Lib.hid (fun q (hq : q ∈ ql2) => slb_onecell (HD2.out q (List.mem_append_right _ hq)))
            have HLK := Lib.hid (show w5.ownsRow w3.heap.size 35 2 (.slice (some ⟨gb, 0, none⟩) m cl2) m (ql2.flatMap cellsPt) from World.ownsRow.kept (row := (Value.slice gp2 j cp2).ownBlock) (HL.out.alloc _) HG5.out.by_ (by
              rcases HAP.out with h | h
              · rw [h]; exact Or.inr (by simp [Value.ownBlock])
              · exact Or.inr fun e => h e.symm))
            have HQ1 := Lib.hid (fun W (h : w5.heap.size ≤ W.heap.size ∧ W.ownsRow w3.heap.size 35 2 (.slice (some ⟨gb, 0, none⟩) m cl2) m (ql2.flatMap cellsPt)) => show Src Tryd.prog 2 43 (.slice (some ⟨gb, 0, none⟩) x cl2) x ((ql2.take x).flatMap cellsPt) W from src_parts (lo := 0) h.2 HLEN2.out (by omega) HONE.out)
            have HB25 := Lib.hid (show Below w3.heap.size w3 w5 from (balloc HB2.out _).trans (HG5.out.below (balloc HB2.out _).size fun q hq => (HP.out.lt q hq).1))
            have HXL := Lib.hid (show 0 + x ≤ 100000 by omega)
            have hxcl : (x : Int) ≤ cl2 := by omega
            by_cases hxc : x + 1 = cl2
            · have hmx : m = x + 1 := by omega
              have HMX := Lib.hid hmx
              clear hmx
              have hxc2 : ((x : Int) + 1) ≤ m := by omega
              have hxc3 : (cl2 = x + 1) ↔ True := ⟨fun _ => trivial, fun _ => hxc.symm⟩
              have HXC := Lib.hid hxc
              clear hxc
              have hwr1 : IntKind.i64.wrap ((x : Int) + 1) = (x : Int) + 1 := IntWalk.i64_in _ (by omega)
              have hnn1 : (0 : Int) ≤ (x : Int) + 1 := by omega
              have htn : ((x : Int) + 1).toNat = x + 1 := by omega
              go_wp2_with fail
              have HQ2 := Lib.hid (fun W => show Src Tryd.prog 2 43 (.slice (some ⟨gb, 0, none⟩) (m - (x + 1)) (cl2 - (x + 1))) (m - (x + 1)) [] W from by rw [show m - (x + 1) = 0 by have := HMX.out; omega]; exact src_none _ _)
              have HGB := Lib.hid (show gb < w5.heap.size from (HLK.out.lt gb rfl).2)
              have HNB := Lib.hid (show (Value.slice (some ⟨gb, 0, none⟩) m cl2).ownBlock ≠ some w5.heap.size from fun e => by
                have e' : gb = w5.heap.size := by injection e
                have := HGB.out
                omega)
              have HXL2 := Lib.hid (show 0 + x + (m - (x + 1)) ≤ 100000 by omega)
              go_region_law (first
                | (refine step_append_parts (o := ⟨some 110, _, _, _, _, _⟩) _ rfl (.tmp 106) (.tmp 109) (by rfl) w3.heap.size _ 0 [] (by rfl) (own_new _ w3.heap.size #[] 35 2 0 (by have := HB25.out.size; exact this) rfl (by decide)) _ x _ (by rfl) (HQ1.out _ ⟨by simp, own_below HLK.out (by repeat (first | exact Below.refl _ _ | apply Below.drew | refine balloc ?_ _))⟩) HXL.out (by have := HB25.out.size; simp; omega) ?_; intro v6 w6 hown6 hg6; have HO6 := Lib.hid hown6; have HG6 := Lib.hid hg6; have HLK6 := Lib.hid (World.ownsRow.kept (own_below HLK.out (by repeat (first | exact Below.refl _ _ | apply Below.drew | refine balloc ?_ _))) hg6.by_ (Or.inr HNB.out)); clear hown6 hg6)
                | (refine step_append_parts (o := ⟨some 115, _, _, _, _, _⟩) _ rfl (.tmp 110) (.tmp 114) (by rfl) w3.heap.size _ (0 + x) _ (by rfl) HO6.out _ (m - (x + 1)) _ (by rfl) (HQ2.out _) HXL2.out (by have := HB25.out.size; have := HG6.out.size; simp at this; omega) ?_; intro v7 w7 hown7 hg7; have HO7 := Lib.hid hown7; have HG7 := Lib.hid hg7; clear hown7 hg7))
              all_goals
                go_wp2_with fail
                go_roundw
                case rel => exact relB2_next hjk HSP.out hxl HP.out HD2.out HB2.out (one_below _ _) (by have := HO5.out; rw [HEQ.out]; exact this) HG5.out (by have := HO7.out; rw [Nat.zero_add, List.nil_append] at this; rw [HMM.out, List.drop_eq_nil_of_le (by rw [HLEN2.out, HMX.out]; exact Nat.le_refl _)]; exact this) (two_apps HG6.out HG7.out).1 (two_apps HG6.out HG7.out).2
                case measure => simp [intOf]; omega
            · have hxc' : ((x : Int) + 1) < cl2 := by omega
              have hxc2 : ((x : Int) + 1) ≤ m := by omega
              have hxc3 : ¬ cl2 = x + 1 := fun e => hxc e.symm
              have hwr1 : IntKind.i64.wrap ((x : Int) + 1) = (x : Int) + 1 := IntWalk.i64_in _ (by omega)
              have hnn1 : (0 : Int) ≤ (x : Int) + 1 := by omega
              have htn : ((x : Int) + 1).toNat = x + 1 := by omega
              go_wp2_with fail
              have HQ2 := Lib.hid (fun W (h : W.ownsRow w3.heap.size 35 2 (.slice (some ⟨gb, 0, none⟩) m cl2) m (ql2.flatMap cellsPt)) => show Src Tryd.prog 2 43 (.slice (some ⟨gb, (x + 1) * 2, none⟩) (m - (x + 1)) (cl2 - (x + 1))) (m - (x + 1)) ((ql2.drop (x + 1)).flatMap cellsPt) W from by
                have := src_parts (lo := x + 1) (m := m - (x + 1)) (c := cl2 - (x + 1)) h HLEN2.out (by omega) HONE.out
                rwa [List.take_of_length_le (by rw [List.length_drop, HLEN2.out]; exact Nat.le_refl _)] at this)
              have HGB := Lib.hid (show gb < w5.heap.size from (HLK.out.lt gb rfl).2)
              have HNB := Lib.hid (show (Value.slice (some ⟨gb, 0, none⟩) m cl2).ownBlock ≠ some w5.heap.size from fun e => by
                have e' : gb = w5.heap.size := by injection e
                have := HGB.out
                omega)
              have HXL2 := Lib.hid (show 0 + x + (m - (x + 1)) ≤ 100000 by omega)
              go_region_law (first
                | (refine step_append_parts (o := ⟨some 110, _, _, _, _, _⟩) _ rfl (.tmp 106) (.tmp 109) (by rfl) w3.heap.size _ 0 [] (by rfl) (own_new _ w3.heap.size #[] 35 2 0 (by have := HB25.out.size; exact this) rfl (by decide)) _ x _ (by rfl) (HQ1.out _ ⟨by simp, own_below HLK.out (by repeat (first | exact Below.refl _ _ | apply Below.drew | refine balloc ?_ _))⟩) HXL.out (by have := HB25.out.size; simp; omega) ?_; intro v6 w6 hown6 hg6; have HO6 := Lib.hid hown6; have HG6 := Lib.hid hg6; have HLK6 := Lib.hid (World.ownsRow.kept (own_below HLK.out (by repeat (first | exact Below.refl _ _ | apply Below.drew | refine balloc ?_ _))) hg6.by_ (Or.inr HNB.out)); clear hown6 hg6)
                | (refine step_append_parts (o := ⟨some 115, _, _, _, _, _⟩) _ rfl (.tmp 110) (.tmp 114) (by rfl) w3.heap.size _ (0 + x) _ (by rfl) HO6.out _ (m - (x + 1)) _ (by rfl) (HQ2.out _ HLK6.out) HXL2.out (by have := HB25.out.size; have := HG6.out.size; simp at this; omega) ?_; intro v7 w7 hown7 hg7; have HO7 := Lib.hid hown7; have HG7 := Lib.hid hg7; clear hown7 hg7))
              all_goals
                go_wp2_with fail
                go_roundw
                case rel => exact relB2_next hjk HSP.out hxl HP.out HD2.out HB2.out (one_below _ _) (by have := HO5.out; rw [HEQ.out]; exact this) HG5.out (by have := HO7.out; rw [Nat.zero_add, List.nil_append] at this; rw [HMM.out]; exact this) (two_apps HG6.out HG7.out).1 (two_apps HG6.out HG7.out).2
                case measure => simp [intOf]; omega
        · obtain rfl : j = kk := by omega
          have hqn : ((qp.map (·.1)).map (·.1)).Nodup := by
            rw [List.map_map]
            have := HSP.out.nd
            rw [List.map_append] at this
            exact (List.nodup_append.1 this).1
          have hok : ∀ p ∈ qp.map (·.1), 0 ≤ p.1 ∧ p.1 < (i : Int) ∧ p.2.length = s := fun p hp => by
            obtain ⟨q, hq, rfl⟩ := List.mem_map.1 hp
            obtain ⟨e1, e2, e3⟩ := HSP.out.ok q (List.mem_append_left _ hq)
            exact ⟨e1, e2, by rw [e3]; exact combo_length ..⟩
          have hfr : ∀ p ∈ qp.map (·.1), p.2 = combo (cf j p.1.toNat) bs s j := fun p hp => by
            obtain ⟨q, hq, rfl⟩ := List.mem_map.1 hp
            exact (HSP.out.ok q (List.mem_append_left _ hq)).2.2
          have hpl : (qp.map (·.1)).length = j := by rw [List.length_map]; exact HSP.out.lp
          have hSP : SlP wr.heap.size wr (.slice gp2 j cp2) (qp.map (·.1)) := slp_own (by rw [HSP.out.lp]; exact HP.out) (fun q hq => HD2.out q (List.mem_append_left _ hq)) HB2.out.size
          have HSPs := Lib.hid hSP
          have HPL := Lib.hid hpl
          have HWN := Lib.hid (wrong_ok hok)
          have HDF := Lib.hid (diff_nodup _ hqn)
          have HCH := Lib.hid (show chosen j (qp.map (·.1)) = qp.map (·.1) by unfold chosen; rw [HDF.out]; exact List.take_of_length_le (by rw [hpl]; exact Nat.le_refl _))
          have HUN := Lib.hid (fun bs' (h : BlocksOf j s (chosen j (qp.map (·.1))) bs') => show bs' = bs from by
            rw [HCH.out] at h
            exact decoded_eq (by omega) hqn hpl (fun p hp => by have := hok p hp; omega) h HML.out HLE.out hfr)
          have HDEC := Lib.hid (fun W (hW : Below wr.heap.size wr W) => decode_yes w1.heap.size wr.heap.size c j i s _ _ W (HC3.out.below (Below.mono (HB2.out.trans (Below.mono hW HB2.out.size)) HB13.out)) (Nat.le_trans HB13.out (Nat.le_trans HB2.out.size hW.size)) (hSP.below hW) hW.size (by rw [hpl]; omega) HWN.out (by rw [HDF.out, hpl]; omega) (fun p hp => (hok p hp).2.2) (by omega))
          clear hqn hfr hSP hpl
          have hjk' : ¬ (j : Int) < j := by omega
          have HW3 := Lib.hid (bthen HB3.out HB2.out)
          go_wp2_with fail
          refine (HDEC.out wr (Below.refl _ _)).mono ?_
          rintro e w5 ⟨v5, bs5, rfl, hs5, hb5, hbo⟩
          obtain rfl := HUN.out _ hbo
          have HS5 := Lib.hid hs5
          have HBSx := Lib.hid ((HBS3.out.below (HB2.out.trans (Below.mono hb5 HB2.out.size))).wider (Nat.le_trans HB2.out.size hb5.size))
          have HB5 := Lib.hid hb5
          obtain ⟨a5, c5, rfl, _⟩ := hs5.len
          rw [HML.out] at HS5
          have HSM := Lib.hid (same_any w5.heap.size _ _ _ _ w5 HS5.out HBSx.out (Nat.le_refl _) (by rw [HML.out]; omega) (fun l hl => by
            obtain ⟨i, hi, rfl⟩ := List.mem_iff_getElem.1 hl
            have h1 := HLE.out i (by rw [← HML.out]; exact hi)
            rw [show bs5.getD i [] = bs5[i] by simp [List.getD, hi]] at h1
            omega))
          rw [decide_eq_true rfl] at HSM
          clear hs5 hb5 hbo
          rw [HML.out]
          go_wp2_with fail
          refine HSM.out.mono ?_
          rintro e w6 ⟨rfl, hb6⟩
          have HB6 := Lib.hid (bthen HB5.out hb6)
          clear hb6
          go_wp2_with fail
          obtain ⟨wq, rfl⟩ : ∃ wq : World, wq = wr := ⟨_, rfl⟩
          go_loopw [132] (fun c wr => RelB3 i w6 c wr) (fun c _ => i - (intOf c).toNat)
          case atStart => exact ⟨0, Nat.zero_le _, rfl, Below.refl _ _⟩
          case round =>
            obtain ⟨x, hx, rfl, hb⟩ := hrel
            have HBL := Lib.hid hb
            clear hb
            by_cases hxi : x < i
            · have hxi' : (x : Int) < i := by omega
              have hBr := bthen HB6.out HBL.out
              have HREB := Lib.hid (rebuild_yes w1.heap.size c j i s x _ _ wr (HC3.out.below (Below.mono (HB2.out.trans (Below.mono hBr HB2.out.size)) HB13.out)) (Nat.le_trans HB13.out (Nat.le_trans HB2.out.size hBr.size)) hxi (by omega) (HDEC.out wr hBr))
              obtain ⟨gi, ci, u1, u2⟩ := HROW.out x hxi
              have HU := Lib.hid (u2.below (HB2.out.trans (Below.mono hBr HB2.out.size)))
              have HU1 := Lib.hid u1
              have HBr := Lib.hid hBr
              clear u1 u2 hBr
              go_wp2_with fail
              refine HREB.out.mono ?_
              rintro e w7 ⟨bs7, hbo, u, rfl, hu, hb7⟩
              obtain rfl := HUN.out _ hbo
              have hus := slb_own hu
              obtain ⟨au, cu, rfl, _⟩ := own_slice hu
              have HB7 := Lib.hid hb7
              have x1 := ((HB2.out.trans (Below.mono (bthen HBr.out hb7) HB2.out.size)).cell (p := ⟨g3, x, none⟩) HG3.out).trans HU1.out
              have HSX := Lib.hid (same_bytes w7.heap.size _ _ _ _ w7 hus ((HU.out.below (Below.mono hb7 (Nat.le_trans HB2.out.size HBr.out.size))).wider (Nat.le_trans (Nat.le_trans HB2.out.size HBr.out.size) hb7.size)) (Nat.le_refl _) (by rw [combo_length]; omega))
              rw [decide_eq_true rfl] at HSX
              rw [combo_length] at HSX
              rw [combo_length]
              clear hu hb7 hus hbo
              go_wp2_with fail
              refine HSX.out.mono ?_
              rintro e w8 ⟨rfl, hb8⟩
              have HB8 := Lib.hid (bthen (bthen HBL.out HB7.out) hb8)
              clear hb8
              go_wp2_with fail
              go_roundw
              case rel => exact ⟨x + 1, by omega, by go_num, HB8.out⟩
              case measure => simp [intOf]; omega
            · obtain rfl : x = i := by omega
              have HW1 := Lib.hid (wrong_ok (n := x) (s := s) (ps := (qp.map (·.1)).drop 1) fun p hp => hok p (List.mem_of_mem_drop hp))
              have HD1 := Lib.hid (show diffP ((qp.map (·.1)).drop 1) = (qp.map (·.1)).drop 1 from diff_nodup _ (by
                have := diffP_nodup (qp.map (·.1))
                rw [HDF.out] at this
                exact this.sublist ((List.drop_sublist 1 _).map _)))
              have hgp : ∃ gb, gp2 = some ⟨gb, 0, none⟩ := by
                rcases HP.out.2 with ⟨h1, h2⟩ | ⟨g, cap, cur, h1, _⟩
                · omega
                · injection h1 with h1 _ _; exact ⟨g, h1⟩
              obtain ⟨gb2, rfl⟩ := hgp
              have hjj : (1 : Int) ≤ j := by omega
              by_cases hc1 : cp2 = 1
              · obtain rfl : j = 1 := by omega
                subst hc1
                go_wp2_with fail
                refine (decode_few w1.heap.size wr.heap.size c 1 x _ _ wr (HC3.out.below (Below.mono (HB2.out.trans (Below.mono (bthen HB6.out HBL.out) HB2.out.size)) HB13.out)) (Nat.le_trans HB13.out (Nat.le_trans HB2.out.size (bthen HB6.out HBL.out).size)) (show SlP wr.heap.size wr (.slice (some ⟨gb2, 0, none⟩) 0 0) ((qp.map (·.1)).drop 1) from Or.inl ⟨List.drop_eq_nil_of_le (by rw [HPL.out]; omega), _, _, rfl⟩) (Nat.le_refl _) (by rw [List.length_drop, HPL.out]; omega) (by have := HW1.out; omega) (by rw [HD1.out, List.length_drop, HPL.out]; omega)).mono ?_
                rintro e w8 ⟨rfl, hb8⟩
                have HB8 := Lib.hid (bthen (bthen (bthen HW3.out HB6.out) HBL.out) hb8)
                clear hb8
                generalize (diffP ((qp.map (·.1)).drop 1)).length = dd at *
                go_wp2_with fail
                refine (kind_err [(opDecode, (dd : Int))] 3 w8 _ rfl (HT.out.below HB8.out)).mono ?_
                rintro e w9 ⟨rfl, hb9⟩
                have HB9 := Lib.hid (bthen HB8.out hb9)
                clear hb9
                go_wp2_with fail
                refine (code_runs w9 (HT.out.below HB9.out)).mono ?_
                rintro e w10 ⟨rfl, hb10⟩
                have HB10 := Lib.hid (bthen HB9.out hb10)
                clear hb10
                go_wp2_with fail
                go_ret
                exact ⟨rfl, HB10.out⟩
              · have hc1' : (1 : Int) < cp2 := by omega
                go_wp2_with fail
                refine (decode_few w1.heap.size wr.heap.size c j x _ _ wr (HC3.out.below (Below.mono (HB2.out.trans (Below.mono (bthen HB6.out HBL.out) HB2.out.size)) HB13.out)) (Nat.le_trans HB13.out (Nat.le_trans HB2.out.size (bthen HB6.out HBL.out).size)) ((slp_drop HSPs.out HPL.out).below (bthen HB6.out HBL.out) |>.wider (bthen HB6.out HBL.out).size) (Nat.le_refl _) (by rw [List.length_drop, HPL.out]; omega) (by have := HW1.out; omega) (by rw [HD1.out, List.length_drop, HPL.out]; omega)).mono ?_
                rintro e w8 ⟨rfl, hb8⟩
                have HB8 := Lib.hid (bthen (bthen (bthen HW3.out HB6.out) HBL.out) hb8)
                clear hb8
                generalize (diffP ((qp.map (·.1)).drop 1)).length = dd at *
                go_wp2_with fail
                refine (kind_err [(opDecode, (dd : Int))] 3 w8 _ rfl (HT.out.below HB8.out)).mono ?_
                rintro e w9 ⟨rfl, hb9⟩
                have HB9 := Lib.hid (bthen HB8.out hb9)
                clear hb9
                go_wp2_with fail
                refine (code_runs w9 (HT.out.below HB9.out)).mono ?_
                rintro e w10 ⟨rfl, hb10⟩
                have HB10 := Lib.hid (bthen HB9.out hb10)
                clear hb10
                go_wp2_with fail
                go_ret
                exact ⟨rfl, HB10.out⟩
end Go.Proofs.YtikhdfkfkipagaaDoor
