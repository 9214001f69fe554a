/-
  stavelaw4.CodeFirst: the walk.
-/
import Derived.Test.YtikhdfkfkipagaaDoorCFew
import Derived.Test.YtikhdfkfkipagaaDoorOpenI
namespace Go.Proofs.YtikhdfkfkipagaaDoor
open Go.RowKit Gf Cd
attribute [local go_sem ↓] Go.wp_at_zero Go.wp_at_succ
/-- What holds of the parts while they are chosen: fr tells the right fragments, tk those that were taken. -/
structure Choose (kk nn s : Nat) (fr : Nat → List UInt8) (ps tk : List Pt) (hv : Nat) : Prop where
  le : hv ≤ kk
  ok : ∀ p ∈ ps, 0 ≤ p.1 ∧ p.1 < nn ∧ p.2.length = s
  few : hv < kk → (∀ a : Int, hasP tk a = hasP ps a) ∧ hv = (diffP ps).length ∧ ∀ p ∈ diffP ps, p.2 = fr p.1.toNat
  full : hv = kk → kk ≤ (diffP ps).length ∧ ∀ p ∈ (diffP ps).take kk, p.2 = fr p.1.toNat
theorem choose_0 {kk nn s : Nat} {fr : Nat → List UInt8} (h : 1 ≤ kk) : Choose kk nn s fr [] [] 0 :=
  ⟨Nat.zero_le _, (by intro p hp; cases hp), fun _ => ⟨fun _ => rfl, rfl, (by intro p hp; cases hp)⟩, (fun e => by omega)⟩
theorem ok_snoc {nn s : Nat} {ps : List Pt} {p : Pt} (h : ∀ p ∈ ps, 0 ≤ p.1 ∧ p.1 < nn ∧ p.2.length = s) (hp : 0 ≤ p.1 ∧ p.1 < nn ∧ p.2.length = s) : ∀ q ∈ ps ++ [p], 0 ≤ q.1 ∧ q.1 < nn ∧ q.2.length = s := fun q hq => by
  rcases List.mem_append.1 hq with h1 | h1
  · exact h q h1
  · rw [List.mem_singleton.1 h1]; exact hp
/-- A number that is new. -/
theorem Choose.take {kk nn s hv : Nat} {fr : Nat → List UInt8} {ps tk : List Pt} {p : Pt} (h : Choose kk nn s fr ps tk hv) (hlt : hv < kk) (hno : hasP tk p.1 = false) (hp : 0 ≤ p.1 ∧ p.1 < nn ∧ p.2.length = s) (hf : p.2 = fr p.1.toNat) : Choose kk nn s fr (ps ++ [p]) (tk ++ [p]) (hv + 1) := by
  obtain ⟨h1, h2, h3⟩ := h.few hlt
  have hd : diffP (ps ++ [p]) = diffP ps ++ [p] := by rw [diffP_snoc, diffP_has, ← h1, hno]; rfl
  have hall : ∀ q ∈ diffP (ps ++ [p]), q.2 = fr q.1.toNat := fun q hq => by
    rw [hd] at hq
    rcases List.mem_append.1 hq with h4 | h4
    · exact h3 q h4
    · rw [List.mem_singleton.1 h4]; exact hf
  refine ⟨by omega, ok_snoc h.ok hp, fun _ => ⟨fun a => by rw [hasP_snoc, hasP_snoc, h1], by rw [hd, List.length_append, ← h2]; rfl, hall⟩, fun e => ⟨by rw [hd, List.length_append, ← h2, ← e]; exact Nat.le_refl _, fun q hq => hall q (List.mem_of_mem_take hq)⟩⟩
/-- A number that was there. -/
theorem Choose.seen {kk nn s hv : Nat} {fr : Nat → List UInt8} {ps tk : List Pt} {p : Pt} (h : Choose kk nn s fr ps tk hv) (hlt : hv < kk) (hno : hasP tk p.1 = true) (hp : 0 ≤ p.1 ∧ p.1 < nn ∧ p.2.length = s) : Choose kk nn s fr (ps ++ [p]) tk hv := by
  obtain ⟨h1, h2, h3⟩ := h.few hlt
  have hd : diffP (ps ++ [p]) = diffP ps := by rw [diffP_snoc, diffP_has, ← h1, hno]; rfl
  refine ⟨h.le, ok_snoc h.ok hp, fun _ => ⟨fun a => ?_, by rw [hd]; exact h2, by rw [hd]; exact h3⟩, fun e => by omega⟩
  rw [hasP_snoc, h1]
  by_cases e : p.1 = a
  · rw [← e, ← h1, hno]; rfl
  · rw [show (p.1 == a) = false by simpa using e, Bool.or_false]
/-- All are there. -/
theorem Choose.more {kk nn s hv : Nat} {fr : Nat → List UInt8} {ps tk : List Pt} {p : Pt} (h : Choose kk nn s fr ps tk hv) (hlt : ¬ hv < kk) (hp : 0 ≤ p.1 ∧ p.1 < nn ∧ p.2.length = s) : Choose kk nn s fr (ps ++ [p]) tk hv := by
  have hk : hv = kk := by have := h.le; omega
  obtain ⟨h1, h2⟩ := h.full hk
  refine ⟨h.le, ok_snoc h.ok hp, fun e => by omega, fun _ => ?_⟩
  rw [diffP_snoc]
  split
  · exact ⟨h1, h2⟩
  · exact ⟨by rw [List.length_append]; omega, by rw [List.take_append_of_le_length h1]; exact h2⟩
theorem Choose.wrong {kk nn s hv : Nat} {fr : Nat → List UInt8} {ps tk : List Pt} (h : Choose kk nn s fr ps tk hv) : ¬ 0 ≤ wrongAt nn ps := by
  have : wrongAt nn ps = -1 := firstAt_none _ pt0 _ fun x hx => by
    have hm : ps.getD x pt0 ∈ ps := by simp [List.getD, hx]
    have hm0 : ps.getD 0 pt0 ∈ ps := by simp [List.getD, show 0 < ps.length by omega]
    have h1 := h.ok _ hm
    have h2 := h.ok _ hm0
    unfold wrongP
    rw [decide_eq_true ⟨h1.1, h1.2.1⟩, show decide ((ps.getD x pt0).2.length ≠ (ps.getD 0 pt0).2.length) = false from decide_eq_false (by rw [h1.2.2, h2.2.2]; simp)]
    rfl
  omega
def RelFo (kk nn s Bd g : Nat) (fr : Nat → List UInt8) (w : World) (v hvv c : Value) (wr : World) : Prop :=
  ∃ (i hv : Nat) (qs : List (Pt × Value)) (tk : List Pt), i ≤ 30 ∧ c = .int .i64 i ∧ hvv = .int .i64 hv ∧ qs.length = i ∧ Choose kk nn s fr (qs.map (·.1)) tk hv ∧ wr.ownsRow (g + 1) 35 2 v i (qs.flatMap cellsPt) ∧ (∀ q ∈ qs, SlB Bd wr q.2 q.1.2) ∧ Seen wr g tk ∧ Below w.heap.size w wr
/-- One part more. -/
theorem relFo_next {kk nn s Bd g i hv' at_ : Nat} {fr : Nat → List UInt8} {w wr wx wy w2 : World} {v v2 u : Value} {qs : List (Pt × Value)} {tk' : List Pt} {d : List UInt8} (hi : i < 30) (hql : qs.length = i) (hg : w.heap.size ≤ g) (hBd : Bd ≤ g) (hown : wr.ownsRow (g + 1) 35 2 v i (qs.flatMap cellsPt)) (hd : ∀ q ∈ qs, SlB Bd wr q.2 q.1.2)
    (hb : Below w.heap.size w wr) (hC : Choose kk nn s fr (qs.map (·.1) ++ [((at_ : Int), d)]) tk' hv') (hxb : Below g wr wx) (hseen : Seen wx g tk') (hu : SlB Bd wr u d) (hy : Below wx.heap.size wx wy)
    (ho2 : w2.ownsRow (g + 1) 35 2 v2 (i + 1) (qs.flatMap cellsPt ++ [.int .i64 at_, u])) (hgr : Grew wy v.ownBlock w2 v2.ownBlock) : RelFo kk nn s Bd g fr w v2 (.int .i64 hv') (.int .i64 ((i : Int) + 1)) w2 := by
  have hvb : ∀ q, v.ownBlock = some q → g + 1 ≤ q := fun q hq => (hown.lt q hq).1
  have hgl : g < wx.heap.size := (hseen.cell (a := 0) (by omega)).2.2
  have hyb : Below g wx wy := hy.mono (by omega)
  have h2b : Below g wy w2 := hgr.below (by have := hy.size; omega) fun q hq => by have := hvb q hq; omega
  have hall : Below g wr w2 := (hxb.trans hyb).trans h2b
  have hdat : ∀ (x : Value) (l : List UInt8), SlB Bd wr x l → SlB Bd w2 x l := fun x l h => h.below (hall.mono hBd)
  refine ⟨i + 1, hv', qs ++ [(((at_ : Int), d), u)], tk', by omega, by go_num, rfl, by rw [List.length_append, hql]; rfl, ?_, ?_, fun q hq => ?_, ?_, hb.trans (hall.mono hg)⟩
  · rw [List.map_append]; exact hC
  · rw [List.flatMap_append]; exact ho2
  · rcases List.mem_append.1 hq with h | h
    · exact hdat _ _ (hd q h)
    · rw [List.mem_singleton.1 h]; exact hdat _ _ hu
  · exact Seen.grew (hseen.below hy) hgr fun e => by have := hvb _ e; omega
set_option maxHeartbeats 4000000 in
set_option maxRecDepth 100000 in
theorem first_any (k n size : Int) (vb vo : Value) (bl : List UInt8) (ol : List Int) (junk : Nat) (w : World) (hT : Typ w) (hv : SlB w.heap.size w vb bl) (hbl : bl.length ≤ maxLen) (ho : SlI w.heap.size w vo ol) (_hol : ol.length ≤ maxLen) (hj : junk < 256) :
    Calls Tryd.prog 11 #[.int .i64 k, .int .i64 n, .int .i64 size, vb, vo, .int .u8 junk] w (Bit true w) := by
  unfold maxLen at hbl _hol
  have HT := Lib.hid hT
  have HV := Lib.hid hv
  have HOL := Lib.hid ho
  obtain ⟨av, cv, rfl, _⟩ := hv.len
  obtain ⟨ao, co, rfl⟩ := ho.len
  clear hT hv ho
  go_enter Tryd.func11, Tryd.ntmps11
  go_wp2_with fail
  refine (within_num k 1 8 _ (by omega) (by omega) (by omega)).mono ?_
  rintro e w' ⟨kk, ⟨hk1, hk8⟩, rfl, rfl⟩
  go_wp2_with fail
  refine (within_num n kk 8 _ (by omega) (by omega) (by omega)).mono ?_
  rintro e w' ⟨nn, ⟨hn1, hn8⟩, rfl, rfl⟩
  go_wp2_with fail
  refine (new_yes kk nn w (by omega) (by omega) (by omega)).mono ?_
  rintro e w1 ⟨c, rfl, hC, hb1⟩
  have HC := Lib.hid hC
  have HB1 := Lib.hid hb1
  clear hC hb1
  go_wp2_with fail
  refine (within_num size 1 9 _ (by omega) (by omega) (by omega)).mono ?_
  rintro e w' ⟨s, ⟨hs1, hs9⟩, rfl, rfl⟩
  go_wp2_with fail
  refine (made_any w.heap.size kk s _ bl w1 (HV.out.below HB1.out) HB1.out.size (by omega) (by omega) hbl).mono ?_
  rintro e w2 ⟨v2, us2, rfl, hO2, hb2⟩
  have HO2 := Lib.hid hO2
  have HB2 := Lib.hid hb2
  obtain ⟨a2, c2, rfl, _⟩ := hO2.slice
  have hml : (madeL kk s bl).length = kk := madeL_length ..
  have HML := Lib.hid hml
  have HLE := Lib.hid (show ∀ j, j < kk → ((madeL kk s bl).getD j []).length = s from madeL_len)
  clear hO2 hb2
  rw [HML.out] at HO2 ⊢
  clear hml
  generalize madeL kk s bl = bs at *
  go_wp2_with fail
  have hslb2 := HO2.out.slbs
  refine (encode_yes w1.heap.size w2.heap.size c kk nn s _ bs w2 (HC.out.below HB2.out) HB2.out.size hslb2 (Nat.le_refl _) HML.out HLE.out (by omega)).mono ?_
  rintro e w3 ⟨v3, us3, rfl, hO3, hb3⟩
  have HB3 := Lib.hid (bthen HB1.out (bthen HB2.out hb3))
  have HC3 := Lib.hid (HC.out.below (bthen HB2.out hb3))
  have HB13 := Lib.hid (bthen HB2.out hb3).size
  have HBS3 := Lib.hid ((HO2.out.below hb3).slbs)
  have hL := encL_length kk nn s bs
  obtain ⟨a3, c3, rfl, hc3⟩ := hO3.slice
  have htop := hO3.top
  rw [hL] at hc3 htop
  obtain ⟨g3, rfl⟩ := own_addr htop (by omega)
  have hrow : ∀ i, i < nn → ∃ gi ci, w3.cell? ⟨g3, i, none⟩ = some (.slice gi s ci) ∧ SlB w3.heap.size w3 (.slice gi s ci) (combo (cf kk i) bs s kk) := fun i hi => by
    obtain ⟨gi, ci, e, hci⟩ := own_slice (hO3.each i (by rw [hL]; exact hi))
    have hs := hO3.slb (i := i) (by rw [hL]; exact hi)
    rw [encL_len i hi] at e
    rw [e] at hs
    have hgd : (encL kk nn bs s).getD i [] = combo (cf kk i) bs s kk := tabL_getD _ hi
    rw [hgd] at hs
    exact ⟨gi, ci, e ▸ hO3.cell (by rw [hL]; exact hi), hs⟩
  have HROW := Lib.hid hrow
  have HG3 := Lib.hid (own_lt htop).2.1
  rw [hL]
  clear hslb2 hO3 hb3 hrow htop hL
  have hmk := make_u8 s (by omega)
  have HMO := Lib.hid (made_own w3 w3.heap.size s (Nat.le_refl _) (by omega))
  go_wp2_with fail
  go_loopw [72] (fun c wr => RelMi s (fun _ => junk) w3 c wr) (fun c _ => s - (intOf c).toNat)
  case atStart => exact ⟨0, Nat.zero_le _, rfl, by have := HMO.out; rw [zeros_tab] at this; rw [tab_congr (g := fun _ => 0) fun i _ => by rw [if_neg (by omega)]]; exact this, one_below _ _⟩
  case round =>
    obtain ⟨y, hy, rfl, hown, hb⟩ := hrel
    clear hmk
    by_cases hys : y < s
    · have hlen : y < (bytesV (tab s fun z => if z < y then junk else 0)).length := by rw [bytesV_length, tab_length]; exact hys
      have d1 := own_cell hown (List.getElem?_eq_getElem hlen)
      have d2 := own_frozen hown y
      have HOW := Lib.hid hown
      have HB := Lib.hid hb
      generalize (bytesV (tab s fun z => if z < y then junk else 0))[y] = cvv at d1
      clear hown hb hlen
      go_wp2_with fail
      go_roundw
      case rel => exact relMi_next hys rfl hj HOW.out HB.out
      case measure => simp [intOf]; omega
    · obtain rfl : y = s := by omega
      have hod := slb_own (l := tab y fun z => if z < y then junk else 0) (by rw [tab_length]; exact hown)
      have hol' : (tab y fun z => if z < y then junk else 0).length = y := tab_length ..
      generalize tab y (fun z => if z < y then junk else 0) = od at *
      have HOD := Lib.hid hod
      have HODL := Lib.hid hol'
      have HB := Lib.hid hb
      clear hown hb hod hol'
      obtain ⟨wo, rfl⟩ : ∃ wo : World, wo = wr := ⟨_, rfl⟩
      go_wp2_with fail
      go_loopw [23, 25, 26] (fun v hvv c wr => RelFo kk nn y wo.heap.size wo.heap.size (fun a => combo (cf kk a) bs y kk) wo v hvv c wr) (fun _ _ c _ => 30 - (intOf c).toNat)
      case atStart =>
        refine ⟨0, 0, [], [], by omega, rfl, rfl, rfl, choose_0 (by omega), World.ownsRow_nil _ _ _ _, (by intro q hq; cases hq), ?_, one_below _ _⟩
        refine ⟨_, _, heap_alloc_new wo _, by rfl, fun a ha => ?_⟩
        match a, ha with
        | 0, _ => rfl
        | 1, _ => rfl
        | 2, _ => rfl
        | 3, _ => rfl
        | 4, _ => rfl
        | 5, _ => rfl
        | 6, _ => rfl
        | 7, _ => rfl
        | a + 8, ha => omega
      case round =>
        obtain ⟨i, hv, qs, tk, hi30, rfl, rfl, hql, hch, hown, hd, hsn, hb⟩ := hrel
        have HQL := Lib.hid hql
        have HCH := Lib.hid hch
        have HOW := Lib.hid hown
        have HD := Lib.hid hd
        have HSN := Lib.hid hsn
        have HBR := Lib.hid hb
        obtain ⟨gp, cp, rfl, _⟩ := own_slice' hown
        clear hql hch hown hd hsn hb
        have HBW := Lib.hid (show Below w.heap.size w wr from bthen HB3.out (bthen HB.out HBR.out))
        have hn1' : (0 : Int) ≤ (nn : Int) - 1 := by omega
        by_cases hcond : i < ol.length ∧ i < 30
        · obtain ⟨hio, hi3⟩ := hcond
          obtain ⟨b, o, cap, e1, hco⟩ := HOL.out.num (Nat.le_refl _) HBW.out hio
          injection e1 with e1 _ e2
          subst e1 e2
          generalize ol.getD i 0 = oi at *
          have hio' : (i : Int) < ol.length := by omega
          have hi3' : (i : Int) < 30 := by omega
          go_wp2_with fail
          refine (within_num oi 0 ((nn : Int) - 1) _ (by omega) (by omega) (by omega)).mono ?_
          rintro e w' ⟨at_, ⟨ha0, han⟩, rfl, rfl⟩
          have han' : at_ < nn := by omega
          have ha8 : at_ < 8 := by omega
          have ha8' : (at_ : Int) < 8 := by omega
          obtain ⟨t1, t2, t3⟩ := HSN.out.cell ha8
          have HS1 := Lib.hid (show i + 1 ≤ 100000 by omega)
          have HOKO := Lib.hid (show 0 ≤ (((at_ : Int), od) : Pt).1 ∧ (((at_ : Int), od) : Pt).1 < nn ∧ (((at_ : Int), od) : Pt).2.length = y from ⟨by simp, by simp; omega, HODL.out⟩)
          by_cases hlt : hv < kk
          · have hlt' : (hv : Int) < kk := by omega
            cases hm : hasP tk (at_ : Int)
            · rw [hm] at t1
              have HM := Lib.hid hm
              obtain ⟨gi, ci, u1, u2⟩ := HROW.out at_ han'
              have u3 := ((bthen HB.out HBR.out).cell (p := ⟨g3, at_, none⟩) HG3.out).trans u1
              have HU := Lib.hid ((u2.below (Below.mono (bthen HB.out HBR.out) (Nat.le_refl _))).wider HB.out.size)
              have hva : (at_ : Int) < nn := by omega
              have hg3n : g3 ≠ wo.heap.size := by have := HG3.out; have := HB.out.size; omega
              have u4 : (wr.setCell ⟨wo.heap.size, at_, none⟩ (.bool true)).cell? ⟨g3, at_, none⟩ = some (.slice gi y ci) := by
                rw [World.cell?_of_block (a := ⟨g3, at_, none⟩) ((grownBy_set wr wo.heap.size at_ (.bool true)).block g3 (World.block_lt_of_cell? wr _ u3) (fun e => hg3n (by injection e)))]
                exact u3
              clear u1 u2 hm
              go_wp2_with fail
              go_region
              all_goals
                obtain ⟨wx, hwx⟩ : ∃ wx, wx = (wr.setCell ⟨wo.heap.size, at_, none⟩ (.bool true)).drew := ⟨_, rfl⟩
                have HX : Hid (Below wo.heap.size wr wx ∧ Seen wx wo.heap.size (tk ++ [((at_ : Int), combo (cf kk at_) bs y kk)]) ∧ wx.ownsRow (wo.heap.size + 1) 35 2 (.slice gp i cp) i (qs.flatMap cellsPt)) := Lib.hid (by
                  rw [hwx]
                  exact ⟨((Below.refl _ _).setCell (by exact Nat.le_refl _) _).drew, Seen.below (HSN.out.set ha8 rfl) (Below.refl _ _).drew, own_below (World.ownsRow.kept HOW.out (grownBy_set wr wo.heap.size at_ (.bool true)) (Or.inr fun e => by have := (HOW.out.lt _ e).1; omega)) (Below.refl _ _).drew⟩)
                rw [← hwx]
                clear hwx t1 t2 t3 u3
                have HOX := Lib.hid (fun o => HX.out.2.2.alloc o)
                have HS2 := Lib.hid (fun o => show wo.heap.size + 1 ≤ (wx.alloc o).heap.size by have := (HX.out.2.1.cell (a := 0) (by omega)).2.2; simp; omega)
                go_wp2_with (at_builtin; refine wpList_append_part _ rfl (.tmp 115) (.tmp 119) rfl (wo.heap.size + 1) _ _ _ rfl (HOX.out _) _ (.int .i64 at_) (.slice gi y ci) rfl (new_cells _ _ _ _ _ rfl) (new_cells _ _ _ _ _ rfl) rfl rfl HS1.out (HS2.out _) ?_; intro v5 w5 hown5 hg5; have HO5 := Lib.hid hown5; have HG5 := Lib.hid hg5; clear hown5 hg5)
                go_roundw
                case rel => exact relFo_next hi3 HQL.out (Nat.le_refl _) (Nat.le_refl _) HOW.out HD.out HBR.out (HCH.out.take hlt HM.out ⟨by simp, by simp; omega, combo_length ..⟩ (by simp)) HX.out.1 HX.out.2.1 HU.out (one_below _ _) HO5.out HG5.out
                case measure => simp [intOf]; omega
            · rw [hm] at t1
              have HM := Lib.hid hm
              clear hm
              have HOX := Lib.hid (fun o => HOW.out.alloc o)
              have HS2 := Lib.hid (fun o => show wo.heap.size + 1 ≤ (wr.alloc o).heap.size by simp; omega)
              go_wp2_with (at_builtin; refine wpList_append_part _ rfl (.tmp 115) (.tmp 119) rfl (wo.heap.size + 1) _ _ _ rfl (HOX.out _) _ (.int .i64 at_) (.slice (some ⟨w3.heap.size, 0, none⟩) y y) rfl (new_cells _ _ _ _ _ rfl) (new_cells _ _ _ _ _ rfl) rfl rfl HS1.out (HS2.out _) ?_; intro v5 w5 hown5 hg5; have HO5 := Lib.hid hown5; have HG5 := Lib.hid hg5; clear hown5 hg5)
              go_roundw
              case rel => exact relFo_next hi3 HQL.out (Nat.le_refl _) (Nat.le_refl _) HOW.out HD.out HBR.out (HCH.out.seen hlt HM.out HOKO.out) (Below.refl _ _) HSN.out (HOD.out.below HBR.out) (one_below _ _) HO5.out HG5.out
              case measure => simp [intOf]; omega
          · have hlt' : ¬ (hv : Int) < kk := by omega
            have HOX := Lib.hid (fun o => HOW.out.alloc o)
            have HS2 := Lib.hid (fun o => show wo.heap.size + 1 ≤ (wr.alloc o).heap.size by simp; omega)
            go_wp2_with (at_builtin; refine wpList_append_part _ rfl (.tmp 115) (.tmp 119) rfl (wo.heap.size + 1) _ _ _ rfl (HOX.out _) _ (.int .i64 at_) (.slice (some ⟨w3.heap.size, 0, none⟩) y y) rfl (new_cells _ _ _ _ _ rfl) (new_cells _ _ _ _ _ rfl) rfl rfl HS1.out (HS2.out _) ?_; intro v5 w5 hown5 hg5; have HO5 := Lib.hid hown5; have HG5 := Lib.hid hg5; clear hown5 hg5)
            go_roundw
            case rel => exact relFo_next hi3 HQL.out (Nat.le_refl _) (Nat.le_refl _) HOW.out HD.out HBR.out (HCH.out.more hlt HOKO.out) (Below.refl _ _) HSN.out (HOD.out.below HBR.out) (one_below _ _) HO5.out HG5.out
            case measure => simp [intOf]; omega
        · have hSP : SlP wr.heap.size wr (.slice gp i cp) (qs.map (·.1)) := slp_own (by rw [HQL.out]; exact HOW.out) HD.out HBR.out.size
          have hlm : (qs.map (·.1)).length = i := by rw [List.length_map, HQL.out]
          have hCr := HC3.out.below (Below.mono (bthen HB.out HBR.out) HB13.out)
          have hbw : w1.heap.size ≤ wr.heap.size := Nat.le_trans HB13.out (bthen HB.out HBR.out).size
          by_cases hlt : hv < kk
          · obtain ⟨f1, f2, f3⟩ := HCH.out.few hlt
            have HDF := Lib.hid (decode_few w1.heap.size wr.heap.size c kk nn _ _ wr hCr hbw hSP (Nat.le_refl _) (by omega) HCH.out.wrong (by omega))
            have hlt' : (hv : Int) < kk := by omega
            clear hSP hlm hCr hbw f1 f2 f3
            generalize (diffP (qs.map (·.1))).length = d at *
            by_cases hio : i < ol.length
            · have hi3' : ¬ (i : Int) < 30 := by omega
              have hio' : (i : Int) < ol.length := by omega
              go_wp2_with fail
              refine HDF.out.mono ?_
              rintro e w5 ⟨rfl, hb5⟩
              have HB5 := Lib.hid (bthen HBW.out hb5)
              clear hb5
              go_wp2_with fail
              refine (kind_err [(opDecode, (d : Int))] 3 w5 _ rfl (HT.out.below HB5.out)).mono ?_
              rintro e w6 ⟨rfl, hb6⟩
              have HB6 := Lib.hid (bthen HB5.out hb6)
              clear hb6
              go_wp2_with fail
              refine (code_runs w6 (HT.out.below HB6.out)).mono ?_
              rintro e w7 ⟨rfl, hb7⟩
              have HB7 := Lib.hid (bthen HB6.out hb7)
              clear hb7
              go_wp2_with fail
              go_ret
              exact ⟨rfl, HB7.out⟩
            · have hio' : ¬ (i : Int) < ol.length := by omega
              go_wp2_with fail
              refine HDF.out.mono ?_
              rintro e w5 ⟨rfl, hb5⟩
              have HB5 := Lib.hid (bthen HBW.out hb5)
              clear hb5
              go_wp2_with fail
              refine (kind_err [(opDecode, (d : Int))] 3 w5 _ rfl (HT.out.below HB5.out)).mono ?_
              rintro e w6 ⟨rfl, hb6⟩
              have HB6 := Lib.hid (bthen HB5.out hb6)
              clear hb6
              go_wp2_with fail
              refine (code_runs w6 (HT.out.below HB6.out)).mono ?_
              rintro e w7 ⟨rfl, hb7⟩
              have HB7 := Lib.hid (bthen HB6.out hb7)
              clear hb7
              go_wp2_with fail
              go_ret
              exact ⟨rfl, HB7.out⟩
          · have hk : hv = kk := by have := HCH.out.le; omega
            obtain ⟨f1, f2⟩ := HCH.out.full hk
            have hlt' : ¬ (hv : Int) < kk := by omega
            have HDY := Lib.hid (decode_yes w1.heap.size wr.heap.size c kk nn y _ _ wr hCr hbw hSP (Nat.le_refl _) (by omega) HCH.out.wrong (by omega) (fun p hp => (HCH.out.ok p hp).2.2) (by omega))
            have HEQ := Lib.hid (fun bs' (h : BlocksOf kk y (chosen kk (qs.map (·.1))) bs') => show bs' = bs from decoded_eq (by omega) ((diffP_nodup _).sublist ((List.take_sublist kk _).map _)) (by rw [List.length_take]; omega) (fun p hp => by have := HCH.out.ok p (diffP_sub _ p (List.mem_of_mem_take hp)); omega) h HML.out HLE.out f2)
            have HBSr := Lib.hid (HBS3.out.below (bthen HB.out HBR.out))
            clear hSP hlm hCr hbw f1 f2 hk
            by_cases hio : i < ol.length
            · have hi3' : ¬ (i : Int) < 30 := by omega
              have hio' : (i : Int) < ol.length := by omega
              go_wp2_with fail
              refine HDY.out.mono ?_
              rintro e w5 ⟨v5, bs5, rfl, hs5, hb5, hbo⟩
              obtain rfl := HEQ.out _ hbo
              have HS5 := Lib.hid hs5
              have HBSx := Lib.hid ((HBSr.out.below (Below.mono hb5 (bthen HB.out HBR.out).size)).wider (Nat.le_trans (bthen HB.out HBR.out).size hb5.size))
              have HB5 := Lib.hid (bthen HBW.out hb5)
              obtain ⟨a5, c5, rfl, _⟩ := hs5.len
              rw [HML.out] at HS5
              have HSM := Lib.hid (same_any w5.heap.size _ _ _ _ w5 HS5.out HBSx.out (Nat.le_refl _) (by rw [HML.out]; omega) (fun l hl => by
                obtain ⟨i, hi, rfl⟩ := List.mem_iff_getElem.1 hl
                have h1 := HLE.out i (by rw [← HML.out]; exact hi)
                rw [show bs5.getD i [] = bs5[i] by simp [List.getD, hi]] at h1
                omega))
              rw [decide_eq_true rfl] at HSM
              clear hs5 hb5 hbo
              rw [HML.out]
              go_wp2_with fail
              refine HSM.out.mono ?_
              rintro e w6 ⟨rfl, hb6⟩
              have HB6 := Lib.hid (bthen HB5.out hb6)
              clear hb6
              go_wp2_with fail
              refine (code_runs w6 (HT.out.below HB6.out)).mono ?_
              rintro e w7 ⟨rfl, hb7⟩
              have HB7 := Lib.hid (bthen HB6.out hb7)
              clear hb7
              go_wp2_with fail
              go_ret
              exact ⟨rfl, HB7.out⟩
            · have hio' : ¬ (i : Int) < ol.length := by omega
              go_wp2_with fail
              refine HDY.out.mono ?_
              rintro e w5 ⟨v5, bs5, rfl, hs5, hb5, hbo⟩
              obtain rfl := HEQ.out _ hbo
              have HS5 := Lib.hid hs5
              have HBSx := Lib.hid ((HBSr.out.below (Below.mono hb5 (bthen HB.out HBR.out).size)).wider (Nat.le_trans (bthen HB.out HBR.out).size hb5.size))
              have HB5 := Lib.hid (bthen HBW.out hb5)
              obtain ⟨a5, c5, rfl, _⟩ := hs5.len
              rw [HML.out] at HS5
              have HSM := Lib.hid (same_any w5.heap.size _ _ _ _ w5 HS5.out HBSx.out (Nat.le_refl _) (by rw [HML.out]; omega) (fun l hl => by
                obtain ⟨i, hi, rfl⟩ := List.mem_iff_getElem.1 hl
                have h1 := HLE.out i (by rw [← HML.out]; exact hi)
                rw [show bs5.getD i [] = bs5[i] by simp [List.getD, hi]] at h1
                omega))
              rw [decide_eq_true rfl] at HSM
              clear hs5 hb5 hbo
              rw [HML.out]
              go_wp2_with fail
              refine HSM.out.mono ?_
              rintro e w6 ⟨rfl, hb6⟩
              have HB6 := Lib.hid (bthen HB5.out hb6)
              clear hb6
              go_wp2_with fail
              refine (code_runs w6 (HT.out.below HB6.out)).mono ?_
              rintro e w7 ⟨rfl, hb7⟩
              have HB7 := Lib.hid (bthen HB6.out hb7)
              clear hb7
              go_wp2_with fail
              go_ret
              exact ⟨rfl, HB7.out⟩
end Go.Proofs.YtikhdfkfkipagaaDoor
