/-
  stavelaw9.SuperOther: the walk (written by gensoth.py).
-/
import Derived.Test.YtfhnkjlegehaoaaGreatDoorSFew
import Derived.Test.YtfhnkjlegehaoaaGreatDoorWhere
namespace Go.Proofs.YtfhnkjlegehaoaaGreatDoor
open Go.RowKit Go.Deep Crc Dk Qk Go.Maps Hf
/-- The other volume's configuration. -/
def dOf (c : Cf) : Cf := ⟨99, c.k, c.n, c.t, c.s⟩
theorem dOf_right {c : Cf} (h : CfRight c) : CfRight (dOf c) := ⟨(by decide : (1 : Int) ≤ 99), (by decide : (99 : Int) ≤ 2147483647), h.2.2⟩
theorem dOf_fits {c : Cf} {q : Rk} (h : c.fits q = true) : (dOf c).fits q = true := by
  obtain ⟨h1, h2, h3⟩ := fits_right h
  unfold Cf.fits
  rw [show cfRightB (dOf c) = true from decide_eq_true (dOf_right h1), show decide ((dOf c).n = (q.n : Int)) = true from decide_eq_true h2, show decide ((dOf c).secs ≤ (q.k : Int)) = true from decide_eq_true h3]; rfl
def pick2 (c : Cf) (b : Bool) : Cf := if b = true then c else dOf c
/-- Behind m rounds: whose superblock each disk has. -/
structure OthI (cf : Cf) (n0 k0 : Nat) (p : Nat → Bool) (m : Nat) (q : Rk) : Prop where
  n : q.n = n0
  k : q.k = k0
  off : q.off = false
  rem : q.rem = -1
  done : ∀ j, j < m → SupAt q (pick2 cf (p j)) j true
  todo : ∀ j, m ≤ j → j < n0 → q.s j = new k0
theorem othI_start (cf : Cf) (n k : Nat) (p : Nat → Bool) : OthI cf n k p 0 (newRk n k) := ⟨rfl, rfl, rfl, rfl, fun _ h => absurd h (by omega), fun _ _ _ => rfl⟩
theorem OthI.put {cf x : Cf} {n k m : Nat} {p : Nat → Bool} {q : Rk} (h : OthI cf n k p m q) (hq : q.Ok) (hx : x = pick2 cf (p m)) (hr : CfRight x) (hf : x.fits q = true) (hm : m < n) :
    Rk.scode q x m = 0 ∧ Rk.sput q x m = q.turn m (supS (new k) x m) ∧ OthI cf n k p (m + 1) (q.turn m (supS (new k) x m)) ∧ cfHas (q.turn m (supS (new k) x m)) m = true ∧ cfOf (q.turn m (supS (new k) x m)) m = x := by
  have hs := h.todo m (Nat.le_refl _) hm
  have hn := h.n
  have hk8 := hq.k8
  have hk0 := hq.k0
  have hn8 := hq.n8
  have hkk := h.k
  obtain ⟨e1, e2⟩ := sput_well hq h.off h.rem (k := m) (by omega) (by rw [hs]; rfl) hf
  rw [hs] at e2
  have ho : (new k).Ok := new_ok (by omega)
  obtain ⟨f1, f2, f3, _⟩ := supS_facts ho (show 1 ≤ k by omega) (c := x) (k := m) (by omega)
  have hsup : SupAt (q.turn m (supS (new k) x m)) x m true := by unfold SupAt; rw [if_pos rfl, turn_at]; exact ⟨f1, f3⟩
  have hok : (q.turn m (supS (new k) x m)).Ok := hq.turn (by rw [f2]; exact hkk.symm)
  refine ⟨e1, e2, ⟨h.n, h.k, h.off, h.rem, fun j hj => ?_, fun j hj hn => by rw [turn_off q _ (by omega)]; exact h.todo j (by omega) hn⟩, (hsup.has hok h.off hr (by show m < q.n; omega)).1, (hsup.has hok h.off hr (by show m < q.n; omega)).2 rfl⟩
  by_cases e : j = m
  · subst e; rw [← hx]; exact hsup
  · exact (h.done j (by omega)).turn e
theorem cnt_pos {p : Nat → Bool} (hp : p 0 = true) : ∀ {m : Nat}, ¬ m = 0 → 1 ≤ cntN p m := by
  intro m
  induction m with
  | zero => intro h; exact absurd rfl h
  | succ k ihk =>
    intro _
    by_cases hk : k = 0
    · subst hk; rw [cnt_yes hp]; omega
    · have := ihk hk
      cases hpk : p k with
      | true => rw [cnt_yes hpk]; omega
      | false => rw [cnt_no hpk]; exact this
theorem OthI.found {cf : Cf} {n k : Nat} {p : Nat → Bool} {q : Rk} (h : OthI cf n k p n q) (hq : q.Ok) (hc : CfRight cf) (hid : cf.id = 7) (hp : p 0 = true) : ∀ m, 1 ≤ m → m ≤ n → fnd q m = (cf, cntN p m) := by
  intro m
  induction m with
  | zero => intro h0; omega
  | succ m ih =>
    intro _ hm
    have hr : CfRight (pick2 cf (p m)) := by unfold pick2; split; exact hc; exact dOf_right hc
    obtain ⟨h1, h2⟩ := (h.done m (by omega)).has hq h.off hr (by rw [h.n]; omega)
    have h2 := h2 rfl
    by_cases h0 : m = 0
    · subst h0
      rw [fnd_yes h1 rfl, h2]
      unfold pick2
      rw [if_pos hp, cnt_yes hp]; rfl
    · have ih := ih (by omega) (by omega)
      have hpos : ¬ (fnd q m).2 = 0 := by
        rw [ih]
        show ¬ cntN p m = 0
        have := cnt_pos hp (m := m) h0
        omega
      cases hpm : p m with
      | true =>
        have e : cfOf q m = (fnd q m).1 := by rw [h2, ih]; unfold pick2; rw [hpm]; rfl
        rw [fnd_same h1 hpos e, ih, cnt_yes hpm]
      | false =>
        have e : ¬ cfOf q m = (fnd q m).1 := by
          rw [h2, ih]
          unfold pick2
          rw [hpm]
          intro e
          have h := congrArg Cf.id e
          rw [hid] at h
          have h : (99 : Int) = 7 := h
          exact absurd h (by decide)
        rw [fnd_other h1 hpos e, ih, cnt_no hpm]
def OwS (cf : Cf) (b b2 : Nat) (w w' : World) : Prop := CfB cf b w' ∧ CfB (dOf cf) b2 w' ∧ b < w'.heap.size ∧ b2 < w'.heap.size ∧ Below w.heap.size w w'
theorem OwS.drew {cf : Cf} {b b2 : Nat} {w w' : World} (h : OwS cf b b2 w w') : OwS cf b b2 w w'.drew := ⟨h.1, h.2.1, h.2.2.1, h.2.2.2.1, h.2.2.2.2.drew⟩
theorem OwS.then {cf : Cf} {b b2 : Nat} {w w1 w2 : World} (h : OwS cf b b2 w w1) (hb : Below w1.heap.size w1 w2) : OwS cf b b2 w w2 := ⟨h.1.below h.2.2.1 hb, h.2.1.below h.2.2.2.1 hb, Nat.lt_of_lt_of_le h.2.2.1 hb.size, Nat.lt_of_lt_of_le h.2.2.2.1 hb.size, bthen h.2.2.2.2 hb⟩
theorem OwS.made {cf : Cf} {b b2 : Nat} {w w1 w2 : World} {c : Lc} {q : Rk} (h : OwS cf b b2 w w1) (hq : QS w1 c q w2) : OwS cf b b2 w w2 := h.then hq.base
def RelOt (cf : Cf) (n k : Nat) (p : Nat → Bool) (w1 : World) (c : Lc) (v x : Value) (wr : World) : Prop :=
  ∃ (m : Nat) (q : Rk), m ≤ n ∧ x = .int .i64 m ∧ v = .int .i64 (cntN p m : Int) ∧ OthI cf n k p m q ∧ QS w1 c q wr
theorem QS.sget {w0 w : World} {c : Lc} {q : Rk} (h : QS w0 c q w) (i : Int) : Calls Tryz.prog 26 #[.pointer (some ⟨c.r, 0, none⟩), .int .i64 i] w (CfBit (cfOf q i) (cfHas q i) w) := sget_any w h.rack i
theorem one_test (b m : Nat) (h : b < 18446744073709551616) : (Go.bits .and .u64 ((b : Int) / 2 ^ m) 1 == 1) = decide (b / 2 ^ m % 2 = 1) := by
  have e : ((b : Int) / 2 ^ m) = ((b / 2 ^ m : Nat) : Int) := by simp
  rw [e, u64_and_one _ (Nat.lt_of_le_of_lt (Nat.div_le_self _ _) h)]
  generalize b / 2 ^ m % 2 = x
  by_cases hx : x = 1
  · subst hx; rfl
  · rw [decide_eq_false hx]; simp; omega
set_option maxHeartbeats 8000000 in
set_option maxRecDepth 100000 in
theorem other_any (a0 a1 : Int) (g : Nat) (hg : g < 18446744073709551616) (w : World) (hT : Typ w) : Calls Tryz.prog 7 #[.int .i64 a0, .int .i64 a1, .int .u64 (g : Int)] w (Bit true w) := by
  have HT := Lib.hid hT
  have HG := Lib.hid hg
  have hgd := guard_conf
  obtain ⟨p, hp⟩ : ∃ p : Nat → Bool, ∀ j, p j = (decide (j = 0) || !decide (g / 2 ^ j % 2 = 1)) := ⟨_, fun _ => rfl⟩
  have HPP := Lib.hid hp
  clear hT hg hp
  go_enter Tryz.func7, Tryz.ntmps7
  go_wp2_with fail
  refine (fixed_any a0 a1 2 1 w (by omega) (by omega)).mono ?_
  rintro e w1 ⟨cf, ⟨hcf, -, -⟩, rfl, hb1⟩
  have HCF := Lib.hid hcf
  obtain ⟨N, hN⟩ := Int.eq_ofNat_of_zero_le (show 0 ≤ cf.n by have := hcf.2; omega)
  obtain ⟨x1, x2, _⟩ := hcf.right.secs
  obtain ⟨SC, hSC⟩ := Int.eq_ofNat_of_zero_le (show 0 ≤ cf.secs by omega)
  have HN := Lib.hid hN
  have HNR := Lib.hid (show 1 ≤ N ∧ N ≤ 8 ∧ 1 ≤ SC ∧ SC ≤ 128 by have := hcf.2; omega)
  have CS := Lib.hid (fun w => ssectors_any cf w hcf.right)
  have CN := Lib.hid (fun w => show Calls Tryz.prog 9 #[.int .i64 cf.n, .int .i64 cf.secs] w (QNew w N SC) from by rw [hN, hSC]; exact qs_new N SC w HNR.out.1 HNR.out.2.1 HNR.out.2.2.1 HNR.out.2.2.2)
  have HFITS := Lib.hid (fun (q : Rk) (h1 : q.n = N) (h2 : q.k = SC) => show cf.fits q = true from by
    unfold Cf.fits
    rw [show cfRightB cf = true from decide_eq_true hcf.right, h1, h2, hN, hSC, decide_eq_true rfl, decide_eq_true (Int.le_refl _)]; rfl)
  have H2 := Lib.hid (show OwS cf w1.heap.size (w1.heap.size + 1) w ((w1.alloc (.cells (cfA cf) 23)).alloc (.cells #[.int .i64 99, .int .i64 cf.k, .int .i64 cf.n, .int .i64 cf.t, .int .i64 cf.s] 23)) from
    ⟨(cfB_new w1 cf).below (B := w1.heap.size + 1) (by omega) ((one_below _ _).mono (by simp)), by have := cfB_new (w1.alloc (.cells (cfA cf) 23)) (dOf cf); simpa [dOf] using this, by simp; omega, by simp, balloc (balloc hb1 _) _⟩)
  clear hb1 hcf x1 x2 hN hSC
  go_wp2_with fail
  have h2 := H2.out
  generalize (w1.alloc (.cells (cfA cf) 23)).alloc (.cells #[.int .i64 99, .int .i64 cf.k, .int .i64 cf.n, .int .i64 cf.t, .int .i64 cf.s] 23) = w2 at *
  generalize hb2 : w1.heap.size + 1 = b2 at *
  generalize w1.heap.size = b at *
  have d0 : ∀ w', OwS cf b b2 w w' → w'.cell? ⟨b, 0, none⟩ = some (.int .i64 cf.id) := fun w' h => h.1.cell 0
  have d1 : ∀ w', OwS cf b b2 w w' → w'.cell? ⟨b, 1, none⟩ = some (.int .i64 cf.k) := fun w' h => h.1.cell 1
  have d2 : ∀ w', OwS cf b b2 w w' → w'.cell? ⟨b, 2, none⟩ = some (.int .i64 cf.n) := fun w' h => h.1.cell 2
  have d3 : ∀ w', OwS cf b b2 w w' → w'.cell? ⟨b, 3, none⟩ = some (.int .i64 cf.t) := fun w' h => h.1.cell 3
  have d4 : ∀ w', OwS cf b b2 w w' → w'.cell? ⟨b, 4, none⟩ = some (.int .i64 cf.s) := fun w' h => h.1.cell 4
  refine wp_region_noPanic ?_
  refine wp_region_held_drew (S := (fun w' => OwS cf b b2 w w')) (by kernel_rfl) h2.drew (fun hHeld => ?_)
  refine wpAnyH_take (i := 0) (oi := ⟨some 27, _, _, _, _, _⟩) (v := ?_) rfl (by kernel_rfl) (by kernel_rfl) (by kernel_rfl) (fun _ _ _ h => h) (Or.inl ⟨by rfl, ?_⟩) hHeld ?_
  rotate_left
  · intro w hSw; (go_simp; try with_reducible rfl)
  simp only [Act.put, List.setIfInBounds_toArray, List.set_cons_zero, List.set_cons_succ]
  refine wpAnyH_take (i := 1) (oi := ⟨some 28, _, _, _, _, _⟩) (v := ?_) rfl (by kernel_rfl) (by kernel_rfl) (by kernel_rfl) (fun _ _ _ h => h) (Or.inl ⟨by rfl, ?_⟩) hHeld ?_
  rotate_left
  · intro w hSw; (go_simp; try with_reducible rfl)
  simp only [Act.put, List.setIfInBounds_toArray, List.set_cons_zero, List.set_cons_succ]
  refine wpAnyH_take (i := 2) (oi := ⟨some 29, _, _, _, _, _⟩) (v := ?_) rfl (by kernel_rfl) (by kernel_rfl) (by kernel_rfl) (fun _ _ _ h => h) (Or.inl ⟨by rfl, ?_⟩) hHeld ?_
  rotate_left
  · intro w hSw; (go_simp; try with_reducible rfl)
  simp only [Act.put, List.setIfInBounds_toArray, List.set_cons_zero, List.set_cons_succ]
  refine wpAnyH_ready (rs := [3]) (by kernel_rfl) (by simp) (AllReadyH.cons rfl (fun K hK => ?_) AllReadyH.nil)
  go_simp
  refine (CS.out _).mono ?_
  rintro e w3 ⟨rfl, hb3⟩
  have h3 := OwS.then hHeld hb3
  clear hb3
  refine hK.out _ _ h3 (fun _ => ?_)
  clear hK K
  refine wpAnyH_ready (rs := [4]) (by kernel_rfl) (by simp) (AllReadyH.cons rfl (fun K hK => ?_) AllReadyH.nil)
  go_simp
  refine (CN.out _).mono ?_
  rintro e w4 ⟨c, rfl, h4⟩
  have H4 := Lib.hid h4
  have h5 := OwS.made h3 h4
  clear h4
  refine hK.out _ _ h5 (fun _ => ?_)
  clear hK K
  refine wpAnyH_take (i := 5) (oi := ⟨some 26, _, _, _, _, _⟩) (v := ?_) rfl (by kernel_rfl) (by kernel_rfl) (by kernel_rfl) (fun _ _ _ h => h) (Or.inl ⟨by rfl, ?_⟩) h5 ?_
  rotate_left
  · intro w hSw; (go_simp; try with_reducible rfl)
  simp only [Act.put, List.setIfInBounds_toArray, List.set_cons_zero, List.set_cons_succ]
  refine wpAnyH_take (i := 6) (oi := ⟨some 32, _, _, _, _, _⟩) (v := ?_) rfl (by kernel_rfl) (by kernel_rfl) (by kernel_rfl) (fun _ _ _ h => h) (Or.inl ⟨by rfl, ?_⟩) h5 ?_
  rotate_left
  · intro w hSw; (go_simp; try with_reducible rfl)
  simp only [Act.put, List.setIfInBounds_toArray, List.set_cons_zero, List.set_cons_succ]
  refine wpAnyH_take (i := 7) (oi := ⟨some 33, _, _, _, _, _⟩) (v := ?_) rfl (by kernel_rfl) (by kernel_rfl) (by kernel_rfl) (fun _ _ _ h => h) (Or.inl ⟨by rfl, ?_⟩) h5 ?_
  rotate_left
  · intro w hSw; (go_simp; try with_reducible rfl)
  simp only [Act.put, List.setIfInBounds_toArray, List.set_cons_zero, List.set_cons_succ]
  refine wpAnyH_take (i := 8) (oi := ⟨some 9, _, _, _, _, _⟩) (v := ?_) rfl (by kernel_rfl) (by kernel_rfl) (by kernel_rfl) (fun _ _ _ h => h) (Or.inl ⟨by rfl, ?_⟩) h5 ?_
  rotate_left
  · intro w hSw; (go_simp; try with_reducible rfl)
  simp only [Act.put, List.setIfInBounds_toArray, List.set_cons_zero, List.set_cons_succ]
  refine wpAnyH_take (i := 9) (oi := ⟨some 10, _, _, _, _, _⟩) (v := ?_) rfl (by kernel_rfl) (by kernel_rfl) (by kernel_rfl) (fun _ _ _ h => h) (Or.inl ⟨by rfl, ?_⟩) h5 ?_
  rotate_left
  · intro w hSw; (go_simp; try with_reducible rfl)
  simp only [Act.put, List.setIfInBounds_toArray, List.set_cons_zero, List.set_cons_succ]
  refine wpAnyH_done (by kernel_rfl) ?_ _
  refine NoPanic.normal ?_
  have HB3 := Lib.hid (show OwS cf b b2 w w3 from h3)
  clear d0 d1 d2 d3 d4 h2 hHeld h3 h5 hb2
  go_wp2_with fail
  go_loopw [11, 12] (fun v x wr => RelOt cf N SC p w3 c v x wr) (fun _ x _ => N - (intOf x).toNat)
  case atStart => exact ⟨0, _, Nat.zero_le _, rfl, rfl, othI_start cf N SC _, H4.out⟩
  case round =>
    obtain ⟨m, q, hm, rfl, rfl, hI, hq⟩ := hrel
    have hBW := HB3.out.then hq.base
    obtain ⟨d0, d1, d2, d3, d4⟩ := hBW.1.cells
    obtain ⟨y0, y1, y2, y3, y4⟩ := hBW.2.1.cells
    have hN := HN.out
    by_cases hlt : m < N
    · have HI := Lib.hid hI
      have HQ := Lib.hid hq
      have HBW := Lib.hid hBW
      have jn : (m : Int) < cf.n := by omega
      have hmu : (m : Int) < 64 := by have := HNR.out; omega
      have hN8 := HNR.out.2.1
      have hcl := cntN_le p m
      have HCY := Lib.hid (cnt_yes (p := p) (m := m))
      have HCN := Lib.hid (cnt_no (p := p) (m := m))
      have hbt : (Go.bits .and .u64 ((g : Int) / 2 ^ m) 1 == 1) = decide (g / 2 ^ m % 2 = 1) := one_test g m HG.out
      have HPM := Lib.hid (HPP.out m)
      generalize cntN p m = cn at *
      clear hI hq hBW hm hN
      by_cases h0 : m = 0
      · have hpm : p m = true := by rw [HPM.out, decide_eq_true h0]; rfl
        have hgt : ¬ 0 < m := by omega
        clear hbt h0
        have HW := Lib.hid (HI.out.put (x := cf) HQ.out.rack.ok (by rw [hpm]; rfl) (HCF.out.right) (HFITS.out q HI.out.n HI.out.k) hlt)
        have HC := Lib.hid (HCY.out hpm)
        clear hpm
        have HX := Lib.hid (show CfB cf wr.heap.size (wr.alloc (.cells (cfA cf) 23)) ∧ wr.heap.size < (wr.alloc (.cells (cfA cf) 23)).heap.size ∧ Far wr.heap.size c q.n from ⟨cfB_new wr cf, by simp, HQ.out.rack.far⟩)
        have HP := Lib.hid (show Calls Tryz.prog 10 #[.pointer (some ⟨c.r, 0, none⟩), .agg (cfA cf), .int .i64 (m : Int)] (wr.alloc (.cells (cfA cf) 23)) (QN w3 c q.n (q.turn m (supS (new SC) cf m)) .nilIface (wr.alloc (.cells (cfA cf) 23))) from by
          have := (HQ.out.below (one_below wr (.cells (cfA cf) 23))).sput cf m
          rwa [HW.out.2.1, serr_nil HW.out.1] at this)
        go_wp2_with fail
        refine HP.out.mono ?_
        rintro e w5 ⟨rfl, h5, hc5⟩
        have H5 := Lib.hid h5
        have HX5 := Lib.hid (show CfB cf wr.heap.size w5 ∧ wr.heap.size < w5.heap.size from ⟨HX.out.1.rc HX.out.2.2 HX.out.2.1 hc5, Nat.lt_of_lt_of_le HX.out.2.1 hc5.size⟩)
        have HGT := Lib.hid (show Calls Tryz.prog 26 #[.pointer (some ⟨c.r, 0, none⟩), .int .i64 (m : Int)] w5 (CfBit cf true w5) from by
          have := h5.sget m
          rwa [HW.out.2.2.2.1, HW.out.2.2.2.2] at this)
        clear h5 hc5
        go_wp2_with fail
        refine HGT.out.mono ?_
        rintro e w6 ⟨rfl, hb6⟩
        have hx7 := (HX5.out.1.below HX5.out.2 hb6).below (B := w6.heap.size) (Nat.lt_of_lt_of_le HX5.out.2 hb6.size) (one_below w6 (.cells (cfA cf) 23))
        obtain ⟨s0, s1, s2, s3, s4⟩ := hx7.cells
        obtain ⟨t0, t1, t2, t3, t4⟩ := (cfB_new w6 cf).cells
        have H7 := Lib.hid ((H5.out.below hb6).below (one_below w6 (.cells (cfA cf) 23)))
        have hne : ∀ w, (binOp .neq 23 (.agg (cfA cf)) (.agg (cfA cf))).run Tryz.prog w = .ok (.bool false) w := fun w => by rw [neql_conf, decide_eq_true rfl]; rfl
        clear hb6 hx7
        go_wp2_with fail
        go_roundw
        case rel => exact ⟨m + 1, _, hlt, by go_num, by rw [HC.out]; rfl, HW.out.2.2.1, H7.out⟩
        case measure => simp [intOf]; omega
      · have hgt : 0 < m := by omega
        cases hbb : decide (g / 2 ^ m % 2 = 1) with
        | true =>
          rw [hbb] at hbt
          have hpm : p m = false := by rw [HPM.out, hbb, decide_eq_false h0]; rfl
          clear hbb h0
          have HW := Lib.hid (HI.out.put (x := dOf cf) HQ.out.rack.ok (by rw [hpm]; rfl) (dOf_right HCF.out.right) (dOf_fits (HFITS.out q HI.out.n HI.out.k)) hlt)
          have HC := Lib.hid (HCN.out hpm)
          clear hpm
          have HX := Lib.hid (show CfB (dOf cf) wr.heap.size (wr.alloc (.cells (cfA (dOf cf)) 23)) ∧ wr.heap.size < (wr.alloc (.cells (cfA (dOf cf)) 23)).heap.size ∧ Far wr.heap.size c q.n from ⟨cfB_new wr (dOf cf), by simp, HQ.out.rack.far⟩)
          have HP := Lib.hid (show Calls Tryz.prog 10 #[.pointer (some ⟨c.r, 0, none⟩), .agg (cfA (dOf cf)), .int .i64 (m : Int)] (wr.alloc (.cells (cfA (dOf cf)) 23)) (QN w3 c q.n (q.turn m (supS (new SC) (dOf cf) m)) .nilIface (wr.alloc (.cells (cfA (dOf cf)) 23))) from by
            have := (HQ.out.below (one_below wr (.cells (cfA (dOf cf)) 23))).sput (dOf cf) m
            rwa [HW.out.2.1, serr_nil HW.out.1] at this)
          obtain ⟨q0, q1, q2, q3, q4⟩ := (HBW.out.then (one_below wr (.cells (cfA cf) 23))).2.1.cells
          go_wp2_with fail
          refine HP.out.mono ?_
          rintro e w5 ⟨rfl, h5, hc5⟩
          have H5 := Lib.hid h5
          have HX5 := Lib.hid (show CfB (dOf cf) wr.heap.size w5 ∧ wr.heap.size < w5.heap.size from ⟨HX.out.1.rc HX.out.2.2 HX.out.2.1 hc5, Nat.lt_of_lt_of_le HX.out.2.1 hc5.size⟩)
          have HGT := Lib.hid (show Calls Tryz.prog 26 #[.pointer (some ⟨c.r, 0, none⟩), .int .i64 (m : Int)] w5 (CfBit (dOf cf) true w5) from by
            have := h5.sget m
            rwa [HW.out.2.2.2.1, HW.out.2.2.2.2] at this)
          clear h5 hc5
          go_wp2_with fail
          refine HGT.out.mono ?_
          rintro e w6 ⟨rfl, hb6⟩
          have hx7 := (HX5.out.1.below HX5.out.2 hb6).below (B := w6.heap.size) (Nat.lt_of_lt_of_le HX5.out.2 hb6.size) (one_below w6 (.cells (cfA (dOf cf)) 23))
          obtain ⟨s0, s1, s2, s3, s4⟩ := hx7.cells
          obtain ⟨t0, t1, t2, t3, t4⟩ := (cfB_new w6 (dOf cf)).cells
          have H7 := Lib.hid ((H5.out.below hb6).below (one_below w6 (.cells (cfA (dOf cf)) 23)))
          have hne : ∀ w, (binOp .neq 23 (.agg (cfA (dOf cf))) (.agg (cfA (dOf cf)))).run Tryz.prog w = .ok (.bool false) w := fun w => by rw [neql_conf, decide_eq_true rfl]; rfl
          clear hb6 hx7
          go_wp2_with fail
          go_roundw
          case rel => exact ⟨m + 1, _, hlt, by go_num, by rw [HC.out], HW.out.2.2.1, H7.out⟩
          case measure => simp [intOf]; omega
        | false =>
          rw [hbb] at hbt
          have hpm : p m = true := by rw [HPM.out, hbb, decide_eq_false h0]; rfl
          clear hbb h0
          have HW := Lib.hid (HI.out.put (x := cf) HQ.out.rack.ok (by rw [hpm]; rfl) (HCF.out.right) (HFITS.out q HI.out.n HI.out.k) hlt)
          have HC := Lib.hid (HCY.out hpm)
          clear hpm
          have HX := Lib.hid (show CfB cf wr.heap.size (wr.alloc (.cells (cfA cf) 23)) ∧ wr.heap.size < (wr.alloc (.cells (cfA cf) 23)).heap.size ∧ Far wr.heap.size c q.n from ⟨cfB_new wr cf, by simp, HQ.out.rack.far⟩)
          have HP := Lib.hid (show Calls Tryz.prog 10 #[.pointer (some ⟨c.r, 0, none⟩), .agg (cfA cf), .int .i64 (m : Int)] (wr.alloc (.cells (cfA cf) 23)) (QN w3 c q.n (q.turn m (supS (new SC) cf m)) .nilIface (wr.alloc (.cells (cfA cf) 23))) from by
            have := (HQ.out.below (one_below wr (.cells (cfA cf) 23))).sput cf m
            rwa [HW.out.2.1, serr_nil HW.out.1] at this)
          go_wp2_with fail
          refine HP.out.mono ?_
          rintro e w5 ⟨rfl, h5, hc5⟩
          have H5 := Lib.hid h5
          have HX5 := Lib.hid (show CfB cf wr.heap.size w5 ∧ wr.heap.size < w5.heap.size from ⟨HX.out.1.rc HX.out.2.2 HX.out.2.1 hc5, Nat.lt_of_lt_of_le HX.out.2.1 hc5.size⟩)
          have HGT := Lib.hid (show Calls Tryz.prog 26 #[.pointer (some ⟨c.r, 0, none⟩), .int .i64 (m : Int)] w5 (CfBit cf true w5) from by
            have := h5.sget m
            rwa [HW.out.2.2.2.1, HW.out.2.2.2.2] at this)
          clear h5 hc5
          go_wp2_with fail
          refine HGT.out.mono ?_
          rintro e w6 ⟨rfl, hb6⟩
          have hx7 := (HX5.out.1.below HX5.out.2 hb6).below (B := w6.heap.size) (Nat.lt_of_lt_of_le HX5.out.2 hb6.size) (one_below w6 (.cells (cfA cf) 23))
          obtain ⟨s0, s1, s2, s3, s4⟩ := hx7.cells
          obtain ⟨t0, t1, t2, t3, t4⟩ := (cfB_new w6 cf).cells
          have H7 := Lib.hid ((H5.out.below hb6).below (one_below w6 (.cells (cfA cf) 23)))
          have hne : ∀ w, (binOp .neq 23 (.agg (cfA cf)) (.agg (cfA cf))).run Tryz.prog w = .ok (.bool false) w := fun w => by rw [neql_conf, decide_eq_true rfl]; rfl
          clear hb6 hx7
          go_wp2_with fail
          go_roundw
          case rel => exact ⟨m + 1, _, hlt, by go_num, by rw [HC.out]; rfl, HW.out.2.2.1, H7.out⟩
          case measure => simp [intOf]; omega
    · obtain rfl : m = N := by omega
      have HFQ := Lib.hid (hI.found hq.rack.ok HCF.out.right HCF.out.1 (HPP.out 0) m HNR.out.1 (Nat.le_refl _))
      have HQN := Lib.hid (show q.n = m ∧ cf.fits q = true from ⟨hI.n, HFITS.out q hI.n hI.k⟩)
      have HQ := Lib.hid hq
      have HF := Lib.hid hq.sfind
      have HOK := Lib.hid (show fndOk q = decide (cf.k ≤ (cntN p m : Int)) from by
        unfold fndOk
        rw [HQN.out.1, HFQ.out, HQN.out.2, Bool.and_true])
      have HFC := Lib.hid (show fndC q = if cf.k ≤ (cntN p m : Int) then cf else zeroC from by
        unfold fndC
        rw [HOK.out, HQN.out.1, HFQ.out]
        by_cases hk : cf.k ≤ (cntN p m : Int)
        · rw [if_pos (decide_eq_true hk), if_pos hk]
        · rw [if_neg (by simpa using hk), if_neg hk])
      have HFE := Lib.hid (show ferr q = if cf.k ≤ (cntN p m : Int) then .nilIface else wrapV opSFind (cntN p m : Int) (errV 7) from by
        unfold ferr
        rw [HOK.out, HQN.out.1, HFQ.out]
        by_cases hk : cf.k ≤ (cntN p m : Int)
        · rw [if_pos (decide_eq_true hk), if_pos hk]
        · rw [if_neg (by simpa using hk), if_neg hk])
      rw [HFC.out, HFE.out] at HF
      have hN8 := HNR.out.2.1
      have hcl := cntN_le p m
      clear HFC HFE HOK HFQ hI hq hBW y0 y1 y2 y3 y4
      generalize cntN p m = cn at *
      have jn : ¬ (m : Int) < cf.n := by omega
      clear hN
      by_cases hk : cf.k ≤ (cn : Int)
      · rw [if_pos hk, if_pos hk] at HF
        go_wp2_with fail
        refine HF.out.mono ?_
        rintro e w5 ⟨rfl, hb5⟩
        have h5 := HQ.out.below hb5
        have h6 := h5.below (one_below w5 (.cells (cfA cf) 23))
        obtain ⟨u0, u1, u2, u3, u4⟩ := (cfB_new w5 cf).cells
        obtain ⟨y0, y1, y2, y3, y4⟩ := (HB3.out.then h6.base).1.cells
        have HB6 := Lib.hid (show Below w.heap.size w (w5.alloc (.cells (cfA cf) 23)) from (HB3.out.then h6.base).2.2.2.2)
        have HRR := Lib.hid (super_runs (w5.alloc (.cells (cfA cf) 23)) (HT.out.below HB6.out))
        have heq : ∀ w, (binOp .eql 23 (.agg (cfA cf)) (.agg (cfA cf))).run Tryz.prog w = .ok (.bool true) w := fun w => by rw [eql_conf, decide_eq_true rfl]
        clear hb5 h5 h6 d0 d1 d2 d3 d4
        go_wp2_with fail
        refine HRR.out.mono ?_
        rintro e w7 ⟨rfl, hb7⟩
        go_wp2_with fail
        go_ret
        exact bit rfl (bthen HB6.out hb7)
      · rw [if_neg hk, if_neg hk] at HF
        go_wp2_with fail
        refine HF.out.mono ?_
        rintro e w5 ⟨rfl, hb5⟩
        have h6 := (HQ.out.below hb5).below (one_below w5 (.cells (cfA zeroC) 23))
        have HC6 := Lib.hid (show CfB zeroC w5.heap.size (w5.alloc (.cells (cfA zeroC) 23)) ∧ w5.heap.size < (w5.alloc (.cells (cfA zeroC) 23)).heap.size from ⟨cfB_new w5 zeroC, by simp⟩)
        obtain ⟨y0, y1, y2, y3, y4⟩ := (HB3.out.then h6.base).1.cells
        have HB6 := Lib.hid (show Below w.heap.size w (w5.alloc (.cells (cfA zeroC) 23)) from (HB3.out.then h6.base).2.2.2.2)
        have CW := Lib.hid (where_err [(opSFind, (cn : Int))] 7 (w5.alloc (.cells (cfA zeroC) 23)) _ rfl (HT.out.below HB6.out))
        unfold chain chain wrapV errV at CW
        unfold wrapV errV
        have heq : ∀ w, (binOp .eql 23 (.agg (cfA zeroC)) (.agg (cfA ⟨0, 0, 0, 0, 0⟩))).run Tryz.prog w = .ok (.bool true) w := fun w => by rw [eql_conf]; rfl
        clear hb5 h6 d0 d1 d2 d3 d4
        go_wp2_with fail
        refine CW.out.mono ?_
        rintro e w7 ⟨rfl, hb7⟩
        have HB7 := Lib.hid (bthen HB6.out hb7)
        have HC7 := Lib.hid (HC6.out.1.below HC6.out.2 hb7)
        have hl7 : w5.heap.size < w7.heap.size := Nat.lt_of_lt_of_le HC6.out.2 hb7.size
        have CK := Lib.hid (kind_err [(opSFind, (cn : Int))] 7 w7 _ rfl (HT.out.below HB7.out))
        unfold chain chain wrapV errV at CK
        have HL7 := Lib.hid hl7
        clear hb7 y0 y1 y2 y3 y4 hl7
        go_wp2_with fail
        refine CK.out.mono ?_
        rintro e w8 ⟨rfl, hb8⟩
        obtain ⟨u0, u1, u2, u3, u4⟩ := (HC7.out.below HL7.out hb8).cells
        have HB8 := Lib.hid (bthen HB7.out hb8)
        have HRR := Lib.hid (super_runs w8 (HT.out.below HB8.out))
        clear hb8
        go_wp2_with fail
        refine HRR.out.mono ?_
        rintro e w9 ⟨rfl, hb9⟩
        go_wp2_with fail
        go_ret
        exact bit rfl (bthen HB8.out hb9)
end Go.Proofs.YtfhnkjlegehaoaaGreatDoor
