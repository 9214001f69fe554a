/-
  stavelaw10.JournalLost: the walk (written by genjlost.py).
-/
import Derived.Test.YtdcpgpgomnpefaaGreatDoorJLaw
import Derived.Deep.RegionHeld3
import Derived.IntWalk
import Derived.Test.YtdcpgpgomnpefaaGreatDoorBase
import Derived.Test.YtdcpgpgomnpefaaGreatDoorLaw
import Derived.Test.YtdcpgpgomnpefaaGreatDoorOpenB
namespace Go.Proofs.YtdcpgpgomnpefaaGreatDoor
open Go.RowKit Go.Deep Crc Dk Qk Go.Maps Hf
theorem JW.log' {w1 : World} {c : Lc} {cf : Cf} {b B n : Nat} {q : Rk} {w : World} (h : JW w1 c cf b B n q w) {x : Rc} {v : Value} (hx : x.is) (hv : SlK w.heap.size w v x.b) :
    Calls Tryz.prog 26 #[.pointer (some ⟨c.r, 0, none⟩), .agg (cfA cf), .agg (rcA x.q x.t v)] w (JN w1 c cf b B n (Rk.jlog q cf x) (Rk.jlogV q cf x) w) := h.step (h.qs.of (jlog_any w h.qs.rack cf x v hx hv)) (jlog_n _ _ _)
def lostR (K s : Nat) : Rc := lawR ((3 : Int) + s) 0 s K
theorem lostR_in {cf : Cf} {N K SC : Nat} (h : CfL cf N K SC 2 3) {s : Nat} (hs : s < 3) : RcIn cf s (lostR K s) :=
  h.rc (by omega) (by omega) (by decide) (by decide) (Or.inr ⟨by omega, by omega⟩)
/-- Behind m records. -/
structure LogsI (cf : Cf) (K N SC m : Nat) (q : Rk) : Prop where
  wl : Wl q cf
  nn : q.n = N
  kk : q.k = SC
  nr : NoRot q
  is : ∀ s, s < m → SlotIs q cf s (lostR K s)
theorem LogsI.next {cf : Cf} {N K SC m : Nat} {q : Rk} (h : LogsI cf K N SC m q) (hL : CfL cf N K SC 2 3) (hm : m < 3) : Rk.jlogC q cf (lostR K m) = 0 ∧ LogsI cf K N SC (m + 1) (Rk.jlog q cf (lostR K m)) := by
  obtain ⟨a1, a2, a3, a4, a5, a6⟩ := h.wl.log (s := m) (by rw [hL.s]; omega) (lostR_in hL hm) (by show (2 : Int) ≤ 3 + m; omega)
  exact ⟨a1, a2, a3.trans h.nn, (jlog_k _ _ _).trans h.kk, a6 h.nr, fun s hs => by
    by_cases e : s = m
    · subst e; exact a4
    · exact a5 s _ e (h.is s (by omega))⟩
/-- Behind m disks, place I of slot X rotten on each. -/
structure LostI (cf : Cf) (K N SC X I m : Nat) (q : Rk) : Prop where
  wl : Wl q cf
  nn : q.n = N
  kk : q.k = SC
  oth : ∀ s, s < 3 → s ≠ X → SlotIs q cf s (lostR K s)
  pl : ∀ d i : Nat, d < N → (i : Int) < cf.k → (i ≠ I ∨ m ≤ d) → (q.s d).read (jsec cf X i) = put (jF (lostR K X) i)
  bad : ∀ d, d < m → d < N → goodB ((q.s d).read (jsec cf X I)) = false
  rot : ∀ d, m ≤ d → d < N → (q.s d).rot (jsec cf X I) = false
theorem lost_start {cf : Cf} {N K SC : Nat} {q : Rk} (h : LogsI cf K N SC 3 q) {X I : Nat} (hX : X < 3) : LostI cf K N SC X I 0 q :=
  ⟨h.wl, h.nn, h.kk, fun s hs _ => h.is s hs, fun d i hd hi _ => h.is X hX d i (by rw [h.nn]; exact hd) hi, fun d hd => absurd hd (by omega), fun d _ hd => h.nr d _ (by rw [h.nn]; exact hd)⟩
theorem LostI.told {cf : Cf} {N K SC X I m : Nat} {q : Rk} (h : LostI cf K N SC X I m q) (hL : CfL cf N K SC 2 3) (hX : X < 3) (hm : m < N) : jcode q cf X = 0 ∧ jnewest q cf X = (lostR K X).q ∧ jwhole q cf X = true ∧ jrecR q cf X = lostR K X := by
  have hr := h.wl.right
  have hx := lostR_in hL hX
  have hs : (X : Int) < cf.s := by rw [hL.s]; omega
  have hk0 : 0 ≤ cf.k := by have := hr.2.2.1; omega
  have hj : ∀ i d : Nat, (i : Int) < cf.k → d < q.n → (i ≠ I ∨ m ≤ d) → jfr q cf X i d = some (jF (lostR K X) i) := fun i d hik hd hne =>
    jfr_put h.wl.ok h.wl.fits hs hik hd h.wl.off (h.wl.alive d hd) hx.is hx.q0 hx.q1 hx.t0 hx.t1 hx.slot (h.pl d i (by rw [← h.nn]; exact hd) hik hne)
  refine slot_one (has_slot h.wl.fits hs) hx.q0 hr.2.2.1 hx.len (fun i d hik hd _ => ?_) fun i hik => ⟨m, by rw [h.nn]; exact hm, h.wl.alive m (by rw [h.nn]; exact hm), hj i m hik (by rw [h.nn]; exact hm) (Or.inr (Nat.le_refl _))⟩
  by_cases e : i ≠ I ∨ m ≤ d
  · exact Or.inr (hj i d hik hd e)
  · have e1 : i = I := by omega
    subst e1
    exact Or.inl (jfr_bad hk0 (Or.inr (Or.inr (h.bad d (by omega) (by rw [← h.nn]; exact hd)))))
theorem LostI.next {cf : Cf} {N K SC X I m : Nat} {q : Rk} (h : LostI cf K N SC X I m q) (hL : CfL cf N K SC 2 3) (hX : X < 3) (hI : (I : Int) < cf.k) (hm : m < N) : Rk.rots q m (jsec cf X I) 7 1 = true ∧ LostI cf K N SC X I (m + 1) (Rk.rotten q m (jsec cf X I) 7 1) := by
  have hx := lostR_in hL hX
  have hs : (X : Int) < cf.s := by rw [hL.s]; omega
  have hpk : jsec cf X I < q.k := jsec_lt h.wl.fits hs hI
  obtain ⟨a1, a2, a3, a4, a5, a6⟩ := h.wl.rot (d := m) (p := jsec cf X I) (a := 7) (x := 1) (by rw [h.nn]; exact hm) hpk (h.rot m (Nat.le_refl _) hm) (by decide) (by decide)
  show Rk.rots q m (jsec cf X I) ((7 : Nat) : Int) 1 = true ∧ LostI cf K N SC X I (m + 1) (Rk.rotten q m (jsec cf X I) ((7 : Nat) : Int) 1)
  generalize Rk.rotten q m (jsec cf X I) ((7 : Nat) : Int) 1 = R at *
  refine ⟨a1, a2, a3.trans h.nn, a4.trans h.kk, fun s hs' hne d i hd hi => ?_, fun d i hd hi hne => ?_, fun d hd hdN => ?_, fun d hd hdN => ?_⟩
  · have hd' : d < N := by rw [← h.nn, ← a3]; exact hd
    rw [(a6 d (jsec cf s i) (Or.inr fun e => hne (jsec_inj hi hI e).1)).1]
    exact h.oth s hs' hne d i (by rw [h.nn]; exact hd') hi
  · rw [(a6 d (jsec cf X i) (by
      rcases hne with e | e
      · exact Or.inr fun e2 => e (jsec_inj hi hI e2).2
      · exact Or.inl (by omega))).1]
    exact h.pl d i hd hi (by omega)
  · by_cases e : d = m
    · subst e
      rw [a5, h.pl d I hm hI (Or.inr (Nat.le_refl _))]
      exact rot_bad (jF_is hx.is I) (hx.frame h.wl.right hI) (by decide) (by decide) (by decide)
    · rw [(a6 d (jsec cf X I) (Or.inl e)).1]; exact h.bad d (by omega) hdN
  · rw [(a6 d (jsec cf X I) (Or.inl (by omega))).2]; exact h.rot d (by omega) hdN
theorem LostI.lost {cf : Cf} {N K SC X I : Nat} {q : Rk} (h : LostI cf K N SC X I N q) (hL : CfL cf N K SC 2 3) (hX : X < 3) (hI : (I : Int) < cf.k) : jslotV q cf X = wrapV opJSlot X (lossV X 0 1) ∧ jwhole q cf X = false := by
  have hs : (X : Int) < cf.s := by rw [hL.s]; omega
  have hh := has_slot (s := X) h.wl.fits hs
  obtain ⟨_, hno⟩ := slot_lost (i := I) hh hI fun d hd _ => jfr_bad (by have := h.wl.right.2.2.1; omega) (Or.inr (Or.inr (h.bad d (by rw [← h.nn]; exact hd) (by rw [← h.nn]; exact hd))))
  exact ⟨jslotV_loss hh hno, (slot_no fun hw => hno hw.2).2.1⟩
theorem LostI.other {cf : Cf} {N K SC X I : Nat} {q : Rk} (h : LostI cf K N SC X I N q) (hL : CfL cf N K SC 2 3) {s : Nat} (hs : s < 3) (hne : s ≠ X) : jslotV q cf s = .nilIface ∧ jwhole q cf s = true := by
  obtain ⟨e1, _, e3, _⟩ := (h.oth s hs hne).told h.wl (by rw [hL.s]; omega) (lostR_in hL hs)
  exact ⟨jslot_nil e1, e3⟩
set_option maxHeartbeats 16000000 in
set_option maxRecDepth 100000 in
theorem lost_any (w : World) (k_ n_ at_ slot_ : Int) (hT : Typ w) : Calls Tryz.prog 9 #[.int .i64 k_, .int .i64 n_, .int .i64 at_, .int .i64 slot_] w (Bit true w) := by
  have HT := Lib.hid hT
  clear hT
  go_enter Tryz.func9, Tryz.ntmps9
  go_wp2_with fail
  refine (fixed_any k_ n_ 2 3 _ (by omega) (by omega)).mono ?_
  rintro e w1 ⟨cf, hcf, rfl, hb1⟩
  obtain ⟨N, K, SC, hL⟩ := cfL_of hcf
  have HL := Lib.hid hL
  have CS := Lib.hid (fun w => ksectors_any cf w hL.ok.right)
  have CN := Lib.hid (fun w => hL.new w)
  have H2 := Lib.hid (show JfS cf w1.heap.size w (w1.alloc (.cells (cfA cf) 24)) from ⟨cfB_new w1 cf, by simp, balloc hb1 _⟩)
  have HNR := Lib.hid hL.r
  clear hb1 hcf hL
  go_wp2_with fail
  have h2 := H2.out
  generalize w1.alloc (.cells (cfA cf) 24) = w2 at *
  generalize w1.heap.size = b at *
  have d0 : ∀ w', JfS cf b w w' → w'.cell? ⟨b, 0, none⟩ = some (.int .i64 cf.id) := fun w' h => h.1.cell 0
  have d1 : ∀ w', JfS cf b w w' → w'.cell? ⟨b, 1, none⟩ = some (.int .i64 cf.k) := fun w' h => h.1.cell 1
  have d2 : ∀ w', JfS cf b w w' → w'.cell? ⟨b, 2, none⟩ = some (.int .i64 cf.n) := fun w' h => h.1.cell 2
  have d3 : ∀ w', JfS cf b w w' → w'.cell? ⟨b, 3, none⟩ = some (.int .i64 cf.t) := fun w' h => h.1.cell 3
  have d4 : ∀ w', JfS cf b w w' → w'.cell? ⟨b, 4, none⟩ = some (.int .i64 cf.s) := fun w' h => h.1.cell 4
  refine wp_region_noPanic ?_
  refine wp_region_held_drew (S := (fun w' => JfS cf b w w')) (by kernel_rfl) h2.drew (fun hHeld => ?_)
  refine wpAnyH_take (i := 0) (oi := ⟨some 31, _, _, _, _, _⟩) (v := ?_) rfl (by kernel_rfl) (by kernel_rfl) (by kernel_rfl) (fun _ _ _ h => h) (Or.inl ⟨by rfl, ?_⟩) hHeld ?_
  rotate_left
  · intro w hSw; (go_simp; try with_reducible rfl)
  simp only [Act.put, List.setIfInBounds_toArray, List.set_cons_zero, List.set_cons_succ]
  refine wpAnyH_take (i := 1) (oi := ⟨some 32, _, _, _, _, _⟩) (v := ?_) rfl (by kernel_rfl) (by kernel_rfl) (by kernel_rfl) (fun _ _ _ h => h) (Or.inl ⟨by rfl, ?_⟩) hHeld ?_
  rotate_left
  · intro w hSw; (go_simp; try with_reducible rfl)
  simp only [Act.put, List.setIfInBounds_toArray, List.set_cons_zero, List.set_cons_succ]
  refine wpAnyH_take (i := 2) (oi := ⟨some 33, _, _, _, _, _⟩) (v := ?_) rfl (by kernel_rfl) (by kernel_rfl) (by kernel_rfl) (fun _ _ _ h => h) (Or.inl ⟨by rfl, ?_⟩) hHeld ?_
  rotate_left
  · intro w hSw; (go_simp; try with_reducible rfl)
  simp only [Act.put, List.setIfInBounds_toArray, List.set_cons_zero, List.set_cons_succ]
  refine wpAnyH_ready (rs := [3]) (by kernel_rfl) (by simp) (AllReadyH.cons rfl (fun K hK => ?_) AllReadyH.nil)
  go_simp
  refine (CS.out _).mono ?_
  rintro e w3 ⟨rfl, hb3⟩
  have h3 := JfS.then hHeld hb3
  clear hb3
  refine hK.out _ _ h3 (fun _ => ?_)
  clear hK K
  refine wpAnyH_ready (rs := [4]) (by kernel_rfl) (by simp) (AllReadyH.cons rfl (fun K hK => ?_) AllReadyH.nil)
  go_simp
  refine (CN.out _).mono ?_
  rintro e w4 ⟨c, rfl, h4⟩
  have H4 := Lib.hid h4
  have h5 := JfS.made h3 h4
  clear h4
  refine hK.out _ _ h5 (fun _ => ?_)
  clear hK K
  refine wpAnyH_take (i := 5) (oi := ⟨some 30, _, _, _, _, _⟩) (v := ?_) rfl (by kernel_rfl) (by kernel_rfl) (by kernel_rfl) (fun _ _ _ h => h) (Or.inl ⟨by rfl, ?_⟩) h5 ?_
  rotate_left
  · intro w hSw; (go_simp; try with_reducible rfl)
  simp only [Act.put, List.setIfInBounds_toArray, List.set_cons_zero, List.set_cons_succ]
  refine wpAnyH_take (i := 6) (oi := ⟨some 36, _, _, _, _, _⟩) (v := ?_) rfl (by kernel_rfl) (by kernel_rfl) (by kernel_rfl) (fun _ _ _ h => h) (Or.inl ⟨by rfl, ?_⟩) h5 ?_
  rotate_left
  · intro w hSw; (go_simp; try with_reducible rfl)
  simp only [Act.put, List.setIfInBounds_toArray, List.set_cons_zero, List.set_cons_succ]
  refine wpAnyH_take (i := 7) (oi := ⟨some 37, _, _, _, _, _⟩) (v := ?_) rfl (by kernel_rfl) (by kernel_rfl) (by kernel_rfl) (fun _ _ _ h => h) (Or.inl ⟨by rfl, ?_⟩) h5 ?_
  rotate_left
  · intro w hSw; (go_simp; try with_reducible rfl)
  simp only [Act.put, List.setIfInBounds_toArray, List.set_cons_zero, List.set_cons_succ]
  refine wpAnyH_take (i := 8) (oi := ⟨some 10, _, _, _, _, _⟩) (v := ?_) rfl (by kernel_rfl) (by kernel_rfl) (by kernel_rfl) (fun _ _ _ h => h) (Or.inl ⟨by rfl, ?_⟩) h5 ?_
  rotate_left
  · intro w hSw; (go_simp; try with_reducible rfl)
  simp only [Act.put, List.setIfInBounds_toArray, List.set_cons_zero, List.set_cons_succ]
  refine wpAnyH_take (i := 9) (oi := ⟨some 11, _, _, _, _, _⟩) (v := ?_) rfl (by kernel_rfl) (by kernel_rfl) (by kernel_rfl) (fun _ _ _ h => h) (Or.inl ⟨by rfl, ?_⟩) h5 ?_
  rotate_left
  · intro w hSw; (go_simp; try with_reducible rfl)
  simp only [Act.put, List.setIfInBounds_toArray, List.set_cons_zero, List.set_cons_succ]
  refine wpAnyH_done (by kernel_rfl) ?_ _
  refine NoPanic.normal ?_
  have HB3 := Lib.hid (show JfS cf b w w3 from h3)
  have HJ4 := Lib.hid (show JW w3 c cf b w4.heap.size N (newRk N SC) w4 from JW.made H4.out HB3.out.1 HB3.out.2.1 (Below.refl _ _))
  have HBW := Lib.hid (fun (q : Rk) (w' : World) (h : JW w3 c cf b w4.heap.size N q w') => show Below w.heap.size w w' from bthen HB3.out.2.2 h.qs.base)
  have HTY := Lib.hid (fun (q : Rk) (w' : World) (h : JW w3 c cf b w4.heap.size N q w') => show Typ w' from HT.out.below (HBW.out q w' h))
  clear d0 d1 d2 d3 d4 h2 hHeld h3 h5
  have HQ0 := Lib.hid (show LogsI cf K N SC 0 (newRk N SC) from ⟨HL.out.wl, rfl, rfl, CfL.nr N SC, fun s hs => absurd hs (by omega)⟩)
  go_wp2_with fail
  go_loopw [12] (fun i wr => ∃ (m : Nat) (q : Rk), m ≤ 3 ∧ i = .int .i64 m ∧ LogsI cf K N SC m q ∧ JW w3 c cf b w4.heap.size N q wr) (fun i _ => 3 - (intOf i).toNat)
  case atStart => exact ⟨0, _, by omega, rfl, HQ0.out, HJ4.out⟩
  case round =>
    obtain ⟨m, q, hm, rfl, hI, hJ⟩ := hrel
    have HI := Lib.hid hI
    have HJ := Lib.hid hJ
    clear hI hJ
    have d0 : ∀ w', CfB cf b w' → w'.cell? ⟨b, 0, none⟩ = some (.int .i64 cf.id) := fun w' h => h.cell 0
    have d1 : ∀ w', CfB cf b w' → w'.cell? ⟨b, 1, none⟩ = some (.int .i64 cf.k) := fun w' h => h.cell 1
    have d2 : ∀ w', CfB cf b w' → w'.cell? ⟨b, 2, none⟩ = some (.int .i64 cf.n) := fun w' h => h.cell 2
    have d3 : ∀ w', CfB cf b w' → w'.cell? ⟨b, 3, none⟩ = some (.int .i64 cf.t) := fun w' h => h.cell 3
    have d4 : ∀ w', CfB cf b w' → w'.cell? ⟨b, 4, none⟩ = some (.int .i64 cf.s) := fun w' h => h.cell 4
    by_cases hlt : m < 3
    · have HBK := Lib.hid (fun w => HL.out.blocks (m : Int) w)
      obtain ⟨n1, n2⟩ := HI.out.next HL.out hlt
      have HN := Lib.hid n2
      have HLG := Lib.hid (fun (w' : World) (v : Value) (hj : JW w3 c cf b w4.heap.size N q w') (hv : SlK w'.heap.size w' v (blks (m : Int) K)) => show Calls Tryz.prog 26 #[.pointer (some ⟨c.r, 0, none⟩), .agg #[.int .i64 cf.id, .int .i64 cf.k, .int .i64 cf.n, .int .i64 cf.t, .int .i64 cf.s], .agg #[.int .i64 ((3 : Int) + m), .int .i64 0, v]] w' (JN w3 c cf b w4.heap.size N (Rk.jlog q cf (lostR K m)) .nilIface w') from by
        have := hj.log' (x := lostR K m) (lawR_is _ _ _ _) hv
        rwa [jlog_nil n1] at this)
      have hw3 : IntKind.i64.wrap ((3 : Int) + m) = 3 + m := IntWalk.i64_in _ (by omega)
      clear n1 n2
      generalize Rk.jlog q cf (lostR K m) = q' at *
      go_wp2_with fail
      refine wp_region_noPanic ?_
      refine wp_region_held_drew (S := (fun w' => CfB cf b w')) (by kernel_rfl) (show CfB cf b wr.drew from HJ.out.cfg) (fun hHeld => ?_)
      refine wpAnyH_take (i := 0) (oi := ⟨some 48, _, _, _, _, _⟩) (v := ?_) rfl (by kernel_rfl) (by kernel_rfl) (by kernel_rfl) (fun _ _ _ h => h) (Or.inl ⟨by rfl, ?_⟩) hHeld ?_
      rotate_left
      · intro w hSw; (go_simp; try with_reducible rfl)
      simp only [Act.put, List.setIfInBounds_toArray, List.set_cons_zero, List.set_cons_succ]
      refine wpAnyH_take (i := 1) (oi := ⟨some 49, _, _, _, _, _⟩) (v := ?_) rfl (by kernel_rfl) (by kernel_rfl) (by kernel_rfl) (fun _ _ _ h => h) (Or.inl ⟨by rfl, ?_⟩) hHeld ?_
      rotate_left
      · intro w hSw; (go_simp; try with_reducible rfl)
      simp only [Act.put, List.setIfInBounds_toArray, List.set_cons_zero, List.set_cons_succ]
      refine wpAnyH_take (i := 2) (oi := ⟨some 50, _, _, _, _, _⟩) (v := ?_) rfl (by kernel_rfl) (by kernel_rfl) (by kernel_rfl) (fun _ _ _ h => h) (Or.inl ⟨by rfl, ?_⟩) hHeld ?_
      rotate_left
      · intro w hSw; (go_simp; try with_reducible rfl)
      simp only [Act.put, List.setIfInBounds_toArray, List.set_cons_zero, List.set_cons_succ]
      refine wpAnyH_take (i := 3) (oi := ⟨some 51, _, _, _, _, _⟩) (v := ?_) rfl (by kernel_rfl) (by kernel_rfl) (by kernel_rfl) (fun _ _ _ h => h) (Or.inl ⟨by rfl, ?_⟩) hHeld ?_
      rotate_left
      · intro w hSw; (go_simp; try with_reducible rfl)
      simp only [Act.put, List.setIfInBounds_toArray, List.set_cons_zero, List.set_cons_succ]
      refine wpAnyH_take (i := 4) (oi := ⟨some 52, _, _, _, _, _⟩) (v := ?_) rfl (by kernel_rfl) (by kernel_rfl) (by kernel_rfl) (fun _ _ _ h => h) (Or.inl ⟨by rfl, ?_⟩) hHeld ?_
      rotate_left
      · intro w hSw; (go_simp; try with_reducible rfl)
      simp only [Act.put, List.setIfInBounds_toArray, List.set_cons_zero, List.set_cons_succ]
      refine wpAnyH_take (i := 5) (oi := ⟨some 53, _, _, _, _, _⟩) (v := ?_) rfl (by kernel_rfl) (by kernel_rfl) (by kernel_rfl) (fun _ _ _ h => h) (Or.inl ⟨by rfl, ?_⟩) hHeld ?_
      rotate_left
      · intro w hSw; (go_simp; try with_reducible rfl)
      simp only [Act.put, List.setIfInBounds_toArray, List.set_cons_zero, List.set_cons_succ]
      refine wpAnyH_take (i := 6) (oi := ⟨some 54, _, _, _, _, _⟩) (v := ?_) rfl (by kernel_rfl) (by kernel_rfl) (by kernel_rfl) (fun _ _ _ h => h) (Or.inl ⟨by rfl, ?_⟩) hHeld ?_
      rotate_left
      · intro w hSw; (go_simp; try with_reducible rfl)
      simp only [Act.put, List.setIfInBounds_toArray, List.set_cons_zero, List.set_cons_succ]
      refine wpAnyH_ready (rs := [7]) (by kernel_rfl) (by simp) (AllReadyH.cons rfl (fun K hK => ?_) AllReadyH.nil)
      go_simp
      refine (HBK.out _).mono ?_
      rintro e w5 ⟨v, rfl, hv, hb5⟩
      have HV5 := Lib.hid (slK_own hv (blks_is _ _) rfl)
      have HJ5 := Lib.hid (HJ.out.drew.below hb5)
      have h5 : CfB cf b w5 := HJ5.out.cfg
      obtain ⟨gv, cv, rfl, -⟩ := own_slice' hv
      clear hv hb5
      refine hK.out _ _ h5 (fun _ => ?_)
      clear hK K
      refine wpAnyH_take (i := 8) (oi := ⟨some 56, _, _, _, _, _⟩) (v := ?_) rfl (by kernel_rfl) (by kernel_rfl) (by kernel_rfl) (fun _ _ _ h => h) (Or.inl ⟨by rfl, ?_⟩) h5 ?_
      rotate_left
      · intro w hSw; (go_simp; try with_reducible rfl)
      simp only [Act.put, List.setIfInBounds_toArray, List.set_cons_zero, List.set_cons_succ]
      refine wpAnyH_ready (rs := [9]) (by kernel_rfl) (by simp) (AllReadyH.cons rfl (fun K hK => ?_) AllReadyH.nil)
      go_simp
      refine (HLG.out w5 _ HJ5.out HV5.out).mono ?_
      rintro e w6 ⟨rfl, hj6, _⟩
      have HJ6 := Lib.hid hj6
      have h6 : CfB cf b w6 := hj6.cfg
      clear hj6
      refine hK.out _ _ h6 (fun _ => ?_)
      clear hK K
      refine wpAnyH_take (i := 10) (oi := ⟨some 58, _, _, _, _, _⟩) (v := ?_) rfl (by kernel_rfl) (by kernel_rfl) (by kernel_rfl) (fun _ _ _ h => h) (Or.inl ⟨by rfl, ?_⟩) h6 ?_
      rotate_left
      · intro w hSw; (go_simp; try with_reducible rfl)
      simp only [Act.put, List.setIfInBounds_toArray, List.set_cons_zero, List.set_cons_succ]
      refine wpAnyH_done (by kernel_rfl) ?_ _
      refine NoPanic.normal ?_
      go_wp2_with fail
      go_roundw
      case rel => exact ⟨m + 1, q', by omega, by go_num, HN.out, HJ6.out⟩
      case measure => simp [intOf]; omega
    · obtain rfl : m = 3 := by omega
      obtain ⟨r1, r2, r3, r4, r5, r6, r7⟩ := HNR.out
      have hkK : cf.k = (K : Int) := HL.out.k
      have hwk : IntKind.i64.wrap ((K : Int) - 1) = K - 1 := IntWalk.i64_in _ (by omega)
      go_wp2_with fail
      refine wp_region_noPanic ?_
      refine wp_region_held_drew (S := (fun w' => CfB cf b w')) (by kernel_rfl) (show CfB cf b wr.drew from HJ.out.cfg) (fun hHeld => ?_)
      refine wpAnyH_take (i := 0) (oi := ⟨some 59, _, _, _, _, _⟩) (v := ?_) rfl (by kernel_rfl) (by kernel_rfl) (by kernel_rfl) (fun _ _ _ h => h) (Or.inl ⟨by rfl, ?_⟩) hHeld ?_
      rotate_left
      · intro w hSw; (go_simp; try with_reducible rfl)
      simp only [Act.put, List.setIfInBounds_toArray, List.set_cons_zero, List.set_cons_succ]
      refine wpAnyH_take (i := 2) (oi := ⟨some 61, _, _, _, _, _⟩) (v := ?_) rfl (by kernel_rfl) (by kernel_rfl) (by kernel_rfl) (fun _ _ _ h => h) (Or.inl ⟨by rfl, ?_⟩) hHeld ?_
      rotate_left
      · intro w hSw; (go_simp; try with_reducible rfl)
      simp only [Act.put, List.setIfInBounds_toArray, List.set_cons_zero, List.set_cons_succ]
      refine wpAnyH_take (i := 3) (oi := ⟨some 62, _, _, _, _, _⟩) (v := ?_) rfl (by kernel_rfl) (by kernel_rfl) (by kernel_rfl) (fun _ _ _ h => h) (Or.inl ⟨by rfl, ?_⟩) hHeld ?_
      rotate_left
      · intro w hSw; (go_simp; try with_reducible rfl)
      simp only [Act.put, List.setIfInBounds_toArray, List.set_cons_zero, List.set_cons_succ]
      refine wpAnyH_take (i := 4) (oi := ⟨some 63, _, _, _, _, _⟩) (v := ?_) rfl (by kernel_rfl) (by kernel_rfl) (by kernel_rfl) (fun _ _ _ h => h) (Or.inl ⟨by rfl, ?_⟩) hHeld ?_
      rotate_left
      · intro w hSw; (go_simp; try with_reducible rfl)
      simp only [Act.put, List.setIfInBounds_toArray, List.set_cons_zero, List.set_cons_succ]
      refine wpAnyH_take (i := 5) (oi := ⟨some 64, _, _, _, _, _⟩) (v := ?_) rfl (by kernel_rfl) (by kernel_rfl) (by kernel_rfl) (fun _ _ _ h => h) (Or.inl ⟨by rfl, ?_⟩) hHeld ?_
      rotate_left
      · intro w hSw; (go_simp; try with_reducible rfl)
      simp only [Act.put, List.setIfInBounds_toArray, List.set_cons_zero, List.set_cons_succ]
      refine wpAnyH_ready (rs := [1]) (by kernel_rfl) (by simp) (AllReadyH.cons rfl (fun K hK => ?_) AllReadyH.nil)
      go_simp
      refine (within_int _ _ _ _ (by omega) (by omega) (by omega)).mono ?_
      rintro e w7 ⟨xx, hxx, rfl, hw7⟩
      subst hw7
      have HXX := Lib.hid hxx
      clear hxx
      refine hK.out _ _ hHeld (fun _ => ?_)
      clear hK K
      refine wpAnyH_ready (rs := [6]) (by kernel_rfl) (by simp) (AllReadyH.cons rfl (fun K hK => ?_) AllReadyH.nil)
      go_simp
      refine (within_int _ _ _ _ (by omega) (by omega) (by omega)).mono ?_
      rintro e w7 ⟨ii, hii, rfl, hw7⟩
      subst hw7
      have HII := Lib.hid hii
      clear hii
      refine hK.out _ _ hHeld (fun _ => ?_)
      clear hK K
      refine wpAnyH_take (i := 7) (oi := ⟨some 13, _, _, _, _, _⟩) (v := ?_) rfl (by kernel_rfl) (by kernel_rfl) (by kernel_rfl) (fun _ _ _ h => h) (Or.inl ⟨by rfl, ?_⟩) hHeld ?_
      rotate_left
      · intro w hSw; (go_simp; try with_reducible rfl)
      simp only [Act.put, List.setIfInBounds_toArray, List.set_cons_zero, List.set_cons_succ]
      refine wpAnyH_take (i := 8) (oi := ⟨some 14, _, _, _, _, _⟩) (v := ?_) rfl (by kernel_rfl) (by kernel_rfl) (by kernel_rfl) (fun _ _ _ h => h) (Or.inl ⟨by rfl, ?_⟩) hHeld ?_
      rotate_left
      · intro w hSw; (go_simp; try with_reducible rfl)
      simp only [Act.put, List.setIfInBounds_toArray, List.set_cons_zero, List.set_cons_succ]
      refine wpAnyH_done (by kernel_rfl) ?_ _
      refine NoPanic.normal ?_
      obtain ⟨X, rfl⟩ := Int.eq_ofNat_of_zero_le HXX.out.1
      obtain ⟨I, rfl⟩ := Int.eq_ofNat_of_zero_le HII.out.1
      have HX3 := Lib.hid (show X < 3 by have := HXX.out.2; omega)
      have HIK := Lib.hid (show (I : Int) < cf.k by have := HII.out.2; omega)
      have HJ10 := Lib.hid (show JW w3 c cf b w4.heap.size N q wr.drew from HJ.out.drew)
      have HXB := Lib.hid (show 0 ≤ (X : Int) * K ∧ (X : Int) * K ≤ 8 by
        have := HX3.out
        have hc : X = 0 ∨ X = 1 ∨ X = 2 := by omega
        rcases hc with rfl | rfl | rfl <;> omega)
      have HSEC := Lib.hid (show (1 : Int) + (X : Int) * K + I = ((jsec cf X I : Nat) : Int) by unfold jsec; rw [hkK]; simp)
      have HDC : Hid (∀ q w', JW w3 c cf b w4.heap.size N q w' → w'.cell? ⟨b, 0, none⟩ = some (.int .i64 cf.id) ∧ w'.cell? ⟨b, 1, none⟩ = some (.int .i64 (K : Int)) ∧ w'.cell? ⟨b, 2, none⟩ = some (.int .i64 (N : Int)) ∧ w'.cell? ⟨b, 3, none⟩ = some (.int .i64 cf.t) ∧ w'.cell? ⟨b, 4, none⟩ = some (.int .i64 cf.s)) := Lib.hid fun q w' h => by
        rw [← HL.out.n, ← HL.out.k]; exact CfB.cells h.cfg
      have HCFA := Lib.hid (show (#[.int .i64 cf.id, .int .i64 (K : Int), .int .i64 (N : Int), .int .i64 cf.t, .int .i64 cf.s] : Array Value) = cfA cf by rw [← HL.out.n, ← HL.out.k])
      have HST := Lib.hid (show LostI cf K N SC X I 0 q from lost_start HI.out HX3.out)
      clear d0 d1 d2 d3 d4 hwk
      go_wp2_with fail
      go_loopw [15] (fun i wr => ∃ (d : Nat) (q : Rk), d ≤ N ∧ i = .int .i64 d ∧ LostI cf K N SC X I d q ∧ JW w3 c cf b w4.heap.size N q wr) (fun i _ => N - (intOf i).toNat)
      case atStart => exact ⟨0, q, Nat.zero_le _, rfl, HST.out, HJ10.out⟩
      case round =>
        obtain ⟨d, q2, hd, rfl, hI2, hJ2⟩ := hrel
        have HI2 := Lib.hid hI2
        have HJ2 := Lib.hid hJ2
        clear hI2 hJ2
        obtain ⟨d0, d1, d2, d3, d4⟩ := HDC.out _ _ HJ2.out
        by_cases hlt : d < N
        · obtain ⟨t1, t2, t3, t4⟩ := HI2.out.told HL.out HX3.out hlt
          have CSL := Lib.hid (show Calls Tryz.prog 27 #[.pointer (some ⟨c.r, 0, none⟩), .agg #[.int .i64 cf.id, .int .i64 (K : Int), .int .i64 (N : Int), .int .i64 cf.t, .int .i64 cf.s], .int .i64 (X : Int)] wr (SlotOut q2 cf X wr) from by rw [HCFA.out]; exact HJ2.out.slot X)
          unfold SlotOut at CSL
          rw [t3, jslot_nil t1] at CSL
          obtain ⟨n1, n2⟩ := HI2.out.next HL.out HX3.out HIK.out hlt
          have HN := Lib.hid n2
          have CRT := Lib.hid (fun (w' : World) (hj : JW w3 c cf b w4.heap.size N q2 w') => show Calls Tryz.prog 28 #[.pointer (some ⟨c.r, 0, none⟩), .int .i64 (d : Int), .int .i64 ((1 : Int) + (X : Int) * K + I), .int .i64 7, .int .u32 1] w' (JN w3 c cf b w4.heap.size N (Rk.rotten q2 d (jsec cf X I) 7 1) (.bool true) w') from by
            rw [HSEC.out]
            have := hj.rot (d : Int) (jsec cf X I) 7 1
            rwa [n1] at this)
          generalize Rk.rotten q2 d (jsec cf X I) 7 1 = q3 at *
          generalize jrecR q2 cf X = xz at *
          generalize jnewest q2 cf X = nz at *
          clear t1 t2 t3 t4 n1 n2
          obtain ⟨xb1, xb2⟩ := HXB.out
          have hib : (I : Int) ≤ 4 := by have := HII.out.2; omega
          go_wp2_with fail
          refine CSL.out.mono ?_
          rintro e w5 ⟨vz, rfl, hvz, hb5⟩
          obtain ⟨gz, cz, rfl, -⟩ := own_slice' hvz
          have HJ6 := Lib.hid (HJ2.out.below (balloc hb5 (.cells #[.int .i64 xz.q, .int .i64 xz.t, .slice gz xz.b.length cz] 59)))
          obtain ⟨e0, e1, e2, e3, e4⟩ := HDC.out _ _ HJ6.out
          clear hvz hb5 d0 d1 d2 d3 d4
          go_wp2_with fail
          refine (CRT.out _ HJ6.out).mono ?_
          rintro e w7 ⟨rfl, hj7, _⟩
          have HJ7 := Lib.hid hj7
          clear hj7
          go_wp2_with fail
          go_roundw
          case rel => exact ⟨d + 1, q3, hlt, by go_num, HN.out, HJ7.out⟩
          case measure => simp [intOf]; omega
        · obtain rfl : d = N := by omega
          go_wp2_with fail
          go_loopw [20] (fun i wr => ∃ s : Nat, s ≤ 3 ∧ i = .int .i64 s ∧ JW w3 c cf b w4.heap.size d q2 wr) (fun i _ => 3 - (intOf i).toNat)
          case atStart => exact ⟨0, by omega, rfl, HJ2.out⟩
          case round =>
            clear d0 d1 d2 d3 d4
            obtain ⟨s, hs, rfl, hJ3⟩ := hrel
            have HJ3 := Lib.hid hJ3
            clear hJ3
            by_cases hs3 : s < 3
            · obtain ⟨d0, d1, d2, d3, d4⟩ := HDC.out _ _ HJ3.out
              have CSL := Lib.hid (show Calls Tryz.prog 27 #[.pointer (some ⟨c.r, 0, none⟩), .agg #[.int .i64 cf.id, .int .i64 (K : Int), .int .i64 (d : Int), .int .i64 cf.t, .int .i64 cf.s], .int .i64 (s : Int)] wr (SlotOut q2 cf s wr) from by rw [HCFA.out]; exact HJ3.out.slot s)
              unfold SlotOut at CSL
              generalize jrecR q2 cf s = xz at *
              generalize jnewest q2 cf s = nz at *
              by_cases hsx : s = X
              · subst hsx
                obtain ⟨l1, l2⟩ := HI2.out.lost HL.out HX3.out HIK.out
                rw [l1, l2] at CSL
                clear l1 l2
                unfold wrapV lossV at CSL
                have hee : ((s : Int) == (s : Int)) = true := by simp
                go_wp2_with fail
                refine CSL.out.mono ?_
                rintro e w5 ⟨vz, rfl, hvz, hb5⟩
                obtain ⟨gz, cz, rfl, -⟩ := own_slice' hvz
                have HJ6 := Lib.hid (HJ3.out.below (balloc hb5 (.cells #[.int .i64 xz.q, .int .i64 xz.t, .slice gz xz.b.length cz] 59)))
                have CL := Lib.hid (lost_loss [(opJSlot, (s : Int))] s 0 1 (w5.alloc (.cells #[.int .i64 xz.q, .int .i64 xz.t, .slice gz xz.b.length cz] 59)) _ rfl (HTY.out _ _ HJ6.out))
                unfold chain chain wrapV lossV at CL
                clear hvz hb5 d0 d1 d2 d3 d4
                go_wp2_with fail
                refine CL.out.mono ?_
                rintro e w8 ⟨rfl, hb8⟩
                have HJ9 := Lib.hid (HJ6.out.below (balloc hb8 (.cells #[.int .i64 (s : Int), .int .i64 0, .int .i64 1] 65)))
                have hql := fun w => neql_loss (s : Int) 0 1 w
                have hgd := guard_loss
                clear hb8
                go_wp2_with fail
                go_roundw
                case rel => exact ⟨s + 1, hs3, by go_num, HJ9.out⟩
                case measure => simp [intOf]; omega
              · obtain ⟨l1, l2⟩ := HI2.out.other HL.out hs3 hsx
                rw [l1, l2] at CSL
                clear l1 l2
                have hee : ((s : Int) == (X : Int)) = false := by simpa using (by omega : ¬ (s : Int) = (X : Int))
                go_wp2_with fail
                refine CSL.out.mono ?_
                rintro e w5 ⟨vz, rfl, hvz, hb5⟩
                obtain ⟨gz, cz, rfl, -⟩ := own_slice' hvz
                have HJ6 := Lib.hid (HJ3.out.below (balloc hb5 (.cells #[.int .i64 xz.q, .int .i64 xz.t, .slice gz xz.b.length cz] 59)))
                have CL := Lib.hid (lost_nil (w5.alloc (.cells #[.int .i64 xz.q, .int .i64 xz.t, .slice gz xz.b.length cz] 59)))
                clear hvz hb5 d0 d1 d2 d3 d4 hsx
                go_wp2_with fail
                refine CL.out.mono ?_
                rintro e w8 ⟨rfl, hb8⟩
                have HJ9 := Lib.hid (HJ6.out.below (balloc hb8 (.cells #[.int .i64 0, .int .i64 0, .int .i64 0] 65)))
                clear hb8
                go_wp2_with fail
                go_roundw
                case rel => exact ⟨s + 1, hs3, by go_num, HJ9.out⟩
                case measure => simp [intOf]; omega
            · obtain rfl : s = 3 := by omega
              have HB9 := Lib.hid (HBW.out _ _ HJ3.out)
              have HRR := Lib.hid (journal_runs wr (HT.out.below HB9.out))
              go_wp2_with fail
              refine HRR.out.mono ?_
              rintro e w11 ⟨rfl, hb11⟩
              go_wp2_with fail
              go_ret
              exact bit rfl (bthen HB9.out hb11)
end Go.Proofs.YtdcpgpgomnpefaaGreatDoor
/-
  The law stavelaw10.JournalLost (as soon as of one place no disk has a good frame, the slot is lost, and says so; others don't suffer) returns true for all numbers, and leaves all memory that was there as it was.
  Conditions: none but the row's own; the one package-level variable that it reads, errors.errorType, is tied to the program's text by the card. The card speaks of the pruned copy of the project that the seat names.
-/
namespace Go.Proofs.YtdcpgpgomnpefaaGreatDoor.journalLost
open Go.ChangeShapes Go.WideShapes Go.ChangeAt Go.RowKit

set_option maxRecDepth 100000 in
theorem contract (H : Type) (enc : TypeId × Value → H) (W : World) (base : Nat) (args : Array Value) (ds gs : List (DataW H)) (before : List MemPlace)
    (hval : ∀ (j : Nat) t v, Tryz.f9.params[j]? = some t → args[j]? = some v → Value.okWide Tryz.prog W .any base t v)
    (hW : DataW.Whole enc Tryz.prog Tryz.f9.params.toList Rows.journalLostSpec.vars false W args.toList ds gs before) (hL : laidMetH Tryz.prog Rows.journalLostRow.laid W) :
    Calls Tryz.prog 9 args W fun e W' => ∃ v, e = .returned v ∧ Rows.journalLostSpec.post enc Tryz.prog Tryz.f9 false true false false W args v W' := by
  have hW' := hW
  obtain ⟨p, q, hA0, hV, rfl, hfz, hnd⟩ := hW
  have hA : DataW.TrodAll enc Tryz.prog W 0 (fun _ => true) true Tryz.f9.params.toList args.toList ds p := hA0
  rw [Tryz.params9] at hA hval
  obtain ⟨v0, vs0, d0, ds0, p0, q0, hargs, rfl, rfl, h0, r0⟩ := trodAll_cons hA
  obtain ⟨v1, vs1, d1, ds1, p1, q1, rfl, rfl, rfl, h1, r1⟩ := trodAll_cons r0
  obtain ⟨v2, vs2, d2, ds2, p2, q2, rfl, rfl, rfl, h2, r2⟩ := trodAll_cons r1
  obtain ⟨v3, vs3, d3, ds3, p3, q3, rfl, rfl, rfl, h3, r3⟩ := trodAll_cons r2
  obtain ⟨rfl, rfl, rfl⟩ := trodAll_nil r3
  obtain rfl : args = #[v0, v1, v2, v3] := Array.ext' hargs
  obtain ⟨k_, rfl, rfl, rfl, _⟩ := open_int Tryz.underlying3 (hval 0 3 v0 (by simp) (by simp)) h0
  obtain ⟨n_, rfl, rfl, rfl, _⟩ := open_int Tryz.underlying3 (hval 1 3 v1 (by simp) (by simp)) h1
  obtain ⟨at_, rfl, rfl, rfl, _⟩ := open_int Tryz.underlying3 (hval 2 3 v2 (by simp) (by simp)) h2
  obtain ⟨slot_, rfl, rfl, rfl, _⟩ := open_int Tryz.underlying3 (hval 3 3 v3 (by simp) (by simp)) h3
  obtain ⟨rfl, rfl⟩ := trodVars_none hV
  clear hA0
  have hw : Calls Tryz.prog 9 #[.int .i64 k_, .int .i64 n_, .int .i64 at_, .int .i64 slot_] W (Bit true W) := lost_any W k_ n_ at_ slot_ (handle_of_laid hL)
  refine hw.mono fun e W' ⟨he, hg⟩ => ?_
  subst he
  exact ⟨_, rfl, law_post Tryz.laidOut (by kernel_rfl) (by kernel_rfl) (by kernel_rfl) Tryz.underlying4 hW' hg rfl rfl rfl⟩

theorem reads (os : Os) {H : Type} (enc : TypeId × Value → H) : ∃ places, DataW.whole enc Tryz.prog ((laidWorld os).forCall (fun _ _ => 0) ⟨#[], #[.int .i64 0, .int .i64 0, .int .i64 0, .int .i64 0], []⟩).memory Tryz.f9.params.toList Rows.journalLostSpec.vars false (#[.int .i64 0, .int .i64 0, .int .i64 0, .int .i64 0] : Array Value).toList 8 = some ([.lit (.int .i64 0), .lit (.int .i64 0), .lit (.int .i64 0), .lit (.int .i64 0)], [], places) :=
  ⟨[], by kernel_rfl⟩

set_option maxRecDepth 100000 in
theorem lifted (os : Os) (started : os.Started) (H : Type) (enc : TypeId × Value → H) (F : Stop.Interp) :
    ReturnsInHanded {} Tryz.checked os 9 .any ((OpenSpec.ofChange Rows.journalLostSpec).preRow enc Tryz.prog Tryz.f9 Rows.journalLostRow.domain false Rows.journalLostRow.laid) (((OpenSpec.ofChange Rows.journalLostSpec).at F).post enc Tryz.prog Tryz.f9 false true false false) := by
  obtain ⟨places, hx⟩ := reads os enc
  refine returnsInHanded_of_row (C := Tryz.checked) (s := OpenSpec.ofChange Rows.journalLostSpec) Tryz.own started (by kernel_rfl) Tryz.func9
    (witness_row_at (enc := enc) (C := Tryz.checked) false (laidWorld os) #[.int .i64 0, .int .i64 0, .int .i64 0, .int .i64 0] rfl (by kernel_rfl) (by kernel_rfl) (by kernel_rfl)
      (OpenSpec.preRow_of_cond 8 hx (by kernel_rfl) (fun k hk => by cases hk) (by kernel_rfl) (laidWorld_met os _))) ?_
  intro W base args ds gs before hval hW _ _ _ hL _ _
  exact contract H enc W base args ds gs before hval hW hL

theorem said : Rows.JournalLostSaid :=
  OpenClaim.holds_of_cond 9 Tryz.f9 rfl rfl rfl rfl rfl rfl rfl ⟨rfl, rfl, rfl, rfl, rfl⟩ rfl rfl rfl rfl rfl (by kernel_rfl) Tryz.func9 (by kernel_rfl)
    (of_decide_eq_true (by kernel_rfl)) (by unfold Func.isWrapper; first | (rw [if_pos (by decide +kernel)]; kernel_rfl) | (rw [if_neg (by decide +kernel)]; exact ⟨rfl, rfl⟩))
    (fun os started H enc _ F => by rw [OpenClaim.pre_eq_preRow]; exact lifted os started H enc F)

theorem plain (f : FuncId) (fn : Func) (hf : Tryz.pinned.checked.prog.funcNamed "stave/stavelaw10.JournalLost" = some f) (hfn : Tryz.pinned.checked.prog.funcs[f]? = some fn) :
    true = Tryz.pinned.checked.prog.looks [] ∧ ∀ (j : Nat) t, fn.params[j]? = some t → Tryz.pinned.checked.prog.wantsStandIn t = false := by
  obtain rfl : f = 9 := Option.some.inj ((show Tryz.prog.funcNamed "stave/stavelaw10.JournalLost" = some 9 by kernel_rfl).symm.trans hf) |>.symm
  obtain rfl : fn = Tryz.f9 := (Option.some.inj (Tryz.func9.symm.trans hfn)).symm
  have hall : (Tryz.f9.params.toList.all fun t => !Tryz.prog.wantsStandIn t) = true := by kernel_rfl
  refine ⟨by kernel_rfl, fun j t ht => ?_⟩
  have := List.all_eq_true.1 hall t (by simpa using Array.mem_of_getElem? ht)
  have h2 : Tryz.prog.wantsStandIn t = false := by simpa using this
  exact h2

end Go.Proofs.YtdcpgpgomnpefaaGreatDoor.journalLost
namespace Go.Proofs.YtdcpgpgomnpefaaGreatDoor
theorem JournalLost_card : Rows.JournalLostCardSaid :=
  Claim7.holds_tied_plain_at .later [] _ _ _ _ journalLost.said (fun _ h => by cases h) (by kernel_rfl) (fun _ h => by cases h) journalLost_row_tie rfl ⟨rfl, rfl⟩ (by kernel_rfl) rfl journalLost.plain (by kernel_rfl)
#print axioms JournalLost_card
end Go.Proofs.YtdcpgpgomnpefaaGreatDoor
