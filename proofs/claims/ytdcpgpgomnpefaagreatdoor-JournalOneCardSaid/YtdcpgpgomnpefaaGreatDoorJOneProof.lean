/-
  stavelaw10.JournalOne: the walk (written by genjone.py).
-/
import Derived.Test.YtdcpgpgomnpefaaGreatDoorJLaw
import Derived.Test.YtdcpgpgomnpefaaGreatDoorOpenI
import Derived.Deep.RegionHeld3
import Derived.Test.YtdcpgpgomnpefaaGreatDoorBase
import Derived.Test.YtdcpgpgomnpefaaGreatDoorLaw
namespace Go.Proofs.YtdcpgpgomnpefaaGreatDoor
open Go.RowKit Go.Deep Crc Dk Qk Go.Maps Hf
/-- A disk has of slot 0 the record's frames, or none that is good. -/
def DOk (cf : Cf) (x : Rc) (t : St) : Prop := t.dead = true ∨ ∀ i : Nat, (i : Int) < cf.k → goodB (t.read (jsec cf 0 i)) = false ∨ t.read (jsec cf 0 i) = put (jF x i)
/-- Behind m rounds. -/
structure OneI (cf : Cf) (x : Rc) (q1 : Rk) (left m : Nat) (q : Rk) : Prop where
  n : q.n = q1.n
  k : q.k = q1.k
  off : q.off = false
  todo : ∀ d, m ≤ d ∨ d = left → q.s d = q1.s d
  done : ∀ d, d < m → d < q1.n → DOk cf x (q.s d)
theorem one_start (cf : Cf) (x : Rc) {q1 : Rk} (h : Wl q1 cf) (left : Nat) : OneI cf x q1 left 0 q1 := ⟨rfl, rfl, h.off, fun _ _ => rfl, fun _ h => absurd h (by omega)⟩
theorem OneI.skip {cf : Cf} {x : Rc} {q1 q : Rk} {left m : Nat} (h : OneI cf x q1 left m q) (hi : SlotIs q1 cf 0 x) (hm : m < q1.n) : OneI cf x q1 left (m + 1) q :=
  ⟨h.n, h.k, h.off, fun d hd => h.todo d (by omega), fun d h1 h2 => by
    by_cases e : d = m
    · subst e
      rw [h.todo d (Or.inl (Nat.le_refl _))]
      exact Or.inr fun i hik => Or.inr (hi d i hm hik)
    · exact h.done d (by omega) h2⟩
theorem OneI.turn {cf : Cf} {x : Rc} {q1 q : Rk} {left m : Nat} (h : OneI cf x q1 left m q) (hne : m ≠ left) {t : St} (ht : DOk cf x t) : OneI cf x q1 left (m + 1) (q.turn m t) :=
  ⟨h.n, h.k, h.off, fun d hd => by rw [turn_off q t (by omega)]; exact h.todo d (by omega), fun d h1 h2 => by
    by_cases e : d = m
    · subst e; rw [turn_at]; exact ht
    · rw [turn_off q t e]; exact h.done d (by omega) h2⟩
theorem OneI.dying {cf : Cf} {x : Rc} {q1 q : Rk} {left m : Nat} (h : OneI cf x q1 left m q) (hm : m < q1.n) (hne : m ≠ left) (dead : Bool) : OneI cf x q1 left (m + 1) (Rk.dying q m dead) := by
  have e : Rk.dying q m dead = q.turn m ((q.s m).wipe dead) := by
    unfold Rk.dying
    rw [if_pos (show q.has (m : Int) from ⟨by omega, by have := h.n; omega⟩), Int.toNat_natCast]; rfl
  rw [e]
  exact h.turn hne (Or.inr fun i _ => Or.inl good_zeros)
theorem OneI.rotten {cf : Cf} {x : Rc} {q1 q : Rk} {left m : Nat} (h : OneI cf x q1 left m q) (hw : Wl q1 cf) (hi : SlotIs q1 cf 0 x) (hx : RcIn cf 0 x) (hm : m < q1.n) (hne : m ≠ left) : OneI cf x q1 left (m + 1) (Rk.rotten q m 1 3 9) := by
  have e0 : q.s m = q1.s m := h.todo m (Or.inl (Nat.le_refl _))
  have e : Rk.rotten q m 1 3 9 = q.turn m (rotnext (q1.s m) 1 3 9) := by
    unfold Rk.rotten
    rw [if_pos (show q.has (m : Int) from ⟨by omega, by have := h.n; omega⟩), Int.toNat_natCast, e0]
  rw [e]
  refine h.turn hne (Or.inr fun i hik => ?_)
  unfold rotnext
  split
  · obtain ⟨r1, r2⟩ := St.rot_read (s := q1.s m) (hw.wt m · hm) (1 : Int).toNat (3 : Int).toNat 9
    by_cases hz : i = 0
    · subst hz
      left
      have e1 : jsec cf 0 0 = (1 : Int).toNat := by unfold jsec; simp
      rw [e1, r1, ← e1, hi m 0 hm hik]
      exact rot_bad (jF_is hx.is 0) (hx.frame hw.right hik) (by decide) (by decide) (by decide)
    · right
      have hne1 : jsec cf 0 i ≠ (1 : Int).toNat := by
        show 1 + 0 * cf.k.toNat + i ≠ 1
        omega
      rw [(r2 _ hne1).1]
      exact hi m i hm hik
  · exact Or.inr (hi m i hm hik)
theorem OneI.told {cf : Cf} {x : Rc} {q1 q : Rk} {left : Nat} (h : OneI cf x q1 left q1.n q) (hq : q.Ok) (hw : Wl q1 cf) (hi : SlotIs q1 cf 0 x) (hx : RcIn cf 0 x) (hl : left < q1.n) : jcode q cf 0 = 0 ∧ jnewest q cf 0 = x.q ∧ jwhole q cf 0 = true ∧ jrecR q cf 0 = x := by
  have hr := hw.right
  have hf : cf.fits q = true := by
    have := hw.fits
    unfold Cf.fits at this ⊢
    rw [h.n, h.k]; exact this
  have hs : ((0 : Nat) : Int) < cf.s := by have := hr.2.2.2.2.2.2.2.1; omega
  have hn := h.n
  have hgood : ∀ d i : Nat, d < q.n → (i : Int) < cf.k → (q.s d).dead = false → (q.s d).read (jsec cf 0 i) = put (jF x i) → jfr q cf ((0 : Nat) : Int) i d = some (jF x i) := fun d i hd hik hl hv =>
    jfr_put hq hf hs hik hd h.off hl hx.is hx.q0 hx.q1 hx.t0 hx.t1 hx.slot hv
  refine slot_one (s := ((0 : Nat) : Int)) (has_slot hf hs) hx.q0 hr.2.2.1 hx.len (fun i d hik hd hdl => ?_) fun i hik => ?_
  · rcases h.done d (by omega) (by omega) with hd2 | hd2
    · rw [hdl] at hd2; cases hd2
    · rcases hd2 i hik with hb | hb
      · exact Or.inl (jfr_bad (by have := hr.2.2.1; omega) (Or.inr (Or.inr hb)))
      · exact Or.inr (hgood d i hd hik hdl hb)
  · have e := h.todo left (Or.inr rfl)
    have hd : (q.s left).dead = false := by rw [e]; exact hw.alive left hl
    exact ⟨left, by omega, hd, hgood left i (by omega) hik hd (by rw [e]; exact hi left i hl hik)⟩
structure RelOne (w3 : World) (c : Lc) (cf : Cf) (b B N : Nat) (x : Rc) (v : Value) (bx : Nat) (q1 : Rk) (left m : Nat) (wr : World) : Prop where
  ex : ∃ q, OneI cf x q1 left m q ∧ JW w3 c cf b B N q wr
  rx : RcB B x v bx wr
set_option maxHeartbeats 16000000 in
set_option maxRecDepth 100000 in
theorem one_any (w : World) (k_ n_ keep_ a_ : Int) (vh : Value) (lh : List Int) (hvh : SlI w.heap.size w vh lh) (hT : Typ w) : Calls Tryz.prog 7 #[.int .i64 k_, .int .i64 n_, .int .i64 keep_, .int .i64 a_, vh] w (Bit true w) := by
  have HT := Lib.hid hT
  have HVH := Lib.hid hvh
  obtain ⟨ah, ch, rfl⟩ := hvh.len
  clear hT hvh
  go_enter Tryz.func7, Tryz.ntmps7
  go_wp2_with fail
  refine (fixed_any k_ n_ 2 2 _ (by omega) (by omega)).mono ?_
  rintro e w1 ⟨cf, hcf, rfl, hb1⟩
  obtain ⟨N, K, SC, hL⟩ := cfL_of hcf
  have HL := Lib.hid hL
  have CS := Lib.hid (fun w => ksectors_any cf w hL.ok.right)
  have CN := Lib.hid (fun w => hL.new w)
  have H2 := Lib.hid (show JfS cf w1.heap.size w (w1.alloc (.cells (cfA cf) 24)) from ⟨cfB_new w1 cf, by simp, balloc hb1 _⟩)
  have HNR := Lib.hid hL.r
  clear hb1 hcf hL
  go_wp2_with fail
  have h2 := H2.out
  generalize w1.alloc (.cells (cfA cf) 24) = w2 at *
  generalize w1.heap.size = b at *
  have d0 : ∀ w', JfS cf b w w' → w'.cell? ⟨b, 0, none⟩ = some (.int .i64 cf.id) := fun w' h => h.1.cell 0
  have d1 : ∀ w', JfS cf b w w' → w'.cell? ⟨b, 1, none⟩ = some (.int .i64 cf.k) := fun w' h => h.1.cell 1
  have d2 : ∀ w', JfS cf b w w' → w'.cell? ⟨b, 2, none⟩ = some (.int .i64 cf.n) := fun w' h => h.1.cell 2
  have d3 : ∀ w', JfS cf b w w' → w'.cell? ⟨b, 3, none⟩ = some (.int .i64 cf.t) := fun w' h => h.1.cell 3
  have d4 : ∀ w', JfS cf b w w' → w'.cell? ⟨b, 4, none⟩ = some (.int .i64 cf.s) := fun w' h => h.1.cell 4
  refine wp_region_noPanic ?_
  refine wp_region_held_drew (S := (fun w' => JfS cf b w w')) (by kernel_rfl) h2.drew (fun hHeld => ?_)
  refine wpAnyH_take (i := 0) (oi := ⟨some 26, _, _, _, _, _⟩) (v := ?_) rfl (by kernel_rfl) (by kernel_rfl) (by kernel_rfl) (fun _ _ _ h => h) (Or.inl ⟨by rfl, ?_⟩) hHeld ?_
  rotate_left
  · intro w hSw; (go_simp; try with_reducible rfl)
  simp only [Act.put, List.setIfInBounds_toArray, List.set_cons_zero, List.set_cons_succ]
  refine wpAnyH_take (i := 1) (oi := ⟨some 27, _, _, _, _, _⟩) (v := ?_) rfl (by kernel_rfl) (by kernel_rfl) (by kernel_rfl) (fun _ _ _ h => h) (Or.inl ⟨by rfl, ?_⟩) hHeld ?_
  rotate_left
  · intro w hSw; (go_simp; try with_reducible rfl)
  simp only [Act.put, List.setIfInBounds_toArray, List.set_cons_zero, List.set_cons_succ]
  refine wpAnyH_take (i := 2) (oi := ⟨some 28, _, _, _, _, _⟩) (v := ?_) rfl (by kernel_rfl) (by kernel_rfl) (by kernel_rfl) (fun _ _ _ h => h) (Or.inl ⟨by rfl, ?_⟩) hHeld ?_
  rotate_left
  · intro w hSw; (go_simp; try with_reducible rfl)
  simp only [Act.put, List.setIfInBounds_toArray, List.set_cons_zero, List.set_cons_succ]
  refine wpAnyH_ready (rs := [3]) (by kernel_rfl) (by simp) (AllReadyH.cons rfl (fun K hK => ?_) AllReadyH.nil)
  go_simp
  refine (CS.out _).mono ?_
  rintro e w3 ⟨rfl, hb3⟩
  have h3 := JfS.then hHeld hb3
  clear hb3
  refine hK.out _ _ h3 (fun _ => ?_)
  clear hK K
  refine wpAnyH_ready (rs := [4]) (by kernel_rfl) (by simp) (AllReadyH.cons rfl (fun K hK => ?_) AllReadyH.nil)
  go_simp
  refine (CN.out _).mono ?_
  rintro e w4 ⟨c, rfl, h4⟩
  have H4 := Lib.hid h4
  have h5 := JfS.made h3 h4
  clear h4
  refine hK.out _ _ h5 (fun _ => ?_)
  clear hK K
  refine wpAnyH_take (i := 5) (oi := ⟨some 25, _, _, _, _, _⟩) (v := ?_) rfl (by kernel_rfl) (by kernel_rfl) (by kernel_rfl) (fun _ _ _ h => h) (Or.inl ⟨by rfl, ?_⟩) h5 ?_
  rotate_left
  · intro w hSw; (go_simp; try with_reducible rfl)
  simp only [Act.put, List.setIfInBounds_toArray, List.set_cons_zero, List.set_cons_succ]
  refine wpAnyH_take (i := 6) (oi := ⟨some 31, _, _, _, _, _⟩) (v := ?_) rfl (by kernel_rfl) (by kernel_rfl) (by kernel_rfl) (fun _ _ _ h => h) (Or.inl ⟨by rfl, ?_⟩) h5 ?_
  rotate_left
  · intro w hSw; (go_simp; try with_reducible rfl)
  simp only [Act.put, List.setIfInBounds_toArray, List.set_cons_zero, List.set_cons_succ]
  refine wpAnyH_take (i := 7) (oi := ⟨some 32, _, _, _, _, _⟩) (v := ?_) rfl (by kernel_rfl) (by kernel_rfl) (by kernel_rfl) (fun _ _ _ h => h) (Or.inl ⟨by rfl, ?_⟩) h5 ?_
  rotate_left
  · intro w hSw; (go_simp; try with_reducible rfl)
  simp only [Act.put, List.setIfInBounds_toArray, List.set_cons_zero, List.set_cons_succ]
  refine wpAnyH_take (i := 8) (oi := ⟨some 12, _, _, _, _, _⟩) (v := ?_) rfl (by kernel_rfl) (by kernel_rfl) (by kernel_rfl) (fun _ _ _ h => h) (Or.inl ⟨by rfl, ?_⟩) h5 ?_
  rotate_left
  · intro w hSw; (go_simp; try with_reducible rfl)
  simp only [Act.put, List.setIfInBounds_toArray, List.set_cons_zero, List.set_cons_succ]
  refine wpAnyH_take (i := 9) (oi := ⟨some 13, _, _, _, _, _⟩) (v := ?_) rfl (by kernel_rfl) (by kernel_rfl) (by kernel_rfl) (fun _ _ _ h => h) (Or.inl ⟨by rfl, ?_⟩) h5 ?_
  rotate_left
  · intro w hSw; (go_simp; try with_reducible rfl)
  simp only [Act.put, List.setIfInBounds_toArray, List.set_cons_zero, List.set_cons_succ]
  refine wpAnyH_done (by kernel_rfl) ?_ _
  refine NoPanic.normal ?_
  have HB3 := Lib.hid (show JfS cf b w w3 from h3)
  have HJ4 := Lib.hid (show JW w3 c cf b w4.heap.size N (newRk N SC) w4 from JW.made H4.out HB3.out.1 HB3.out.2.1 (Below.refl _ _))
  have HBW := Lib.hid (fun (q : Rk) (w' : World) (h : JW w3 c cf b w4.heap.size N q w') => show Below w.heap.size w w' from bthen HB3.out.2.2 h.qs.base)
  have HTY := Lib.hid (fun (q : Rk) (w' : World) (h : JW w3 c cf b w4.heap.size N q w') => show Typ w' from HT.out.below (HBW.out q w' h))
  clear d0 d1 d2 d3 d4 h2 hHeld h3 h5
  have hx1 : RcIn cf 0 (lawR 4 1 a_ K) := HL.out.rc (by decide) (by decide) (by decide) (by decide) (Or.inr ⟨by decide, by decide⟩)
  have HX := Lib.hid hx1
  have HLOG := Lib.hid (HL.out.wl.log (s := 0) (by rw [HL.out.s]; decide) hx1 (by show (2 : Int) ≤ 4; decide))
  have HBK := Lib.hid (fun w => HL.out.blocks a_ w)
  obtain ⟨d0, d1, d2, d3, d4⟩ := CfB.cells HJ4.out.cfg
  clear hx1
  go_wp2_with fail
  refine (HBK.out _).mono ?_
  rintro e w5 ⟨v, rfl, hv, hb5⟩
  have HX6 := Lib.hid (show RcB w4.heap.size (lawR 4 1 a_ K) v w5.heap.size (w5.alloc (.cells (rcA 4 1 v) 59)) from rcB_new (x := lawR 4 1 a_ K) (lawR_is _ _ _ _) hb5.size hv)
  have HJ6 := Lib.hid (HJ4.out.below (balloc hb5 (.cells (rcA 4 1 v) 59)))
  obtain ⟨gv, cv, rfl, -⟩ := own_slice' hv
  generalize (blks a_ K).length = lb at *
  clear hv hb5 d0 d1 d2 d3 d4
  obtain ⟨w6, hw6⟩ : ∃ w6, w6 = (w5.alloc (.cells (rcA 4 1 (.slice gv lb cv)) 59)) := ⟨_, rfl⟩
  rw [← hw6] at HX6 HJ6
  have hcR : (w5.alloc (.cells #[.int .i64 4, .int .i64 1, .slice gv lb cv] 59)) = w6 := hw6.symm
  clear hw6
  have HRX := Lib.hid (show ∀ w' : World, RcB w4.heap.size (lawR 4 1 a_ K) (.slice gv lb cv) w5.heap.size w' → w'.cell? ⟨w5.heap.size, 0, none⟩ = some (.int .i64 4) ∧ w'.cell? ⟨w5.heap.size, 1, none⟩ = some (.int .i64 1) ∧ w'.cell? ⟨w5.heap.size, 2, none⟩ = some (.slice gv lb cv) from fun w' h => h.cells)
  have CLG := Lib.hid (show Calls Tryz.prog 26 #[.pointer (some ⟨c.r, 0, none⟩), .agg (cfA cf), .agg #[.int .i64 4, .int .i64 1, .slice gv lb cv]] w6 (JN w3 c cf b w4.heap.size N (Rk.jlog (newRk N SC) cf (lawR 4 1 a_ K)) .nilIface w6) from by
    have := HJ6.out.log HX6.out
    rwa [jlog_nil HLOG.out.1] at this)
  obtain ⟨d0, d1, d2, d3, d4⟩ := CfB.cells HJ6.out.cfg
  obtain ⟨x0, x1, x2⟩ := HRX.out _ HX6.out
  go_wp2_with fail
  clear hcR
  refine CLG.out.mono ?_
  rintro e w7 ⟨rfl, hj7, hc7⟩
  have HJ7 := Lib.hid hj7
  have HX7 := Lib.hid (HX6.out.rc HJ7.out.far hc7)
  have HWL := Lib.hid (show Wl (Rk.jlog (newRk N SC) cf (lawR 4 1 a_ K)) cf ∧ (Rk.jlog (newRk N SC) cf (lawR 4 1 a_ K)).n = N ∧ SlotIs (Rk.jlog (newRk N SC) cf (lawR 4 1 a_ K)) cf 0 (lawR 4 1 a_ K) from ⟨HLOG.out.2.1, HLOG.out.2.2.1, HLOG.out.2.2.2.1⟩)
  clear d0 d1 d2 d3 d4 x0 x1 x2 hj7 hc7
  generalize Rk.jlog (newRk N SC) cf (lawR 4 1 a_ K) = q1 at *
  obtain ⟨d0, d1, d2, d3, d4⟩ := CfB.cells HJ7.out.cfg
  have hnN : cf.n = N := HL.out.n
  rw [hnN] at d2
  clear hnN
  obtain ⟨r1, r2, r3, r4, r5, r6, r7⟩ := HNR.out
  go_wp2_with (go_at_call 32; refine (within_int _ _ _ _ (by omega) (by omega) (by omega)).mono ?_; rintro e w8 ⟨lf, hlf, rfl, hw8⟩; subst hw8)
  obtain ⟨left, rfl⟩ := Int.eq_ofNat_of_zero_le hlf.1
  have HLF := Lib.hid (show left < N by omega)
  have HHN : Hid (∀ q w', JW w3 c cf b w4.heap.size N q w' → w'.cell? ⟨b, 2, none⟩ = some (.int .i64 (N : Int))) := Lib.hid fun q w' h => by rw [← HL.out.n]; exact h.cfg.cell 2
  clear hlf d0 d1 d2 d3 d4
  go_loopw [16] (fun i wr => ∃ m : Nat, m ≤ N ∧ i = .int .i64 m ∧ RelOne w3 c cf b w4.heap.size N (lawR 4 1 a_ K) (.slice gv lb cv) w5.heap.size q1 left m wr) (fun i _ => N - (intOf i).toNat)
  case atStart => exact ⟨0, Nat.zero_le _, rfl, ⟨⟨q1, one_start cf _ HWL.out.1 left, HJ7.out⟩, HX7.out⟩⟩
  case round =>
    obtain ⟨m, hm, rfl, ⟨q, hI, hJ⟩, hRX⟩ := hrel
    have HI := Lib.hid hI
    have HJ := Lib.hid hJ
    have HRX2 := Lib.hid hRX
    have d2 := HHN.out _ _ hJ
    clear hI hJ hRX
    by_cases hlt : m < N
    · by_cases hle : m < lh.length
      · obtain ⟨bh, oh, ch', hsl, hch⟩ := HVH.out.num (Nat.le_refl _) (HBW.out q wr HJ.out) hle
        injection hsl with q1' q2' q3'
        subst q1' q3'
        clear q2'
        go_wp2_with fail
        refine (within_int _ _ _ _ (by omega) (by omega) (by omega)).mono ?_
        rintro e w8 ⟨wv, hwv, rfl, hw8⟩
        subst hw8
        have hw4 : wv = 0 ∨ wv = 1 ∨ wv = 2 ∨ wv = 3 := by omega
        clear hwv
        rcases hw4 with rfl | rfl | rfl | rfl
        · skip
          by_cases hml : m = left
          · have em : ((m : Int) == (left : Int)) = true := by simpa using (by omega : (m : Int) = (left : Int))
            have HN := Lib.hid (HI.out.skip HWL.out.2.2 (by rw [HWL.out.2.1]; exact hlt))
            clear hml
            go_wp2_with fail
            go_roundw
            case rel => exact ⟨m + 1, hlt, by go_num, ⟨⟨_, HN.out, HJ.out⟩, HRX2.out⟩⟩
            case measure => simp [intOf]; omega
          · have em : ((m : Int) == (left : Int)) = false := by simpa using (by omega : ¬ (m : Int) = (left : Int))
            have HN := Lib.hid (HI.out.skip HWL.out.2.2 (by rw [HWL.out.2.1]; exact hlt))
            clear hml
            go_wp2_with fail
            go_roundw
            case rel => exact ⟨m + 1, hlt, by go_num, ⟨⟨_, HN.out, HJ.out⟩, HRX2.out⟩⟩
            case measure => simp [intOf]; omega
        · skip
          by_cases hml : m = left
          · have em : ((m : Int) == (left : Int)) = true := by simpa using (by omega : (m : Int) = (left : Int))
            have HN := Lib.hid (HI.out.skip HWL.out.2.2 (by rw [HWL.out.2.1]; exact hlt))
            clear hml
            go_wp2_with fail
            go_roundw
            case rel => exact ⟨m + 1, hlt, by go_num, ⟨⟨_, HN.out, HJ.out⟩, HRX2.out⟩⟩
            case measure => simp [intOf]; omega
          · have em : ((m : Int) == (left : Int)) = false := by simpa using (by omega : ¬ (m : Int) = (left : Int))
            have HN := Lib.hid (HI.out.dying (by rw [HWL.out.2.1]; exact hlt) hml true)
            have CD := Lib.hid (HJ.out.die (m : Int))
            clear hml
            go_wp2_with fail
            refine CD.out.mono ?_
            rintro e w9 ⟨rfl, hj9, hc9⟩
            have HJ9 := Lib.hid hj9
            have HX9 := Lib.hid (HRX2.out.rc HJ9.out.far hc9)
            clear hj9 hc9
            go_wp2_with fail
            go_roundw
            case rel => exact ⟨m + 1, hlt, by go_num, ⟨⟨_, HN.out, HJ9.out⟩, HX9.out⟩⟩
            case measure => simp [intOf]; omega
        · skip
          by_cases hml : m = left
          · have em : ((m : Int) == (left : Int)) = true := by simpa using (by omega : (m : Int) = (left : Int))
            have HN := Lib.hid (HI.out.skip HWL.out.2.2 (by rw [HWL.out.2.1]; exact hlt))
            clear hml
            go_wp2_with fail
            go_roundw
            case rel => exact ⟨m + 1, hlt, by go_num, ⟨⟨_, HN.out, HJ.out⟩, HRX2.out⟩⟩
            case measure => simp [intOf]; omega
          · have em : ((m : Int) == (left : Int)) = false := by simpa using (by omega : ¬ (m : Int) = (left : Int))
            have HN := Lib.hid (HI.out.dying (by rw [HWL.out.2.1]; exact hlt) hml false)
            have CD := Lib.hid (HJ.out.replace (m : Int))
            clear hml
            go_wp2_with fail
            refine CD.out.mono ?_
            rintro e w9 ⟨rfl, hj9, hc9⟩
            have HJ9 := Lib.hid hj9
            have HX9 := Lib.hid (HRX2.out.rc HJ9.out.far hc9)
            clear hj9 hc9
            go_wp2_with fail
            go_roundw
            case rel => exact ⟨m + 1, hlt, by go_num, ⟨⟨_, HN.out, HJ9.out⟩, HX9.out⟩⟩
            case measure => simp [intOf]; omega
        · skip
          by_cases hml : m = left
          · have em : ((m : Int) == (left : Int)) = true := by simpa using (by omega : (m : Int) = (left : Int))
            have HN := Lib.hid (HI.out.skip HWL.out.2.2 (by rw [HWL.out.2.1]; exact hlt))
            clear hml
            go_wp2_with fail
            go_roundw
            case rel => exact ⟨m + 1, hlt, by go_num, ⟨⟨_, HN.out, HJ.out⟩, HRX2.out⟩⟩
            case measure => simp [intOf]; omega
          · have em : ((m : Int) == (left : Int)) = false := by simpa using (by omega : ¬ (m : Int) = (left : Int))
            have HN := Lib.hid (HI.out.rotten HWL.out.1 HWL.out.2.2 HX.out (by rw [HWL.out.2.1]; exact hlt) hml)
            have CD := Lib.hid (show Calls Tryz.prog 28 #[.pointer (some ⟨c.r, 0, none⟩), .int .i64 (m : Int), .int .i64 1, .int .i64 3, .int .u32 9] wr (JN w3 c cf b w4.heap.size N (Rk.rotten q m 1 3 9) (.bool (Rk.rots q m 1 3 9)) wr) from HJ.out.rot (m : Int) 1 3 9)
            clear hml
            go_wp2_with fail
            refine CD.out.mono ?_
            rintro e w9 ⟨rfl, hj9, hc9⟩
            have HJ9 := Lib.hid hj9
            have HX9 := Lib.hid (HRX2.out.rc HJ9.out.far hc9)
            clear hj9 hc9
            go_wp2_with fail
            go_roundw
            case rel => exact ⟨m + 1, hlt, by go_num, ⟨⟨_, HN.out, HJ9.out⟩, HX9.out⟩⟩
            case measure => simp [intOf]; omega
      · have hle' : ¬ (m : Int) < lh.length := by omega
        by_cases hml : m = left
        · have em : ((m : Int) == (left : Int)) = true := by simpa using (by omega : (m : Int) = (left : Int))
          have HN := Lib.hid (HI.out.skip HWL.out.2.2 (by rw [HWL.out.2.1]; exact hlt))
          clear hml
          go_wp2_with fail
          go_roundw
          case rel => exact ⟨m + 1, hlt, by go_num, ⟨⟨_, HN.out, HJ.out⟩, HRX2.out⟩⟩
          case measure => simp [intOf]; omega
        · have em : ((m : Int) == (left : Int)) = false := by simpa using (by omega : ¬ (m : Int) = (left : Int))
          have HN := Lib.hid (HI.out.skip HWL.out.2.2 (by rw [HWL.out.2.1]; exact hlt))
          clear hml
          go_wp2_with fail
          go_roundw
          case rel => exact ⟨m + 1, hlt, by go_num, ⟨⟨_, HN.out, HJ.out⟩, HRX2.out⟩⟩
          case measure => simp [intOf]; omega
    · obtain rfl : m = N := by omega
      have HTD := Lib.hid (show jcode q cf 0 = 0 ∧ jnewest q cf 0 = 4 ∧ jwhole q cf 0 = true ∧ jrecR q cf 0 = lawR 4 1 a_ K from (show OneI cf _ q1 left q1.n q from by rw [HWL.out.2.1]; exact HI.out).told HJ.out.qs.rack.ok HWL.out.1 HWL.out.2.2 HX.out (by rw [HWL.out.2.1]; exact HLF.out))
      have CSL := Lib.hid (HJ.out.slot 0)
      unfold SlotOut at CSL
      rw [HTD.out.2.2.2, HTD.out.2.2.1, HTD.out.2.1, jslot_nil HTD.out.1] at CSL
      obtain ⟨e0, e1, e2, e3, e4⟩ := CfB.cells HJ.out.cfg
      rw [show cf.n = (m : Int) from HL.out.n] at e2
      have hcf2 : (Value.agg (cfA cf)) = .agg #[.int .i64 cf.id, .int .i64 cf.k, .int .i64 (m : Int), .int .i64 cf.t, .int .i64 cf.s] := by rw [← show cf.n = (m : Int) from HL.out.n]
      rw [hcf2] at CSL
      clear hcf2 d2
      go_wp2_with fail
      refine CSL.out.mono ?_
      rintro e w8 ⟨vz, rfl, hvz, hb8⟩
      have HZ9 := Lib.hid (show RcB w4.heap.size (lawR 4 1 a_ K) vz w8.heap.size (w8.alloc (.cells (rcA 4 1 vz) 59)) from rcB_new (x := lawR 4 1 a_ K) (lawR_is _ _ _ _) (Nat.le_trans HJ.out.bB hb8.size) (own_base hvz HJ.out.bB))
      have HJ9 := Lib.hid (HJ.out.below (balloc hb8 (.cells (rcA 4 1 vz) 59)))
      have HX9 := Lib.hid (HRX2.out.below (balloc hb8 (.cells (rcA 4 1 vz) 59)))
      obtain ⟨gz, cz, rfl, -⟩ := own_slice' hvz
      have hq3 : (Value.agg (rcA (lawR 4 1 a_ K).q (lawR 4 1 a_ K).t (.slice gz (lawR 4 1 a_ K).b.length cz))) = .agg #[.int .i64 4, .int .i64 1, .slice gz (lawR 4 1 a_ K).b.length cz] := rfl
      rw [hq3]
      clear hvz hb8 hq3 e0 e1 e2 e3 e4
      have HLB := Lib.hid (show (lawR 4 1 a_ K).b.length ≤ 8 from by show (blks a_ K).length ≤ 8; rw [blks_length]; omega)
      have HKR := Lib.hid (fun (w' : World) (va vb : Value) (h1 : SlK w'.heap.size w' va (lawR 4 1 a_ K).b) (h2 : SlK w'.heap.size w' vb (lawR 4 1 a_ K).b) => show Calls Tryz.prog 30 #[.agg #[.int .i64 4, .int .i64 1, va], .agg #[.int .i64 4, .int .i64 1, vb]] w' (Bit true w') from by
        have := krecord_any (lawR 4 1 a_ K) (lawR 4 1 a_ K) va vb w' h1 h2 HLB.out
        rwa [rcB_refl] at this)
      have HZC := Lib.hid (show ∀ w' : World, RcB w4.heap.size (lawR 4 1 a_ K) (.slice gz (lawR 4 1 a_ K).b.length cz) w8.heap.size w' → w'.cell? ⟨w8.heap.size, 0, none⟩ = some (.int .i64 4) ∧ w'.cell? ⟨w8.heap.size, 1, none⟩ = some (.int .i64 1) ∧ w'.cell? ⟨w8.heap.size, 2, none⟩ = some (.slice gz (lawR 4 1 a_ K).b.length cz) from fun w' h => h.cells)
      generalize (lawR 4 1 a_ K).b.length = lz at *
      obtain ⟨w9, hw9⟩ : ∃ w9, w9 = (w8.alloc (.cells (rcA 4 1 (.slice gz lz cz)) 59)) := ⟨_, rfl⟩
      rw [← hw9] at HZ9 HJ9 HX9
      have hcR : (w8.alloc (.cells #[.int .i64 4, .int .i64 1, .slice gz lz cz] 59)) = w9 := hw9.symm
      clear hw9
      have CRC := Lib.hid (HKR.out w9 _ _ HX9.out.slk HZ9.out.slk)
      have HB9 := Lib.hid (HBW.out _ _ HJ9.out)
      obtain ⟨x0, x1, x2⟩ := HRX.out _ HX9.out
      obtain ⟨y0, y1, y2⟩ := HZC.out _ HZ9.out
      go_wp2_with fail
      clear hcR
      refine CRC.out.mono ?_
      rintro e w10 ⟨rfl, hb10⟩
      have HB10 := Lib.hid (bthen HB9.out hb10)
      have HRR := Lib.hid (journal_runs w10 (HT.out.below HB10.out))
      clear hb10 x0 x1 x2 y0 y1 y2
      go_wp2_with fail
      refine HRR.out.mono ?_
      rintro e w11 ⟨rfl, hb11⟩
      go_wp2_with fail
      go_ret
      exact bit rfl (bthen HB10.out hb11)
end Go.Proofs.YtdcpgpgomnpefaaGreatDoor
/-
  The law stavelaw10.JournalOne (one disk that has a record whole is enough, whatever became of the others) returns true for all numbers, and leaves all memory that was there as it was.
  Conditions: none but the row's own; the one package-level variable that it reads, errors.errorType, is tied to the program's text by the card. The card speaks of the pruned copy of the project that the seat names.
-/
namespace Go.Proofs.YtdcpgpgomnpefaaGreatDoor.journalOne
open Go.ChangeShapes Go.WideShapes Go.ChangeAt Go.RowKit

set_option maxRecDepth 100000 in
theorem contract (H : Type) (enc : TypeId × Value → H) (W : World) (base : Nat) (args : Array Value) (ds gs : List (DataW H)) (before : List MemPlace)
    (hval : ∀ (j : Nat) t v, Tryz.f7.params[j]? = some t → args[j]? = some v → Value.okWide Tryz.prog W .any base t v)
    (hW : DataW.Whole enc Tryz.prog Tryz.f7.params.toList Rows.journalOneSpec.vars false W args.toList ds gs before) (hL : laidMetH Tryz.prog Rows.journalOneRow.laid W) :
    Calls Tryz.prog 7 args W fun e W' => ∃ v, e = .returned v ∧ Rows.journalOneSpec.post enc Tryz.prog Tryz.f7 false true false false W args v W' := by
  have hW' := hW
  obtain ⟨p, q, hA0, hV, rfl, hfz, hnd⟩ := hW
  have hA : DataW.TrodAll enc Tryz.prog W 0 (fun _ => true) true Tryz.f7.params.toList args.toList ds p := hA0
  rw [Tryz.params7] at hA hval
  obtain ⟨v0, vs0, d0, ds0, p0, q0, hargs, rfl, rfl, h0, r0⟩ := trodAll_cons hA
  obtain ⟨v1, vs1, d1, ds1, p1, q1, rfl, rfl, rfl, h1, r1⟩ := trodAll_cons r0
  obtain ⟨v2, vs2, d2, ds2, p2, q2, rfl, rfl, rfl, h2, r2⟩ := trodAll_cons r1
  obtain ⟨v3, vs3, d3, ds3, p3, q3, rfl, rfl, rfl, h3, r3⟩ := trodAll_cons r2
  obtain ⟨v4, vs4, d4, ds4, p4, q4, rfl, rfl, rfl, h4, r4⟩ := trodAll_cons r3
  obtain ⟨rfl, rfl, rfl⟩ := trodAll_nil r4
  obtain rfl : args = #[v0, v1, v2, v3, v4] := Array.ext' hargs
  obtain ⟨k_, rfl, rfl, rfl, _⟩ := open_int Tryz.underlying3 (hval 0 3 v0 (by simp) (by simp)) h0
  obtain ⟨n_, rfl, rfl, rfl, _⟩ := open_int Tryz.underlying3 (hval 1 3 v1 (by simp) (by simp)) h1
  obtain ⟨keep_, rfl, rfl, rfl, _⟩ := open_int Tryz.underlying3 (hval 2 3 v2 (by simp) (by simp)) h2
  obtain ⟨a_, rfl, rfl, rfl, _⟩ := open_int Tryz.underlying3 (hval 3 3 v3 (by simp) (by simp)) h3
  have hv4 := (hval 4 81 v4 (by simp) (by simp))
  obtain ⟨l, hsl, hll⟩ := open_nums hv4 h4
  obtain ⟨rfl, rfl⟩ := trodVars_none hV
  clear hA0
  have hw : Calls Tryz.prog 7 #[.int .i64 k_, .int .i64 n_, .int .i64 keep_, .int .i64 a_, v4] W (Bit true W) := one_any W k_ n_ keep_ a_ v4 l hsl (handle_of_laid hL)
  refine hw.mono fun e W' ⟨he, hg⟩ => ?_
  subst he
  exact ⟨_, rfl, law_post Tryz.laidOut (by kernel_rfl) (by kernel_rfl) (by kernel_rfl) Tryz.underlying4 hW' hg rfl rfl rfl⟩

theorem reads (os : Os) {H : Type} (enc : TypeId × Value → H) : ∃ places, DataW.whole enc Tryz.prog ((laidWorld os).forCall (fun _ _ => 0) ⟨#[], #[.int .i64 0, .int .i64 0, .int .i64 0, .int .i64 0, .slice none 0 0], []⟩).memory Tryz.f7.params.toList Rows.journalOneSpec.vars false (#[.int .i64 0, .int .i64 0, .int .i64 0, .int .i64 0, .slice none 0 0] : Array Value).toList 8 = some ([.lit (.int .i64 0), .lit (.int .i64 0), .lit (.int .i64 0), .lit (.int .i64 0), .nil], [], places) :=
  ⟨[], by kernel_rfl⟩

set_option maxRecDepth 100000 in
theorem lifted (os : Os) (started : os.Started) (H : Type) (enc : TypeId × Value → H) (F : Stop.Interp) :
    ReturnsInHanded {} Tryz.checked os 7 .any ((OpenSpec.ofChange Rows.journalOneSpec).preRow enc Tryz.prog Tryz.f7 Rows.journalOneRow.domain false Rows.journalOneRow.laid) (((OpenSpec.ofChange Rows.journalOneSpec).at F).post enc Tryz.prog Tryz.f7 false true false false) := by
  obtain ⟨places, hx⟩ := reads os enc
  refine returnsInHanded_of_row (C := Tryz.checked) (s := OpenSpec.ofChange Rows.journalOneSpec) Tryz.own started (by kernel_rfl) Tryz.func7
    (witness_row_at (enc := enc) (C := Tryz.checked) false (laidWorld os) #[.int .i64 0, .int .i64 0, .int .i64 0, .int .i64 0, .slice none 0 0] rfl (by kernel_rfl) (by kernel_rfl) (by kernel_rfl)
      (OpenSpec.preRow_of_cond 8 hx (by kernel_rfl) (fun k hk => by cases hk) (by kernel_rfl) (laidWorld_met os _))) ?_
  intro W base args ds gs before hval hW _ _ _ hL _ _
  exact contract H enc W base args ds gs before hval hW hL

theorem said : Rows.JournalOneSaid :=
  OpenClaim.holds_of_cond 7 Tryz.f7 rfl rfl rfl rfl rfl rfl rfl ⟨rfl, rfl, rfl, rfl, rfl⟩ rfl rfl rfl rfl rfl (by kernel_rfl) Tryz.func7 (by kernel_rfl)
    (of_decide_eq_true (by kernel_rfl)) (by unfold Func.isWrapper; first | (rw [if_pos (by decide +kernel)]; kernel_rfl) | (rw [if_neg (by decide +kernel)]; exact ⟨rfl, rfl⟩))
    (fun os started H enc _ F => by rw [OpenClaim.pre_eq_preRow]; exact lifted os started H enc F)

theorem plain (f : FuncId) (fn : Func) (hf : Tryz.pinned.checked.prog.funcNamed "stave/stavelaw10.JournalOne" = some f) (hfn : Tryz.pinned.checked.prog.funcs[f]? = some fn) :
    true = Tryz.pinned.checked.prog.looks [] ∧ ∀ (j : Nat) t, fn.params[j]? = some t → Tryz.pinned.checked.prog.wantsStandIn t = false := by
  obtain rfl : f = 7 := Option.some.inj ((show Tryz.prog.funcNamed "stave/stavelaw10.JournalOne" = some 7 by kernel_rfl).symm.trans hf) |>.symm
  obtain rfl : fn = Tryz.f7 := (Option.some.inj (Tryz.func7.symm.trans hfn)).symm
  have hall : (Tryz.f7.params.toList.all fun t => !Tryz.prog.wantsStandIn t) = true := by kernel_rfl
  refine ⟨by kernel_rfl, fun j t ht => ?_⟩
  have := List.all_eq_true.1 hall t (by simpa using Array.mem_of_getElem? ht)
  have h2 : Tryz.prog.wantsStandIn t = false := by simpa using this
  exact h2

end Go.Proofs.YtdcpgpgomnpefaaGreatDoor.journalOne
namespace Go.Proofs.YtdcpgpgomnpefaaGreatDoor
theorem JournalOne_card : Rows.JournalOneCardSaid :=
  Claim7.holds_tied_plain_at .later [] _ _ _ _ journalOne.said (fun _ h => by cases h) (by kernel_rfl) (fun _ h => by cases h) journalOne_row_tie rfl ⟨rfl, rfl⟩ (by kernel_rfl) rfl journalOne.plain (by kernel_rfl)
#print axioms JournalOne_card
end Go.Proofs.YtdcpgpgomnpefaaGreatDoor
