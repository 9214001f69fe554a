/-
  The law stavelaw11.StripeLook (just the disks whose fragment of the newest generation can be read are told, each once, in their order) returns true for all numbers and faults, and leaves all memory that was there as it was.
  Conditions: none but the row's own. The statement speaks of the pruned copy of the project that the seat names.
-/
import Derived.Test.YtidnmkghmaeniaaGreatPlain
import Derived.Test.YtidnmkghmaeniaaGreatDWord
import Derived.Test.YtidnmkghmaeniaaGreatOpenI
import Derived.Test.YtidnmkghmaeniaaGreatTLaw
import Derived.Deep.RegionHeld3
import Derived.IntWalk
namespace Go.Proofs.YtidnmkghmaeniaaGreat
open Go.RowKit Go.Deep Dk Qk Go.Maps Hf
/-- Is the disk's bit clear? -/
def bitC (gone d : Nat) : Bool := gone / 2 ^ d % 2 == 0
/-- Behind m disks: those whose bit is set have no frame any more. -/
structure LookI (cf : Cf) (K N SC : Nat) (a : Int) (gone m : Nat) (q : Rk) : Prop where
  pl : Pl q cf
  nn : q.n = N
  kk : q.k = SC
  al : ∀ d, d < N → (q.s d).dead = false
  is : ∀ d, d < N → (m ≤ d ∨ bitC gone d = true) → (q.s d).read (tsec cf 0) = put (tF cf.k.toNat (0 : Nat) 4 (blks a K) d) ∧ (q.s d).rot (tsec cf 0) = false
  no : ∀ d, d < N → d < m → bitC gone d = false → goodB ((q.s d).read (tsec cf 0)) = false
theorem look_start {cf : Cf} {N K SC gone : Nat} {a : Int} (h : CfL cf N K SC 1 1) : Rk.tputC (newRk N SC) cf 0 4 (blks a K) = 0 ∧ LookI cf K N SC a gone 0 (Rk.tput (newRk N SC) cf 0 4 (blks a K)) := by
  have hx4 := h.stIn (s := 0) (g := 4) a (by decide) (by decide) (by decide)
  obtain ⟨p1, p2, p3, p4, p5⟩ := h.pl.tput hx4
  refine ⟨p1, p2, tput_n _ _ _ _ _, tput_k _ _ _ _ _, fun d hd => p3 d hd, fun d hd _ => ⟨(p4 d _ hd).trans (if_pos ⟨rfl, rfl⟩), p5 d _ hd (Or.inl rfl)⟩, fun d _ hd => absurd hd (by omega)⟩
theorem LookI.skip {cf : Cf} {K N SC gone m : Nat} {a : Int} {q : Rk} (h : LookI cf K N SC a gone m q) (hb : bitC gone m = true) : LookI cf K N SC a gone (m + 1) q :=
  ⟨h.pl, h.nn, h.kk, h.al, fun d hd hc => h.is d hd (by
    rcases hc with hc | hc
    · exact Or.inl (by omega)
    · exact Or.inr hc), fun d hd hm hc => by
    by_cases e : d = m
    · subst e; rw [hb] at hc; cases hc
    · exact h.no d hd (by omega) hc⟩
theorem LookI.step {cf : Cf} {K N SC gone m : Nat} {a : Int} {q q' : Rk} (h : LookI cf K N SC a gone m q) (hb : bitC gone m = false) (hp : Pl q' cf) (hn : q'.n = q.n) (hk : q'.k = q.k) (hal : ∀ d, (q'.s d).dead = (q.s d).dead) (ho : ∀ d, d ≠ m → q'.s d = q.s d) (hbad : goodB ((q'.s m).read (tsec cf 0)) = false) : LookI cf K N SC a gone (m + 1) q' := by
  refine ⟨hp, hn.trans h.nn, hk.trans h.kk, fun d hd => (hal d).trans (h.al d hd), fun d hd hc => ?_, fun d hd hm hc => ?_⟩
  · have hne : d ≠ m := fun e => by
      subst e
      rcases hc with hc | hc
      · omega
      · rw [hb] at hc; cases hc
    rw [ho d hne]
    exact h.is d hd (by
      rcases hc with hc | hc
      · exact Or.inl (by omega)
      · exact Or.inr hc)
  · by_cases e : d = m
    · subst e; exact hbad
    · rw [ho d e]; exact h.no d hd (by omega) hc
theorem LookI.replace {cf : Cf} {K N SC gone m : Nat} {a : Int} {q : Rk} (h : LookI cf K N SC a gone m q) (hm : m < N) (hb : bitC gone m = false) : LookI cf K N SC a gone (m + 1) (Rk.dying q m false) := by
  obtain ⟨d1, d2, d3⟩ := h.pl.dying (i := m) (by rw [h.nn]; exact hm) false
  refine h.step hb d1 d2 (dying_k _ _ _) (fun d => ?_) (fun d hne => by rw [d3, if_neg hne]) (by rw [d3, if_pos rfl]; exact zer_bad)
  rw [d3]
  split
  · rename_i e; rw [e]; exact (h.al m hm).symm
  · rfl
theorem LookI.rot {cf : Cf} {K N SC gone m : Nat} {a : Int} {q : Rk} (h : LookI cf K N SC a gone m q) (hL : CfL cf N K SC 1 1) (hm : m < N) (hb : bitC gone m = false) : LookI cf K N SC a gone (m + 1) (Rk.rotten q m (1 + cf.k) m 1) := by
  have hr := h.pl.right
  have hx4 := hL.stIn (s := 0) (g := 4) a (by decide) (by decide) (by decide)
  have hsec : 1 + cf.k = ((tsec cf 0 : Nat) : Int) := by
    rw [← tsec_eq hr]
    unfold tbase Cf.secs
    rw [hL.s]; omega
  have hN := hL.r.2.1
  obtain ⟨i1, i2⟩ := h.is m hm (Or.inl (Nat.le_refl _))
  obtain ⟨r1, r2, r3, r4, r5, r6, r7⟩ := h.pl.rot (d := m) (p := tsec cf 0) (a := m) (x := 1) (by rw [h.nn]; exact hm) (h.al m hm) (tsec_lt h.pl.fits hx4.s1) i2 (by omega) (by decide)
  rw [hsec]
  refine h.step hb r2 r3 (by unfold Rk.rotten; split <;> rfl) r4 r6 ?_
  rw [r5, i1]
  exact rot_bad (tF_is _ _ _ _ _) (hx4.frame hr (by omega)) (by omega) (by decide) (by decide)
theorem LookI.told {cf : Cf} {K N SC gone : Nat} {a : Int} {q : Rk} (h : LookI cf K N SC a gone N q) (hL : CfL cf N K SC 1 1) :
    tnew q cf 0 = (if (List.range N).filter (bitC gone) = [] then 0 else 4) ∧ tpts q cf 0 = ((List.range N).filter (bitC gone)).map fun (d : Nat) => ((d : Int), frg cf.k.toNat d (blks a K)) := by
  have hx4 := hL.stIn (s := 0) (g := 4) a (by decide) (by decide) (by decide)
  have hT : TIs q cf 0 4 (blks a K) (bitC gone) := fun d hd => by
    rw [h.nn] at hd
    exact ⟨fun hP => ⟨h.al d hd, (h.is d hd (Or.inr hP)).1⟩, fun hP => Or.inr (h.no d hd hd hP)⟩
  have := hT.look h.pl hx4
  unfold tL at this
  rw [h.nn] at this
  exact this
def wantN (gone m : Nat) : List Nat := (List.range m).filter (bitC gone)
theorem wantN_yes {gone m : Nat} (h : bitC gone m = true) : wantN gone (m + 1) = wantN gone m ++ [m] := by unfold wantN; rw [List.range_succ, List.filter_append]; simp [h]
theorem wantN_no {gone m : Nat} (h : bitC gone m = false) : wantN gone (m + 1) = wantN gone m := by unfold wantN; rw [List.range_succ, List.filter_append]; simp [h]
theorem wantN_len (gone m : Nat) : (wantN gone m).length ≤ m := by
  have := List.length_filter_le (bitC gone) (List.range m)
  simpa [wantN] using this
theorem bit_clear (b m : Nat) (h : b < 18446744073709551616) : (Go.bits .and .u64 ((b : Int) / 2 ^ m) 1 == 0) = bitC b m := by
  have hd : (b : Int) / 2 ^ m = ((b / 2 ^ m : Nat) : Int) := by push_cast; rfl
  rw [hd, u64_and_one _ (Nat.lt_of_le_of_lt (Nat.div_le_self _ _) h)]
  unfold bitC
  by_cases e : b / 2 ^ m % 2 = 0
  · rw [e]; rfl
  · have e1 : b / 2 ^ m % 2 = 1 := by omega
    rw [e1]; rfl
theorem grew_first {wr w' : World} {cs : Array Value} {T : TypeId} {o : Obj} {B e n : Nat} {v : Value} {xs : List Value} {r' : Option Nat} {i : Nat} {u : Value} (ho : wr.ownsRow B e 1 v n xs) (hg : Grew ((wr.alloc (.cells cs T)).alloc o) v.ownBlock w' r') (h : cs[i]? = some u) : w'.cell? ⟨wr.heap.size, i, none⟩ = some u := by
  have hrow : ((wr.alloc (.cells cs T)).alloc o).heap[wr.heap.size]? = some (.cells cs T (0, 0)) := (heap_alloc_old (r := wr.heap.size) _ o (by simp)).trans (heap_alloc_new wr _)
  have hb := hg.by_.block wr.heap.size (by simp; omega) (fun e => by have := (own_block ho e.symm).2; omega)
  rw [cell_of_row w' wr.heap.size i cs T (0, 0) (hb.trans hrow)]
  exact h
theorem JW.grew {w1 : World} {c : Lc} {cf : Cf} {b B n : Nat} {q : Rk} {w w' : World} (h : JW w1 c cf b B n q w) {e s m : Nat} {v : Value} {xs : List Value} {r' : Option Nat} (ho : w.ownsRow B e s v m xs) (he : 65 ≠ e) (hg : Grew w v.ownBlock w' r') : JW w1 c cf b B n q w' := by
  have hb : Below B w w' := hg.below h.bB fun k hk => (own_block' ho hk).1
  have hl : w1.heap.size ≤ B := by have := h.qs.rack.lr; have := h.far.1; omega
  obtain ⟨cs, hr, _⟩ := h.qs.rack.row
  refine ⟨⟨h.qs.rack.keep (hb.block _ (by have := h.far.1; omega)) (hg.by_.block _ h.qs.rack.lt.2.1 fun e => own_kind_ne ho hr he e.symm) fun i hi => ?_, h.qs.base.trans (hb.mono hl)⟩, h.nn, h.cfg.below (B := B) (by have := h.bl; omega) hb, h.bl, h.far, Nat.le_trans h.bB hg.size⟩
  have := h.far.2 i (by rw [← h.nn]; exact hi)
  exact ⟨hb.block _ (by omega), hb.block _ (by omega), hb.block _ (by omega)⟩
set_option maxHeartbeats 16000000 in
set_option maxRecDepth 100000 in
theorem lookw_any (w : World) (k_ n_ a_ : Int) (gone : Nat) (hgo : gone < 18446744073709551616) (vh : Value) (lh : List Int) (hvh : SlI w.heap.size w vh lh) : Calls Tryz.prog 5 #[.int .i64 k_, .int .i64 n_, .int .i64 a_, .int .u64 (gone : Int), vh] w (Bit true w) := by
  have HVH := Lib.hid hvh
  have HGO := Lib.hid hgo
  obtain ⟨ah, ch, rfl⟩ := hvh.len
  clear hvh hgo
  go_enter Tryz.func5, Tryz.ntmps5
  go_wp2_with fail
  refine (fixed_any k_ n_ 1 1 _ (by omega) (by omega)).mono ?_
  rintro e w1 ⟨cf, hcf, rfl, hb1⟩
  obtain ⟨N, K, SC, hL⟩ := cfL_of hcf
  have HL := Lib.hid hL
  have CS := Lib.hid (fun w => ksectors_any cf w hL.ok.right)
  have CN := Lib.hid (fun w => hL.new w)
  have H2 := Lib.hid (show JfS cf w1.heap.size w (w1.alloc (.cells (cfA cf) 23)) from ⟨cfB_new w1 cf, by simp, balloc hb1 _⟩)
  have HNR := Lib.hid hL.r
  clear hb1 hcf hL
  go_wp2_with fail
  have h2 := H2.out
  generalize w1.alloc (.cells (cfA cf) 23) = w2 at *
  generalize w1.heap.size = b at *
  have d0 : ∀ w', JfS cf b w w' → w'.cell? ⟨b, 0, none⟩ = some (.int .i64 cf.id) := fun w' h => h.1.cell 0
  have d1 : ∀ w', JfS cf b w w' → w'.cell? ⟨b, 1, none⟩ = some (.int .i64 cf.k) := fun w' h => h.1.cell 1
  have d2 : ∀ w', JfS cf b w w' → w'.cell? ⟨b, 2, none⟩ = some (.int .i64 cf.n) := fun w' h => h.1.cell 2
  have d3 : ∀ w', JfS cf b w w' → w'.cell? ⟨b, 3, none⟩ = some (.int .i64 cf.t) := fun w' h => h.1.cell 3
  have d4 : ∀ w', JfS cf b w w' → w'.cell? ⟨b, 4, none⟩ = some (.int .i64 cf.s) := fun w' h => h.1.cell 4
  refine wp_region_noPanic ?_
  refine wp_region_held_drew (S := (fun w' => JfS cf b w w')) (by kernel_rfl) h2.drew (fun hHeld => ?_)
  refine wpAnyH_take (i := 0) (oi := ⟨some 25, _, _, _, _, _⟩) (v := ?_) rfl (by kernel_rfl) (by kernel_rfl) (by kernel_rfl) (fun _ _ _ h => h) (Or.inl ⟨by rfl, ?_⟩) hHeld ?_
  rotate_left
  · intro w hSw; (go_simp; try with_reducible rfl)
  simp only [Act.put, List.setIfInBounds_toArray, List.set_cons_zero, List.set_cons_succ]
  refine wpAnyH_take (i := 1) (oi := ⟨some 26, _, _, _, _, _⟩) (v := ?_) rfl (by kernel_rfl) (by kernel_rfl) (by kernel_rfl) (fun _ _ _ h => h) (Or.inl ⟨by rfl, ?_⟩) hHeld ?_
  rotate_left
  · intro w hSw; (go_simp; try with_reducible rfl)
  simp only [Act.put, List.setIfInBounds_toArray, List.set_cons_zero, List.set_cons_succ]
  refine wpAnyH_take (i := 2) (oi := ⟨some 27, _, _, _, _, _⟩) (v := ?_) rfl (by kernel_rfl) (by kernel_rfl) (by kernel_rfl) (fun _ _ _ h => h) (Or.inl ⟨by rfl, ?_⟩) hHeld ?_
  rotate_left
  · intro w hSw; (go_simp; try with_reducible rfl)
  simp only [Act.put, List.setIfInBounds_toArray, List.set_cons_zero, List.set_cons_succ]
  refine wpAnyH_ready (rs := [3]) (by kernel_rfl) (by simp) (AllReadyH.cons rfl (fun K hK => ?_) AllReadyH.nil)
  go_simp
  refine (CS.out _).mono ?_
  rintro e w3 ⟨rfl, hb3⟩
  have h3 := JfS.then hHeld hb3
  clear hb3
  refine hK.out _ _ h3 (fun _ => ?_)
  clear hK K
  refine wpAnyH_ready (rs := [4]) (by kernel_rfl) (by simp) (AllReadyH.cons rfl (fun K hK => ?_) AllReadyH.nil)
  go_simp
  refine (CN.out _).mono ?_
  rintro e w4 ⟨c, rfl, h4⟩
  have H4 := Lib.hid h4
  have h5 := JfS.made h3 h4
  clear h4
  refine hK.out _ _ h5 (fun _ => ?_)
  clear hK K
  refine wpAnyH_take (i := 5) (oi := ⟨some 24, _, _, _, _, _⟩) (v := ?_) rfl (by kernel_rfl) (by kernel_rfl) (by kernel_rfl) (fun _ _ _ h => h) (Or.inl ⟨by rfl, ?_⟩) h5 ?_
  rotate_left
  · intro w hSw; (go_simp; try with_reducible rfl)
  simp only [Act.put, List.setIfInBounds_toArray, List.set_cons_zero, List.set_cons_succ]
  refine wpAnyH_take (i := 6) (oi := ⟨some 30, _, _, _, _, _⟩) (v := ?_) rfl (by kernel_rfl) (by kernel_rfl) (by kernel_rfl) (fun _ _ _ h => h) (Or.inl ⟨by rfl, ?_⟩) h5 ?_
  rotate_left
  · intro w hSw; (go_simp; try with_reducible rfl)
  simp only [Act.put, List.setIfInBounds_toArray, List.set_cons_zero, List.set_cons_succ]
  refine wpAnyH_take (i := 7) (oi := ⟨some 31, _, _, _, _, _⟩) (v := ?_) rfl (by kernel_rfl) (by kernel_rfl) (by kernel_rfl) (fun _ _ _ h => h) (Or.inl ⟨by rfl, ?_⟩) h5 ?_
  rotate_left
  · intro w hSw; (go_simp; try with_reducible rfl)
  simp only [Act.put, List.setIfInBounds_toArray, List.set_cons_zero, List.set_cons_succ]
  refine wpAnyH_take (i := 8) (oi := ⟨some 12, _, _, _, _, _⟩) (v := ?_) rfl (by kernel_rfl) (by kernel_rfl) (by kernel_rfl) (fun _ _ _ h => h) (Or.inl ⟨by rfl, ?_⟩) h5 ?_
  rotate_left
  · intro w hSw; (go_simp; try with_reducible rfl)
  simp only [Act.put, List.setIfInBounds_toArray, List.set_cons_zero, List.set_cons_succ]
  refine wpAnyH_take (i := 9) (oi := ⟨some 13, _, _, _, _, _⟩) (v := ?_) rfl (by kernel_rfl) (by kernel_rfl) (by kernel_rfl) (fun _ _ _ h => h) (Or.inl ⟨by rfl, ?_⟩) h5 ?_
  rotate_left
  · intro w hSw; (go_simp; try with_reducible rfl)
  simp only [Act.put, List.setIfInBounds_toArray, List.set_cons_zero, List.set_cons_succ]
  refine wpAnyH_done (by kernel_rfl) ?_ _
  refine NoPanic.normal ?_
  have HB3 := Lib.hid (show JfS cf b w w3 from h3)
  have HJ4 := Lib.hid (show JW w3 c cf b w4.heap.size N (newRk N SC) w4 from JW.made H4.out HB3.out.1 HB3.out.2.1 (Below.refl _ _))
  have HBW := Lib.hid (fun (q : Rk) (w' : World) (h : JW w3 c cf b w4.heap.size N q w') => show Below w.heap.size w w' from bthen HB3.out.2.2 h.qs.base)
  clear d0 d1 d2 d3 d4 h2 hHeld h3 h5
  have HLS := Lib.hid (look_start (gone := gone) (a := a_) HL.out)
  have HTP := Lib.hid (tput_nil HLS.out.1)
  have HBK := Lib.hid (fun w => HL.out.blocks a_ w)
  have HPT := Lib.hid (fun (w' : World) (v : Value) (hj : JW w3 c cf b w4.heap.size N (newRk N SC) w') (hv : SlK w'.heap.size w' v (blks a_ K)) => show Calls Tryz.prog 8 #[.pointer (some ⟨c.r, 0, none⟩), .agg #[.int .i64 cf.id, .int .i64 cf.k, .int .i64 cf.n, .int .i64 cf.t, .int .i64 cf.s], .int .i64 0, .int .i64 4, v] w' (JN w3 c cf b w4.heap.size N (Rk.tput (newRk N SC) cf 0 4 (blks a_ K)) .nilIface w') from by
    have := hj.tput 0 4 hv
    rwa [HTP.out] at this)
  have d0 : ∀ w', CfB cf b w' → w'.cell? ⟨b, 0, none⟩ = some (.int .i64 cf.id) := fun w' h => h.cell 0
  have d1 : ∀ w', CfB cf b w' → w'.cell? ⟨b, 1, none⟩ = some (.int .i64 cf.k) := fun w' h => h.cell 1
  have d2 : ∀ w', CfB cf b w' → w'.cell? ⟨b, 2, none⟩ = some (.int .i64 cf.n) := fun w' h => h.cell 2
  have d3 : ∀ w', CfB cf b w' → w'.cell? ⟨b, 3, none⟩ = some (.int .i64 cf.t) := fun w' h => h.cell 3
  have d4 : ∀ w', CfB cf b w' → w'.cell? ⟨b, 4, none⟩ = some (.int .i64 cf.s) := fun w' h => h.cell 4
  go_wp2_with fail
  refine wp_region_noPanic ?_
  refine wp_region_held_drew (S := (fun w' => CfB cf b w')) (by kernel_rfl) (show CfB cf b w4.drew from HJ4.out.cfg) (fun hHeld => ?_)
  refine wpAnyH_take (i := 0) (oi := ⟨some 32, _, _, _, _, _⟩) (v := ?_) rfl (by kernel_rfl) (by kernel_rfl) (by kernel_rfl) (fun _ _ _ h => h) (Or.inl ⟨by rfl, ?_⟩) hHeld ?_
  rotate_left
  · intro w hSw; (go_simp; try with_reducible rfl)
  simp only [Act.put, List.setIfInBounds_toArray, List.set_cons_zero, List.set_cons_succ]
  refine wpAnyH_take (i := 1) (oi := ⟨some 33, _, _, _, _, _⟩) (v := ?_) rfl (by kernel_rfl) (by kernel_rfl) (by kernel_rfl) (fun _ _ _ h => h) (Or.inl ⟨by rfl, ?_⟩) hHeld ?_
  rotate_left
  · intro w hSw; (go_simp; try with_reducible rfl)
  simp only [Act.put, List.setIfInBounds_toArray, List.set_cons_zero, List.set_cons_succ]
  refine wpAnyH_take (i := 2) (oi := ⟨some 34, _, _, _, _, _⟩) (v := ?_) rfl (by kernel_rfl) (by kernel_rfl) (by kernel_rfl) (fun _ _ _ h => h) (Or.inl ⟨by rfl, ?_⟩) hHeld ?_
  rotate_left
  · intro w hSw; (go_simp; try with_reducible rfl)
  simp only [Act.put, List.setIfInBounds_toArray, List.set_cons_zero, List.set_cons_succ]
  refine wpAnyH_take (i := 3) (oi := ⟨some 35, _, _, _, _, _⟩) (v := ?_) rfl (by kernel_rfl) (by kernel_rfl) (by kernel_rfl) (fun _ _ _ h => h) (Or.inl ⟨by rfl, ?_⟩) hHeld ?_
  rotate_left
  · intro w hSw; (go_simp; try with_reducible rfl)
  simp only [Act.put, List.setIfInBounds_toArray, List.set_cons_zero, List.set_cons_succ]
  refine wpAnyH_take (i := 4) (oi := ⟨some 36, _, _, _, _, _⟩) (v := ?_) rfl (by kernel_rfl) (by kernel_rfl) (by kernel_rfl) (fun _ _ _ h => h) (Or.inl ⟨by rfl, ?_⟩) hHeld ?_
  rotate_left
  · intro w hSw; (go_simp; try with_reducible rfl)
  simp only [Act.put, List.setIfInBounds_toArray, List.set_cons_zero, List.set_cons_succ]
  refine wpAnyH_take (i := 5) (oi := ⟨some 37, _, _, _, _, _⟩) (v := ?_) rfl (by kernel_rfl) (by kernel_rfl) (by kernel_rfl) (fun _ _ _ h => h) (Or.inl ⟨by rfl, ?_⟩) hHeld ?_
  rotate_left
  · intro w hSw; (go_simp; try with_reducible rfl)
  simp only [Act.put, List.setIfInBounds_toArray, List.set_cons_zero, List.set_cons_succ]
  refine wpAnyH_take (i := 6) (oi := ⟨some 38, _, _, _, _, _⟩) (v := ?_) rfl (by kernel_rfl) (by kernel_rfl) (by kernel_rfl) (fun _ _ _ h => h) (Or.inl ⟨by rfl, ?_⟩) hHeld ?_
  rotate_left
  · intro w hSw; (go_simp; try with_reducible rfl)
  simp only [Act.put, List.setIfInBounds_toArray, List.set_cons_zero, List.set_cons_succ]
  refine wpAnyH_take (i := 7) (oi := ⟨some 39, _, _, _, _, _⟩) (v := ?_) rfl (by kernel_rfl) (by kernel_rfl) (by kernel_rfl) (fun _ _ _ h => h) (Or.inl ⟨by rfl, ?_⟩) hHeld ?_
  rotate_left
  · intro w hSw; (go_simp; try with_reducible rfl)
  simp only [Act.put, List.setIfInBounds_toArray, List.set_cons_zero, List.set_cons_succ]
  refine wpAnyH_take (i := 8) (oi := ⟨some 40, _, _, _, _, _⟩) (v := ?_) rfl (by kernel_rfl) (by kernel_rfl) (by kernel_rfl) (fun _ _ _ h => h) (Or.inl ⟨by rfl, ?_⟩) hHeld ?_
  rotate_left
  · intro w hSw; (go_simp; try with_reducible rfl)
  simp only [Act.put, List.setIfInBounds_toArray, List.set_cons_zero, List.set_cons_succ]
  refine wpAnyH_take (i := 9) (oi := ⟨some 41, _, _, _, _, _⟩) (v := ?_) rfl (by kernel_rfl) (by kernel_rfl) (by kernel_rfl) (fun _ _ _ h => h) (Or.inl ⟨by rfl, ?_⟩) hHeld ?_
  rotate_left
  · intro w hSw; (go_simp; try with_reducible rfl)
  simp only [Act.put, List.setIfInBounds_toArray, List.set_cons_zero, List.set_cons_succ]
  refine wpAnyH_take (i := 10) (oi := ⟨some 42, _, _, _, _, _⟩) (v := ?_) rfl (by kernel_rfl) (by kernel_rfl) (by kernel_rfl) (fun _ _ _ h => h) (Or.inl ⟨by rfl, ?_⟩) hHeld ?_
  rotate_left
  · intro w hSw; (go_simp; try with_reducible rfl)
  simp only [Act.put, List.setIfInBounds_toArray, List.set_cons_zero, List.set_cons_succ]
  refine wpAnyH_take (i := 11) (oi := ⟨some 43, _, _, _, _, _⟩) (v := ?_) rfl (by kernel_rfl) (by kernel_rfl) (by kernel_rfl) (fun _ _ _ h => h) (Or.inl ⟨by rfl, ?_⟩) hHeld ?_
  rotate_left
  · intro w hSw; (go_simp; try with_reducible rfl)
  simp only [Act.put, List.setIfInBounds_toArray, List.set_cons_zero, List.set_cons_succ]
  refine wpAnyH_ready (rs := [12]) (by kernel_rfl) (by simp) (AllReadyH.cons rfl (fun K hK => ?_) AllReadyH.nil)
  go_simp
  refine (HBK.out _).mono ?_
  rintro e w5 ⟨v, rfl, hv, hb5⟩
  have HV5 := Lib.hid (slK_own hv (blks_is _ _) rfl)
  have HJ5 := Lib.hid (HJ4.out.drew.below hb5)
  have h5 : CfB cf b w5 := HJ5.out.cfg
  obtain ⟨gv, cv, rfl, -⟩ := own_slice' hv
  clear hv hb5
  refine hK.out _ _ h5 (fun _ => ?_)
  clear hK K
  refine wpAnyH_ready (rs := [13]) (by kernel_rfl) (by simp) (AllReadyH.cons rfl (fun K hK => ?_) AllReadyH.nil)
  go_simp
  refine (HPT.out w5 _ HJ5.out HV5.out).mono ?_
  rintro e w6 ⟨rfl, hj6, _⟩
  have HJ6 := Lib.hid hj6
  have h6 : CfB cf b w6 := hj6.cfg
  clear hj6
  refine hK.out _ _ h6 (fun _ => ?_)
  clear hK K
  refine wpAnyH_take (i := 14) (oi := ⟨some 46, _, _, _, _, _⟩) (v := ?_) rfl (by kernel_rfl) (by kernel_rfl) (by kernel_rfl) (fun _ _ _ h => h) (Or.inl ⟨by rfl, ?_⟩) h6 ?_
  rotate_left
  · intro w hSw; (go_simp; try with_reducible rfl)
  simp only [Act.put, List.setIfInBounds_toArray, List.set_cons_zero, List.set_cons_succ]
  refine wpAnyH_take (i := 15) (oi := ⟨some 47, _, _, _, _, _⟩) (v := ?_) rfl (by kernel_rfl) (by kernel_rfl) (by kernel_rfl) (fun _ _ _ h => h) (Or.inl ⟨by rfl, ?_⟩) h6 ?_
  rotate_left
  · intro w hSw; (go_simp; try with_reducible rfl)
  simp only [Act.put, List.setIfInBounds_toArray, List.set_cons_zero, List.set_cons_succ]
  refine wpAnyH_done (by kernel_rfl) ?_ _
  refine NoPanic.normal ?_
  clear d0 d1 d2 d3 d4 h5 h6 hHeld
  have HCN := Lib.hid (show cf.n = N ∧ cf.k = K from ⟨HL.out.n, HL.out.k⟩)
  have HS := Lib.hid HLS.out.2
  generalize hQ0 : Rk.tput (newRk N SC) cf 0 4 (blks a_ K) = q0 at *
  clear hQ0
  have hN6 : N ≤ 6 := HNR.out.2.1
  go_wp2_with fail
  go_loopw [14, 15] (fun v i wr => ∃ (m : Nat) (q : Rk), m ≤ N ∧ i = .int .i64 m ∧ LookI cf K N SC a_ gone m q ∧ JW w3 c cf b w4.heap.size N q wr ∧ wr.ownsRow w4.heap.size 3 1 v (wantN gone m).length (numsV (wantN gone m))) (fun _ i _ => N - (intOf i).toNat)
  case atStart => exact ⟨0, _, Nat.zero_le _, rfl, HS.out, HJ6.out, World.ownsRow_nil _ _ _ _⟩
  case round =>
    obtain ⟨m, q, hm, rfl, hI, hJ, hO⟩ := hrel
    have HI := Lib.hid hI
    have HJ := Lib.hid hJ
    have HO := Lib.hid hO
    obtain ⟨d0, d1, d2, d3, d4⟩ := CfB.cells hJ.cfg
    rw [HCN.out.1] at d2
    obtain ⟨ga, ca, rfl, -⟩ := own_slice hO
    clear hI hJ hO
    by_cases hlt : m < N
    · have HBC := Lib.hid (bit_clear gone m HGO.out)
      have HWL := Lib.hid (wantN_len gone m)
      cases hbc : bitC gone m with
      | true =>
        rw [hbc] at HBC
        have HW := Lib.hid (wantN_yes hbc)
        have HN := Lib.hid (HI.out.skip hbc)
        clear hbc
        have hbt := HBC.out
        have hm6 : m < 64 := by omega
        go_wp2_with (at_builtin; refine wpList_append_num _ rfl (.tmp 59) (.tmp 61) rfl w4.heap.size _ _ _ rfl (own_below HO.out (one_below _ _)) wr.heap.size (.int .i64 (m : Int)) rfl ?_ rfl ?_ ?_ ?_; (exact new_cells _ _ _ _ _ rfl); (have := HWL.out; omega); (have := HJ.out.bB; simp; omega); intro va wa howna hga; have HOA := Lib.hid howna; have HGA := Lib.hid hga; obtain ⟨g7, c7, rfl, -⟩ := own_slice howna; clear howna hga)
        go_roundw
        case rel =>
          refine ⟨m + 1, q, hlt, by go_num, HN.out, (HJ.out.below (one_below wr _)).grew (own_below HO.out (one_below wr _)) (by decide) HGA.out, ?_⟩
          rw [HW.out, List.length_append]
          have := HOA.out
          simpa [numsV] using this
        case measure => simp [intOf]; omega
      | false =>
        rw [hbc] at HBC
        have HW := Lib.hid (wantN_no hbc)
        have hbt := HBC.out
        have hm6 : m < 64 := by omega
        have HNR2 := Lib.hid (HI.out.replace hlt hbc)
        have HNT := Lib.hid (HI.out.rot HL.out hlt hbc)
        have CRP := Lib.hid (HJ.out.replace (m : Int))
        have CRT := Lib.hid (HJ.out.rot (m : Int) (1 + cf.k) (m : Int) 1)
        have hwk : IntKind.i64.wrap (1 + cf.k) = 1 + cf.k := IntWalk.i64_in _ (by have := HCN.out.2; have := HNR.out.2.2.2.2.2.1; omega)
        clear hbc
        have hfin : ∀ (q' : Rk) (w' : World), LookI cf K N SC a_ gone (m + 1) q' → JW w3 c cf b w4.heap.size N q' w' → RC c N wr w' → ∃ (m' : Nat) (q : Rk), m' ≤ N ∧ (Value.int .i64 ((m : Int) + 1)) = .int .i64 m' ∧ LookI cf K N SC a_ gone m' q ∧ JW w3 c cf b w4.heap.size N q w' ∧ w'.ownsRow w4.heap.size 3 1 (.slice ga (wantN gone m).length ca) (wantN gone m').length (numsV (wantN gone m')) := fun q' w' h1 h2 h3 =>
          ⟨m + 1, q', hlt, by go_num, h1, h2, by rw [HW.out]; exact own_rc HO.out HJ.out.far h3⟩
        have HFIN := Lib.hid hfin
        clear hfin
        by_cases hmh : m < lh.length
        · obtain ⟨bh, oh, ch2, hse, hce⟩ := HVH.out.num (Nat.le_refl _) (HBW.out _ _ HJ.out) hmh
          injection hse with hse1 hse2 hse3
          subst hse1 hse3
          clear hse2
          generalize lh.getD m 0 = y at *
          by_cases hy : Int.tmod y 2 = 0
          · have hyb : (Int.tmod y 2 == 0) = true := by simpa using hy
            go_wp2_with fail
            refine CRP.out.mono ?_
            rintro e w7 ⟨rfl, hj7, hc7⟩
            have H7 := Lib.hid (HFIN.out _ _ HNR2.out hj7 hc7)
            clear hj7 hc7
            go_wp2_with fail
            go_roundw
            case rel => exact H7.out
            case measure => simp [intOf]; omega
          · have hyb : (Int.tmod y 2 == 0) = false := by simpa using hy
            go_wp2_with fail
            refine CRT.out.mono ?_
            rintro e w7 ⟨rfl, hj7, hc7⟩
            have H7 := Lib.hid (HFIN.out _ _ HNT.out hj7 hc7)
            clear hj7 hc7
            go_wp2_with fail
            go_roundw
            case rel => exact H7.out
            case measure => simp [intOf]; omega
        · have hmi : ¬ (m : Int) < lh.length := by omega
          go_wp2_with fail
          refine CRT.out.mono ?_
          rintro e w7 ⟨rfl, hj7, hc7⟩
          have H7 := Lib.hid (HFIN.out _ _ HNT.out hj7 hc7)
          clear hj7 hc7
          go_wp2_with fail
          go_roundw
          case rel => exact H7.out
          case measure => simp [intOf]; omega
    · obtain rfl : m = N := by omega
      obtain ⟨t1, t2⟩ := HI.out.told HL.out
      have HWD := Lib.hid (show (List.range m).filter (bitC gone) = wantN gone m from rfl)
      rw [HWD.out] at t1 t2
      have HWL := Lib.hid (wantN_len gone m)
      have CLK := Lib.hid (show Calls Tryz.prog 20 #[.pointer (some ⟨c.r, 0, none⟩), .agg #[.int .i64 cf.id, .int .i64 cf.k, .int .i64 (m : Int), .int .i64 cf.t, .int .i64 cf.s], .int .i64 0] wr (fun e w' => ∃ v, e = .returned (.tuple #[.int .i64 (if wantN gone m = [] then 0 else 4), v]) ∧ SlP w'.heap.size w' v ((wantN gone m).map fun (d : Nat) => ((d : Int), frg cf.k.toNat d (blks a_ K))) ∧ Below wr.heap.size wr w') from by
        have := HJ.out.tlook 0
        unfold LookOut cfA at this
        rwa [t1, t2, HCN.out.1] at this)
      clear t1 t2
      generalize wantN gone m = W at *
      go_wp2_with fail
      refine CLK.out.mono ?_
      rintro e w8 ⟨v8, rfl, hS8, hb8⟩
      have HS8 := Lib.hid hS8
      have HJ8 := Lib.hid (HJ.out.below hb8)
      have HO8 := Lib.hid (own_below HO.out hb8)
      have HRN := Lib.hid (fun X => stripe_runs X)
      obtain ⟨g8, c8, rfl, -⟩ := hS8.len
      rw [List.length_map]
      clear hS8 hb8 d0 d1 d2 d3 d4
      generalize hgen : (if W = [] then (0 : Int) else 4) = gen at *
      have HGEN := Lib.hid hgen
      clear hgen
      go_wp2_with fail
      go_loopw [18, 93] (fun v i wr => ∃ j : Nat, j ≤ W.length ∧ i = .int .i64 j ∧ wr.ownsRow w8.heap.size 3 1 v j (numsV (W.take j)) ∧ Below w8.heap.size w8 wr) (fun _ i _ => W.length - (intOf i).toNat)
      case atStart => exact ⟨0, Nat.zero_le _, rfl, World.ownsRow_nil _ _ _ _, Below.refl _ _⟩
      case round =>
        obtain ⟨j, hj, rfl, hO9, hb9⟩ := hrel
        have HO9 := Lib.hid hO9
        have HB9 := Lib.hid hb9
        obtain ⟨g9, c9, rfl, -⟩ := own_slice hO9
        clear hO9 hb9
        by_cases hjl : j < W.length
        · have hS := HS8.out.below HB9.out
          rw [List.length_map] at hS
          obtain ⟨bp, op, cp, hse, hcap, hbp, hpt⟩ := (HS8.out.below HB9.out).part (i := j) (by rw [List.length_map]; exact hjl)
          rw [List.length_map] at hse
          injection hse with hse1 hse2 hse3
          subst hse1 hse3
          clear hse2 hS
          have hge : ((W.map fun (d : Nat) => ((d : Int), frg cf.k.toNat d (blks a_ K))).getD j pt0) = (((W.getD j 0 : Nat) : Int), frg cf.k.toNat (W.getD j 0) (blks a_ K)) := by simp [List.getD, hjl]
          rw [hge] at hpt
          obtain ⟨u, hu1, hu2⟩ := hpt.data
          have hpa := hpt.at_
          obtain ⟨au, cu, hue, -⟩ := hu2.len
          rw [frg_length] at hue
          subst hue
          have HTK := Lib.hid (show W.take (j + 1) = W.take j ++ [W.getD j 0] from take_snoc' hjl)
          have HLN := Lib.hid (show (W.take j).length = j by rw [List.length_take]; omega)
          have hj6 : j < 64 := by have := HWL.out; omega
          generalize W.getD j 0 = d at *
          clear hpt hge hu2 hcap
          go_wp2_with (at_builtin; refine wpList_append_num _ rfl (.tmp 97) (.tmp 100) rfl w8.heap.size _ _ _ rfl (own_below (own_below HO9.out (one_below _ _)) (one_below _ _)) (wr.heap.size + 1) (.int .i64 (d : Int)) rfl ?_ rfl ?_ ?_ ?_; (exact new_cells1 _ _ _ _ _ _ rfl); (have := HWL.out; omega); (have := HB9.out.size; simp; omega); intro va wa howna hga; have HOA := Lib.hid howna; have HGA := Lib.hid hga; have hpc := grew_first HO9.out hga (i := 1) rfl; obtain ⟨g7, c7, rfl, -⟩ := own_slice howna; clear howna hga)
          go_roundw
          case rel =>
            refine ⟨j + 1, hjl, by go_num, ?_, (balloc (balloc HB9.out _) _).trans (HGA.out.below (by have := HB9.out.size; simp; omega) fun k hk => (own_block HO9.out hk).1)⟩
            have := HOA.out
            rw [HTK.out]
            simpa [numsV] using this
          case measure => simp [intOf]; omega
        · obtain rfl : j = W.length := by omega
          have HSM := Lib.hid (show Calls Tryz.prog 21 #[.slice g9 W.length c9, .slice ga W.length ca] wr (Bit true wr) from by
            have h1 := HO9.out
            rw [List.take_length] at h1
            have := same_nums wr.heap.size (.slice g9 W.length c9) (.slice ga W.length ca) W W wr (sln_own h1 rfl) (sln_own (own_below HO8.out HB9.out) rfl) (Nat.le_refl _) (by have := HWL.out; omega)
            rwa [decide_eq_true rfl] at this)
          have HBB := Lib.hid (bthen (HBW.out _ _ HJ8.out) HB9.out)
          by_cases hW : W = []
          · have hg0 : gen = 0 := by rw [← HGEN.out, if_pos hW]
            have hwl : W.length = 0 := by rw [hW]; rfl
            subst hg0
            rw [hwl] at HSM
            rw [hwl]
            go_wp2_with (first
              | (go_at_call 21; refine HSM.out.mono ?_; rintro e w10 ⟨rfl, hb10⟩; have HB10 := Lib.hid (bthen HBB.out hb10); clear hb10)
              | (go_at_call 3; refine (HRN.out _).mono ?_; rintro e w11 ⟨rfl, hb11⟩; have HB11 := Lib.hid (bthen HB10.out hb11); clear hb11))
            go_ret
            exact bit rfl HB11.out
          · have hg0 : gen = 4 := by rw [← HGEN.out, if_neg hW]
            have hwl : 0 < W.length := List.length_pos_iff.2 hW
            subst hg0
            go_wp2_with (first
              | (go_at_call 21; refine HSM.out.mono ?_; rintro e w10 ⟨rfl, hb10⟩; have HB10 := Lib.hid (bthen HBB.out hb10); clear hb10)
              | (go_at_call 3; refine (HRN.out _).mono ?_; rintro e w11 ⟨rfl, hb11⟩; have HB11 := Lib.hid (bthen HB10.out hb11); clear hb11))
            go_ret
            exact bit rfl HB11.out
end Go.Proofs.YtidnmkghmaeniaaGreat
namespace Go.Proofs.YtidnmkghmaeniaaGreat.stripeLook
open Go.ChangeShapes Go.WideShapes Go.ChangeAt Go.RowKit

set_option maxRecDepth 100000 in
theorem lifted (os : Os) (started : os.Started) (H : Type) (enc : TypeId × Value → H) :
    ReturnsInHanded {} Tryz.checked os 5 .any (Rows.stripeLookSpec.pre6 enc Tryz.prog Tryz.f5 Rows.stripeLookRow.domain false) (Rows.stripeLookSpec.post enc Tryz.prog Tryz.f5 false true false false) := by
  refine returnsInHanded_of_change (C := Tryz.checked) Tryz.own started (by kernel_rfl) Tryz.func5
    (ChangeSpec.witness6 (enc := enc) (C := Tryz.checked) false ⟨#[], #[.int .i64 0, .int .i64 0, .int .i64 0, .int .u64 0, .slice none 0 0], []⟩ 8 (by kernel_rfl) (by kernel_rfl) (by kernel_rfl) (by kernel_rfl)) ?_
  intro W base args ds gs before hval0 hW _ _
  have hval : ∀ (j : Nat) t v, Tryz.f5.params[j]? = some t → args[j]? = some v → Value.okWide Tryz.prog W .any base t v := hval0
  have hW' := hW
  obtain ⟨p, q, hA0, hV, rfl, hfz, hnd⟩ := hW
  have hA : DataW.TrodAll enc Tryz.prog W 0 (fun _ => true) true Tryz.f5.params.toList args.toList ds p := hA0
  rw [Tryz.params5] at hA hval
  obtain ⟨v0, vs0, d0, ds0, p0, q0, hargs, rfl, rfl, h0, r0⟩ := trodAll_cons hA
  obtain ⟨v1, vs1, d1, ds1, p1, q1, rfl, rfl, rfl, h1, r1⟩ := trodAll_cons r0
  obtain ⟨v2, vs2, d2, ds2, p2, q2, rfl, rfl, rfl, h2, r2⟩ := trodAll_cons r1
  obtain ⟨v3, vs3, d3, ds3, p3, q3, rfl, rfl, rfl, h3, r3⟩ := trodAll_cons r2
  obtain ⟨v4, vs4, d4, ds4, p4, q4, rfl, rfl, rfl, h4, r4⟩ := trodAll_cons r3
  obtain ⟨rfl, rfl, rfl⟩ := trodAll_nil r4
  obtain rfl : args = #[v0, v1, v2, v3, v4] := Array.ext' hargs
  obtain ⟨k_, rfl, rfl, rfl, _⟩ := open_int Tryz.underlying3 (hval 0 3 v0 (by simp) (by simp)) h0
  obtain ⟨n_, rfl, rfl, rfl, _⟩ := open_int Tryz.underlying3 (hval 1 3 v1 (by simp) (by simp)) h1
  obtain ⟨a_, rfl, rfl, rfl, _⟩ := open_int Tryz.underlying3 (hval 2 3 v2 (by simp) (by simp)) h2
  obtain ⟨g_, rfl, rfl, rfl, wg_⟩ := open_int Tryz.underlying51 (hval 3 51 v3 (by simp) (by simp)) h3
  have hv4 := (hval 4 52 v4 (by simp) (by simp))
  obtain ⟨g_, rfl⟩ := Int.eq_ofNat_of_zero_le (word64_range wg_).1
  have hltg_ : g_ < 18446744073709551616 := by have := (word64_range wg_).2; omega
  obtain ⟨l, hsl, hll⟩ := open_nums hv4 h4
  obtain ⟨rfl, rfl⟩ := trodVars_none hV
  clear hA0 hval0
  have hw : Calls Tryz.prog 5 #[.int .i64 k_, .int .i64 n_, .int .i64 a_, .int .u64 (g_ : Int), v4] W (Bit true W) := lookw_any W k_ n_ a_ g_ hltg_ v4 l hsl
  refine hw.mono fun e W' ⟨he, hg⟩ => ?_
  subst he
  exact ⟨_, rfl, law_post Tryz.laidOut (by kernel_rfl) (by kernel_rfl) (by kernel_rfl) Tryz.underlying4 hW' hg rfl rfl rfl⟩

end Go.Proofs.YtidnmkghmaeniaaGreat.stripeLook
namespace Go.Proofs.YtidnmkghmaeniaaGreat
theorem StripeLook_said : Rows.StripeLookSaid :=
  OpenClaim.holds_of_wide 5 Tryz.f5 rfl rfl rfl rfl rfl rfl rfl ⟨rfl, rfl, rfl, rfl, rfl⟩ rfl rfl rfl rfl rfl (by kernel_rfl) Tryz.func5 (by kernel_rfl)
    (of_decide_eq_true (by kernel_rfl)) (by unfold Func.isWrapper; first | (rw [if_pos (by decide +kernel)]; kernel_rfl) | (rw [if_neg (by decide +kernel)]; exact ⟨rfl, rfl⟩))
    (fun os started H enc _ => stripeLook.lifted os started H enc)
#print axioms StripeLook_said
end Go.Proofs.YtidnmkghmaeniaaGreat
