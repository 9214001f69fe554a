/-
  The law stavelaw11.StripeNever (of two generations, the newer one cut short by the power anywhere, one of them is read, whole, or it is told that neither is; what ended well is the newer one) returns true for all numbers, and leaves all memory that was there as it was.
  Conditions: none but the row's own; the one package-level variable that it reads, errors.errorType, is tied to the program's text by the card. The card speaks of the pruned copy of the project that the seat names.
-/
import Derived.Test.YtidnmkghmaeniaaGreatDoorTLaw
import Derived.Test.YtidnmkghmaeniaaGreatDoorOpenU
import Derived.Deep.RegionHeld3
import Derived.IntWalk
import Derived.Test.YtidnmkghmaeniaaGreatDoorBase
import Derived.Test.YtidnmkghmaeniaaGreatDoorLaw
namespace Go.Proofs.YtidnmkghmaeniaaGreatDoor
open Go.RowKit Go.Deep Dk Qk Go.Maps Hf
theorem JW.arm {w1 : World} {c : Lc} {cf : Cf} {b B n : Nat} {q : Rk} {w : World} (h : JW w1 c cf b B n q w) (k : Int) (h1 : -9223372036854775808 ≤ k) (h2 : k < 9223372036854775808) :
    Calls Tryz.prog 47 #[.pointer (some ⟨c.r, 0, none⟩), .int .i64 k] w (JN w1 c cf b B n (q.arm k) (.tuple #[]) w) := h.step (h.qs.arm k h1 h2) rfl
theorem JW.boot {w1 : World} {c : Lc} {cf : Cf} {b B n : Nat} {q : Rk} {w : World} (h : JW w1 c cf b B n q w) (v : Value) (l : List Nat) (hv : SlU w.heap.size w v l) (hl : ∀ x, x < l.length → l.getD x 0 < 18446744073709551616) :
    Calls Tryz.prog 48 #[.pointer (some ⟨c.r, 0, none⟩), v] w (JN w1 c cf b B n (q.boot fun i => l.getD i 0) (.tuple #[]) w) := h.step (h.qs.boot v l hv hl) rfl
/-- What a parts' list of one generation tells. -/
theorem told_parts {q : Rk} {c : Cf} {s : Nat} {g : Int} {bs : List (List UInt8)} {L : List Nat} (hp : Pl q c) (hx : StIn c s g bs) (hu : c.k.toNat ≤ (ups q).length) (hn : L.Nodup) (hL : ∀ d ∈ L, d < q.n) (ht : tnew q c s = g) (hps : tpts q c s = L.map fun (d : Nat) => ((d : Int), frg c.k.toNat d bs)) :
    (c.k.toNat ≤ L.length → tcode q c s = 0 ∧ tnew q c s = g ∧ ∀ bs', BlocksOf c.k.toNat 108 (chosen c.k.toNat (tpts q c s)) bs' → bs' = bs) ∧
    (L.length < c.k.toNat → tcode q c s = 6 ∧ tgetV q c s = wrapV opTGet s (lossV s (L.length : Nat) c.k)) := by
  have hr := hp.right
  have hh : thas c q s = true := thas_iff.2 ⟨hp.fits, by omega, hx.s1⟩
  have hk8 : c.k.toNat ≤ 8 := by have := hr.2.2.2.1; have := hr.2.2.2.2.1; omega
  have h1 : ¬ (q.off = true ∨ ((ups q).length : Int) < c.k) := fun e => e.elim (fun e => by rw [hp.off] at e; cases e) (fun e => by omega)
  refine ⟨fun hl => ⟨?_, ht, fun bs' hb => ?_⟩, fun hl => ?_⟩
  · unfold tcode
    rw [if_pos hh, if_neg h1, hps, List.length_map, if_neg (by omega)]
  · rw [hps] at hb
    exact parts_blocks hk8 hn hl (fun d hd => by have := hL d hd; have := hp.ok.n8; omega) hx.len hx.is hb
  · have h2 : ((L.length : Nat) : Int) < c.k := by omega
    unfold tcode tgetV
    rw [if_pos hh, if_pos hh, if_neg h1, if_neg h1, hps, List.length_map, if_pos h2, if_pos h2]
    exact ⟨rfl, rfl⟩
/-- What the law has behind the boot. -/
theorem never_told {cf : Cf} {N K SC f : Nat} {a a' : Int} (h : CfL cf N K SC 1 1) (hf : f ≤ 2 * N) (bits : Nat → Nat) (q1 q4 : Rk) (hq1 : q1 = Rk.tput (newRk N SC) cf 0 5 (blks a K)) (hq4 : q4 = (Rk.tput (q1.arm f) cf 0 6 (blks a' K)).boot bits) :
    Rk.tputC (newRk N SC) cf 0 5 (blks a K) = 0 ∧ q1.n = N ∧
    (f = 2 * N → Rk.tputC (q1.arm f) cf 0 6 (blks a' K) = 0 ∧ tcode q4 cf 0 = 0 ∧ tnew q4 cf 0 = 6 ∧ ∀ bs', BlocksOf cf.k.toNat 108 (chosen cf.k.toNat (tpts q4 cf 0)) bs' → bs' = blks a' K) ∧
    (f ≠ 2 * N → Rk.tputC (q1.arm f) cf 0 6 (blks a' K) ≠ 0 ∧
      ((tcode q4 cf 0 = 0 ∧ tnew q4 cf 0 = 5 ∧ ∀ bs', BlocksOf cf.k.toNat 108 (chosen cf.k.toNat (tpts q4 cf 0)) bs' → bs' = blks a K) ∨
       (tcode q4 cf 0 = 0 ∧ tnew q4 cf 0 = 6 ∧ ∀ bs', BlocksOf cf.k.toNat 108 (chosen cf.k.toNat (tpts q4 cf 0)) bs' → bs' = blks a' K) ∨
       ∃ m : Nat, 1 ≤ m ∧ (m : Int) < cf.k ∧ tcode q4 cf 0 ≠ 0 ∧ tgetV q4 cf 0 = wrapV opTGet 0 (lossV 0 (m : Int) cf.k))) := by
  have hx5 := h.stIn (s := 0) (g := 5) a (by decide) (by decide) (by decide)
  have hx6 := h.stIn (s := 0) (g := 6) a' (by decide) (by decide) (by decide)
  obtain ⟨p1, p2, p3, p4, _⟩ := h.pl.tput hx5
  have hN : q1.n = N := by rw [hq1]; exact tput_n _ _ _ _ _
  have hal : ∀ d, d < q1.n → (q1.s d).dead = false := fun d hd => by rw [hN] at hd; rw [hq1]; exact p3 d hd
  have hrd : ∀ d, d < q1.n → (q1.s d).read (tsec cf 0) = put (tF cf.k.toNat (0 : Nat) 5 (blks a K) d) := fun d hd => by rw [hN] at hd; rw [hq1]; exact (p4 d _ hd).trans (if_pos ⟨rfl, rfl⟩)
  have p2' : Pl q1 cf := by rw [hq1]; exact p2
  obtain ⟨c1, c2, c3, c4, c5, c6⟩ := p2'.cut hal hx5 hx6 hrd (f := f) (by rw [hN]; exact hf) bits
  have hq4' : q4 = (Rk.tput (q1.arm f) cf (0 : Nat) 6 (blks a' K)).boot bits := hq4
  rw [← hq4'] at c2 c3 c4 c5 c6
  rw [hN] at c1 c3 c4 c5 c6
  have hup : (ups q4).length = N := by
    unfold ups upsN
    rw [List.filter_eq_self.2 (fun d hd => by rw [c4 d (by rw [← c3]; exact List.mem_range.1 hd)]; rfl), List.length_range, c3]
  have hkN : cf.k.toNat ≤ N := by rw [h.kn]; exact h.r.2.2.2.2.2.2
  have hk1 : 1 ≤ cf.k.toNat := by rw [h.kn]; exact h.r.2.2.2.2.1
  refine ⟨p1, hN, fun e => ?_, fun e => ?_⟩
  · refine ⟨by have := c1; rw [if_pos e] at this; exact this, ?_⟩
    have hT : TIs q4 cf 0 6 (blks a' K) (fun _ => true) := fun d hd => ⟨fun _ => ⟨c4 d (by rw [← c3]; exact hd), c6 e d (by rw [← c3]; exact hd)⟩, fun h => by cases h⟩
    have hL : (tL q4 (fun _ => true)).length = N := by unfold tL; rw [List.filter_eq_self.2 fun _ _ => rfl, List.length_range, c3]
    exact got_told c2 hx6 hT (by rw [hL]; exact hkN)
  · refine ⟨by have := c1; rw [if_neg e] at this; rw [show Rk.tputC (q1.arm f) cf 0 6 (blks a' K) = 5 from this]; decide, ?_⟩
    rcases two_told c2 (fun d hd => c4 d (by rw [← c3]; exact hd)) hx5 hx6 (by decide) (fun d hd => c5 d (by rw [← c3]; exact hd)) with ⟨e1, e2⟩ | ⟨L, l1, l2, l3, e1, e2⟩
    · exact Or.inl ((told_parts c2 hx5 (by rw [hup]; exact hkN) List.nodup_range (fun d hd => List.mem_range.1 hd) e1 e2).1 (by rw [List.length_range, c3]; exact hkN))
    · obtain ⟨t1, t2⟩ := told_parts c2 hx6 (by rw [hup]; exact hkN) l2 l3 e1 e2
      by_cases hl : cf.k.toNat ≤ L.length
      · exact Or.inr (Or.inl (t1 hl))
      · obtain ⟨u1, u2⟩ := t2 (by omega)
        have hL1 : 1 ≤ L.length := by cases L with
          | nil => exact absurd rfl l1
          | cons x l => simp
        have hkp : 0 ≤ cf.k := by rw [h.k]; omega
        exact Or.inr (Or.inr ⟨L.length, hL1, by omega, by rw [show tcode q4 cf 0 = 6 from u1]; decide, u2⟩)
theorem tput_err {q : Rk} {c : Cf} {s g : Int} {bs : List (List UInt8)} (h : ¬ Rk.tputC q c s g bs = 0) : ∃ a2 b2 c2, Rk.tputV q c s g bs = .iface 197 (.agg #[a2, b2, c2]) := by
  unfold Rk.tputC at h
  unfold Rk.tputV
  split at h
  · rename_i h1; rw [if_pos h1]; unfold wrapR; rw [if_neg h]; exact ⟨_, _, _, rfl⟩
  · rename_i h1; rw [if_neg h1]; exact ⟨_, _, _, rfl⟩
set_option maxHeartbeats 16000000 in
set_option maxRecDepth 100000 in
theorem never_any (w : World) (k_ n_ f_ a_ y_ : Int) (vh : Value) (lh : List Nat) (hvh : SlU w.heap.size w vh lh) (hlh : ∀ x, x < lh.length → lh.getD x 0 < 18446744073709551616) (hT : Typ w) : Calls Tryz.prog 7 #[.int .i64 k_, .int .i64 n_, .int .i64 f_, .int .i64 a_, .int .i64 y_, vh] w (Bit true w) := by
  have HT := Lib.hid hT
  have HVH := Lib.hid hvh
  have HLH := Lib.hid hlh
  obtain ⟨ah, ch, rfl⟩ := hvh.len
  clear hT hvh hlh
  go_enter Tryz.func7, Tryz.ntmps7
  go_wp2_with fail
  refine (fixed_any k_ n_ 1 1 _ (by omega) (by omega)).mono ?_
  rintro e w1 ⟨cf, hcf, rfl, hb1⟩
  obtain ⟨N, K, SC, hL⟩ := cfL_of hcf
  have HL := Lib.hid hL
  have CS := Lib.hid (fun w => ksectors_any cf w hL.ok.right)
  have CN := Lib.hid (fun w => hL.new w)
  have H2 := Lib.hid (show JfS cf w1.heap.size w (w1.alloc (.cells (cfA cf) 24)) from ⟨cfB_new w1 cf, by simp, balloc hb1 _⟩)
  have HNR := Lib.hid hL.r
  clear hb1 hcf hL
  go_wp2_with fail
  have h2 := H2.out
  generalize w1.alloc (.cells (cfA cf) 24) = w2 at *
  generalize w1.heap.size = b at *
  have d0 : ∀ w', JfS cf b w w' → w'.cell? ⟨b, 0, none⟩ = some (.int .i64 cf.id) := fun w' h => h.1.cell 0
  have d1 : ∀ w', JfS cf b w w' → w'.cell? ⟨b, 1, none⟩ = some (.int .i64 cf.k) := fun w' h => h.1.cell 1
  have d2 : ∀ w', JfS cf b w w' → w'.cell? ⟨b, 2, none⟩ = some (.int .i64 cf.n) := fun w' h => h.1.cell 2
  have d3 : ∀ w', JfS cf b w w' → w'.cell? ⟨b, 3, none⟩ = some (.int .i64 cf.t) := fun w' h => h.1.cell 3
  have d4 : ∀ w', JfS cf b w w' → w'.cell? ⟨b, 4, none⟩ = some (.int .i64 cf.s) := fun w' h => h.1.cell 4
  refine wp_region_noPanic ?_
  refine wp_region_held_drew (S := (fun w' => JfS cf b w w')) (by kernel_rfl) h2.drew (fun hHeld => ?_)
  refine wpAnyH_take (i := 0) (oi := ⟨some 29, _, _, _, _, _⟩) (v := ?_) rfl (by kernel_rfl) (by kernel_rfl) (by kernel_rfl) (fun _ _ _ h => h) (Or.inl ⟨by rfl, ?_⟩) hHeld ?_
  rotate_left
  · intro w hSw; (go_simp; try with_reducible rfl)
  simp only [Act.put, List.setIfInBounds_toArray, List.set_cons_zero, List.set_cons_succ]
  refine wpAnyH_take (i := 1) (oi := ⟨some 30, _, _, _, _, _⟩) (v := ?_) rfl (by kernel_rfl) (by kernel_rfl) (by kernel_rfl) (fun _ _ _ h => h) (Or.inl ⟨by rfl, ?_⟩) hHeld ?_
  rotate_left
  · intro w hSw; (go_simp; try with_reducible rfl)
  simp only [Act.put, List.setIfInBounds_toArray, List.set_cons_zero, List.set_cons_succ]
  refine wpAnyH_take (i := 2) (oi := ⟨some 31, _, _, _, _, _⟩) (v := ?_) rfl (by kernel_rfl) (by kernel_rfl) (by kernel_rfl) (fun _ _ _ h => h) (Or.inl ⟨by rfl, ?_⟩) hHeld ?_
  rotate_left
  · intro w hSw; (go_simp; try with_reducible rfl)
  simp only [Act.put, List.setIfInBounds_toArray, List.set_cons_zero, List.set_cons_succ]
  refine wpAnyH_ready (rs := [3]) (by kernel_rfl) (by simp) (AllReadyH.cons rfl (fun K hK => ?_) AllReadyH.nil)
  go_simp
  refine (CS.out _).mono ?_
  rintro e w3 ⟨rfl, hb3⟩
  have h3 := JfS.then hHeld hb3
  clear hb3
  refine hK.out _ _ h3 (fun _ => ?_)
  clear hK K
  refine wpAnyH_ready (rs := [4]) (by kernel_rfl) (by simp) (AllReadyH.cons rfl (fun K hK => ?_) AllReadyH.nil)
  go_simp
  refine (CN.out _).mono ?_
  rintro e w4 ⟨c, rfl, h4⟩
  have H4 := Lib.hid h4
  have h5 := JfS.made h3 h4
  clear h4
  refine hK.out _ _ h5 (fun _ => ?_)
  clear hK K
  refine wpAnyH_take (i := 5) (oi := ⟨some 28, _, _, _, _, _⟩) (v := ?_) rfl (by kernel_rfl) (by kernel_rfl) (by kernel_rfl) (fun _ _ _ h => h) (Or.inl ⟨by rfl, ?_⟩) h5 ?_
  rotate_left
  · intro w hSw; (go_simp; try with_reducible rfl)
  simp only [Act.put, List.setIfInBounds_toArray, List.set_cons_zero, List.set_cons_succ]
  refine wpAnyH_take (i := 6) (oi := ⟨some 34, _, _, _, _, _⟩) (v := ?_) rfl (by kernel_rfl) (by kernel_rfl) (by kernel_rfl) (fun _ _ _ h => h) (Or.inl ⟨by rfl, ?_⟩) h5 ?_
  rotate_left
  · intro w hSw; (go_simp; try with_reducible rfl)
  simp only [Act.put, List.setIfInBounds_toArray, List.set_cons_zero, List.set_cons_succ]
  refine wpAnyH_take (i := 7) (oi := ⟨some 35, _, _, _, _, _⟩) (v := ?_) rfl (by kernel_rfl) (by kernel_rfl) (by kernel_rfl) (fun _ _ _ h => h) (Or.inl ⟨by rfl, ?_⟩) h5 ?_
  rotate_left
  · intro w hSw; (go_simp; try with_reducible rfl)
  simp only [Act.put, List.setIfInBounds_toArray, List.set_cons_zero, List.set_cons_succ]
  refine wpAnyH_take (i := 8) (oi := ⟨some 14, _, _, _, _, _⟩) (v := ?_) rfl (by kernel_rfl) (by kernel_rfl) (by kernel_rfl) (fun _ _ _ h => h) (Or.inl ⟨by rfl, ?_⟩) h5 ?_
  rotate_left
  · intro w hSw; (go_simp; try with_reducible rfl)
  simp only [Act.put, List.setIfInBounds_toArray, List.set_cons_zero, List.set_cons_succ]
  refine wpAnyH_take (i := 9) (oi := ⟨some 15, _, _, _, _, _⟩) (v := ?_) rfl (by kernel_rfl) (by kernel_rfl) (by kernel_rfl) (fun _ _ _ h => h) (Or.inl ⟨by rfl, ?_⟩) h5 ?_
  rotate_left
  · intro w hSw; (go_simp; try with_reducible rfl)
  simp only [Act.put, List.setIfInBounds_toArray, List.set_cons_zero, List.set_cons_succ]
  refine wpAnyH_done (by kernel_rfl) ?_ _
  refine NoPanic.normal ?_
  have HB3 := Lib.hid (show JfS cf b w w3 from h3)
  have HJ4 := Lib.hid (show JW w3 c cf b w4.heap.size N (newRk N SC) w4 from JW.made H4.out HB3.out.1 HB3.out.2.1 (Below.refl _ _))
  have HBW := Lib.hid (fun (q : Rk) (w' : World) (h : JW w3 c cf b w4.heap.size N q w') => show Below w.heap.size w w' from bthen HB3.out.2.2 h.qs.base)
  have HTY := Lib.hid (fun (q : Rk) (w' : World) (h : JW w3 c cf b w4.heap.size N q w') => show Typ w' from HT.out.below (HBW.out q w' h))
  clear d0 d1 d2 d3 d4 h2 hHeld h3 h5
  have HBK := Lib.hid (fun a w => HL.out.blocks a w)
  have d0 : ∀ w', CfB cf b w' → w'.cell? ⟨b, 0, none⟩ = some (.int .i64 cf.id) := fun w' h => h.cell 0
  have d1 : ∀ w', CfB cf b w' → w'.cell? ⟨b, 1, none⟩ = some (.int .i64 cf.k) := fun w' h => h.cell 1
  have d2 : ∀ w', CfB cf b w' → w'.cell? ⟨b, 2, none⟩ = some (.int .i64 cf.n) := fun w' h => h.cell 2
  have d3 : ∀ w', CfB cf b w' → w'.cell? ⟨b, 3, none⟩ = some (.int .i64 cf.t) := fun w' h => h.cell 3
  have d4 : ∀ w', CfB cf b w' → w'.cell? ⟨b, 4, none⟩ = some (.int .i64 cf.s) := fun w' h => h.cell 4
  go_wp2_with fail
  refine wp_region_noPanic ?_
  refine wp_region_held_drew (S := (fun w' => CfB cf b w')) (by kernel_rfl) (show CfB cf b w4.drew from HJ4.out.cfg) (fun hHeld => ?_)
  refine wpAnyH_take (i := 0) (oi := ⟨some 36, _, _, _, _, _⟩) (v := ?_) rfl (by kernel_rfl) (by kernel_rfl) (by kernel_rfl) (fun _ _ _ h => h) (Or.inl ⟨by rfl, ?_⟩) hHeld ?_
  rotate_left
  · intro w hSw; (go_simp; try with_reducible rfl)
  simp only [Act.put, List.setIfInBounds_toArray, List.set_cons_zero, List.set_cons_succ]
  refine wpAnyH_take (i := 1) (oi := ⟨some 37, _, _, _, _, _⟩) (v := ?_) rfl (by kernel_rfl) (by kernel_rfl) (by kernel_rfl) (fun _ _ _ h => h) (Or.inl ⟨by rfl, ?_⟩) hHeld ?_
  rotate_left
  · intro w hSw; (go_simp; try with_reducible rfl)
  simp only [Act.put, List.setIfInBounds_toArray, List.set_cons_zero, List.set_cons_succ]
  refine wpAnyH_take (i := 2) (oi := ⟨some 38, _, _, _, _, _⟩) (v := ?_) rfl (by kernel_rfl) (by kernel_rfl) (by kernel_rfl) (fun _ _ _ h => h) (Or.inl ⟨by rfl, ?_⟩) hHeld ?_
  rotate_left
  · intro w hSw; (go_simp; try with_reducible rfl)
  simp only [Act.put, List.setIfInBounds_toArray, List.set_cons_zero, List.set_cons_succ]
  refine wpAnyH_take (i := 4) (oi := ⟨some 40, _, _, _, _, _⟩) (v := ?_) rfl (by kernel_rfl) (by kernel_rfl) (by kernel_rfl) (fun _ _ _ h => h) (Or.inl ⟨by rfl, ?_⟩) hHeld ?_
  rotate_left
  · intro w hSw; (go_simp; try with_reducible rfl)
  simp only [Act.put, List.setIfInBounds_toArray, List.set_cons_zero, List.set_cons_succ]
  refine wpAnyH_take (i := 5) (oi := ⟨some 41, _, _, _, _, _⟩) (v := ?_) rfl (by kernel_rfl) (by kernel_rfl) (by kernel_rfl) (fun _ _ _ h => h) (Or.inl ⟨by rfl, ?_⟩) hHeld ?_
  rotate_left
  · intro w hSw; (go_simp; try with_reducible rfl)
  simp only [Act.put, List.setIfInBounds_toArray, List.set_cons_zero, List.set_cons_succ]
  refine wpAnyH_take (i := 6) (oi := ⟨some 42, _, _, _, _, _⟩) (v := ?_) rfl (by kernel_rfl) (by kernel_rfl) (by kernel_rfl) (fun _ _ _ h => h) (Or.inl ⟨by rfl, ?_⟩) hHeld ?_
  rotate_left
  · intro w hSw; (go_simp; try with_reducible rfl)
  simp only [Act.put, List.setIfInBounds_toArray, List.set_cons_zero, List.set_cons_succ]
  refine wpAnyH_ready (rs := [3]) (by kernel_rfl) (by simp) (AllReadyH.cons rfl (fun K hK => ?_) AllReadyH.nil)
  go_simp
  refine (HBK.out a_ _).mono ?_
  rintro e w5 ⟨vx, rfl, hvx, hb5⟩
  have HX5 := Lib.hid hvx
  have HJ5 := Lib.hid (HJ4.out.drew.below hb5)
  have h5 : CfB cf b w5 := HJ5.out.cfg
  obtain ⟨gx, cx, rfl, -⟩ := own_slice' hvx
  clear hvx hb5
  refine hK.out _ _ h5 (fun _ => ?_)
  clear hK K
  refine wpAnyH_ready (rs := [7]) (by kernel_rfl) (by simp) (AllReadyH.cons rfl (fun K hK => ?_) AllReadyH.nil)
  go_simp
  refine (HBK.out y_ _).mono ?_
  rintro e w6 ⟨vy, rfl, hvy, hb6⟩
  have HJ6 := Lib.hid (HJ5.out.below hb6)
  have h6 : CfB cf b w6 := HJ6.out.cfg
  have HX6 := Lib.hid ((bkB_of (B := w4.heap.size) HX5.out (Nat.le_refl _)).below hb6)
  have HY6 := Lib.hid (bkB_of (B := w4.heap.size) hvy HJ5.out.bB)
  obtain ⟨gy, cy, rfl, -⟩ := own_slice' hvy
  clear hvy hb6
  refine hK.out _ _ h6 (fun _ => ?_)
  clear hK K
  refine wpAnyH_take (i := 8) (oi := ⟨some 16, _, _, _, _, _⟩) (v := ?_) rfl (by kernel_rfl) (by kernel_rfl) (by kernel_rfl) (fun _ _ _ h => h) (Or.inl ⟨by rfl, ?_⟩) h6 ?_
  rotate_left
  · intro w hSw; (go_simp; try with_reducible rfl)
  simp only [Act.put, List.setIfInBounds_toArray, List.set_cons_zero, List.set_cons_succ]
  refine wpAnyH_take (i := 9) (oi := ⟨some 17, _, _, _, _, _⟩) (v := ?_) rfl (by kernel_rfl) (by kernel_rfl) (by kernel_rfl) (fun _ _ _ h => h) (Or.inl ⟨by rfl, ?_⟩) h6 ?_
  rotate_left
  · intro w hSw; (go_simp; try with_reducible rfl)
  simp only [Act.put, List.setIfInBounds_toArray, List.set_cons_zero, List.set_cons_succ]
  refine wpAnyH_done (by kernel_rfl) ?_ _
  refine NoPanic.normal ?_
  obtain ⟨q1, hq1⟩ : ∃ q1, q1 = Rk.tput (newRk N SC) cf 0 5 (blks a_ K) := ⟨_, rfl⟩
  have HO := Lib.hid (fun (f : Nat) (hf : f ≤ 2 * N) => never_told (a := a_) (a' := y_) HL.out hf (fun i => lh.getD i 0) q1 _ hq1 rfl)
  have HTP := Lib.hid (show Rk.tputV (newRk N SC) cf 0 5 (blks a_ K) = .nilIface from tput_nil (HO.out 0 (by omega)).1)
  have HQ1 := Lib.hid hq1
  have HBX := Lib.hid (show (blks a_ K).length ≤ 8 ∧ (blks y_ K).length ≤ 8 by rw [blks_length, blks_length]; have := HNR.out.2.2.2.2.2.1; omega)
  have HCN := Lib.hid (show cf.n = N ∧ cf.k = K from ⟨HL.out.n, HL.out.k⟩)
  have CP1 := Lib.hid (show Calls Tryz.prog 31 #[.pointer (some ⟨c.r, 0, none⟩), .agg #[.int .i64 cf.id, .int .i64 cf.k, .int .i64 cf.n, .int .i64 cf.t, .int .i64 cf.s], .int .i64 0, .int .i64 5, .slice gx (blks a_ K).length cx] w6 (JN w3 c cf b w4.heap.size N q1 .nilIface w6) from by
    have := HJ6.out.tput 0 5 HX6.out.slk
    rwa [HTP.out, ← hq1] at this)
  clear hq1
  generalize hX : blks a_ K = X at *
  generalize hY : blks y_ K = Y at *
  clear hX hY
  clear d0 d1 d2 d3 d4 h5 h6 hHeld
  obtain ⟨d0, d1, d2, d3, d4⟩ := CfB.cells HJ6.out.cfg
  have HRN := Lib.hid (fun W => stripe_runs W)
  generalize hlx : X.length = lx at *
  generalize hly : Y.length = ly at *
  have HLX := Lib.hid hlx
  have HLY := Lib.hid hly
  clear hlx hly
  go_wp2_with fail
  refine CP1.out.mono ?_
  rintro e w7 ⟨rfl, hj7, hc7⟩
  have HJ7 := Lib.hid hj7
  have HX7 := Lib.hid (HX6.out.rc HJ6.out.far hc7)
  have HY7 := Lib.hid (HY6.out.rc HJ6.out.far hc7)
  clear hj7 hc7 d0 d1 d2 d3 d4
  obtain ⟨d0, d1, d2, d3, d4⟩ := CfB.cells HJ7.out.cfg
  have hnr : 1 ≤ cf.n ∧ cf.n ≤ 6 := by have := HCN.out.1; have := HNR.out; omega
  have hw2 : IntKind.i64.wrap (2 * cf.n) = 2 * cf.n := IntWalk.i64_in _ (by omega)
  have HWI := Lib.hid (fun W => within_int f_ 0 (2 * cf.n) W (by omega) (by omega) (by omega))
  go_wp2_with fail
  refine (HWI.out _).mono ?_
  rintro e w8 ⟨xx, hxx, rfl, hw8⟩
  subst hw8
  obtain ⟨f, rfl⟩ := Int.eq_ofNat_of_zero_le hxx.1
  have hfN : f ≤ 2 * N := by have := hxx.2; have := HCN.out.1; omega
  have hOT := HO.out f hfN
  clear hxx
  have hN6 : N ≤ 6 := HNR.out.2.1
  have CAM := Lib.hid (HJ7.out.arm (f : Int) (by omega) (by omega))
  go_wp2_with fail
  refine CAM.out.mono ?_
  rintro e w9 ⟨rfl, hj9, hc9⟩
  have HJ9 := Lib.hid hj9
  have HX9 := Lib.hid (HX7.out.rc HJ7.out.far hc9)
  have HY9 := Lib.hid (HY7.out.rc HJ7.out.far hc9)
  clear hj9 hc9 d0 d1 d2 d3 d4
  obtain ⟨d0, d1, d2, d3, d4⟩ := CfB.cells HJ9.out.cfg
  have CP2 := Lib.hid (show Calls Tryz.prog 31 #[.pointer (some ⟨c.r, 0, none⟩), .agg #[.int .i64 cf.id, .int .i64 cf.k, .int .i64 cf.n, .int .i64 cf.t, .int .i64 cf.s], .int .i64 0, .int .i64 6, .slice gy ly cy] w9 (JN w3 c cf b w4.heap.size N (Rk.tput (q1.arm f) cf 0 6 Y) (Rk.tputV (q1.arm f) cf 0 6 Y) w9) from HJ9.out.tput 0 6 HY9.out.slk)
  by_cases hfe : f = 2 * N
  · obtain ⟨g1, g2⟩ := hOT.2.2.1 hfe
    have HG := Lib.hid g2
    rw [tput_nil g1] at CP2
    clear hOT g1 g2
    have hfb : ((f : Int) == 2 * cf.n) = true := by have := HCN.out.1; simp; omega
    clear hfe
    go_wp2_with fail
    refine CP2.out.mono ?_
    rintro e w10 ⟨rfl, hj10, hc10⟩
    have HJ10 := Lib.hid hj10
    have HX10 := Lib.hid (HX9.out.rc HJ9.out.far hc10)
    have HY10 := Lib.hid (HY9.out.rc HJ9.out.far hc10)
    clear hj10 hc10 d0 d1 d2 d3 d4
    have d0 : ∀ w', CfB cf b w' → w'.cell? ⟨b, 0, none⟩ = some (.int .i64 cf.id) := fun w' h => h.cell 0
    have d1 : ∀ w', CfB cf b w' → w'.cell? ⟨b, 1, none⟩ = some (.int .i64 cf.k) := fun w' h => h.cell 1
    have d2 : ∀ w', CfB cf b w' → w'.cell? ⟨b, 2, none⟩ = some (.int .i64 cf.n) := fun w' h => h.cell 2
    have d3 : ∀ w', CfB cf b w' → w'.cell? ⟨b, 3, none⟩ = some (.int .i64 cf.t) := fun w' h => h.cell 3
    have d4 : ∀ w', CfB cf b w' → w'.cell? ⟨b, 4, none⟩ = some (.int .i64 cf.s) := fun w' h => h.cell 4
    go_wp2_with fail
    refine wp_region_noPanic ?_
    refine wp_region_held_drew (S := (fun w' => CfB cf b w')) (by kernel_rfl) (show CfB cf b w10.drew from HJ10.out.cfg) (fun hHeld => ?_)
    refine wpAnyH_take (i := 0) (oi := ⟨some 69, _, _, _, _, _⟩) (v := ?_) rfl (by kernel_rfl) (by kernel_rfl) (by kernel_rfl) (fun _ _ _ h => h) (Or.inl ⟨by rfl, ?_⟩) hHeld ?_
    rotate_left
    · intro w hSw; (go_simp; try with_reducible rfl)
    simp only [Act.put, List.setIfInBounds_toArray, List.set_cons_zero, List.set_cons_succ]
    refine wpAnyH_take (i := 1) (oi := ⟨some 70, _, _, _, _, _⟩) (v := ?_) rfl (by kernel_rfl) (by kernel_rfl) (by kernel_rfl) (fun _ _ _ h => h) (Or.inl ⟨by rfl, ?_⟩) hHeld ?_
    rotate_left
    · intro w hSw; (go_simp; try with_reducible rfl)
    simp only [Act.put, List.setIfInBounds_toArray, List.set_cons_zero, List.set_cons_succ]
    refine wpAnyH_take (i := 2) (oi := ⟨some 71, _, _, _, _, _⟩) (v := ?_) rfl (by kernel_rfl) (by kernel_rfl) (by kernel_rfl) (fun _ _ _ h => h) (Or.inl ⟨by rfl, ?_⟩) hHeld ?_
    rotate_left
    · intro w hSw; (go_simp; try with_reducible rfl)
    simp only [Act.put, List.setIfInBounds_toArray, List.set_cons_zero, List.set_cons_succ]
    refine wpAnyH_take (i := 3) (oi := ⟨some 72, _, _, _, _, _⟩) (v := ?_) rfl (by kernel_rfl) (by kernel_rfl) (by kernel_rfl) (fun _ _ _ h => h) (Or.inl ⟨by rfl, ?_⟩) hHeld ?_
    rotate_left
    · intro w hSw; (go_simp; try with_reducible rfl)
    simp only [Act.put, List.setIfInBounds_toArray, List.set_cons_zero, List.set_cons_succ]
    refine wpAnyH_take (i := 4) (oi := ⟨some 73, _, _, _, _, _⟩) (v := ?_) rfl (by kernel_rfl) (by kernel_rfl) (by kernel_rfl) (fun _ _ _ h => h) (Or.inl ⟨by rfl, ?_⟩) hHeld ?_
    rotate_left
    · intro w hSw; (go_simp; try with_reducible rfl)
    simp only [Act.put, List.setIfInBounds_toArray, List.set_cons_zero, List.set_cons_succ]
    refine wpAnyH_take (i := 5) (oi := ⟨some 74, _, _, _, _, _⟩) (v := ?_) rfl (by kernel_rfl) (by kernel_rfl) (by kernel_rfl) (fun _ _ _ h => h) (Or.inl ⟨by rfl, ?_⟩) hHeld ?_
    rotate_left
    · intro w hSw; (go_simp; try with_reducible rfl)
    simp only [Act.put, List.setIfInBounds_toArray, List.set_cons_zero, List.set_cons_succ]
    refine wpAnyH_take (i := 6) (oi := ⟨some 75, _, _, _, _, _⟩) (v := ?_) rfl (by kernel_rfl) (by kernel_rfl) (by kernel_rfl) (fun _ _ _ h => h) (Or.inl ⟨by rfl, ?_⟩) hHeld ?_
    rotate_left
    · intro w hSw; (go_simp; try with_reducible rfl)
    simp only [Act.put, List.setIfInBounds_toArray, List.set_cons_zero, List.set_cons_succ]
    refine wpAnyH_take (i := 7) (oi := ⟨some 76, _, _, _, _, _⟩) (v := ?_) rfl (by kernel_rfl) (by kernel_rfl) (by kernel_rfl) (fun _ _ _ h => h) (Or.inl ⟨by rfl, ?_⟩) hHeld ?_
    rotate_left
    · intro w hSw; (go_simp; try with_reducible rfl)
    simp only [Act.put, List.setIfInBounds_toArray, List.set_cons_zero, List.set_cons_succ]
    refine wpAnyH_done (by kernel_rfl) ?_ _
    refine NoPanic.normal ?_
    clear d0 d1 d2 d3 d4 hHeld
    have HJ11 := Lib.hid HJ10.out.drew
    have HX11 := Lib.hid (HX10.out.below (Below.drew (Below.refl _ _)))
    have HY11 := Lib.hid (HY10.out.below (Below.drew (Below.refl _ _)))
    have CBT := Lib.hid (HJ11.out.boot _ lh ((HVH.out.below (HBW.out _ _ HJ11.out)).wider (HBW.out _ _ HJ11.out).size) HLH.out)
    generalize (Rk.tput (q1.arm f) cf 0 6 Y).boot (fun i => lh.getD i 0) = q4 at *
    generalize Rk.tput (q1.arm f) cf 0 6 Y = q3 at *
    go_wp2_with fail
    refine CBT.out.mono ?_
    rintro e w12 ⟨rfl, hj12, hc12⟩
    have HJ12 := Lib.hid hj12
    have HX12 := Lib.hid (HX11.out.rc HJ11.out.far hc12)
    have HY12 := Lib.hid (HY11.out.rc HJ11.out.far hc12)
    clear hj12 hc12
    obtain ⟨d0, d1, d2, d3, d4⟩ := CfB.cells HJ12.out.cfg
    have hG := HG.out
    have CGT := Lib.hid (show Calls Tryz.prog 33 #[.pointer (some ⟨c.r, 0, none⟩), .agg #[.int .i64 cf.id, .int .i64 cf.k, .int .i64 cf.n, .int .i64 cf.t, .int .i64 cf.s], .int .i64 0] w12 (GotB 6 Y w12) from HJ12.out.tget_yes hG)
    clear hG
    go_wp2_with fail
    refine CGT.out.mono ?_
    rintro e w13 ⟨vz, rfl, hz13, hb13⟩
    have HJ13 := Lib.hid (HJ12.out.below hb13)
    have HV13 := Lib.hid (HY12.out.below hb13)
    have HZ13 := Lib.hid (show BkB w4.heap.size Y vz w13 from ⟨HY12.out.is, own_base hz13 HJ12.out.bB⟩)
    obtain ⟨gz, cz, rfl, -⟩ := own_slice' hz13
    clear hz13 hb13 d0 d1 d2 d3 d4
    have CSM := Lib.hid (fun (w' : World) (hb : Below w13.heap.size w13 w') => show Calls Tryz.prog 35 #[.slice gz Y.length cz, .slice gy ly cy] w' (Bit true w') from by
      have := same_blocks (.slice gz Y.length cz) (.slice gy ly cy) Y Y w' (HZ13.out.below hb).slk (HV13.out.below hb).slk (by have := HBX.out.2; have := HLY.out; omega)
      rwa [decide_eq_true rfl] at this)
    generalize Y.length = lz at *
    go_wp2_with (first
      | (go_at_call 35; refine (CSM.out _ (Below.refl _ _)).mono ?_; rintro e w14 ⟨rfl, hb14⟩; have HB14 := Lib.hid (bthen (HBW.out _ _ HJ13.out) hb14); clear hb14)
      | (go_at_call 40; refine (HRN.out _).mono ?_; rintro e w15 ⟨rfl, hb15⟩; have HB15 := Lib.hid (bthen HB14.out hb15); clear hb15))
    go_ret
    exact bit rfl HB15.out
  · obtain ⟨g1, g2⟩ := hOT.2.2.2 hfe
    have HG := Lib.hid g2
    obtain ⟨va2, vb2, vc2, hvv⟩ := tput_err g1
    rw [hvv] at CP2
    clear hOT g1 g2 hvv
    have hfb : ((f : Int) == 2 * cf.n) = false := by have := HCN.out.1; simp; omega
    have hfi : ¬ (f : Int) = 2 * cf.n := by have := HCN.out.1; omega
    go_wp2_with fail
    refine CP2.out.mono ?_
    rintro e w10 ⟨rfl, hj10, hc10⟩
    have HJ10 := Lib.hid hj10
    have HX10 := Lib.hid (HX9.out.rc HJ9.out.far hc10)
    have HY10 := Lib.hid (HY9.out.rc HJ9.out.far hc10)
    clear hj10 hc10 d0 d1 d2 d3 d4
    have d0 : ∀ w', CfB cf b w' → w'.cell? ⟨b, 0, none⟩ = some (.int .i64 cf.id) := fun w' h => h.cell 0
    have d1 : ∀ w', CfB cf b w' → w'.cell? ⟨b, 1, none⟩ = some (.int .i64 cf.k) := fun w' h => h.cell 1
    have d2 : ∀ w', CfB cf b w' → w'.cell? ⟨b, 2, none⟩ = some (.int .i64 cf.n) := fun w' h => h.cell 2
    have d3 : ∀ w', CfB cf b w' → w'.cell? ⟨b, 3, none⟩ = some (.int .i64 cf.t) := fun w' h => h.cell 3
    have d4 : ∀ w', CfB cf b w' → w'.cell? ⟨b, 4, none⟩ = some (.int .i64 cf.s) := fun w' h => h.cell 4
    go_wp2_with fail
    refine wp_region_noPanic ?_
    refine wp_region_held_drew (S := (fun w' => CfB cf b w')) (by kernel_rfl) (show CfB cf b w10.drew from HJ10.out.cfg) (fun hHeld => ?_)
    refine wpAnyH_take (i := 0) (oi := ⟨some 69, _, _, _, _, _⟩) (v := ?_) rfl (by kernel_rfl) (by kernel_rfl) (by kernel_rfl) (fun _ _ _ h => h) (Or.inl ⟨by rfl, ?_⟩) hHeld ?_
    rotate_left
    · intro w hSw; (go_simp; try with_reducible rfl)
    simp only [Act.put, List.setIfInBounds_toArray, List.set_cons_zero, List.set_cons_succ]
    refine wpAnyH_take (i := 1) (oi := ⟨some 70, _, _, _, _, _⟩) (v := ?_) rfl (by kernel_rfl) (by kernel_rfl) (by kernel_rfl) (fun _ _ _ h => h) (Or.inl ⟨by rfl, ?_⟩) hHeld ?_
    rotate_left
    · intro w hSw; (go_simp; try with_reducible rfl)
    simp only [Act.put, List.setIfInBounds_toArray, List.set_cons_zero, List.set_cons_succ]
    refine wpAnyH_take (i := 2) (oi := ⟨some 71, _, _, _, _, _⟩) (v := ?_) rfl (by kernel_rfl) (by kernel_rfl) (by kernel_rfl) (fun _ _ _ h => h) (Or.inl ⟨by rfl, ?_⟩) hHeld ?_
    rotate_left
    · intro w hSw; (go_simp; try with_reducible rfl)
    simp only [Act.put, List.setIfInBounds_toArray, List.set_cons_zero, List.set_cons_succ]
    refine wpAnyH_take (i := 3) (oi := ⟨some 72, _, _, _, _, _⟩) (v := ?_) rfl (by kernel_rfl) (by kernel_rfl) (by kernel_rfl) (fun _ _ _ h => h) (Or.inl ⟨by rfl, ?_⟩) hHeld ?_
    rotate_left
    · intro w hSw; (go_simp; try with_reducible rfl)
    simp only [Act.put, List.setIfInBounds_toArray, List.set_cons_zero, List.set_cons_succ]
    refine wpAnyH_take (i := 4) (oi := ⟨some 73, _, _, _, _, _⟩) (v := ?_) rfl (by kernel_rfl) (by kernel_rfl) (by kernel_rfl) (fun _ _ _ h => h) (Or.inl ⟨by rfl, ?_⟩) hHeld ?_
    rotate_left
    · intro w hSw; (go_simp; try with_reducible rfl)
    simp only [Act.put, List.setIfInBounds_toArray, List.set_cons_zero, List.set_cons_succ]
    refine wpAnyH_take (i := 5) (oi := ⟨some 74, _, _, _, _, _⟩) (v := ?_) rfl (by kernel_rfl) (by kernel_rfl) (by kernel_rfl) (fun _ _ _ h => h) (Or.inl ⟨by rfl, ?_⟩) hHeld ?_
    rotate_left
    · intro w hSw; (go_simp; try with_reducible rfl)
    simp only [Act.put, List.setIfInBounds_toArray, List.set_cons_zero, List.set_cons_succ]
    refine wpAnyH_take (i := 6) (oi := ⟨some 75, _, _, _, _, _⟩) (v := ?_) rfl (by kernel_rfl) (by kernel_rfl) (by kernel_rfl) (fun _ _ _ h => h) (Or.inl ⟨by rfl, ?_⟩) hHeld ?_
    rotate_left
    · intro w hSw; (go_simp; try with_reducible rfl)
    simp only [Act.put, List.setIfInBounds_toArray, List.set_cons_zero, List.set_cons_succ]
    refine wpAnyH_take (i := 7) (oi := ⟨some 76, _, _, _, _, _⟩) (v := ?_) rfl (by kernel_rfl) (by kernel_rfl) (by kernel_rfl) (fun _ _ _ h => h) (Or.inl ⟨by rfl, ?_⟩) hHeld ?_
    rotate_left
    · intro w hSw; (go_simp; try with_reducible rfl)
    simp only [Act.put, List.setIfInBounds_toArray, List.set_cons_zero, List.set_cons_succ]
    refine wpAnyH_done (by kernel_rfl) ?_ _
    refine NoPanic.normal ?_
    clear d0 d1 d2 d3 d4 hHeld
    have HJ11 := Lib.hid HJ10.out.drew
    have HX11 := Lib.hid (HX10.out.below (Below.drew (Below.refl _ _)))
    have HY11 := Lib.hid (HY10.out.below (Below.drew (Below.refl _ _)))
    have CBT := Lib.hid (HJ11.out.boot _ lh ((HVH.out.below (HBW.out _ _ HJ11.out)).wider (HBW.out _ _ HJ11.out).size) HLH.out)
    generalize (Rk.tput (q1.arm f) cf 0 6 Y).boot (fun i => lh.getD i 0) = q4 at *
    generalize Rk.tput (q1.arm f) cf 0 6 Y = q3 at *
    go_wp2_with fail
    refine CBT.out.mono ?_
    rintro e w12 ⟨rfl, hj12, hc12⟩
    have HJ12 := Lib.hid hj12
    have HX12 := Lib.hid (HX11.out.rc HJ11.out.far hc12)
    have HY12 := Lib.hid (HY11.out.rc HJ11.out.far hc12)
    clear hj12 hc12
    obtain ⟨d0, d1, d2, d3, d4⟩ := CfB.cells HJ12.out.cfg
    rcases HG.out with hG | hG | ⟨m, hm1, hmk, hc0, hV⟩
    · skip
      have CGT := Lib.hid (show Calls Tryz.prog 33 #[.pointer (some ⟨c.r, 0, none⟩), .agg #[.int .i64 cf.id, .int .i64 cf.k, .int .i64 cf.n, .int .i64 cf.t, .int .i64 cf.s], .int .i64 0] w12 (GotB 5 X w12) from HJ12.out.tget_yes hG)
      clear hG
      go_wp2_with fail
      refine CGT.out.mono ?_
      rintro e w13 ⟨vz, rfl, hz13, hb13⟩
      have HJ13 := Lib.hid (HJ12.out.below hb13)
      have HV13 := Lib.hid (HX12.out.below hb13)
      have HZ13 := Lib.hid (show BkB w4.heap.size X vz w13 from ⟨HX12.out.is, own_base hz13 HJ12.out.bB⟩)
      obtain ⟨gz, cz, rfl, -⟩ := own_slice' hz13
      clear hz13 hb13 d0 d1 d2 d3 d4
      have CSM := Lib.hid (fun (w' : World) (hb : Below w13.heap.size w13 w') => show Calls Tryz.prog 35 #[.slice gz X.length cz, .slice gx lx cx] w' (Bit true w') from by
        have := same_blocks (.slice gz X.length cz) (.slice gx lx cx) X X w' (HZ13.out.below hb).slk (HV13.out.below hb).slk (by have := HBX.out.1; have := HLX.out; omega)
        rwa [decide_eq_true rfl] at this)
      generalize X.length = lz at *
      go_wp2_with (first
        | (go_at_call 35; refine (CSM.out _ (Below.refl _ _)).mono ?_; rintro e w14 ⟨rfl, hb14⟩; have HB14 := Lib.hid (bthen (HBW.out _ _ HJ13.out) hb14); clear hb14)
        | (go_at_call 40; refine (HRN.out _).mono ?_; rintro e w15 ⟨rfl, hb15⟩; have HB15 := Lib.hid (bthen HB14.out hb15); clear hb15))
      go_ret
      exact bit rfl HB15.out
    · skip
      have CGT := Lib.hid (show Calls Tryz.prog 33 #[.pointer (some ⟨c.r, 0, none⟩), .agg #[.int .i64 cf.id, .int .i64 cf.k, .int .i64 cf.n, .int .i64 cf.t, .int .i64 cf.s], .int .i64 0] w12 (GotB 6 Y w12) from HJ12.out.tget_yes hG)
      clear hG
      go_wp2_with fail
      refine CGT.out.mono ?_
      rintro e w13 ⟨vz, rfl, hz13, hb13⟩
      have HJ13 := Lib.hid (HJ12.out.below hb13)
      have HV13 := Lib.hid (HY12.out.below hb13)
      have HZ13 := Lib.hid (show BkB w4.heap.size Y vz w13 from ⟨HY12.out.is, own_base hz13 HJ12.out.bB⟩)
      obtain ⟨gz, cz, rfl, -⟩ := own_slice' hz13
      clear hz13 hb13 d0 d1 d2 d3 d4
      have CSM := Lib.hid (fun (w' : World) (hb : Below w13.heap.size w13 w') => show Calls Tryz.prog 35 #[.slice gz Y.length cz, .slice gy ly cy] w' (Bit true w') from by
        have := same_blocks (.slice gz Y.length cz) (.slice gy ly cy) Y Y w' (HZ13.out.below hb).slk (HV13.out.below hb).slk (by have := HBX.out.2; have := HLY.out; omega)
        rwa [decide_eq_true rfl] at this)
      generalize Y.length = lz at *
      go_wp2_with (first
        | (go_at_call 35; refine (CSM.out _ (Below.refl _ _)).mono ?_; rintro e w14 ⟨rfl, hb14⟩; have HB14 := Lib.hid (bthen (HBW.out _ _ HJ13.out) hb14); clear hb14)
        | (go_at_call 40; refine (HRN.out _).mono ?_; rintro e w15 ⟨rfl, hb15⟩; have HB15 := Lib.hid (bthen HB14.out hb15); clear hb15))
      go_ret
      exact bit rfl HB15.out
    · have CGT := Lib.hid (show Calls Tryz.prog 33 #[.pointer (some ⟨c.r, 0, none⟩), .agg #[.int .i64 cf.id, .int .i64 cf.k, .int .i64 cf.n, .int .i64 cf.t, .int .i64 cf.s], .int .i64 0] w12 (GotV (wrapV opTGet 0 (lossV 0 (m : Int) cf.k)) w12) from by
        have := HJ12.out.tget_no (s := 0) hc0
        rwa [hV] at this)
      unfold GotV wrapV lossV at CGT
      have hm0 : (m : Int) ≥ 1 := by omega
      clear hc0 hV
      go_wp2_with fail
      refine CGT.out.mono ?_
      rintro e w13 ⟨rfl, hb13⟩
      have HJ13 := Lib.hid (HJ12.out.below hb13)
      clear hb13 d0 d1 d2 d3 d4
      have CLO := Lib.hid (lost_loss [(opTGet, 0)] 0 (m : Int) cf.k w13 _ rfl (HTY.out _ _ HJ13.out))
      unfold chain chain wrapV lossV at CLO
      unfold opTGet at CLO
      unfold opTGet
      go_wp2_with fail
      refine CLO.out.mono ?_
      rintro e w14 ⟨rfl, hb14⟩
      have HJ14 := Lib.hid (HJ13.out.below (balloc hb14 (.cells #[.int .i64 0, .int .i64 (m : Int), .int .i64 cf.k] 88)))
      clear hb14
      obtain ⟨d0, d1, d2, d3, d4⟩ := CfB.cells HJ14.out.cfg
      go_wp2_with (go_at_call 40; refine (HRN.out _).mono ?_; rintro e w15 ⟨rfl, hb15⟩; have HB15 := Lib.hid (bthen (HBW.out _ _ HJ14.out) hb15); clear hb15)
      go_ret
      exact bit rfl HB15.out
end Go.Proofs.YtidnmkghmaeniaaGreatDoor
namespace Go.Proofs.YtidnmkghmaeniaaGreatDoor.stripeNever
open Go.ChangeShapes Go.WideShapes Go.ChangeAt Go.RowKit

set_option maxRecDepth 100000 in
theorem contract (H : Type) (enc : TypeId × Value → H) (W : World) (base : Nat) (args : Array Value) (ds gs : List (DataW H)) (before : List MemPlace)
    (hval : ∀ (j : Nat) t v, Tryz.f7.params[j]? = some t → args[j]? = some v → Value.okWide Tryz.prog W .any base t v)
    (hW : DataW.Whole enc Tryz.prog Tryz.f7.params.toList Rows.stripeNeverSpec.vars false W args.toList ds gs before) (hL : laidMetH Tryz.prog Rows.stripeNeverRow.laid W) :
    Calls Tryz.prog 7 args W fun e W' => ∃ v, e = .returned v ∧ Rows.stripeNeverSpec.post enc Tryz.prog Tryz.f7 false true false false W args v W' := by
  have hW' := hW
  obtain ⟨p, q, hA0, hV, rfl, hfz, hnd⟩ := hW
  have hA : DataW.TrodAll enc Tryz.prog W 0 (fun _ => true) true Tryz.f7.params.toList args.toList ds p := hA0
  rw [Tryz.params7] at hA hval
  obtain ⟨v0, vs0, d0, ds0, p0, q0, hargs, rfl, rfl, h0, r0⟩ := trodAll_cons hA
  obtain ⟨v1, vs1, d1, ds1, p1, q1, rfl, rfl, rfl, h1, r1⟩ := trodAll_cons r0
  obtain ⟨v2, vs2, d2, ds2, p2, q2, rfl, rfl, rfl, h2, r2⟩ := trodAll_cons r1
  obtain ⟨v3, vs3, d3, ds3, p3, q3, rfl, rfl, rfl, h3, r3⟩ := trodAll_cons r2
  obtain ⟨v4, vs4, d4, ds4, p4, q4, rfl, rfl, rfl, h4, r4⟩ := trodAll_cons r3
  obtain ⟨v5, vs5, d5, ds5, p5, q5, rfl, rfl, rfl, h5, r5⟩ := trodAll_cons r4
  obtain ⟨rfl, rfl, rfl⟩ := trodAll_nil r5
  obtain rfl : args = #[v0, v1, v2, v3, v4, v5] := Array.ext' hargs
  obtain ⟨k_, rfl, rfl, rfl, _⟩ := open_int Tryz.underlying3 (hval 0 3 v0 (by simp) (by simp)) h0
  obtain ⟨n_, rfl, rfl, rfl, _⟩ := open_int Tryz.underlying3 (hval 1 3 v1 (by simp) (by simp)) h1
  obtain ⟨f_, rfl, rfl, rfl, _⟩ := open_int Tryz.underlying3 (hval 2 3 v2 (by simp) (by simp)) h2
  obtain ⟨a_, rfl, rfl, rfl, _⟩ := open_int Tryz.underlying3 (hval 3 3 v3 (by simp) (by simp)) h3
  obtain ⟨y_, rfl, rfl, rfl, _⟩ := open_int Tryz.underlying3 (hval 4 3 v4 (by simp) (by simp)) h4
  have hv5 := (hval 5 29 v5 (by simp) (by simp))
  obtain ⟨l, hsl, hll⟩ := open_u64s hv5 h5
  obtain ⟨rfl, rfl⟩ := trodVars_none hV
  clear hA0
  have hw : Calls Tryz.prog 7 #[.int .i64 k_, .int .i64 n_, .int .i64 f_, .int .i64 a_, .int .i64 y_, v5] W (Bit true W) := never_any W k_ n_ f_ a_ y_ v5 l hsl hll (handle_of_laid hL)
  refine hw.mono fun e W' ⟨he, hg⟩ => ?_
  subst he
  exact ⟨_, rfl, law_post Tryz.laidOut (by kernel_rfl) (by kernel_rfl) (by kernel_rfl) Tryz.underlying4 hW' hg rfl rfl rfl⟩

theorem reads (os : Os) {H : Type} (enc : TypeId × Value → H) : ∃ places, DataW.whole enc Tryz.prog ((laidWorld os).forCall (fun _ _ => 0) ⟨#[], #[.int .i64 0, .int .i64 0, .int .i64 0, .int .i64 0, .int .i64 0, .slice none 0 0], []⟩).memory Tryz.f7.params.toList Rows.stripeNeverSpec.vars false (#[.int .i64 0, .int .i64 0, .int .i64 0, .int .i64 0, .int .i64 0, .slice none 0 0] : Array Value).toList 8 = some ([.lit (.int .i64 0), .lit (.int .i64 0), .lit (.int .i64 0), .lit (.int .i64 0), .lit (.int .i64 0), .nil], [], places) :=
  ⟨[], by kernel_rfl⟩

set_option maxRecDepth 100000 in
theorem lifted (os : Os) (started : os.Started) (H : Type) (enc : TypeId × Value → H) (F : Stop.Interp) :
    ReturnsInHanded {} Tryz.checked os 7 .any ((OpenSpec.ofChange Rows.stripeNeverSpec).preRow enc Tryz.prog Tryz.f7 Rows.stripeNeverRow.domain false Rows.stripeNeverRow.laid) (((OpenSpec.ofChange Rows.stripeNeverSpec).at F).post enc Tryz.prog Tryz.f7 false true false false) := by
  obtain ⟨places, hx⟩ := reads os enc
  refine returnsInHanded_of_row (C := Tryz.checked) (s := OpenSpec.ofChange Rows.stripeNeverSpec) Tryz.own started (by kernel_rfl) Tryz.func7
    (witness_row_at (enc := enc) (C := Tryz.checked) false (laidWorld os) #[.int .i64 0, .int .i64 0, .int .i64 0, .int .i64 0, .int .i64 0, .slice none 0 0] rfl (by kernel_rfl) (by kernel_rfl) (by kernel_rfl)
      (OpenSpec.preRow_of_cond 8 hx (by kernel_rfl) (fun k hk => by cases hk) (by kernel_rfl) (laidWorld_met os _))) ?_
  intro W base args ds gs before hval hW _ _ _ hL _ _
  exact contract H enc W base args ds gs before hval hW hL

theorem said : Rows.StripeNeverSaid :=
  OpenClaim.holds_of_cond 7 Tryz.f7 rfl rfl rfl rfl rfl rfl rfl ⟨rfl, rfl, rfl, rfl, rfl⟩ rfl rfl rfl rfl rfl (by kernel_rfl) Tryz.func7 (by kernel_rfl)
    (of_decide_eq_true (by kernel_rfl)) (by unfold Func.isWrapper; first | (rw [if_pos (by decide +kernel)]; kernel_rfl) | (rw [if_neg (by decide +kernel)]; exact ⟨rfl, rfl⟩))
    (fun os started H enc _ F => by rw [OpenClaim.pre_eq_preRow]; exact lifted os started H enc F)

theorem plain (f : FuncId) (fn : Func) (hf : Tryz.pinned.checked.prog.funcNamed "stave/stavelaw11.StripeNever" = some f) (hfn : Tryz.pinned.checked.prog.funcs[f]? = some fn) :
    true = Tryz.pinned.checked.prog.looks [] ∧ ∀ (j : Nat) t, fn.params[j]? = some t → Tryz.pinned.checked.prog.wantsStandIn t = false := by
  obtain rfl : f = 7 := Option.some.inj ((show Tryz.prog.funcNamed "stave/stavelaw11.StripeNever" = some 7 by kernel_rfl).symm.trans hf) |>.symm
  obtain rfl : fn = Tryz.f7 := (Option.some.inj (Tryz.func7.symm.trans hfn)).symm
  have hall : (Tryz.f7.params.toList.all fun t => !Tryz.prog.wantsStandIn t) = true := by kernel_rfl
  refine ⟨by kernel_rfl, fun j t ht => ?_⟩
  have := List.all_eq_true.1 hall t (by simpa using Array.mem_of_getElem? ht)
  have h2 : Tryz.prog.wantsStandIn t = false := by simpa using this
  exact h2

end Go.Proofs.YtidnmkghmaeniaaGreatDoor.stripeNever
namespace Go.Proofs.YtidnmkghmaeniaaGreatDoor
theorem StripeNever_card : Rows.StripeNeverCardSaid :=
  Claim7.holds_tied_plain_at .later [] _ _ _ _ stripeNever.said (fun _ h => by cases h) (by kernel_rfl) (fun _ h => by cases h) stripeNever_row_tie rfl ⟨rfl, rfl⟩ (by kernel_rfl) rfl stripeNever.plain (by kernel_rfl)
#print axioms StripeNever_card
end Go.Proofs.YtidnmkghmaeniaaGreatDoor
