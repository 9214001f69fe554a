import Derived.Test.YtilljaneegbhlaaGreatDoorZSBase
import Derived.Deep.RegionHeld3
namespace Go.Proofs.YtilljaneegbhlaaGreatDoor
open Go.RowKit Go.Deep Crc Dk Qk Go.Maps Hf
set_option maxHeartbeats 8000000
set_option maxRecDepth 100000
def FtS (lo : Nat) (c : Lc) (q : Rk) (cf : Cf) (b : Nat) (w w' : World) : Prop := RackIn lo w' c q ∧ CfB cf b w' ∧ b < w'.heap.size ∧ Below w.heap.size w w'
variable {lo b : Nat} {c : Lc} {q : Rk} {w : World}
theorem FtS.drew {cf : Cf} {w' : World} (h : FtS lo c q cf b w w') : FtS lo c q cf b w w'.drew := ⟨h.1.drewN 1, h.2.1, h.2.2.1, h.2.2.2.drew⟩
theorem FtS.then {cf : Cf} {w1 w2 : World} (h : FtS lo c q cf b w w1) (hb : Below w1.heap.size w1 w2) : FtS lo c q cf b w w2 := ⟨h.1.below hb, h.2.1.below h.2.2.1 hb, Nat.lt_of_lt_of_le h.2.2.1 hb.size, bthen h.2.2.2 hb⟩
theorem ftS_new (h : RackIn lo w c q) (cf : Cf) : FtS lo c q cf w.heap.size w (w.alloc (.cells (cfA cf) 24)) := ⟨h.below (one_below _ _), heap_alloc_new w _, by simp, one_below _ _⟩
theorem sfits_wrong (w : World) (h : RackIn lo w c q) (cf : Cf) (hr : ¬ CfRight cf) : Calls Tryz.prog 34 #[.pointer (some ⟨c.r, 0, none⟩), .agg (cfA cf)] w (Bit false w) := by
 have HF0 := hI (ftS_new h cf)
 have CR := hI (fun w => sright_any cf w)
 have CN := hI (fun w' (h' : FtS lo c q cf w.heap.size w w') => qn_any w' h'.1)
 have CK := hI (fun w' (h' : FtS lo c q cf w.heap.size w w') => qsectors_any w' h'.1)
 have d0 : ∀ w', FtS lo c q cf w.heap.size w w' → w'.cell? ⟨w.heap.size, 0, none⟩ = some (.int .i64 cf.id) := fun w' h => h.2.1.cell 0
 have d1 : ∀ w', FtS lo c q cf w.heap.size w w' → w'.cell? ⟨w.heap.size, 1, none⟩ = some (.int .i64 cf.k) := fun w' h => h.2.1.cell 1
 have d2 : ∀ w', FtS lo c q cf w.heap.size w w' → w'.cell? ⟨w.heap.size, 2, none⟩ = some (.int .i64 cf.n) := fun w' h => h.2.1.cell 2
 have d3 : ∀ w', FtS lo c q cf w.heap.size w w' → w'.cell? ⟨w.heap.size, 3, none⟩ = some (.int .i64 cf.t) := fun w' h => h.2.1.cell 3
 have d4 : ∀ w', FtS lo c q cf w.heap.size w w' → w'.cell? ⟨w.heap.size, 4, none⟩ = some (.int .i64 cf.s) := fun w' h => h.2.1.cell 4
 clear h
 rw [show cfRightB cf = false from decide_eq_false hr] at CR
 clear hr
 go_enter Tryz.func34, Tryz.ntmps34
 go_wp2_with fail
 have h0 := HF0.out
 generalize w.alloc (.cells (cfA cf) 24) = w1 at *
 generalize hbb : w.heap.size = b at *
 refine wp_region_noPanic ?_
 refine wp_region_held_drew (S := (fun w' => FtS lo c q cf b w w')) (by kernel_rfl) h0.drew (fun hHeld => ?_)
 refine hT 0 ⟨some 5, _, _, _, _, _⟩ rfl hHeld ?_
 simp only [hP]
 refine hC 1 rfl fun K hK => ?_
 go_simp
 refine (CR.out _).mono ?_
 rintro e w2 ⟨rfl, hb2⟩
 have h2 := FtS.then hHeld hb2
 clear hb2
 refine hK.out _ _ h2 (fun _ => ?_)
 clear hK K
 refine hT 2 ⟨some 7, _, _, _, _, _⟩ rfl h2 ?_
 simp only [hP]
 refine hU 3 ⟨some 8, _, _, _, _, _⟩ rfl h2 ?_
 simp only [hP]
 refine hU 4 ⟨some 9, _, _, _, _, _⟩ rfl h2 ?_
 simp only [hP]
 refine hU 5 ⟨some 10, _, _, _, _, _⟩ rfl h2 ?_
 simp only [hP]
 refine hU 6 ⟨some 11, _, _, _, _, _⟩ rfl h2 ?_
 simp only [hP]
 refine hU 7 ⟨some 12, _, _, _, _, _⟩ rfl h2 ?_
 simp only [hP]
 refine hT 8 ⟨some 13, _, _, _, _, _⟩ rfl h2 ?_
 simp only [hP]
 refine hT 9 ⟨some 14, _, _, _, _, _⟩ rfl h2 ?_
 simp only [hP]
 refine hU 10 ⟨some 15, _, _, _, _, _⟩ rfl h2 ?_
 simp only [hP]
 refine hU 11 ⟨some 16, _, _, _, _, _⟩ rfl h2 ?_
 simp only [hP]
 refine hU 12 ⟨some 17, _, _, _, _, _⟩ rfl h2 ?_
 simp only [hP]
 refine hU 13 ⟨some 18, _, _, _, _, _⟩ rfl h2 ?_
 simp only [hP]
 refine hU 14 ⟨some 19, _, _, _, _, _⟩ rfl h2 ?_
 simp only [hP]
 refine hT 15 ⟨some 20, _, _, _, _, _⟩ rfl h2 ?_
 simp only [hP]
 refine hT 16 ⟨some 4, _, _, _, _, _⟩ rfl h2 ?_
 simp only [hP]
 refine wpAnyH_done (by kernel_rfl) ?_ _
 refine NoPanic.normal ?_
 go_wp2_with fail
 go_ret
 refine bit rfl ?_
 exact h2.2.2.2
theorem sfits_other (w : World) (h : RackIn lo w c q) (cf : Cf) (hr : CfRight cf) (hn : ¬ cf.n = q.n) : Calls Tryz.prog 34 #[.pointer (some ⟨c.r, 0, none⟩), .agg (cfA cf)] w (Bit false w) := by
 have HF0 := hI (ftS_new h cf)
 have CR := hI (fun w => sright_any cf w)
 have CN := hI (fun w' (h' : FtS lo c q cf w.heap.size w w') => qn_any w' h'.1)
 have CK := hI (fun w' (h' : FtS lo c q cf w.heap.size w w') => qsectors_any w' h'.1)
 have d0 : ∀ w', FtS lo c q cf w.heap.size w w' → w'.cell? ⟨w.heap.size, 0, none⟩ = some (.int .i64 cf.id) := fun w' h => h.2.1.cell 0
 have d1 : ∀ w', FtS lo c q cf w.heap.size w w' → w'.cell? ⟨w.heap.size, 1, none⟩ = some (.int .i64 cf.k) := fun w' h => h.2.1.cell 1
 have d2 : ∀ w', FtS lo c q cf w.heap.size w w' → w'.cell? ⟨w.heap.size, 2, none⟩ = some (.int .i64 cf.n) := fun w' h => h.2.1.cell 2
 have d3 : ∀ w', FtS lo c q cf w.heap.size w w' → w'.cell? ⟨w.heap.size, 3, none⟩ = some (.int .i64 cf.t) := fun w' h => h.2.1.cell 3
 have d4 : ∀ w', FtS lo c q cf w.heap.size w w' → w'.cell? ⟨w.heap.size, 4, none⟩ = some (.int .i64 cf.s) := fun w' h => h.2.1.cell 4
 clear h
 rw [show cfRightB cf = true from decide_eq_true hr] at CR
 have n1 : (cf.n == (q.n : Int)) = false := by simpa using hn
 clear hr hn
 go_enter Tryz.func34, Tryz.ntmps34
 go_wp2_with fail
 have h0 := HF0.out
 generalize w.alloc (.cells (cfA cf) 24) = w1 at *
 generalize hbb : w.heap.size = b at *
 refine wp_region_noPanic ?_
 refine wp_region_held_drew (S := (fun w' => FtS lo c q cf b w w')) (by kernel_rfl) h0.drew (fun hHeld => ?_)
 refine hT 0 ⟨some 5, _, _, _, _, _⟩ rfl hHeld ?_
 simp only [hP]
 refine hC 1 rfl fun K hK => ?_
 go_simp
 refine (CR.out _).mono ?_
 rintro e w2 ⟨rfl, hb2⟩
 have h2 := FtS.then hHeld hb2
 clear hb2
 refine hK.out _ _ h2 (fun _ => ?_)
 clear hK K
 refine hT 2 ⟨some 7, _, _, _, _, _⟩ rfl h2 ?_
 simp only [hP]
 refine hT 3 ⟨some 8, _, _, _, _, _⟩ rfl h2 ?_
 simp only [hP]
 refine hT 4 ⟨some 9, _, _, _, _, _⟩ rfl h2 ?_
 simp only [hP]
 refine hT 5 ⟨some 10, _, _, _, _, _⟩ rfl h2 ?_
 simp only [hP]
 refine hC 6 rfl fun K hK => ?_
 go_simp
 refine (CN.out _ h2).mono ?_
 rintro e w' ⟨rfl, rfl⟩
 refine hK.out _ _ h2 (fun _ => ?_)
 clear hK K
 refine hT 7 ⟨some 12, _, _, _, _, _⟩ rfl h2 ?_
 simp only [hP]
 refine hT 8 ⟨some 13, _, _, _, _, _⟩ rfl h2 ?_
 simp only [hP]
 refine hT 9 ⟨some 14, _, _, _, _, _⟩ rfl h2 ?_
 simp only [hP]
 refine hU 10 ⟨some 15, _, _, _, _, _⟩ rfl h2 ?_
 simp only [hP]
 refine hU 11 ⟨some 16, _, _, _, _, _⟩ rfl h2 ?_
 simp only [hP]
 refine hU 12 ⟨some 17, _, _, _, _, _⟩ rfl h2 ?_
 simp only [hP]
 refine hU 13 ⟨some 18, _, _, _, _, _⟩ rfl h2 ?_
 simp only [hP]
 refine hU 14 ⟨some 19, _, _, _, _, _⟩ rfl h2 ?_
 simp only [hP]
 refine hT 15 ⟨some 20, _, _, _, _, _⟩ rfl h2 ?_
 simp only [hP]
 refine hT 16 ⟨some 4, _, _, _, _, _⟩ rfl h2 ?_
 simp only [hP]
 refine wpAnyH_done (by kernel_rfl) ?_ _
 refine NoPanic.normal ?_
 go_wp2_with fail
 go_ret
 refine bit rfl ?_
 exact h2.2.2.2
theorem sfits_right (w : World) (h : RackIn lo w c q) (cf : Cf) (hr : CfRight cf) (hn : cf.n = q.n) : Calls Tryz.prog 34 #[.pointer (some ⟨c.r, 0, none⟩), .agg (cfA cf)] w (Bit (decide (cf.secs ≤ q.k)) w) := by
 have HF0 := hI (ftS_new h cf)
 have CR := hI (fun w => sright_any cf w)
 have CN := hI (fun w' (h' : FtS lo c q cf w.heap.size w w') => qn_any w' h'.1)
 have CK := hI (fun w' (h' : FtS lo c q cf w.heap.size w w') => qsectors_any w' h'.1)
 have d0 : ∀ w', FtS lo c q cf w.heap.size w w' → w'.cell? ⟨w.heap.size, 0, none⟩ = some (.int .i64 cf.id) := fun w' h => h.2.1.cell 0
 have d1 : ∀ w', FtS lo c q cf w.heap.size w w' → w'.cell? ⟨w.heap.size, 1, none⟩ = some (.int .i64 cf.k) := fun w' h => h.2.1.cell 1
 have d2 : ∀ w', FtS lo c q cf w.heap.size w w' → w'.cell? ⟨w.heap.size, 2, none⟩ = some (.int .i64 cf.n) := fun w' h => h.2.1.cell 2
 have d3 : ∀ w', FtS lo c q cf w.heap.size w w' → w'.cell? ⟨w.heap.size, 3, none⟩ = some (.int .i64 cf.t) := fun w' h => h.2.1.cell 3
 have d4 : ∀ w', FtS lo c q cf w.heap.size w w' → w'.cell? ⟨w.heap.size, 4, none⟩ = some (.int .i64 cf.s) := fun w' h => h.2.1.cell 4
 clear h
 have CS := hI (fun w => ssectors_any cf w hr)
 rw [show cfRightB cf = true from decide_eq_true hr] at CR
 have n1 : (cf.n == (q.n : Int)) = true := by simpa using hn
 clear hr hn
 go_enter Tryz.func34, Tryz.ntmps34
 go_wp2_with fail
 have h0 := HF0.out
 generalize w.alloc (.cells (cfA cf) 24) = w1 at *
 generalize hbb : w.heap.size = b at *
 refine wp_region_noPanic ?_
 refine wp_region_held_drew (S := (fun w' => FtS lo c q cf b w w')) (by kernel_rfl) h0.drew (fun hHeld => ?_)
 refine hT 0 ⟨some 5, _, _, _, _, _⟩ rfl hHeld ?_
 simp only [hP]
 refine hC 1 rfl fun K hK => ?_
 go_simp
 refine (CR.out _).mono ?_
 rintro e w2 ⟨rfl, hb2⟩
 have h2 := FtS.then hHeld hb2
 clear hb2
 refine hK.out _ _ h2 (fun _ => ?_)
 clear hK K
 refine hT 2 ⟨some 7, _, _, _, _, _⟩ rfl h2 ?_
 simp only [hP]
 refine hT 3 ⟨some 8, _, _, _, _, _⟩ rfl h2 ?_
 simp only [hP]
 refine hT 4 ⟨some 9, _, _, _, _, _⟩ rfl h2 ?_
 simp only [hP]
 refine hT 5 ⟨some 10, _, _, _, _, _⟩ rfl h2 ?_
 simp only [hP]
 refine hC 6 rfl fun K hK => ?_
 go_simp
 refine (CN.out _ h2).mono ?_
 rintro e w' ⟨rfl, rfl⟩
 refine hK.out _ _ h2 (fun _ => ?_)
 clear hK K
 refine hT 7 ⟨some 12, _, _, _, _, _⟩ rfl h2 ?_
 simp only [hP]
 refine hT 8 ⟨some 13, _, _, _, _, _⟩ rfl h2 ?_
 simp only [hP]
 refine hT 9 ⟨some 14, _, _, _, _, _⟩ rfl h2 ?_
 simp only [hP]
 refine hT 10 ⟨some 15, _, _, _, _, _⟩ rfl h2 ?_
 simp only [hP]
 refine hT 12 ⟨some 17, _, _, _, _, _⟩ rfl h2 ?_
 simp only [hP]
 refine hC 11 rfl fun K hK => ?_
 go_simp
 refine (CS.out _).mono ?_
 rintro e w3 ⟨rfl, hb3⟩
 have h3 := FtS.then h2 hb3
 clear hb3
 refine hK.out _ _ h3 (fun _ => ?_)
 clear hK K
 refine hC 13 rfl fun K hK => ?_
 go_simp
 refine (CK.out _ h3).mono ?_
 rintro e w' ⟨rfl, rfl⟩
 refine hK.out _ _ h3 (fun _ => ?_)
 clear hK K
 refine hT 14 ⟨some 19, _, _, _, _, _⟩ rfl h3 ?_
 simp only [hP]
 refine hT 15 ⟨some 20, _, _, _, _, _⟩ rfl h3 ?_
 simp only [hP]
 refine hT 16 ⟨some 4, _, _, _, _, _⟩ rfl h3 ?_
 simp only [hP]
 refine wpAnyH_done (by kernel_rfl) ?_ _
 refine NoPanic.normal ?_
 go_wp2_with fail
 go_ret
 refine bit rfl ?_
 exact h3.2.2.2
theorem sfits_any (w : World) (h : RackIn lo w c q) (cf : Cf) : Calls Tryz.prog 34 #[.pointer (some ⟨c.r, 0, none⟩), .agg (cfA cf)] w (Bit (cf.fits q) w) := by
 unfold Cf.fits
 by_cases hr : CfRight cf
 ·rw [show cfRightB cf = true from decide_eq_true hr, Bool.true_and]
  by_cases hn : cf.n = q.n
  ·rw [decide_eq_true hn, Bool.true_and]
   exact sfits_right w h cf hr hn
  ·rw [decide_eq_false hn, Bool.false_and]
   exact sfits_other w h cf hr hn
 ·rw [show cfRightB cf = false from decide_eq_false hr, Bool.false_and]
  exact sfits_wrong w h cf hr
end Go.Proofs.YtilljaneegbhlaaGreatDoor
