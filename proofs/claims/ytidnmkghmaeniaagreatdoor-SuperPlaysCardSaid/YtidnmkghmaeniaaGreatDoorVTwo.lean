/-
  (*staverun.Two).Wear: both racks are worn alike (written by genwear.py).
-/
import Derived.Test.YtidnmkghmaeniaaGreatDoorSVBig
import Derived.Test.YtidnmkghmaeniaaGreatDoorWithinV
import Derived.Deep.RegionHeld3
import Derived.IntWalk
import Derived.Test.YtidnmkghmaeniaaGreatDoorSameB
namespace Go.Proofs.YtidnmkghmaeniaaGreatDoor
open Go.RowKit Go.Deep Dk Qk Go.Maps Hf
/-- What happens to a disk. -/
structure Wr where
  k : Int
  i : Int
  s : Int
  at_ : Int
  x : Nat
def wrC (a : Wr) (v : Value) : Array Value := #[.int .i64 a.k, .int .i64 a.i, .int .i64 a.s, .int .i64 a.at_, .int .u32 (a.x : Int), v]
def WrAt (g : Nat) (a : Wr) (v : Value) (w : World) : Prop := w.heap[g]? = some (.cells (wrC a v) 31 (0, 0))
theorem WrAt.cell {g : Nat} {a : Wr} {v : Value} {w : World} (h : WrAt g a v w) (i : Nat) : w.cell? ⟨g, i, none⟩ = (wrC a v)[i]? := cell_of_row w g i _ _ _ h
structure WX (lo : Nat) (K : Nat → Prop) (w1 : World) (T : Nat) (c : Lc) (f : Lf) (g : Nat) (a : Wr) (v : Value) (C E : Nat → Nat) (q q' : Rk) (w : World) : Prop where
  px : PX lo (fun k => K k ∨ k = g) w c f C E q q'
  tw : TwoAt T c f w
  wa : WrAt g a v w
  le : lo ≤ w.heap.size
  kt : K T
  kp : Kept lo (fun k => K k ∨ k = g) w1 w
section
variable {lo : Nat} {K : Nat → Prop} {w0 w w' w1 : World} {T g : Nat} {a : Wr} {c : Lc} {f : Lf} {C E : Nat → Nat} {q q1 q' q2 : Rk} {v u : Value}
theorem WX.next (h : WX lo K w1 T c f g a v C E q q' w) {C' E' : Nat → Nat} (hp : PX lo (fun k => K k ∨ k = g) w' c f C' E' q1 q2) (hk : Kept lo (fun k => K k ∨ k = g) w w') : WX lo K w1 T c f g a v C' E' q1 q2 w' :=
  ⟨hp, (hk.keep T (Or.inl h.kt)).trans h.tw, (hk.keep g (Or.inr rfl)).trans h.wa, Nat.le_trans h.le hk.below.size, h.kt, h.kp.trans hk⟩
theorem WX.below (h : WX lo K w1 T c f g a v C E q q' w) (hb : Below w.heap.size w w') : WX lo K w1 T c f g a v C E q q' w' := h.next (h.px.below hb h.le).1 (h.px.below hb h.le).2
theorem WX.drew (h : WX lo K w1 T c f g a v C E q q' w) : WX lo K w1 T c f g a v C E q q' w.drew := h.below (Below.drew (Below.refl _ _))
theorem WX.prog (h : WX lo K w1 T c f g a v C E q q' w) {fn : Nat} {args : Array Value} (hc : Calls Tryz.prog fn args w (NextR lo c q.n q1 u w)) (hn : q1.n = q.n) (hk : q1.k = q.k) : Calls Tryz.prog fn args w (fun e w' => e = .returned u ∧ WX lo K w1 T c f g a v C E q1 q' w') :=
  hc.mono fun _ _ ⟨h1, h2, h3⟩ => ⟨h1, h.next (h.px.prog_step h2 h3 hn hk h.le).1 (h.px.prog_step h2 h3 hn hk h.le).2⟩
theorem WX.refs (h : WX lo K w1 T c f g a v C E q q' w) {fn : Nat} {args : Array Value} (hc : Calls Tryz.prog fn args w (VN lo (fun k => K k ∨ k = g) c f q q2 u w)) : Calls Tryz.prog fn args w (fun e w' => e = .returned u ∧ ∃ C' E', WX lo K w1 T c f g a v C' E' q q2 w') :=
  hc.mono fun _ _ ⟨h1, ⟨C', E', h2⟩, h3⟩ => ⟨h1, C', E', h.next h2 h3⟩
theorem WX.c0 (h : WX lo K w1 T c f g a v C E q q' w) : w.cell? ⟨T, 0, none⟩ = some (.pointer (some ⟨c.r, 0, none⟩)) := by rw [cell_of_row w T 0 _ _ _ h.tw]; rfl
theorem WX.c1 (h : WX lo K w1 T c f g a v C E q q' w) : w.cell? ⟨T, 1, none⟩ = some (.pointer (some ⟨f.t, 0, none⟩)) := by rw [cell_of_row w T 1 _ _ _ h.tw]; rfl
def WearOut (lo : Nat) (K : Nat → Prop) (c : Lc) (f : Lf) (q : Rk) (w : World) (e : Ending) (w' : World) : Prop :=
  e = .returned (.tuple #[]) ∧ (∃ C E p p', p.n = q.n ∧ p.k = q.k ∧ Qk.Alike p p' ∧ PX lo K w' c f C E p p') ∧ Kept lo K w w'
theorem WX.out (h : WX lo K w1 T c f g a v C E q1 q2 w') (h0 : Kept lo K w w1) (hn : q1.n = q.n) (hk : q1.k = q.k) (ha : Qk.Alike q1 q2) : WearOut lo K c f q w (.returned (.tuple #[])) w' :=
  ⟨rfl, ⟨C, E, q1, q2, hn, hk, ha, h.px.less fun _ hk => Or.inl hk⟩, h0.trans ⟨h.kp.below, fun k hk => h.kp.keep k (Or.inl hk)⟩⟩
theorem WX.start (px : PX lo K w c f C E q q') (tw : TwoAt T c f w) (hKT : K T) (hlo : lo ≤ w.heap.size) (a : Wr) (v : Value) : WX lo K (w.alloc (.cells (wrC a v) 31)) T c f w.heap.size a v C E q q' (w.alloc (.cells (wrC a v) 31)) ∧ Kept lo K w (w.alloc (.cells (wrC a v) 31)) := by
  have hb := one_below w (.cells (wrC a v) 31)
  exact ⟨⟨px.more hb hlo (Nat.le_refl _) (by simp), ((px.below hb hlo).2.keep T hKT).trans tw, heap_alloc_new w _, Nat.le_trans hlo hb.size, hKT, Kept.refl _ _ _⟩, (px.below hb hlo).2⟩
theorem dying_in {i : Nat} (hi : i < q.n) (b : Bool) : Rk.dying q (i : Nat) b = q.wipe i b := by unfold Rk.dying; rw [if_pos (show q.has (i : Int) from ⟨by omega, by omega⟩)]; rfl
theorem rotten_in {i : Nat} (hi : i < q.n) (s b : Int) (x : Nat) : Rk.rotten q (i : Nat) s b x = q.turn i (rotnext (q.s i) s b x) := by unfold Rk.rotten; rw [if_pos (show q.has (i : Int) from ⟨by omega, by omega⟩)]; rfl
end
set_option maxHeartbeats 8000000 in
set_option maxRecDepth 100000 in
theorem two_wear {lo : Nat} {K : Nat → Prop} {T : Nat} {c : Lc} {f : Lf} {C1 E1 : Nat → Nat} {q q' : Rk} (w : World) (px : PX lo K w c f C1 E1 q q') (tw : TwoAt T c f w) (hKT : K T) (hlo : lo ≤ w.heap.size) (al : Qk.Alike q q') (a : Wr) (va : Option Addr) (n vc : Nat) (l : List Nat) (hv : SlU lo w (.slice va n vc) l) (hl : ∀ x, x < l.length → l.getD x 0 < 18446744073709551616) :
    Calls Tryz.prog 14 #[.pointer (some ⟨T, 0, none⟩), .agg (wrC a (.slice va n vc))] w (WearOut lo K c f q w) := by
  obtain ⟨h1, hk1⟩ := WX.start px tw hKT hlo a (.slice va n vc)
  have H1 := Lib.hid h1
  have HK := Lib.hid hk1
  have HAL := Lib.hid al
  have HN8 := Lib.hid (show 1 ≤ q.n ∧ q.n ≤ 8 ∧ 1 ≤ q.k ∧ q.k ≤ 128 from ⟨px.prog.ok.n0, px.prog.ok.n8, px.prog.ok.k0, px.prog.ok.k8⟩)
  have HV := Lib.hid (hv.below hk1.below)
  have HL := Lib.hid hl
  clear h1 hk1 px tw hKT hlo al hv hl
  unfold wrC at H1 HK HV ⊢
  go_enter Tryz.func14, Tryz.ntmps14
  go_upto_region 1 with (fail)
  generalize hg1 : w.alloc (.cells #[.int .i64 a.k, .int .i64 a.i, .int .i64 a.s, .int .i64 a.at_, .int .u32 (a.x : Int), .slice va n vc] 31) = w1 at *
  generalize w.heap.size = g at *
  clear hg1
  have H2 := Lib.hid (show WX lo K w1 T c f g a (.slice va n vc) C1 E1 q q' w1 from H1.out)
  have t0 := H2.out.c0
  have t1 := H2.out.c1
  have f0 := H2.out.px.c0
  have a0 : w1.cell? ⟨g, 0, none⟩ = some (.int .i64 a.k) := by rw [H2.out.wa.cell]; rfl
  have a1 : w1.cell? ⟨g, 1, none⟩ = some (.int .i64 a.i) := by rw [H2.out.wa.cell]; rfl
  have HWI := Lib.hid (fun W => within_int a.i 0 ((q.n : Int) - 1) W (by omega) (by have := HN8.out; omega) (by have := HN8.out; omega))
  have hwn : IntKind.i64.wrap ((q.n : Int) - 1) = (q.n : Int) - 1 := IntWalk.i64_in _ (by have := HN8.out; omega)
  go_wp2_with fail
  refine (HWI.out _).mono ?_
  rintro e w' ⟨xx, hxx, rfl, hw'⟩
  subst hw'
  obtain ⟨x, rfl⟩ := Int.eq_ofNat_of_zero_le hxx.1
  have hx : x < q.n := by have := hxx.2; have := HN8.out; omega
  have hxi : (x : Int) < q.n := by omega
  have p0 := H2.out.px.at_ hx
  clear hxx hwn a1
  by_cases hk1 : a.k = 1
  · have e1 : (a.k == 1) = true := by simp; omega
    clear hk1
    have CD := Lib.hid (show Calls Tryz.prog 44 #[.pointer (some ⟨c.r, 0, none⟩), .int .i64 (x : Int)] w1 (fun e w' => ∃ u, e = .returned u ∧ WX lo K w1 T c f g a (.slice va n vc) C1 E1 (q.wipe x true) q' w') from (H2.out.prog (qdie_any w1 H2.out.px.prog (x : Int)) (by unfold Rk.dying; split <;> rfl) (by unfold Rk.dying; split <;> rfl)).mono fun _ _ ⟨h1, h2⟩ => ⟨_, h1, by rw [← dying_in hx]; exact h2⟩)
    go_wp2_with fail
    refine CD.out.mono ?_
    rintro e w2 ⟨u, rfl, h2⟩
    have H3 := Lib.hid h2
    clear h2 t0 t1 f0 p0
    have t1 := H3.out.c1
    have f0 := H3.out.px.c0
    have p0 := H3.out.px.at_ (i := x) (show x < (q.wipe x true).n from hx)
    rw [show (q.wipe x true).n = q.n from rfl] at f0
    have CV := Lib.hid (H3.out.refs (vdie_at w2 H3.out.px H3.out.le (i := x) (show x < (q.wipe x true).n from hx)))
    go_wp2_with fail
    refine CV.out.mono ?_
    rintro e w3 ⟨rfl, C3, E3, h3⟩
    have H4 := Lib.hid h3
    clear h3 t1 f0 p0
    go_wp2_with fail
    go_end0
    exact H4.out.out HK.out rfl rfl (HAL.out.wipe hx true)
  · skip
    by_cases hk2 : a.k = 2
    · have e1 : (a.k == 1) = false := by simp; omega
      have e2 : (a.k == 2) = true := by simp; omega
      clear hk2
      have CD := Lib.hid (show Calls Tryz.prog 45 #[.pointer (some ⟨c.r, 0, none⟩), .int .i64 (x : Int)] w1 (fun e w' => ∃ u, e = .returned u ∧ WX lo K w1 T c f g a (.slice va n vc) C1 E1 (q.wipe x false) q' w') from (H2.out.prog (qreplace_any w1 H2.out.px.prog (x : Int)) (by unfold Rk.dying; split <;> rfl) (by unfold Rk.dying; split <;> rfl)).mono fun _ _ ⟨h1, h2⟩ => ⟨_, h1, by rw [← dying_in hx]; exact h2⟩)
      go_wp2_with fail
      refine CD.out.mono ?_
      rintro e w2 ⟨u, rfl, h2⟩
      have H3 := Lib.hid h2
      clear h2 t0 t1 f0 p0
      have t1 := H3.out.c1
      have f0 := H3.out.px.c0
      have p0 := H3.out.px.at_ (i := x) (show x < (q.wipe x false).n from hx)
      rw [show (q.wipe x false).n = q.n from rfl] at f0
      have CV := Lib.hid (H3.out.refs (vreplace_at w2 H3.out.px H3.out.le (i := x) (show x < (q.wipe x false).n from hx)))
      go_wp2_with fail
      refine CV.out.mono ?_
      rintro e w3 ⟨rfl, C3, E3, h3⟩
      have H4 := Lib.hid h3
      clear h3 t1 f0 p0
      go_wp2_with fail
      go_end0
      exact H4.out.out HK.out rfl rfl (HAL.out.wipe hx false)
    · skip
      by_cases hk3 : a.k = 3
      · have e1 : (a.k == 1) = false := by simp; omega
        have e2 : (a.k == 2) = false := by simp; omega
        have e3 : (a.k == 3) = true := by simp; omega
        clear hk3 t0 t1 f0 p0
        have HWS := Lib.hid (fun W => within_int a.s 0 ((q.k : Int) - 1) W (by omega) (by have := HN8.out; omega) (by have := HN8.out; omega))
        have HWA := Lib.hid (fun W => within_int a.at_ 0 124 W (by omega) (by omega) (by omega))
        have hwk : IntKind.i64.wrap ((q.k : Int) - 1) = (q.k : Int) - 1 := IntWalk.i64_in _ (by have := HN8.out; omega)
        obtain ⟨_, cp, r0⟩ := H2.out.px.disk hx
        rw [H2.out.px.k] at r0
        have hr1 := r0
        clear r0
        have t0 : ∀ w', ((WX lo K w1 T c f g a (.slice va n vc) C1 E1 q q' w') ∧ w'.cell? ⟨f.r x, 0, none⟩ = some (.slice (some ⟨f.A x, 0, none⟩) q.k cp)) → w'.cell? ⟨T, 0, none⟩ = some (.pointer (some ⟨c.r, 0, none⟩)) := fun w' h => by rw [cell_of_row w' T 0 _ _ _ h.1.tw]; rfl
        have t1 : ∀ w', ((WX lo K w1 T c f g a (.slice va n vc) C1 E1 q q' w') ∧ w'.cell? ⟨f.r x, 0, none⟩ = some (.slice (some ⟨f.A x, 0, none⟩) q.k cp)) → w'.cell? ⟨T, 1, none⟩ = some (.pointer (some ⟨f.t, 0, none⟩)) := fun w' h => by rw [cell_of_row w' T 1 _ _ _ h.1.tw]; rfl
        have a2 : ∀ w', ((WX lo K w1 T c f g a (.slice va n vc) C1 E1 q q' w') ∧ w'.cell? ⟨f.r x, 0, none⟩ = some (.slice (some ⟨f.A x, 0, none⟩) q.k cp)) → w'.cell? ⟨g, 2, none⟩ = some (.int .i64 a.s) := fun w' h => by rw [h.1.wa.cell]; rfl
        have a3 : ∀ w', ((WX lo K w1 T c f g a (.slice va n vc) C1 E1 q q' w') ∧ w'.cell? ⟨f.r x, 0, none⟩ = some (.slice (some ⟨f.A x, 0, none⟩) q.k cp)) → w'.cell? ⟨g, 3, none⟩ = some (.int .i64 a.at_) := fun w' h => by rw [h.1.wa.cell]; rfl
        have a4 : ∀ w', ((WX lo K w1 T c f g a (.slice va n vc) C1 E1 q q' w') ∧ w'.cell? ⟨f.r x, 0, none⟩ = some (.slice (some ⟨f.A x, 0, none⟩) q.k cp)) → w'.cell? ⟨g, 4, none⟩ = some (.int .u32 (a.x : Int)) := fun w' h => by rw [h.1.wa.cell]; rfl
        have a5 : ∀ w', ((WX lo K w1 T c f g a (.slice va n vc) C1 E1 q q' w') ∧ w'.cell? ⟨f.r x, 0, none⟩ = some (.slice (some ⟨f.A x, 0, none⟩) q.k cp)) → w'.cell? ⟨g, 5, none⟩ = some (.slice va n vc) := fun w' h => by rw [h.1.wa.cell]; rfl
        have f0 : ∀ w', ((WX lo K w1 T c f g a (.slice va n vc) C1 E1 q q' w') ∧ w'.cell? ⟨f.r x, 0, none⟩ = some (.slice (some ⟨f.A x, 0, none⟩) q.k cp)) → w'.cell? ⟨f.t, 0, none⟩ = some (.slice (some ⟨f.P, 0, none⟩) q.n f.cap) := fun w' h => h.1.px.c0
        have p0 : ∀ w', ((WX lo K w1 T c f g a (.slice va n vc) C1 E1 q q' w') ∧ w'.cell? ⟨f.r x, 0, none⟩ = some (.slice (some ⟨f.A x, 0, none⟩) q.k cp)) → w'.cell? ⟨f.P, x, none⟩ = some (.pointer (some ⟨f.r x, 0, none⟩)) := fun w' h => h.1.px.at_ hx
        have r0 : ∀ w', ((WX lo K w1 T c f g a (.slice va n vc) C1 E1 q q' w') ∧ w'.cell? ⟨f.r x, 0, none⟩ = some (.slice (some ⟨f.A x, 0, none⟩) q.k cp)) → w'.cell? ⟨f.r x, 0, none⟩ = some (.slice (some ⟨f.A x, 0, none⟩) q.k cp) := fun w' h => h.2
        go_wp2_with fail
        refine wp_region_noPanic ?_
        refine wp_region_held_drew (S := (fun w' => (WX lo K w1 T c f g a (.slice va n vc) C1 E1 q q' w') ∧ w'.cell? ⟨f.r x, 0, none⟩ = some (.slice (some ⟨f.A x, 0, none⟩) q.k cp))) (by kernel_rfl) (show ((WX lo K w1 T c f g a (.slice va n vc) C1 E1 q q' w1.drew) ∧ w1.drew.cell? ⟨f.r x, 0, none⟩ = some (.slice (some ⟨f.A x, 0, none⟩) q.k cp)) from ⟨H2.out.drew, hr1⟩) (fun hHeld => ?_)
        refine wpAnyH_take (i := 0) (oi := ⟨some 64, _, _, _, _, _⟩) (v := ?_) rfl (by kernel_rfl) (by kernel_rfl) (by kernel_rfl) (fun _ _ _ h => h) (Or.inl ⟨by rfl, ?_⟩) hHeld ?_
        rotate_left
        · intro w hSw; (go_simp; try with_reducible rfl)
        simp only [Act.put, List.setIfInBounds_toArray, List.set_cons_zero, List.set_cons_succ]
        refine wpAnyH_take (i := 1) (oi := ⟨some 65, _, _, _, _, _⟩) (v := ?_) rfl (by kernel_rfl) (by kernel_rfl) (by kernel_rfl) (fun _ _ _ h => h) (Or.inl ⟨by rfl, ?_⟩) hHeld ?_
        rotate_left
        · intro w hSw; (go_simp; try with_reducible rfl)
        simp only [Act.put, List.setIfInBounds_toArray, List.set_cons_zero, List.set_cons_succ]
        refine wpAnyH_take (i := 2) (oi := ⟨some 66, _, _, _, _, _⟩) (v := ?_) rfl (by kernel_rfl) (by kernel_rfl) (by kernel_rfl) (fun _ _ _ h => h) (Or.inl ⟨by rfl, ?_⟩) hHeld ?_
        rotate_left
        · intro w hSw; (go_simp; try with_reducible rfl)
        simp only [Act.put, List.setIfInBounds_toArray, List.set_cons_zero, List.set_cons_succ]
        refine wpAnyH_take (i := 3) (oi := ⟨some 67, _, _, _, _, _⟩) (v := ?_) rfl (by kernel_rfl) (by kernel_rfl) (by kernel_rfl) (fun _ _ _ h => h) (Or.inl ⟨by rfl, ?_⟩) hHeld ?_
        rotate_left
        · intro w hSw; (go_simp; try with_reducible rfl)
        simp only [Act.put, List.setIfInBounds_toArray, List.set_cons_zero, List.set_cons_succ]
        refine wpAnyH_take (i := 4) (oi := ⟨some 68, _, _, _, _, _⟩) (v := ?_) rfl (by kernel_rfl) (by kernel_rfl) (by kernel_rfl) (fun _ _ _ h => h) (Or.inl ⟨by rfl, ?_⟩) hHeld ?_
        rotate_left
        · intro w hSw; (go_simp; try with_reducible rfl)
        simp only [Act.put, List.setIfInBounds_toArray, List.set_cons_zero, List.set_cons_succ]
        refine wpAnyH_take (i := 5) (oi := ⟨some 69, _, _, _, _, _⟩) (v := ?_) rfl (by kernel_rfl) (by kernel_rfl) (by kernel_rfl) (fun _ _ _ h => h) (Or.inl ⟨by rfl, ?_⟩) hHeld ?_
        rotate_left
        · intro w hSw; (go_simp; try with_reducible rfl)
        simp only [Act.put, List.setIfInBounds_toArray, List.set_cons_zero, List.set_cons_succ]
        refine wpAnyH_take (i := 6) (oi := ⟨some 70, _, _, _, _, _⟩) (v := ?_) rfl (by kernel_rfl) (by kernel_rfl) (by kernel_rfl) (fun _ _ _ h => h) (Or.inl ⟨by rfl, ?_⟩) hHeld ?_
        rotate_left
        · intro w hSw; (go_simp; try with_reducible rfl)
        simp only [Act.put, List.setIfInBounds_toArray, List.set_cons_zero, List.set_cons_succ]
        refine wpAnyH_take (i := 7) (oi := ⟨some 71, _, _, _, _, _⟩) (v := ?_) rfl (by kernel_rfl) (by kernel_rfl) (by kernel_rfl) (fun _ _ _ h => h) (Or.inl ⟨by rfl, ?_⟩) hHeld ?_
        rotate_left
        · intro w hSw; (go_simp; try with_reducible rfl)
        simp only [Act.put, List.setIfInBounds_toArray, List.set_cons_zero, List.set_cons_succ]
        refine wpAnyH_take (i := 8) (oi := ⟨some 72, _, _, _, _, _⟩) (v := ?_) rfl (by kernel_rfl) (by kernel_rfl) (by kernel_rfl) (fun _ _ _ h => h) (Or.inl ⟨by rfl, ?_⟩) hHeld ?_
        rotate_left
        · intro w hSw; (go_simp; try with_reducible rfl)
        simp only [Act.put, List.setIfInBounds_toArray, List.set_cons_zero, List.set_cons_succ]
        refine wpAnyH_take (i := 9) (oi := ⟨some 73, _, _, _, _, _⟩) (v := ?_) rfl (by kernel_rfl) (by kernel_rfl) (by kernel_rfl) (fun _ _ _ h => h) (Or.inl ⟨by rfl, ?_⟩) hHeld ?_
        rotate_left
        · intro w hSw; (go_simp; try with_reducible rfl)
        simp only [Act.put, List.setIfInBounds_toArray, List.set_cons_zero, List.set_cons_succ]
        refine wpAnyH_take (i := 10) (oi := ⟨some 74, _, _, _, _, _⟩) (v := ?_) rfl (by kernel_rfl) (by kernel_rfl) (by kernel_rfl) (fun _ _ _ h => h) (Or.inl ⟨by rfl, ?_⟩) hHeld ?_
        rotate_left
        · intro w hSw; (go_simp; try with_reducible rfl)
        simp only [Act.put, List.setIfInBounds_toArray, List.set_cons_zero, List.set_cons_succ]
        refine wpAnyH_take (i := 11) (oi := ⟨some 75, _, _, _, _, _⟩) (v := ?_) rfl (by kernel_rfl) (by kernel_rfl) (by kernel_rfl) (fun _ _ _ h => h) (Or.inl ⟨by rfl, ?_⟩) hHeld ?_
        rotate_left
        · intro w hSw; (go_simp; try with_reducible rfl)
        simp only [Act.put, List.setIfInBounds_toArray, List.set_cons_zero, List.set_cons_succ]
        refine wpAnyH_take (i := 12) (oi := ⟨some 76, _, _, _, _, _⟩) (v := ?_) rfl (by kernel_rfl) (by kernel_rfl) (by kernel_rfl) (fun _ _ _ h => h) (Or.inl ⟨by rfl, ?_⟩) hHeld ?_
        rotate_left
        · intro w hSw; (go_simp; try with_reducible rfl)
        simp only [Act.put, List.setIfInBounds_toArray, List.set_cons_zero, List.set_cons_succ]
        refine wpAnyH_take (i := 13) (oi := ⟨some 77, _, _, _, _, _⟩) (v := ?_) rfl (by kernel_rfl) (by kernel_rfl) (by kernel_rfl) (fun _ _ _ h => h) (Or.inl ⟨by rfl, ?_⟩) hHeld ?_
        rotate_left
        · intro w hSw; (go_simp; try with_reducible rfl)
        simp only [Act.put, List.setIfInBounds_toArray, List.set_cons_zero, List.set_cons_succ]
        refine wpAnyH_take (i := 14) (oi := ⟨some 78, _, _, _, _, _⟩) (v := ?_) rfl (by kernel_rfl) (by kernel_rfl) (by kernel_rfl) (fun _ _ _ h => h) (Or.inl ⟨by rfl, ?_⟩) hHeld ?_
        rotate_left
        · intro w hSw; (go_simp; try with_reducible rfl)
        simp only [Act.put, List.setIfInBounds_toArray, List.set_cons_zero, List.set_cons_succ]
        refine wpAnyH_take (i := 15) (oi := ⟨some 79, _, _, _, _, _⟩) (v := ?_) rfl (by kernel_rfl) (by kernel_rfl) (by kernel_rfl) (fun _ _ _ h => h) (Or.inl ⟨by rfl, ?_⟩) hHeld ?_
        rotate_left
        · intro w hSw; (go_simp; try with_reducible rfl)
        simp only [Act.put, List.setIfInBounds_toArray, List.set_cons_zero, List.set_cons_succ]
        refine wpAnyH_take (i := 16) (oi := ⟨some 80, _, _, _, _, _⟩) (v := ?_) rfl (by kernel_rfl) (by kernel_rfl) (by kernel_rfl) (fun _ _ _ h => h) (Or.inl ⟨by rfl, ?_⟩) hHeld ?_
        rotate_left
        · intro w hSw; (go_simp; try with_reducible rfl)
        simp only [Act.put, List.setIfInBounds_toArray, List.set_cons_zero, List.set_cons_succ]
        refine wpAnyH_take (i := 18) (oi := ⟨some 82, _, _, _, _, _⟩) (v := ?_) rfl (by kernel_rfl) (by kernel_rfl) (by kernel_rfl) (fun _ _ _ h => h) (Or.inl ⟨by rfl, ?_⟩) hHeld ?_
        rotate_left
        · intro w hSw; (go_simp; try with_reducible rfl)
        simp only [Act.put, List.setIfInBounds_toArray, List.set_cons_zero, List.set_cons_succ]
        refine wpAnyH_take (i := 19) (oi := ⟨some 83, _, _, _, _, _⟩) (v := ?_) rfl (by kernel_rfl) (by kernel_rfl) (by kernel_rfl) (fun _ _ _ h => h) (Or.inl ⟨by rfl, ?_⟩) hHeld ?_
        rotate_left
        · intro w hSw; (go_simp; try with_reducible rfl)
        simp only [Act.put, List.setIfInBounds_toArray, List.set_cons_zero, List.set_cons_succ]
        refine wpAnyH_ready (rs := [17]) (by kernel_rfl) (by simp) (AllReadyH.cons rfl (fun K hK => ?_) AllReadyH.nil)
        go_simp
        refine (HWS.out _).mono ?_
        rintro e w' ⟨sx, hs, rfl, hw'⟩
        subst hw'
        refine hK.out _ _ hHeld (fun _ => ?_)
        clear hK K
        refine wpAnyH_ready (rs := [20]) (by kernel_rfl) (by simp) (AllReadyH.cons rfl (fun K hK => ?_) AllReadyH.nil)
        go_simp
        refine (HWA.out _).mono ?_
        rintro e w' ⟨bx, hb, rfl, hw'⟩
        subst hw'
        refine hK.out _ _ hHeld (fun _ => ?_)
        clear hK K
        refine wpAnyH_take (i := 21) (oi := ⟨some 6, _, _, _, _, _⟩) (v := ?_) rfl (by kernel_rfl) (by kernel_rfl) (by kernel_rfl) (fun _ _ _ h => h) (Or.inl ⟨by rfl, ?_⟩) hHeld ?_
        rotate_left
        · intro w hSw; (go_simp; try with_reducible rfl)
        simp only [Act.put, List.setIfInBounds_toArray, List.set_cons_zero, List.set_cons_succ]
        refine wpAnyH_take (i := 22) (oi := ⟨some 7, _, _, _, _, _⟩) (v := ?_) rfl (by kernel_rfl) (by kernel_rfl) (by kernel_rfl) (fun _ _ _ h => h) (Or.inl ⟨by rfl, ?_⟩) hHeld ?_
        rotate_left
        · intro w hSw; (go_simp; try with_reducible rfl)
        simp only [Act.put, List.setIfInBounds_toArray, List.set_cons_zero, List.set_cons_succ]
        refine wpAnyH_done (by kernel_rfl) ?_ _
        refine NoPanic.normal ?_
        clear t0 t1 a2 a3 a4 a5 f0 p0 r0 hwk hr1
        have H5 := Lib.hid hHeld.1
        clear hHeld
        generalize w1.drew = w5 at *
        have t0 : ∀ w', (TwoAt T c f w' ∧ WrAt g a (.slice va n vc) w') → w'.cell? ⟨T, 0, none⟩ = some (.pointer (some ⟨c.r, 0, none⟩)) := fun w' h => by rw [cell_of_row w' T 0 _ _ _ h.1]; rfl
        have t1 : ∀ w', (TwoAt T c f w' ∧ WrAt g a (.slice va n vc) w') → w'.cell? ⟨T, 1, none⟩ = some (.pointer (some ⟨f.t, 0, none⟩)) := fun w' h => by rw [cell_of_row w' T 1 _ _ _ h.1]; rfl
        have a2 : ∀ w', (TwoAt T c f w' ∧ WrAt g a (.slice va n vc) w') → w'.cell? ⟨g, 2, none⟩ = some (.int .i64 a.s) := fun w' h => by rw [h.2.cell]; rfl
        have a3 : ∀ w', (TwoAt T c f w' ∧ WrAt g a (.slice va n vc) w') → w'.cell? ⟨g, 3, none⟩ = some (.int .i64 a.at_) := fun w' h => by rw [h.2.cell]; rfl
        have a4 : ∀ w', (TwoAt T c f w' ∧ WrAt g a (.slice va n vc) w') → w'.cell? ⟨g, 4, none⟩ = some (.int .u32 (a.x : Int)) := fun w' h => by rw [h.2.cell]; rfl
        have a5 : ∀ w', (TwoAt T c f w' ∧ WrAt g a (.slice va n vc) w') → w'.cell? ⟨g, 5, none⟩ = some (.slice va n vc) := fun w' h => by rw [h.2.cell]; rfl
        have CR := Lib.hid (fun (_ : Unit) => (H5.out.drew.prog (qrot_any w5.drew H5.out.drew.px.prog (x : Int) sx bx a.x) (by unfold Rk.rotten; split <;> rfl) (by unfold Rk.rotten; split <;> rfl)))
        rw [rotten_in hx] at CR
        go_wp2_with fail
        refine wp_region_noPanic ?_
        refine wp_region_held_drew (S := (fun w' => TwoAt T c f w' ∧ WrAt g a (.slice va n vc) w')) (by kernel_rfl) (show TwoAt T c f w5.drew ∧ WrAt g a (.slice va n vc) w5.drew from ⟨H5.out.drew.tw, H5.out.drew.wa⟩) (fun hHeld => ?_)
        refine wpAnyH_take (i := 0) (oi := ⟨some 85, _, _, _, _, _⟩) (v := ?_) rfl (by kernel_rfl) (by kernel_rfl) (by kernel_rfl) (fun _ _ _ h => h) (Or.inl ⟨by rfl, ?_⟩) hHeld ?_
        rotate_left
        · intro w hSw; (go_simp; try with_reducible rfl)
        simp only [Act.put, List.setIfInBounds_toArray, List.set_cons_zero, List.set_cons_succ]
        refine wpAnyH_take (i := 1) (oi := ⟨some 86, _, _, _, _, _⟩) (v := ?_) rfl (by kernel_rfl) (by kernel_rfl) (by kernel_rfl) (fun _ _ _ h => h) (Or.inl ⟨by rfl, ?_⟩) hHeld ?_
        rotate_left
        · intro w hSw; (go_simp; try with_reducible rfl)
        simp only [Act.put, List.setIfInBounds_toArray, List.set_cons_zero, List.set_cons_succ]
        refine wpAnyH_take (i := 2) (oi := ⟨some 87, _, _, _, _, _⟩) (v := ?_) rfl (by kernel_rfl) (by kernel_rfl) (by kernel_rfl) (fun _ _ _ h => h) (Or.inl ⟨by rfl, ?_⟩) hHeld ?_
        rotate_left
        · intro w hSw; (go_simp; try with_reducible rfl)
        simp only [Act.put, List.setIfInBounds_toArray, List.set_cons_zero, List.set_cons_succ]
        refine wpAnyH_take (i := 3) (oi := ⟨some 88, _, _, _, _, _⟩) (v := ?_) rfl (by kernel_rfl) (by kernel_rfl) (by kernel_rfl) (fun _ _ _ h => h) (Or.inl ⟨by rfl, ?_⟩) hHeld ?_
        rotate_left
        · intro w hSw; (go_simp; try with_reducible rfl)
        simp only [Act.put, List.setIfInBounds_toArray, List.set_cons_zero, List.set_cons_succ]
        refine wpAnyH_take (i := 4) (oi := ⟨some 89, _, _, _, _, _⟩) (v := ?_) rfl (by kernel_rfl) (by kernel_rfl) (by kernel_rfl) (fun _ _ _ h => h) (Or.inl ⟨by rfl, ?_⟩) hHeld ?_
        rotate_left
        · intro w hSw; (go_simp; try with_reducible rfl)
        simp only [Act.put, List.setIfInBounds_toArray, List.set_cons_zero, List.set_cons_succ]
        refine wpAnyH_take (i := 5) (oi := ⟨some 90, _, _, _, _, _⟩) (v := ?_) rfl (by kernel_rfl) (by kernel_rfl) (by kernel_rfl) (fun _ _ _ h => h) (Or.inl ⟨by rfl, ?_⟩) hHeld ?_
        rotate_left
        · intro w hSw; (go_simp; try with_reducible rfl)
        simp only [Act.put, List.setIfInBounds_toArray, List.set_cons_zero, List.set_cons_succ]
        refine wpAnyH_take (i := 6) (oi := ⟨some 91, _, _, _, _, _⟩) (v := ?_) rfl (by kernel_rfl) (by kernel_rfl) (by kernel_rfl) (fun _ _ _ h => h) (Or.inl ⟨by rfl, ?_⟩) hHeld ?_
        rotate_left
        · intro w hSw; (go_simp; try with_reducible rfl)
        simp only [Act.put, List.setIfInBounds_toArray, List.set_cons_zero, List.set_cons_succ]
        refine wpAnyH_take (i := 7) (oi := ⟨some 92, _, _, _, _, _⟩) (v := ?_) rfl (by kernel_rfl) (by kernel_rfl) (by kernel_rfl) (fun _ _ _ h => h) (Or.inl ⟨by rfl, ?_⟩) hHeld ?_
        rotate_left
        · intro w hSw; (go_simp; try with_reducible rfl)
        simp only [Act.put, List.setIfInBounds_toArray, List.set_cons_zero, List.set_cons_succ]
        refine wpAnyH_take (i := 8) (oi := ⟨some 93, _, _, _, _, _⟩) (v := ?_) rfl (by kernel_rfl) (by kernel_rfl) (by kernel_rfl) (fun _ _ _ h => h) (Or.inl ⟨by rfl, ?_⟩) hHeld ?_
        rotate_left
        · intro w hSw; (go_simp; try with_reducible rfl)
        simp only [Act.put, List.setIfInBounds_toArray, List.set_cons_zero, List.set_cons_succ]
        refine wpAnyH_ready (rs := [9]) (by kernel_rfl) (by simp) (AllReadyH.cons rfl (fun K hK => ?_) AllReadyH.nil)
        go_simp
        refine (CR.out ()).mono ?_
        rintro e w2 ⟨rfl, h2⟩
        have H3 := Lib.hid h2
        have hS2 : TwoAt T c f w2 ∧ WrAt g a (.slice va n vc) w2 := ⟨h2.tw, h2.wa⟩
        clear h2
        refine hK.out _ _ hS2 (fun _ => ?_)
        clear hK K
        refine wpAnyH_done (by kernel_rfl) ?_ _
        refine NoPanic.normal ?_
        clear t0 t1 a2 a3 a4 a5 hHeld hS2
        have t0 : ∀ w', ((TwoAt T c f w' ∧ WrAt g a (.slice va n vc) w') ∧ w'.cell? ⟨f.t, 0, none⟩ = some (.slice (some ⟨f.P, 0, none⟩) q.n f.cap) ∧ w'.cell? ⟨f.P, x, none⟩ = some (.pointer (some ⟨f.r x, 0, none⟩))) → w'.cell? ⟨T, 0, none⟩ = some (.pointer (some ⟨c.r, 0, none⟩)) := fun w' h => by rw [cell_of_row w' T 0 _ _ _ h.1.1]; rfl
        have t1 : ∀ w', ((TwoAt T c f w' ∧ WrAt g a (.slice va n vc) w') ∧ w'.cell? ⟨f.t, 0, none⟩ = some (.slice (some ⟨f.P, 0, none⟩) q.n f.cap) ∧ w'.cell? ⟨f.P, x, none⟩ = some (.pointer (some ⟨f.r x, 0, none⟩))) → w'.cell? ⟨T, 1, none⟩ = some (.pointer (some ⟨f.t, 0, none⟩)) := fun w' h => by rw [cell_of_row w' T 1 _ _ _ h.1.1]; rfl
        have a2 : ∀ w', ((TwoAt T c f w' ∧ WrAt g a (.slice va n vc) w') ∧ w'.cell? ⟨f.t, 0, none⟩ = some (.slice (some ⟨f.P, 0, none⟩) q.n f.cap) ∧ w'.cell? ⟨f.P, x, none⟩ = some (.pointer (some ⟨f.r x, 0, none⟩))) → w'.cell? ⟨g, 2, none⟩ = some (.int .i64 a.s) := fun w' h => by rw [h.1.2.cell]; rfl
        have a3 : ∀ w', ((TwoAt T c f w' ∧ WrAt g a (.slice va n vc) w') ∧ w'.cell? ⟨f.t, 0, none⟩ = some (.slice (some ⟨f.P, 0, none⟩) q.n f.cap) ∧ w'.cell? ⟨f.P, x, none⟩ = some (.pointer (some ⟨f.r x, 0, none⟩))) → w'.cell? ⟨g, 3, none⟩ = some (.int .i64 a.at_) := fun w' h => by rw [h.1.2.cell]; rfl
        have a4 : ∀ w', ((TwoAt T c f w' ∧ WrAt g a (.slice va n vc) w') ∧ w'.cell? ⟨f.t, 0, none⟩ = some (.slice (some ⟨f.P, 0, none⟩) q.n f.cap) ∧ w'.cell? ⟨f.P, x, none⟩ = some (.pointer (some ⟨f.r x, 0, none⟩))) → w'.cell? ⟨g, 4, none⟩ = some (.int .u32 (a.x : Int)) := fun w' h => by rw [h.1.2.cell]; rfl
        have a5 : ∀ w', ((TwoAt T c f w' ∧ WrAt g a (.slice va n vc) w') ∧ w'.cell? ⟨f.t, 0, none⟩ = some (.slice (some ⟨f.P, 0, none⟩) q.n f.cap) ∧ w'.cell? ⟨f.P, x, none⟩ = some (.pointer (some ⟨f.r x, 0, none⟩))) → w'.cell? ⟨g, 5, none⟩ = some (.slice va n vc) := fun w' h => by rw [h.1.2.cell]; rfl
        have f0 : ∀ w', ((TwoAt T c f w' ∧ WrAt g a (.slice va n vc) w') ∧ w'.cell? ⟨f.t, 0, none⟩ = some (.slice (some ⟨f.P, 0, none⟩) q.n f.cap) ∧ w'.cell? ⟨f.P, x, none⟩ = some (.pointer (some ⟨f.r x, 0, none⟩))) → w'.cell? ⟨f.t, 0, none⟩ = some (.slice (some ⟨f.P, 0, none⟩) q.n f.cap) := fun w' h => h.2.1
        have p0 : ∀ w', ((TwoAt T c f w' ∧ WrAt g a (.slice va n vc) w') ∧ w'.cell? ⟨f.t, 0, none⟩ = some (.slice (some ⟨f.P, 0, none⟩) q.n f.cap) ∧ w'.cell? ⟨f.P, x, none⟩ = some (.pointer (some ⟨f.r x, 0, none⟩))) → w'.cell? ⟨f.P, x, none⟩ = some (.pointer (some ⟨f.r x, 0, none⟩)) := fun w' h => h.2.2
        have H3d := Lib.hid H3.out.drew
        have CV := Lib.hid (H3d.out.refs (vrot_at w2.drew H3d.out.px H3d.out.le (i := x) hx sx bx a.x))
        go_wp2_with fail
        refine wp_region_noPanic ?_
        refine wp_region_held_drew (S := (fun w' => (TwoAt T c f w' ∧ WrAt g a (.slice va n vc) w') ∧ w'.cell? ⟨f.t, 0, none⟩ = some (.slice (some ⟨f.P, 0, none⟩) q.n f.cap) ∧ w'.cell? ⟨f.P, x, none⟩ = some (.pointer (some ⟨f.r x, 0, none⟩)))) (by kernel_rfl) (show (TwoAt T c f w2.drew ∧ WrAt g a (.slice va n vc) w2.drew) ∧ w2.drew.cell? ⟨f.t, 0, none⟩ = some (.slice (some ⟨f.P, 0, none⟩) q.n f.cap) ∧ w2.drew.cell? ⟨f.P, x, none⟩ = some (.pointer (some ⟨f.r x, 0, none⟩)) from ⟨⟨H3d.out.tw, H3d.out.wa⟩, H3d.out.px.c0, H3d.out.px.at_ (i := x) hx⟩) (fun hHeld => ?_)
        refine wpAnyH_take (i := 0) (oi := ⟨some 95, _, _, _, _, _⟩) (v := ?_) rfl (by kernel_rfl) (by kernel_rfl) (by kernel_rfl) (fun _ _ _ h => h) (Or.inl ⟨by rfl, ?_⟩) hHeld ?_
        rotate_left
        · intro w hSw; (go_simp; try with_reducible rfl)
        simp only [Act.put, List.setIfInBounds_toArray, List.set_cons_zero, List.set_cons_succ]
        refine wpAnyH_take (i := 1) (oi := ⟨some 96, _, _, _, _, _⟩) (v := ?_) rfl (by kernel_rfl) (by kernel_rfl) (by kernel_rfl) (fun _ _ _ h => h) (Or.inl ⟨by rfl, ?_⟩) hHeld ?_
        rotate_left
        · intro w hSw; (go_simp; try with_reducible rfl)
        simp only [Act.put, List.setIfInBounds_toArray, List.set_cons_zero, List.set_cons_succ]
        refine wpAnyH_take (i := 2) (oi := ⟨some 97, _, _, _, _, _⟩) (v := ?_) rfl (by kernel_rfl) (by kernel_rfl) (by kernel_rfl) (fun _ _ _ h => h) (Or.inl ⟨by rfl, ?_⟩) hHeld ?_
        rotate_left
        · intro w hSw; (go_simp; try with_reducible rfl)
        simp only [Act.put, List.setIfInBounds_toArray, List.set_cons_zero, List.set_cons_succ]
        refine wpAnyH_take (i := 3) (oi := ⟨some 98, _, _, _, _, _⟩) (v := ?_) rfl (by kernel_rfl) (by kernel_rfl) (by kernel_rfl) (fun _ _ _ h => h) (Or.inl ⟨by rfl, ?_⟩) hHeld ?_
        rotate_left
        · intro w hSw; (go_simp; try with_reducible rfl)
        simp only [Act.put, List.setIfInBounds_toArray, List.set_cons_zero, List.set_cons_succ]
        refine wpAnyH_take (i := 4) (oi := ⟨some 99, _, _, _, _, _⟩) (v := ?_) rfl (by kernel_rfl) (by kernel_rfl) (by kernel_rfl) (fun _ _ _ h => h) (Or.inl ⟨by rfl, ?_⟩) hHeld ?_
        rotate_left
        · intro w hSw; (go_simp; try with_reducible rfl)
        simp only [Act.put, List.setIfInBounds_toArray, List.set_cons_zero, List.set_cons_succ]
        refine wpAnyH_take (i := 5) (oi := ⟨some 100, _, _, _, _, _⟩) (v := ?_) rfl (by kernel_rfl) (by kernel_rfl) (by kernel_rfl) (fun _ _ _ h => h) (Or.inl ⟨by rfl, ?_⟩) hHeld ?_
        rotate_left
        · intro w hSw; (go_simp; try with_reducible rfl)
        simp only [Act.put, List.setIfInBounds_toArray, List.set_cons_zero, List.set_cons_succ]
        refine wpAnyH_take (i := 6) (oi := ⟨some 101, _, _, _, _, _⟩) (v := ?_) rfl (by kernel_rfl) (by kernel_rfl) (by kernel_rfl) (fun _ _ _ h => h) (Or.inl ⟨by rfl, ?_⟩) hHeld ?_
        rotate_left
        · intro w hSw; (go_simp; try with_reducible rfl)
        simp only [Act.put, List.setIfInBounds_toArray, List.set_cons_zero, List.set_cons_succ]
        refine wpAnyH_take (i := 7) (oi := ⟨some 102, _, _, _, _, _⟩) (v := ?_) rfl (by kernel_rfl) (by kernel_rfl) (by kernel_rfl) (fun _ _ _ h => h) (Or.inl ⟨by rfl, ?_⟩) hHeld ?_
        rotate_left
        · intro w hSw; (go_simp; try with_reducible rfl)
        simp only [Act.put, List.setIfInBounds_toArray, List.set_cons_zero, List.set_cons_succ]
        refine wpAnyH_take (i := 8) (oi := ⟨some 103, _, _, _, _, _⟩) (v := ?_) rfl (by kernel_rfl) (by kernel_rfl) (by kernel_rfl) (fun _ _ _ h => h) (Or.inl ⟨by rfl, ?_⟩) hHeld ?_
        rotate_left
        · intro w hSw; (go_simp; try with_reducible rfl)
        simp only [Act.put, List.setIfInBounds_toArray, List.set_cons_zero, List.set_cons_succ]
        refine wpAnyH_take (i := 9) (oi := ⟨some 104, _, _, _, _, _⟩) (v := ?_) rfl (by kernel_rfl) (by kernel_rfl) (by kernel_rfl) (fun _ _ _ h => h) (Or.inl ⟨by rfl, ?_⟩) hHeld ?_
        rotate_left
        · intro w hSw; (go_simp; try with_reducible rfl)
        simp only [Act.put, List.setIfInBounds_toArray, List.set_cons_zero, List.set_cons_succ]
        refine wpAnyH_take (i := 10) (oi := ⟨some 105, _, _, _, _, _⟩) (v := ?_) rfl (by kernel_rfl) (by kernel_rfl) (by kernel_rfl) (fun _ _ _ h => h) (Or.inl ⟨by rfl, ?_⟩) hHeld ?_
        rotate_left
        · intro w hSw; (go_simp; try with_reducible rfl)
        simp only [Act.put, List.setIfInBounds_toArray, List.set_cons_zero, List.set_cons_succ]
        refine wpAnyH_take (i := 11) (oi := ⟨some 106, _, _, _, _, _⟩) (v := ?_) rfl (by kernel_rfl) (by kernel_rfl) (by kernel_rfl) (fun _ _ _ h => h) (Or.inl ⟨by rfl, ?_⟩) hHeld ?_
        rotate_left
        · intro w hSw; (go_simp; try with_reducible rfl)
        simp only [Act.put, List.setIfInBounds_toArray, List.set_cons_zero, List.set_cons_succ]
        refine wpAnyH_take (i := 12) (oi := ⟨some 107, _, _, _, _, _⟩) (v := ?_) rfl (by kernel_rfl) (by kernel_rfl) (by kernel_rfl) (fun _ _ _ h => h) (Or.inl ⟨by rfl, ?_⟩) hHeld ?_
        rotate_left
        · intro w hSw; (go_simp; try with_reducible rfl)
        simp only [Act.put, List.setIfInBounds_toArray, List.set_cons_zero, List.set_cons_succ]
        refine wpAnyH_take (i := 13) (oi := ⟨some 108, _, _, _, _, _⟩) (v := ?_) rfl (by kernel_rfl) (by kernel_rfl) (by kernel_rfl) (fun _ _ _ h => h) (Or.inl ⟨by rfl, ?_⟩) hHeld ?_
        rotate_left
        · intro w hSw; (go_simp; try with_reducible rfl)
        simp only [Act.put, List.setIfInBounds_toArray, List.set_cons_zero, List.set_cons_succ]
        refine wpAnyH_ready (rs := [14]) (by kernel_rfl) (by simp) (AllReadyH.cons rfl (fun K hK => ?_) AllReadyH.nil)
        go_simp
        refine CV.out.mono ?_
        rintro e w3 ⟨rfl, C3, E3, h3⟩
        have H4 := Lib.hid h3
        have hS4 : (TwoAt T c f w3 ∧ WrAt g a (.slice va n vc) w3) ∧ w3.cell? ⟨f.t, 0, none⟩ = some (.slice (some ⟨f.P, 0, none⟩) q.n f.cap) ∧ w3.cell? ⟨f.P, x, none⟩ = some (.pointer (some ⟨f.r x, 0, none⟩)) := ⟨⟨h3.tw, h3.wa⟩, h3.px.c0, h3.px.at_ (i := x) hx⟩
        clear h3
        refine hK.out _ _ hS4 (fun _ => ?_)
        clear hK K
        refine wpAnyH_done (by kernel_rfl) ?_ _
        refine NoPanic.normal ?_
        clear t0 t1 a2 a3 a4 a5 f0 p0 hHeld hS4
        go_wp2_with fail
        go_end0
        exact H4.out.out HK.out rfl rfl (by rw [← HAL.out.s x hx]; exact HAL.out.turn x _)
      · skip
        by_cases hk4 : a.k = 4
        · have e1 : (a.k == 1) = false := by simp; omega
          have e2 : (a.k == 2) = false := by simp; omega
          have e3 : (a.k == 3) = false := by simp; omega
          have e4 : (a.k == 4) = true := by simp; omega
          clear hk4 f0 p0
          have HWF := Lib.hid (fun W => within_int a.s 0 60 W (by omega) (by omega) (by omega))
          have a2 : w1.cell? ⟨g, 2, none⟩ = some (.int .i64 a.s) := by rw [H2.out.wa.cell]; rfl
          go_wp2_with fail
          refine (HWF.out _).mono ?_
          rintro e w' ⟨y, hy, rfl, hw'⟩
          subst hw'
          have CD := Lib.hid (H2.out.prog (qarm_any w1 H2.out.px.prog y (by omega) (by omega)) rfl rfl)
          go_wp2_with fail
          refine CD.out.mono ?_
          rintro e w2 ⟨rfl, h2⟩
          have H3 := Lib.hid h2
          clear h2 t0 t1 a2
          have t1 := H3.out.c1
          have CV := Lib.hid (H3.out.refs (varm_any w2 H3.out.px y (by omega) (by omega)))
          clear hy
          go_wp2_with fail
          refine CV.out.mono ?_
          rintro e w3 ⟨rfl, C3, E3, h3⟩
          have H4 := Lib.hid h3
          clear h3 t1
          go_wp2_with fail
          go_end0
          exact H4.out.out HK.out rfl rfl (HAL.out.arm y)
        · skip
          by_cases hk5 : a.k = 5
          · have e1 : (a.k == 1) = false := by simp; omega
            have e2 : (a.k == 2) = false := by simp; omega
            have e3 : (a.k == 3) = false := by simp; omega
            have e4 : (a.k == 4) = false := by simp; omega
            have e5 : (a.k == 5) = true := by simp; omega
            clear hk5 t0 t1 f0 p0
            have CD := Lib.hid (H2.out.drew.prog (qboot_any w1.drew H2.out.drew.px.prog (.slice va n vc) l (HV.out.below (Below.drew (Below.refl _ _))) H2.out.le HL.out) rfl rfl)
            have t0 : ∀ w', (TwoAt T c f w' ∧ WrAt g a (.slice va n vc) w') → w'.cell? ⟨T, 0, none⟩ = some (.pointer (some ⟨c.r, 0, none⟩)) := fun w' h => by rw [cell_of_row w' T 0 _ _ _ h.1]; rfl
            have t1 : ∀ w', (TwoAt T c f w' ∧ WrAt g a (.slice va n vc) w') → w'.cell? ⟨T, 1, none⟩ = some (.pointer (some ⟨f.t, 0, none⟩)) := fun w' h => by rw [cell_of_row w' T 1 _ _ _ h.1]; rfl
            have a2 : ∀ w', (TwoAt T c f w' ∧ WrAt g a (.slice va n vc) w') → w'.cell? ⟨g, 2, none⟩ = some (.int .i64 a.s) := fun w' h => by rw [h.2.cell]; rfl
            have a3 : ∀ w', (TwoAt T c f w' ∧ WrAt g a (.slice va n vc) w') → w'.cell? ⟨g, 3, none⟩ = some (.int .i64 a.at_) := fun w' h => by rw [h.2.cell]; rfl
            have a4 : ∀ w', (TwoAt T c f w' ∧ WrAt g a (.slice va n vc) w') → w'.cell? ⟨g, 4, none⟩ = some (.int .u32 (a.x : Int)) := fun w' h => by rw [h.2.cell]; rfl
            have a5 : ∀ w', (TwoAt T c f w' ∧ WrAt g a (.slice va n vc) w') → w'.cell? ⟨g, 5, none⟩ = some (.slice va n vc) := fun w' h => by rw [h.2.cell]; rfl
            go_wp2_with fail
            refine wp_region_noPanic ?_
            refine wp_region_held_drew (S := (fun w' => TwoAt T c f w' ∧ WrAt g a (.slice va n vc) w')) (by kernel_rfl) (show TwoAt T c f w1.drew ∧ WrAt g a (.slice va n vc) w1.drew from ⟨H2.out.drew.tw, H2.out.drew.wa⟩) (fun hHeld => ?_)
            refine wpAnyH_take (i := 0) (oi := ⟨some 129, _, _, _, _, _⟩) (v := ?_) rfl (by kernel_rfl) (by kernel_rfl) (by kernel_rfl) (fun _ _ _ h => h) (Or.inl ⟨by rfl, ?_⟩) hHeld ?_
            rotate_left
            · intro w hSw; (go_simp; try with_reducible rfl)
            simp only [Act.put, List.setIfInBounds_toArray, List.set_cons_zero, List.set_cons_succ]
            refine wpAnyH_take (i := 1) (oi := ⟨some 130, _, _, _, _, _⟩) (v := ?_) rfl (by kernel_rfl) (by kernel_rfl) (by kernel_rfl) (fun _ _ _ h => h) (Or.inl ⟨by rfl, ?_⟩) hHeld ?_
            rotate_left
            · intro w hSw; (go_simp; try with_reducible rfl)
            simp only [Act.put, List.setIfInBounds_toArray, List.set_cons_zero, List.set_cons_succ]
            refine wpAnyH_take (i := 2) (oi := ⟨some 131, _, _, _, _, _⟩) (v := ?_) rfl (by kernel_rfl) (by kernel_rfl) (by kernel_rfl) (fun _ _ _ h => h) (Or.inl ⟨by rfl, ?_⟩) hHeld ?_
            rotate_left
            · intro w hSw; (go_simp; try with_reducible rfl)
            simp only [Act.put, List.setIfInBounds_toArray, List.set_cons_zero, List.set_cons_succ]
            refine wpAnyH_take (i := 3) (oi := ⟨some 132, _, _, _, _, _⟩) (v := ?_) rfl (by kernel_rfl) (by kernel_rfl) (by kernel_rfl) (fun _ _ _ h => h) (Or.inl ⟨by rfl, ?_⟩) hHeld ?_
            rotate_left
            · intro w hSw; (go_simp; try with_reducible rfl)
            simp only [Act.put, List.setIfInBounds_toArray, List.set_cons_zero, List.set_cons_succ]
            refine wpAnyH_take (i := 4) (oi := ⟨some 133, _, _, _, _, _⟩) (v := ?_) rfl (by kernel_rfl) (by kernel_rfl) (by kernel_rfl) (fun _ _ _ h => h) (Or.inl ⟨by rfl, ?_⟩) hHeld ?_
            rotate_left
            · intro w hSw; (go_simp; try with_reducible rfl)
            simp only [Act.put, List.setIfInBounds_toArray, List.set_cons_zero, List.set_cons_succ]
            refine wpAnyH_take (i := 5) (oi := ⟨some 134, _, _, _, _, _⟩) (v := ?_) rfl (by kernel_rfl) (by kernel_rfl) (by kernel_rfl) (fun _ _ _ h => h) (Or.inl ⟨by rfl, ?_⟩) hHeld ?_
            rotate_left
            · intro w hSw; (go_simp; try with_reducible rfl)
            simp only [Act.put, List.setIfInBounds_toArray, List.set_cons_zero, List.set_cons_succ]
            refine wpAnyH_ready (rs := [6]) (by kernel_rfl) (by simp) (AllReadyH.cons rfl (fun K hK => ?_) AllReadyH.nil)
            go_simp
            refine CD.out.mono ?_
            rintro e w2 ⟨rfl, h2⟩
            have H3 := Lib.hid h2
            have hS2 : TwoAt T c f w2 ∧ WrAt g a (.slice va n vc) w2 := ⟨h2.tw, h2.wa⟩
            clear h2
            refine hK.out _ _ hS2 (fun _ => ?_)
            clear hK K
            refine wpAnyH_done (by kernel_rfl) ?_ _
            refine NoPanic.normal ?_
            clear hHeld hS2
            have H3d := Lib.hid H3.out.drew
            have CV := Lib.hid (H3d.out.refs (vboot_any w2.drew H3d.out.px.pr H3d.out.le (.slice va n vc) l (HV.out.below H3d.out.kp.below) (Nat.le_refl _) HL.out))
            go_wp2_with fail
            refine wp_region_noPanic ?_
            refine wp_region_held_drew (S := (fun w' => TwoAt T c f w' ∧ WrAt g a (.slice va n vc) w')) (by kernel_rfl) (show TwoAt T c f w2.drew ∧ WrAt g a (.slice va n vc) w2.drew from ⟨H3d.out.tw, H3d.out.wa⟩) (fun hHeld => ?_)
            refine wpAnyH_take (i := 0) (oi := ⟨some 136, _, _, _, _, _⟩) (v := ?_) rfl (by kernel_rfl) (by kernel_rfl) (by kernel_rfl) (fun _ _ _ h => h) (Or.inl ⟨by rfl, ?_⟩) hHeld ?_
            rotate_left
            · intro w hSw; (go_simp; try with_reducible rfl)
            simp only [Act.put, List.setIfInBounds_toArray, List.set_cons_zero, List.set_cons_succ]
            refine wpAnyH_take (i := 1) (oi := ⟨some 137, _, _, _, _, _⟩) (v := ?_) rfl (by kernel_rfl) (by kernel_rfl) (by kernel_rfl) (fun _ _ _ h => h) (Or.inl ⟨by rfl, ?_⟩) hHeld ?_
            rotate_left
            · intro w hSw; (go_simp; try with_reducible rfl)
            simp only [Act.put, List.setIfInBounds_toArray, List.set_cons_zero, List.set_cons_succ]
            refine wpAnyH_take (i := 2) (oi := ⟨some 138, _, _, _, _, _⟩) (v := ?_) rfl (by kernel_rfl) (by kernel_rfl) (by kernel_rfl) (fun _ _ _ h => h) (Or.inl ⟨by rfl, ?_⟩) hHeld ?_
            rotate_left
            · intro w hSw; (go_simp; try with_reducible rfl)
            simp only [Act.put, List.setIfInBounds_toArray, List.set_cons_zero, List.set_cons_succ]
            refine wpAnyH_take (i := 3) (oi := ⟨some 139, _, _, _, _, _⟩) (v := ?_) rfl (by kernel_rfl) (by kernel_rfl) (by kernel_rfl) (fun _ _ _ h => h) (Or.inl ⟨by rfl, ?_⟩) hHeld ?_
            rotate_left
            · intro w hSw; (go_simp; try with_reducible rfl)
            simp only [Act.put, List.setIfInBounds_toArray, List.set_cons_zero, List.set_cons_succ]
            refine wpAnyH_take (i := 4) (oi := ⟨some 140, _, _, _, _, _⟩) (v := ?_) rfl (by kernel_rfl) (by kernel_rfl) (by kernel_rfl) (fun _ _ _ h => h) (Or.inl ⟨by rfl, ?_⟩) hHeld ?_
            rotate_left
            · intro w hSw; (go_simp; try with_reducible rfl)
            simp only [Act.put, List.setIfInBounds_toArray, List.set_cons_zero, List.set_cons_succ]
            refine wpAnyH_take (i := 5) (oi := ⟨some 141, _, _, _, _, _⟩) (v := ?_) rfl (by kernel_rfl) (by kernel_rfl) (by kernel_rfl) (fun _ _ _ h => h) (Or.inl ⟨by rfl, ?_⟩) hHeld ?_
            rotate_left
            · intro w hSw; (go_simp; try with_reducible rfl)
            simp only [Act.put, List.setIfInBounds_toArray, List.set_cons_zero, List.set_cons_succ]
            refine wpAnyH_ready (rs := [6]) (by kernel_rfl) (by simp) (AllReadyH.cons rfl (fun K hK => ?_) AllReadyH.nil)
            go_simp
            refine CV.out.mono ?_
            rintro e w3 ⟨rfl, C3, E3, h3⟩
            have H4 := Lib.hid h3
            have hS4 : TwoAt T c f w3 ∧ WrAt g a (.slice va n vc) w3 := ⟨h3.tw, h3.wa⟩
            clear h3
            refine hK.out _ _ hS4 (fun _ => ?_)
            clear hK K
            refine wpAnyH_done (by kernel_rfl) ?_ _
            refine NoPanic.normal ?_
            clear t0 t1 a2 a3 a4 a5 hHeld hS4
            go_wp2_with fail
            go_end0
            exact H4.out.out HK.out rfl rfl (HAL.out.boot _)
          · skip
            have e1 : (a.k == 1) = false := by simp; omega
            have e2 : (a.k == 2) = false := by simp; omega
            have e3 : (a.k == 3) = false := by simp; omega
            have e4 : (a.k == 4) = false := by simp; omega
            have e5 : (a.k == 5) = false := by simp; omega
            clear hk1 hk2 hk3 hk4 hk5
            go_wp2_with fail
            go_end0
            exact H2.out.out HK.out rfl rfl HAL.out
end Go.Proofs.YtidnmkghmaeniaaGreatDoor
/-
  (*staverun.Two).Same: both racks have the same (written by gensame.py).
-/
namespace Go.Proofs.YtidnmkghmaeniaaGreatDoor
open Go.RowKit Go.Deep Dk Qk Go.Maps Hf
/-- Both racks beside each other, alike, and the block that holds both. -/
structure TW (lo : Nat) (K : Nat → Prop) (T : Nat) (c : Lc) (f : Lf) (C E : Nat → Nat) (q q' : Rk) (w : World) : Prop where
  px : PX lo K w c f C E q q'
  tw : TwoAt T c f w
  le : lo ≤ w.heap.size
  al : Qk.Alike q q'
  ty : Typ w
theorem TW.below {lo : Nat} {K : Nat → Prop} {T : Nat} {c : Lc} {f : Lf} {C E : Nat → Nat} {q q' : Rk} {w w' : World} (h : TW lo K T c f C E q q' w) (hb : Below w.heap.size w w') : TW lo K T c f C E q q' w' :=
  ⟨(h.px.below hb h.le).1, by
    have hlt : T < w.heap.size := (Array.getElem?_eq_some_iff.1 h.tw).1
    show w'.heap[T]? = _
    rw [hb.block T hlt]; exact h.tw, Nat.le_trans h.le hb.size, h.al, h.ty.below hb⟩
theorem TW.drew {lo : Nat} {K : Nat → Prop} {T : Nat} {c : Lc} {f : Lf} {C E : Nat → Nat} {q q' : Rk} {w : World} (h : TW lo K T c f C E q q' w) : TW lo K T c f C E q q' w.drew := h.below (Below.drew (Below.refl _ _))
theorem TW.c0 {lo : Nat} {K : Nat → Prop} {T : Nat} {c : Lc} {f : Lf} {C E : Nat → Nat} {q q' : Rk} {w : World} (h : TW lo K T c f C E q q' w) : w.cell? ⟨T, 0, none⟩ = some (.pointer (some ⟨c.r, 0, none⟩)) := by rw [cell_of_row w T 0 _ _ _ h.tw]; rfl
theorem TW.c1 {lo : Nat} {K : Nat → Prop} {T : Nat} {c : Lc} {f : Lf} {C E : Nat → Nat} {q q' : Rk} {w : World} (h : TW lo K T c f C E q q' w) : w.cell? ⟨T, 1, none⟩ = some (.pointer (some ⟨f.t, 0, none⟩)) := by rw [cell_of_row w T 1 _ _ _ h.tw]; rfl
theorem TW.f2 {lo : Nat} {K : Nat → Prop} {T : Nat} {c : Lc} {f : Lf} {C E : Nat → Nat} {q q' : Rk} {w : World} (h : TW lo K T c f C E q q' w) : w.cell? ⟨f.t, 2, none⟩ = some (.bool q.off) := by rw [← h.al.off]; exact h.px.c2
theorem TW.len {lo : Nat} {K : Nat → Prop} {T : Nat} {c : Lc} {f : Lf} {C E : Nat → Nat} {q q' : Rk} {w : World} (h : TW lo K T c f C E q q' w) {i : Nat} (hi : i < q.n) : ∃ cp, w.cell? ⟨f.r i, 0, none⟩ = some (.slice (some ⟨f.A i, 0, none⟩) q.k cp) := by
  obtain ⟨_, cp, h1⟩ := h.px.disk hi
  rw [h.px.k] at h1
  exact ⟨cp, h1⟩
theorem qval_short {lo : Nat} {w : World} {c : Lc} {q : Rk} (h : RackIn lo w c q) (i s : Int) : (qval q i s).length ≤ 100000 := by
  unfold qval
  split
  · rename_i hp
    have := rval_length ((h.disk i.toNat (by have := hp.1.1; have := hp.1.2; omega)).ok) s
    omega
  · exact Nat.zero_le _
set_option maxHeartbeats 8000000 in
set_option maxRecDepth 100000 in
theorem two_same {lo : Nat} {K : Nat → Prop} {T : Nat} {c : Lc} {f : Lf} {C E : Nat → Nat} {q q' : Rk} (w : World) (h : TW lo K T c f C E q q' w) : Calls Tryz.prog 19 #[.pointer (some ⟨T, 0, none⟩)] w (Bit true w) := by
  have HT := Lib.hid h
  have HAL := Lib.hid h.al
  have HOF := Lib.hid (fun w' (h : TW lo K T c f C E q q' w') => qoff_any w' h.px.prog)
  have HU1 := Lib.hid (fun w' (h : TW lo K T c f C E q q' w') (i : Int) => qup_any w' h.px.prog i)
  have HU2 := Lib.hid (fun w' (h : TW lo K T c f C E q q' w') (i : Int) => show Calls Tryz.prog 78 #[.pointer (some ⟨f.t, 0, none⟩), .int .i64 i] w' (BitSame (q.up i) w') from by
    have := vup_any w' h.px i
    rwa [HAL.out.up] at this)
  have HR1 := Lib.hid (fun w' (h : TW lo K T c f C E q q' w') (i s : Int) => qread_any w' h.px.prog i s)
  have HR2 := Lib.hid (fun w' (h : TW lo K T c f C E q q' w') (i s : Int) => show Calls Tryz.prog 80 #[.pointer (some ⟨f.t, 0, none⟩), .int .i64 i, .int .i64 s] w' (fun e w'' => ∃ v, e = .returned (.tuple #[v, .int .i64 (qrcode q i s)]) ∧ SlB w''.heap.size w'' v (qval q i s) ∧ Below w'.heap.size w' w'') from by
    have := vread_any w' h.px i s
    unfold VRead at this
    rwa [alike_qval HAL.out, alike_qrcode HAL.out] at this)
  have HKK := Lib.hid (fun (i s : Int) W hT => kind_rerr q i s W hT)
  have HQL := Lib.hid (fun (i s : Int) => qval_short h.px.prog i s)
  have HN8 := Lib.hid (show q.n ≤ 8 ∧ q.k ≤ 128 from ⟨h.px.prog.ok.n8, h.px.prog.ok.k8⟩)
  clear h
  go_enter Tryz.func19, Tryz.ntmps19
  go_wp2_with fail
  have t0 : ∀ w', TW lo K T c f C E q q' w' → w'.cell? ⟨T, 0, none⟩ = some (.pointer (some ⟨c.r, 0, none⟩)) := fun w' h => h.c0
  have t1 : ∀ w', TW lo K T c f C E q q' w' → w'.cell? ⟨T, 1, none⟩ = some (.pointer (some ⟨f.t, 0, none⟩)) := fun w' h => h.c1
  have t2 : ∀ w', TW lo K T c f C E q q' w' → w'.cell? ⟨f.t, 2, none⟩ = some (.bool q.off) := fun w' h => h.f2
  refine wp_region_noPanic ?_
  refine wp_region_held_drew (S := (fun w' => TW lo K T c f C E q q' w')) (by kernel_rfl) HT.out.drew (fun hHeld => ?_)
  refine wpAnyH_take (i := 0) (oi := ⟨some 9, _, _, _, _, _⟩) (v := ?_) rfl (by kernel_rfl) (by kernel_rfl) (by kernel_rfl) (fun _ _ _ h => h) (Or.inl ⟨by rfl, ?_⟩) hHeld ?_
  rotate_left
  · intro w hSw; (go_simp; try with_reducible rfl)
  simp only [Act.put, List.setIfInBounds_toArray, List.set_cons_zero, List.set_cons_succ]
  refine wpAnyH_take (i := 1) (oi := ⟨some 10, _, _, _, _, _⟩) (v := ?_) rfl (by kernel_rfl) (by kernel_rfl) (by kernel_rfl) (fun _ _ _ h => h) (Or.inl ⟨by rfl, ?_⟩) hHeld ?_
  rotate_left
  · intro w hSw; (go_simp; try with_reducible rfl)
  simp only [Act.put, List.setIfInBounds_toArray, List.set_cons_zero, List.set_cons_succ]
  refine wpAnyH_take (i := 2) (oi := ⟨some 11, _, _, _, _, _⟩) (v := ?_) rfl (by kernel_rfl) (by kernel_rfl) (by kernel_rfl) (fun _ _ _ h => h) (Or.inl ⟨by rfl, ?_⟩) hHeld ?_
  rotate_left
  · intro w hSw; (go_simp; try with_reducible rfl)
  simp only [Act.put, List.setIfInBounds_toArray, List.set_cons_zero, List.set_cons_succ]
  refine wpAnyH_take (i := 3) (oi := ⟨some 12, _, _, _, _, _⟩) (v := ?_) rfl (by kernel_rfl) (by kernel_rfl) (by kernel_rfl) (fun _ _ _ h => h) (Or.inl ⟨by rfl, ?_⟩) hHeld ?_
  rotate_left
  · intro w hSw; (go_simp; try with_reducible rfl)
  simp only [Act.put, List.setIfInBounds_toArray, List.set_cons_zero, List.set_cons_succ]
  refine wpAnyH_take (i := 5) (oi := ⟨some 14, _, _, _, _, _⟩) (v := ?_) rfl (by kernel_rfl) (by kernel_rfl) (by kernel_rfl) (fun _ _ _ h => h) (Or.inl ⟨by rfl, ?_⟩) hHeld ?_
  rotate_left
  · intro w hSw; (go_simp; try with_reducible rfl)
  simp only [Act.put, List.setIfInBounds_toArray, List.set_cons_zero, List.set_cons_succ]
  refine wpAnyH_take (i := 6) (oi := ⟨some 15, _, _, _, _, _⟩) (v := ?_) rfl (by kernel_rfl) (by kernel_rfl) (by kernel_rfl) (fun _ _ _ h => h) (Or.inl ⟨by rfl, ?_⟩) hHeld ?_
  rotate_left
  · intro w hSw; (go_simp; try with_reducible rfl)
  simp only [Act.put, List.setIfInBounds_toArray, List.set_cons_zero, List.set_cons_succ]
  refine wpAnyH_take (i := 7) (oi := ⟨some 16, _, _, _, _, _⟩) (v := ?_) rfl (by kernel_rfl) (by kernel_rfl) (by kernel_rfl) (fun _ _ _ h => h) (Or.inl ⟨by rfl, ?_⟩) hHeld ?_
  rotate_left
  · intro w hSw; (go_simp; try with_reducible rfl)
  simp only [Act.put, List.setIfInBounds_toArray, List.set_cons_zero, List.set_cons_succ]
  refine wpAnyH_take (i := 8) (oi := ⟨some 17, _, _, _, _, _⟩) (v := ?_) rfl (by kernel_rfl) (by kernel_rfl) (by kernel_rfl) (fun _ _ _ h => h) (Or.inl ⟨by rfl, ?_⟩) hHeld ?_
  rotate_left
  · intro w hSw; (go_simp; try with_reducible rfl)
  simp only [Act.put, List.setIfInBounds_toArray, List.set_cons_zero, List.set_cons_succ]
  refine wpAnyH_take (i := 9) (oi := ⟨some 18, _, _, _, _, _⟩) (v := ?_) rfl (by kernel_rfl) (by kernel_rfl) (by kernel_rfl) (fun _ _ _ h => h) (Or.inl ⟨by rfl, ?_⟩) hHeld ?_
  rotate_left
  · intro w hSw; (go_simp; try with_reducible rfl)
  simp only [Act.put, List.setIfInBounds_toArray, List.set_cons_zero, List.set_cons_succ]
  refine wpAnyH_take (i := 10) (oi := ⟨some 19, _, _, _, _, _⟩) (v := ?_) rfl (by kernel_rfl) (by kernel_rfl) (by kernel_rfl) (fun _ _ _ h => h) (Or.inl ⟨by rfl, ?_⟩) hHeld ?_
  rotate_left
  · intro w hSw; (go_simp; try with_reducible rfl)
  simp only [Act.put, List.setIfInBounds_toArray, List.set_cons_zero, List.set_cons_succ]
  refine wpAnyH_take (i := 11) (oi := ⟨some 20, _, _, _, _, _⟩) (v := ?_) rfl (by kernel_rfl) (by kernel_rfl) (by kernel_rfl) (fun _ _ _ h => h) (Or.inl ⟨by rfl, ?_⟩) hHeld ?_
  rotate_left
  · intro w hSw; (go_simp; try with_reducible rfl)
  simp only [Act.put, List.setIfInBounds_toArray, List.set_cons_zero, List.set_cons_succ]
  refine wpAnyH_ready (rs := [4]) (by kernel_rfl) (by simp) (AllReadyH.cons rfl (fun K hK => ?_) AllReadyH.nil)
  go_simp
  refine (HOF.out _ hHeld).mono ?_
  rintro e w1 ⟨rfl, rfl⟩
  refine hK.out _ _ hHeld (fun _ => ?_)
  clear hK K
  refine wpAnyH_take (i := 12) (oi := ⟨some 21, _, _, _, _, _⟩) (v := ?_) rfl (by kernel_rfl) (by kernel_rfl) (by kernel_rfl) (fun _ _ _ h => h) (Or.inl ⟨by rfl, ?_⟩) hHeld ?_
  rotate_left
  · intro w hSw; (go_simp; try with_reducible rfl)
  simp only [Act.put, List.setIfInBounds_toArray, List.set_cons_zero, List.set_cons_succ]
  refine wpAnyH_done (by kernel_rfl) ?_ _
  refine NoPanic.normal ?_
  clear t0 t1 t2
  have HT1 := Lib.hid hHeld
  have t0 := HT1.out.c0
  have t1 := HT1.out.c1
  have f0 := HT1.out.px.c0
  clear hHeld
  have HB0 := Lib.hid (show Below w.heap.size w w.drew from Below.drew (Below.refl _ _))
  generalize w.drew = w1 at *
  generalize q.off = ob at *
  go_wp2_with fail
  clear t0 t1 f0
  go_loopw [30] (fun i wr => ∃ m : Nat, m ≤ q.n ∧ i = .int .i64 m ∧ Below w1.heap.size w1 wr) (fun i _ => q.n - (RowKit.intOf i).toNat)
  case atStart => exact ⟨0, Nat.zero_le _, rfl, Below.refl _ _⟩
  case round =>
    obtain ⟨m, hm, rfl, hb⟩ := hrel
    have HX := Lib.hid (HT1.out.below hb)
    have HB := Lib.hid hb
    clear hb
    by_cases hlt : m < q.n
    · have hlti : (m : Int) < q.n := by omega
      have hmb : m < 64 := by have := HN8.out; omega
      have t0 : ∀ w', TW lo K T c f C E q q' w' → w'.cell? ⟨T, 0, none⟩ = some (.pointer (some ⟨c.r, 0, none⟩)) := fun w' h => h.c0
      have t1 : ∀ w', TW lo K T c f C E q q' w' → w'.cell? ⟨T, 1, none⟩ = some (.pointer (some ⟨f.t, 0, none⟩)) := fun w' h => h.c1
      go_wp2_with fail
      refine wp_region_noPanic ?_
      refine wp_region_held_drew (S := (fun w' => TW lo K T c f C E q q' w')) (by kernel_rfl) HX.out.drew (fun hHeld => ?_)
      refine wpAnyH_take (i := 0) (oi := ⟨some 33, _, _, _, _, _⟩) (v := ?_) rfl (by kernel_rfl) (by kernel_rfl) (by kernel_rfl) (fun _ _ _ h => h) (Or.inl ⟨by rfl, ?_⟩) hHeld ?_
      rotate_left
      · intro w hSw; (go_simp; try with_reducible rfl)
      simp only [Act.put, List.setIfInBounds_toArray, List.set_cons_zero, List.set_cons_succ]
      refine wpAnyH_take (i := 1) (oi := ⟨some 34, _, _, _, _, _⟩) (v := ?_) rfl (by kernel_rfl) (by kernel_rfl) (by kernel_rfl) (fun _ _ _ h => h) (Or.inl ⟨by rfl, ?_⟩) hHeld ?_
      rotate_left
      · intro w hSw; (go_simp; try with_reducible rfl)
      simp only [Act.put, List.setIfInBounds_toArray, List.set_cons_zero, List.set_cons_succ]
      refine wpAnyH_take (i := 2) (oi := ⟨some 35, _, _, _, _, _⟩) (v := ?_) rfl (by kernel_rfl) (by kernel_rfl) (by kernel_rfl) (fun _ _ _ h => h) (Or.inl ⟨by rfl, ?_⟩) hHeld ?_
      rotate_left
      · intro w hSw; (go_simp; try with_reducible rfl)
      simp only [Act.put, List.setIfInBounds_toArray, List.set_cons_zero, List.set_cons_succ]
      refine wpAnyH_take (i := 3) (oi := ⟨some 36, _, _, _, _, _⟩) (v := ?_) rfl (by kernel_rfl) (by kernel_rfl) (by kernel_rfl) (fun _ _ _ h => h) (Or.inl ⟨by rfl, ?_⟩) hHeld ?_
      rotate_left
      · intro w hSw; (go_simp; try with_reducible rfl)
      simp only [Act.put, List.setIfInBounds_toArray, List.set_cons_zero, List.set_cons_succ]
      refine wpAnyH_take (i := 4) (oi := ⟨some 37, _, _, _, _, _⟩) (v := ?_) rfl (by kernel_rfl) (by kernel_rfl) (by kernel_rfl) (fun _ _ _ h => h) (Or.inl ⟨by rfl, ?_⟩) hHeld ?_
      rotate_left
      · intro w hSw; (go_simp; try with_reducible rfl)
      simp only [Act.put, List.setIfInBounds_toArray, List.set_cons_zero, List.set_cons_succ]
      refine wpAnyH_take (i := 6) (oi := ⟨some 39, _, _, _, _, _⟩) (v := ?_) rfl (by kernel_rfl) (by kernel_rfl) (by kernel_rfl) (fun _ _ _ h => h) (Or.inl ⟨by rfl, ?_⟩) hHeld ?_
      rotate_left
      · intro w hSw; (go_simp; try with_reducible rfl)
      simp only [Act.put, List.setIfInBounds_toArray, List.set_cons_zero, List.set_cons_succ]
      refine wpAnyH_take (i := 7) (oi := ⟨some 40, _, _, _, _, _⟩) (v := ?_) rfl (by kernel_rfl) (by kernel_rfl) (by kernel_rfl) (fun _ _ _ h => h) (Or.inl ⟨by rfl, ?_⟩) hHeld ?_
      rotate_left
      · intro w hSw; (go_simp; try with_reducible rfl)
      simp only [Act.put, List.setIfInBounds_toArray, List.set_cons_zero, List.set_cons_succ]
      refine wpAnyH_take (i := 8) (oi := ⟨some 41, _, _, _, _, _⟩) (v := ?_) rfl (by kernel_rfl) (by kernel_rfl) (by kernel_rfl) (fun _ _ _ h => h) (Or.inl ⟨by rfl, ?_⟩) hHeld ?_
      rotate_left
      · intro w hSw; (go_simp; try with_reducible rfl)
      simp only [Act.put, List.setIfInBounds_toArray, List.set_cons_zero, List.set_cons_succ]
      refine wpAnyH_take (i := 9) (oi := ⟨some 42, _, _, _, _, _⟩) (v := ?_) rfl (by kernel_rfl) (by kernel_rfl) (by kernel_rfl) (fun _ _ _ h => h) (Or.inl ⟨by rfl, ?_⟩) hHeld ?_
      rotate_left
      · intro w hSw; (go_simp; try with_reducible rfl)
      simp only [Act.put, List.setIfInBounds_toArray, List.set_cons_zero, List.set_cons_succ]
      refine wpAnyH_take (i := 10) (oi := ⟨some 43, _, _, _, _, _⟩) (v := ?_) rfl (by kernel_rfl) (by kernel_rfl) (by kernel_rfl) (fun _ _ _ h => h) (Or.inl ⟨by rfl, ?_⟩) hHeld ?_
      rotate_left
      · intro w hSw; (go_simp; try with_reducible rfl)
      simp only [Act.put, List.setIfInBounds_toArray, List.set_cons_zero, List.set_cons_succ]
      refine wpAnyH_ready (rs := [5]) (by kernel_rfl) (by simp) (AllReadyH.cons rfl (fun K hK => ?_) AllReadyH.nil)
      go_simp
      refine (HU1.out _ hHeld _).mono ?_
      rintro e w5 ⟨rfl, rfl⟩
      refine hK.out _ _ hHeld (fun _ => ?_)
      clear hK K
      refine wpAnyH_ready (rs := [11]) (by kernel_rfl) (by simp) (AllReadyH.cons rfl (fun K hK => ?_) AllReadyH.nil)
      go_simp
      refine (HU2.out _ hHeld _).mono ?_
      rintro e w6 ⟨rfl, rfl⟩
      refine hK.out _ _ hHeld (fun _ => ?_)
      clear hK K
      refine wpAnyH_take (i := 12) (oi := ⟨some 45, _, _, _, _, _⟩) (v := ?_) rfl (by kernel_rfl) (by kernel_rfl) (by kernel_rfl) (fun _ _ _ h => h) (Or.inl ⟨by rfl, ?_⟩) hHeld ?_
      rotate_left
      · intro w hSw; (go_simp; try with_reducible rfl)
      simp only [Act.put, List.setIfInBounds_toArray, List.set_cons_zero, List.set_cons_succ]
      refine wpAnyH_done (by kernel_rfl) ?_ _
      refine NoPanic.normal ?_
      clear t0 t1
      have HY := Lib.hid hHeld
      have HBY := Lib.hid (show Below w1.heap.size w1 wr.drew from Below.drew HB.out)
      clear hHeld
      generalize wr.drew = w2 at *
      generalize q.up (m : Int) = ub at *
      obtain ⟨cp, d1⟩ := HY.out.len hlt
      have d0 := HY.out.px.at_ hlt
      have t1 := HY.out.c1
      have f0 := HY.out.px.c0
      go_wp2_with fail
      clear d0 d1 t1 f0
      go_loopw [60] (fun i wr => ∃ s : Nat, s ≤ q.k ∧ i = .int .i64 s ∧ Below w2.heap.size w2 wr) (fun i _ => q.k - (RowKit.intOf i).toNat)
      case atStart => exact ⟨0, Nat.zero_le _, rfl, Below.refl _ _⟩
      case round =>
        obtain ⟨s, hs, rfl, hb⟩ := hrel
        have HZ := Lib.hid (HY.out.below hb)
        have HBZ := Lib.hid hb
        clear hb
        by_cases hls : s < q.k
        · have hlsi : (s : Int) < q.k := by omega
          have hsb : s < 1000 := by have := HN8.out; omega
          have t0 := HZ.out.c0
          go_wp2_with fail
          refine (HR1.out _ HZ.out (m : Int) (s : Int)).mono ?_
          rintro e w5 ⟨v5, rfl, hv5, hb5⟩
          have HZ5 := Lib.hid (HZ.out.below hb5)
          have HV5 := Lib.hid hv5
          have HB5 := Lib.hid (bthen HBZ.out hb5)
          clear t0 hv5 hb5
          have t1 := HZ5.out.c1
          go_wp2_with fail
          refine (HR2.out _ HZ5.out (m : Int) (s : Int)).mono ?_
          rintro e w6 ⟨v6, rfl, hv6, hb6⟩
          have HZ6 := Lib.hid (HZ5.out.below hb6)
          have HS6 := Lib.hid (fun (w' : World) (hb : Below w6.heap.size w6 w') => show Calls Tryz.prog 81 #[v5, v6] w' (Bit true w') from by
            have := same_bytes w'.heap.size v5 v6 _ _ w' ((((HV5.out.below hb6).wider hb6.size).below hb).wider hb.size) ((hv6.below hb).wider hb.size) (Nat.le_refl _) (HQL.out (m : Int) (s : Int))
            rwa [decide_eq_true rfl] at this)
          have HB6 := Lib.hid (bthen HB5.out hb6)
          have HK6 := Lib.hid (HKK.out (m : Int) (s : Int))
          clear t1 hv6 hb6
          generalize qrerr q (m : Int) (s : Int) = er at *
          generalize qrcode q (m : Int) (s : Int) = rc at *
          go_wp2_with (first
            | (go_at_call 81; refine (HS6.out _ (Below.refl _ _)).mono ?_; rintro e w7 ⟨rfl, hb7⟩; have HZ7 := Lib.hid (HZ6.out.below hb7); have HB7 := Lib.hid (bthen HB6.out hb7); clear hb7)
            | (go_at_call 11; refine (HK6.out _ HZ7.out.ty).mono ?_; rintro e w8 ⟨rfl, hb8⟩; have HB8 := Lib.hid (bthen HB7.out hb8); clear hb8))
          go_roundw
          case rel => exact ⟨s + 1, hls, by go_num, HB8.out⟩
          case measure => simp [RowKit.intOf]; omega
        · have hlsi : ¬ (s : Int) < q.k := by omega
          go_wp2_with fail
          go_roundw
          case rel => exact ⟨m + 1, hlt, by go_num, HBY.out.trans (HBZ.out.mono HBY.out.size)⟩
          case measure => simp [RowKit.intOf]; omega
    · have hlti : ¬ (m : Int) < q.n := by omega
      go_wp2_with fail
      go_ret
      exact bit rfl (HB0.out.trans (HB.out.mono HB0.out.size))
end Go.Proofs.YtidnmkghmaeniaaGreatDoor
