import Derived.Test.YtilljaneegbhlaaGreatDoorZHWrite
import Derived.Test.YtilljaneegbhlaaGreatDoorZHPut
namespace Go.Proofs.YtilljaneegbhlaaGreatDoor
open Go.RowKit Crc Hf
variable {fuel : Nat} {a : Act} {w : World}
theorem hT {P : Program} {ops : Array Oper} {Q : Exit → Act → World → Prop} {md : Region.Mode} {S : World → Prop} {listed : Array Bool} (i : Nat) (oi : Oper) {v : Value} (hi : ops[i]? = some oi) (hS : S w) (h : wpAnyH P md ops Q S fuel (listed.setIfInBounds i true) (a.put oi.dst v) w) (hy : ∀ w, S w → (execOp a.eval oi).run P w = .ok (.value v) w := by intro w hSw; (go_simp; try with_reducible rfl))
  (hg : Region.wanted oi (yielded ops a.tmps) = true := by rfl) (hs : Region.noSelect ops = true := by kernel_rfl) (hf : Region.free md ops listed i = true := by kernel_rfl) (hr : (Region.ready md ops listed).contains i = true := by kernel_rfl) (hQ : ∀ c a w, Q (.panic c) (a.put oi.dst v) w → Q (.panic c) a w := by exact fun _ _ _ h => h) : wpAnyH P md ops Q S (fuel + 1) listed a w := wpAnyH_take hi hs hf hr hQ (Or.inl ⟨hg, hy⟩) hS h
theorem hU {P : Program} {ops : Array Oper} {Q : Exit → Act → World → Prop} {md : Region.Mode} {S : World → Prop} {listed : Array Bool} (i : Nat) (oi : Oper) (hi : ops[i]? = some oi) (hS : S w) (h : wpAnyH P md ops Q S fuel (listed.setIfInBounds i true) (a.put oi.dst undef) w)
  (hg : Region.wanted oi (yielded ops a.tmps) = false := by rfl) (hs : Region.noSelect ops = true := by kernel_rfl) (hf : Region.free md ops listed i = true := by kernel_rfl) (hr : (Region.ready md ops listed).contains i = true := by kernel_rfl) (hQ : ∀ c a w, Q (.panic c) (a.put oi.dst undef) w → Q (.panic c) a w := by exact fun _ _ _ h => h) : wpAnyH P md ops Q S (fuel + 1) listed a w := wpAnyH_take hi hs hf hr hQ (Or.inr ⟨hg, rfl⟩) hS h
theorem hC {P : Program} {ops : Array Oper} {Q : Exit → Act → World → Prop} {md : Region.Mode} {S : World → Prop} {listed : Array Bool} (i : Nat) {o : Oper} (ho : ops[i]? = some o) (h : ∀ K' : Act → World → Prop, Shut (∀ a w, S w → (S w → wpAnyH P md ops Q S fuel (listed.setIfInBounds i true) a w) → K' a w) → if Region.wanted o (yielded ops a.tmps) = true then Oper.wp P o a w K' Q else K' (a.put o.dst undef) w) (hr : Region.ready md ops listed = [i] := by kernel_rfl) : wpAnyH P md ops Q S (fuel + 1) listed a w := wpAnyH_ready hr (by simp) (AllReadyH.cons ho h AllReadyH.nil)
theorem hP : (∀ (a : Act) (i : Tmp) (v : Value), a.put (some i) v = { a with tmps := a.tmps.setIfInBounds i v }) ∧ (∀ (xs : List Value) (i : Nat) (v : Value), xs.toArray.setIfInBounds i v = (xs.set i v).toArray) ∧ (∀ (x v : Value) (xs : List Value), (x :: xs).set 0 v = v :: xs) ∧ (∀ (x v : Value) (xs : List Value) (n : Nat), (x :: xs).set (n + 1) v = x :: xs.set n v) :=
 ⟨fun _ _ _ => rfl, fun _ _ _ => by simp, fun _ _ _ => rfl, fun _ _ _ _ => rfl⟩
def FrameBit (f : Fr) (b : Bool) (w : World) (e : Ending) (w' : World) : Prop := e = .returned (.tuple #[.agg (frA f), .bool b]) ∧ Below w.heap.size w w'
def ZIn (b : Nat) (w : World) : Prop := w.heap[b]? = some (.cells (frA zeroF) 151 (0, 0))
variable {b B : Nat}
theorem ZIn.below {w' : World} (h : ZIn b w) (hb : b < B) (hB : Below B w w') : ZIn b w' := by
 unfold ZIn at *
 rw [hB.block b hb]; exact h
theorem ZIn.store (h : ZIn b w) (g : Fr) (hg : g.is) : (storeCells ⟨b, 0, none⟩ (frC g) 0).run Tryz.prog w = .ok () (w.setRow b (frA g)) := by
 have hs := run_storeCells_at Tryz.prog b 0 151 (frC g) 0 (frA zeroF) w h (by rw [frA_size zeroF_is, frC_length hg]; decide) (fun v hv => Array.all_eq_true_iff_forall_mem.1 (frA_one g) v (by simpa using hv))
 simp only [Nat.add_zero, Nat.zero_add, List.take_zero, List.nil_append] at hs
 rw [hs, frC_length hg, List.drop_of_length_le (by rw [Array.length_toList, frA_size zeroF_is]; exact Nat.le_refl _), List.append_nil]
theorem ZIn.load (h : ZIn b w) (g : Fr) (hg : g.is) : (loadCellsFrom ⟨b, 0, none⟩ 0 szFr #[]).run Tryz.prog (w.setRow b (frA g)) = .ok (frA g) (w.setRow b (frA g)) := by
 have hf : FrIn g b (w.setRow b (frA g)) := ⟨hg, fun j v hv => by
  rw [cell_of_row _ b j (frA g) _ (0, 0) (setRow_heap w b _ _ _ _ h)]; simpa using hv⟩
 exact hf.load
theorem setRow_below {w0 : World} (h : Below B w0 w) (hb : B ≤ b) (cs : Array Value) : Below B w0 (w.setRow b cs) :=
 ⟨h.os, h.tape, h.output, by simpa using h.size, fun k hk => by rw [setRow_other w b k _ (by omega)]; exact h.block k hk⟩
theorem zin_new (w : World) : ZIn w.heap.size (w.alloc (.cells (frA zeroF) 151)) := heap_alloc_new w _
set_option maxHeartbeats 2000000 in
set_option maxRecDepth 100000 in
theorem get_short (v : Value) (l : List UInt8) (w : World) (h : SlB w.heap.size w v l) (hl : ¬ l.length = 128) : Calls Tryz.prog 137 #[v] w (FrameBit (got l) (goodB l) w) := by
 obtain ⟨a, cap, rfl, _⟩ := h.len
 have hc : (Value.agg (frA zeroF)).cells = frA zeroF := rfl
 have hz := szFr_run
 have hz0 := zero_frame
 have hsz : (frC zeroF).length = szFr := frC_length zeroF_is
 have hl1 : ((l.length : Int) != 128) = true := by simp only [bne_iff_ne]; omega
 have hl2 : ¬ (l.length : Int) = 128 := by omega
 have HG := hI (good_len hl)
 have hst := (zin_new w).store zeroF zeroF_is
 have hld := (zin_new w).load zeroF zeroF_is
 clear h hl
 go_enter Tryz.func137, Tryz.ntmps137
 go_wp2_with fail
 rw [HG.out, got_no HG.out]
 exact bodyPost_ret (v := .tuple #[.agg (frA zeroF), .bool false]) (by simp [results, Tryz.results137, go_sem, hz, hld]) rfl ⟨rfl, setRow_below (one_below _ _) (Nat.le_refl _) _⟩
set_option maxHeartbeats 2000000 in
set_option maxRecDepth 100000 in
theorem get_whole (v : Value) (l : List UInt8) (w : World) (h : SlB w.heap.size w v l) (hl : l.length = 128) : Calls Tryz.prog 137 #[v] w (FrameBit (got l) (goodB l) w) := by
 have hc : (Value.agg (frA zeroF)).cells = frA zeroF := rfl
 have hz := szFr_run
 have hz0 := zero_frame
 have hsz : (frC zeroF).length = szFr := frC_length zeroF_is
 have hi := read_is hl
 have HG := hI (show goodB l = (rightB (Hf.read l) && decide (body (Hf.read l) = l)) by simp [goodB, Hf.Good, rightB, hl])
 have HG2 := hI (fun h => got_yes (b := l) h)
 have HG3 := hI (fun h => got_no (b := l) h)
 have HSL := hI h
 have HRD := hI (read_any (w.heap.size + 1) v l (w.alloc (.cells (frA zeroF) 151)) ((h.below (one_below _ _)).wider (Nat.le_succ _)) (by simp) hl)
 have HZ := hI (zin_new w)
 obtain ⟨a, cap, rfl, _⟩ := h.len
 rw [hl] at *
 clear h
 generalize Hf.read l = f at *
 have hfz : (frC f).length = szFr := frC_length hi
 have hcf : (Value.agg (frA f)).cells = frA f := rfl
 have hst : ∀ W : World, (storeCells ⟨W.heap.size, 0, none⟩ (frC f) 0).run Tryz.prog (W.alloc (.cells (frA zeroF) 151)) = .ok () (W.alloc (.cells (frA f) 151)) := fun W => storeCells_frame zeroF_is hi W
 go_enter Tryz.func137, Tryz.ntmps137
 go_wp2_with ((with_reducible refine HRD.out.mono ?_); rintro e w1 ⟨rfl, hb⟩; have HB1 := hI hb; clear hb)
 clear hst hcf
 have HB3 := hI (balloc (bthen (one_below w _) HB1.out) (.cells (frA f) 151))
 have HZ3 := hI ((HZ.out.below (by simp) HB1.out).below (Nat.lt_of_lt_of_le (by simp) HB1.out.size) (one_below w1 (.cells (frA f) 151)))
 have hlt3 : w.heap.size < w1.heap.size := Nat.lt_of_lt_of_le (by simp) HB1.out.size
 have hlt4 : w.heap.size < (w1.alloc (.cells (frA f) 151)).heap.size := Nat.lt_of_lt_of_le hlt3 (by simp)
 have hf3 : FrS f w1.heap.size (w1.alloc (.cells (frA f) 151)) (w1.alloc (.cells (frA f) 151)) := ⟨frIn_new w1 f hi, Below.refl _ _, by simp⟩
 generalize w1.alloc (.cells (frA f) 151) = w3 at *
 generalize w1.heap.size = b4 at *
 have hld : ∀ w', FrS f b4 w3 w' → (loadCellsFrom ⟨b4, 0, none⟩ 0 szFr #[]).run Tryz.prog w' = .ok (frA f) w' := fun w' h => h.1.load
 clear HB1 HRD HZ
 by_cases hr : rightB f = true
 ·have C1 := hI (fun w => show Calls Tryz.prog 112 #[.agg (frA f)] w (Bit true w) from hr ▸ right_any f w)
  have C2 := hI (fun (w' : World) (tb : Nat) (hT : TableIn w' tb) (ht : tb < w'.heap.size) => write_any tb f w' hT ht hi (of_decide_eq_true hr)); rw [hr, Bool.true_and] at HG; clear hr
  by_cases hbl : body f = l
  ·rw [decide_eq_true hbl] at HG
   have C3 := hI (fun (B : Nat) (va vb : Value) (w : World) (ha : SlB B w va (body f)) (hb : SlB B w vb l) => show Calls Tryz.prog 164 #[va, vb] w (BitSame true w) from decide_eq_true hbl ▸ equal_any B va vb (body f) l w ha hb); clear hbl
   go_region_held3 (fun w' => FrS f b4 w3 w') (repeat (first | assumption | refine FrS.drew ?_)) (first
    | (go_at_call 112; (with_reducible refine (C1.out _).mono ?_); rintro e w4 ⟨rfl, hb⟩; have hf4 := FrS.then ‹_› hb; clear hb)
    | (go_at_call 114; (with_reducible refine (make_any _).mono ?_); rintro e w5 ⟨rfl, hT, hz', hb⟩; have HT := hI (show TableIn w5 w4.heap.size from hT); have HZ5 := hI (show w4.heap.size < w5.heap.size from made_lt hz'); have hf5 := FrS.then hf4 hb; clear hT hz' hb)
    | (go_at_call 113; (with_reducible refine (C2.out _ _ HT.out HZ5.out).mono ?_); rintro e w6 ⟨v3, rfl, ho, hb⟩; have hf6 := FrS.then hf5 hb; have HO := hI (slb_own ho); have HSL6 := hI ((HSL.out.below (bthen HB3.out hf6.2.1)).wider (Nat.le_trans HB3.out.size hf6.2.1.size)); clear ho hb)
    | (go_at_call 164; (with_reducible refine (C3.out _ _ _ _ HO.out HSL6.out).mono ?_); rintro e w' ⟨rfl, rfl⟩))
   have HZ6 := HZ3.out.below hlt4 hf6.2.1; have hst := HZ6.store f hi; have HLD := hI (HZ6.load f hi); have HB := hI (bthen HB3.out hf6.2.1); clear HZ6; go_wp2_with fail; have hld2 := HLD.out; rw [HG.out, HG2.out HG.out]; exact bodyPost_ret (v := .tuple #[.agg (frA f), .bool true]) (by simp [results, Tryz.results137, go_sem, hz, hld2]) rfl ⟨rfl, setRow_below HB.out (Nat.le_refl _) _⟩
  ·rw [decide_eq_false hbl] at HG
   have C3 := hI (fun (B : Nat) (va vb : Value) (w : World) (ha : SlB B w va (body f)) (hb : SlB B w vb l) => show Calls Tryz.prog 164 #[va, vb] w (BitSame false w) from decide_eq_false hbl ▸ equal_any B va vb (body f) l w ha hb); clear hbl
   go_region_held3 (fun w' => FrS f b4 w3 w') (repeat (first | assumption | refine FrS.drew ?_)) (first
    | (go_at_call 112; (with_reducible refine (C1.out _).mono ?_); rintro e w4 ⟨rfl, hb⟩; have hf4 := FrS.then ‹_› hb; clear hb)
    | (go_at_call 114; (with_reducible refine (make_any _).mono ?_); rintro e w5 ⟨rfl, hT, hz', hb⟩; have HT := hI (show TableIn w5 w4.heap.size from hT); have HZ5 := hI (show w4.heap.size < w5.heap.size from made_lt hz'); have hf5 := FrS.then hf4 hb; clear hT hz' hb)
    | (go_at_call 113; (with_reducible refine (C2.out _ _ HT.out HZ5.out).mono ?_); rintro e w6 ⟨v3, rfl, ho, hb⟩; have hf6 := FrS.then hf5 hb; have HO := hI (slb_own ho); have HSL6 := hI ((HSL.out.below (bthen HB3.out hf6.2.1)).wider (Nat.le_trans HB3.out.size hf6.2.1.size)); clear ho hb)
    | (go_at_call 164; (with_reducible refine (C3.out _ _ _ _ HO.out HSL6.out).mono ?_); rintro e w' ⟨rfl, rfl⟩))
   have HZ6 := HZ3.out.below hlt4 hf6.2.1; have hst := HZ6.store zeroF zeroF_is; have HLD := hI (HZ6.load zeroF zeroF_is); have HB := hI (bthen HB3.out hf6.2.1); clear HZ6; go_wp2_with fail; have hld2 := HLD.out; rw [HG.out, HG3.out HG.out]; exact bodyPost_ret (v := .tuple #[.agg (frA zeroF), .bool false]) (by simp [results, Tryz.results137, go_sem, hz, hld2]) rfl ⟨rfl, setRow_below HB.out (Nat.le_refl _) _⟩
 ·replace hr : rightB f = false := by simpa using hr
  have C1 := hI (fun w => show Calls Tryz.prog 112 #[.agg (frA f)] w (Bit false w) from hr ▸ right_any f w); rw [hr, Bool.false_and] at HG; clear hr; refine wp_region_noPanic ?_; refine wp_region_held_drew (S := fun w' => FrS f b4 w3 w') (by kernel_rfl) hf3.drew (fun hHeld => ?_); refine wpAnyH_take (i := 0) (oi := ⟨some 11, _, _, _, _, _⟩) (v := .agg (frA f)) rfl (by kernel_rfl) (by kernel_rfl) (by kernel_rfl) (fun _ _ _ h => h) (Or.inl ⟨by rfl, fun w hw => ?_⟩) hHeld ?_
  ·dsimp only at hw
   go_simp
  refine hC 1 rfl fun K hK => ?_
  go_simp; refine (C1.out _).mono ?_; rintro e w4 ⟨rfl, hb⟩
  have hf4 := FrS.then hHeld hb
  clear hb; refine hK.out _ _ hf4 (fun _ => ?_); clear hK K; refine wpAnyH_take (i := 2) (oi := ⟨some 13, _, _, _, _, _⟩) (v := .bool true) rfl (by kernel_rfl) (by kernel_rfl) (by kernel_rfl) (fun _ _ _ h => h) (Or.inl ⟨by rfl, fun w hw => ?_⟩) hf4 ?_
  ·go_simp
  simp only [hP]; refine wpAnyH_take (i := 3) (oi := ⟨some 14, _, _, _, _, _⟩) (v := .bool true) rfl (by kernel_rfl) (by kernel_rfl) (by kernel_rfl) (fun _ _ _ h => h) (Or.inl ⟨by rfl, fun w hw => ?_⟩) hf4 ?_
  ·go_simp
  simp only [hP]; refine hU 4 ⟨some 15, _, _, _, _, _⟩ rfl hf4 ?_; simp only [hP]; refine hU 5 ⟨some 16, _, _, _, _, _⟩ rfl hf4 ?_; simp only [hP]; refine hU 6 ⟨some 17, _, _, _, _, _⟩ rfl hf4 ?_; simp only [hP]; refine hU 7 ⟨some 18, _, _, _, _, _⟩ rfl hf4 ?_; simp only [hP]; refine hU 8 ⟨some 19, _, _, _, _, _⟩ rfl hf4 ?_; simp only [hP]; refine hU 9 ⟨some 20, _, _, _, _, _⟩ rfl hf4 ?_; simp only [hP]; refine wpAnyH_take (i := 10) (oi := ⟨some 21, _, _, _, _, _⟩) (v := .bool true) rfl (by kernel_rfl) (by kernel_rfl) (by kernel_rfl) (fun _ _ _ h => h) (Or.inl ⟨by rfl, fun w hw => ?_⟩) hf4 ?_
  ·go_simp
  simp only [hP]; refine wpAnyH_done (by kernel_rfl) ?_ _; refine NoPanic.normal ?_; have HZ4 := HZ3.out.below hlt4 hf4.2.1; have hst := HZ4.store zeroF zeroF_is; have HLD := hI (HZ4.load zeroF zeroF_is); have HB := hI (bthen HB3.out hf4.2.1); clear HZ4; go_wp2_with fail; have hld2 := HLD.out; rw [HG.out, HG3.out HG.out]; exact bodyPost_ret (v := .tuple #[.agg (frA zeroF), .bool false]) (by simp [results, Tryz.results137, go_sem, hz, hld2]) rfl ⟨rfl, setRow_below HB.out (Nat.le_refl _) _⟩
theorem get_any (B : Nat) (v : Value) (l : List UInt8) (w : World) (h : SlB B w v l) (hB : B ≤ w.heap.size) : Calls Tryz.prog 137 #[v] w (FrameBit (got l) (goodB l) w) := by
 by_cases hl : l.length = 128
 ·exact get_whole v l w (h.wider hB) hl
 ·exact get_short v l w (h.wider hB) hl
end Go.Proofs.YtilljaneegbhlaaGreatDoor
