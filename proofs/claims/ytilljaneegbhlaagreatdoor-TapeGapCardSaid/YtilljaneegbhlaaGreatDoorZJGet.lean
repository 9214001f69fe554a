import Derived.Test.YtilljaneegbhlaaGreatDoorZJMem
import Derived.Test.YtilljaneegbhlaaGreatDoorZJBase
import Derived.Deep.RegionHeld3
import Derived.Deep.DeepCutAuto
import Derived.Deep.CutBlock
import Derived.Test.YtilljaneegbhlaaGreatDoorZQMore
namespace Go.Proofs.YtilljaneegbhlaaGreatDoor
open Go.RowKit Go.Deep Crc Dk Qk Go.Maps Hf
set_option maxHeartbeats 16000000
set_option maxRecDepth 100000
variable {k : Nat}
theorem find_here {α : Type} {p : α → Bool} {l : List α} (d : α) (hk : k < l.length) (hno : ∀ x, x < k → p (l.getD x d) = false) (hy : p (l.getD k d) = true) : l.find? p = some (l.getD k d) := by
 refine List.find?_eq_some_iff_getElem.2 ⟨hy, k, hk, by simp [List.getD, hk], fun j hj => ?_⟩
 have := hno j hj
 have hj' : j < l.length := Nat.lt_trans hj hk
 simp only [List.getD, List.getElem?_eq_getElem hj', Option.getD_some] at this
 simp [this]
theorem find_none {α : Type} {p : α → Bool} {l : List α} (d : α) (hno : ∀ x, x < l.length → p (l.getD x d) = false) : l.find? p = none := by
 refine List.find?_eq_none.2 fun a ha => ?_
 obtain ⟨i, hi, rfl⟩ := List.getElem_of_mem ha
 have := hno i hi
 simp only [List.getD, List.getElem?_eq_getElem hi, Option.getD_some] at this
 simp [this]
theorem jtest_any (f : Fr) (n t : Int) (i : Nat) (bn bi bx : Nat) (w : World) (hn : w.cell? ⟨bn, 0, none⟩ = some (.int .i64 n)) (hi : w.cell? ⟨bi, 0, none⟩ = some (.int .i64 (i : Int))) (hx : w.cell? ⟨bx, 1, none⟩ = some (.int .i64 t))
  (ln : bn < w.heap.size) (li : bi < w.heap.size) (lx : bx < w.heap.size) : Calls Tryz.prog 152 #[.agg (frA f), .pointer (some ⟨bn, 0, none⟩), .pointer (some ⟨bi, 0, none⟩), .pointer (some ⟨bx, 0, none⟩)] w (Bit (jfits n t i f) w) := by
 have a2 := frC_2 f
 have a3 := frC_3 f
 have hcf : (Value.agg (frA f)).cells = frA f := rfl
 have HR := hI (show jfits n t i f = (decide (f.g = n) && (decide (i = 0) || decide (f.t = t))) from rfl)
 rw [HR.out]
 clear HR
 by_cases h0 : f.g = n
 ·have e0 : (f.g == n) = true := by simpa using h0
  have D0 := hI (decide_eq_true h0); rw [D0.out, Bool.true_and]; clear h0
  by_cases h1 : i = 0
  ·subst h1
   have hi' : w.cell? ⟨bi, 0, none⟩ = some (.int .i64 0) := hi; clear hi
   go_enter Tryz.func152, Tryz.ntmps152
   go_wp2_with fail; go_ret; exact bit (by simp) (one_below _ _)
  ·have e1 : ((i : Int) == 0) = false := by simpa using h1
   have D1 := hI (decide_eq_false h1); rw [D1.out, Bool.false_or]; clear h1
   by_cases h2 : f.t = t
   ·have e2 : (f.t == t) = true := by simpa using h2
    have D2 := hI (decide_eq_true h2); rw [D2.out]; clear h2
    go_enter Tryz.func152, Tryz.ntmps152
    go_wp2_with fail; go_ret; exact bit (by first | rfl | exact e2) (one_below _ _)
   ·have e2 : (f.t == t) = false := by simpa using h2
    have D2 := hI (decide_eq_false h2); rw [D2.out]; clear h2
    go_enter Tryz.func152, Tryz.ntmps152
    go_wp2_with fail; go_ret; exact bit (by first | rfl | exact e2) (one_below _ _)
 ·have e0 : (f.g == n) = false := by simpa using h0
  have D0 := hI (decide_eq_false h0); rw [D0.out, Bool.false_and]; clear h0
  go_enter Tryz.func152, Tryz.ntmps152
  go_wp2_with fail; go_ret; exact bit (by first | rfl | exact e0) (one_below _ _)
def PickAt (p : Fr → Bool) (l : List Fr) (w : World) (e : Ending) (w' : World) : Prop :=
 ((e = .returned (.int .i64 (-1)) ∧ l.find? p = none) ∨ ∃ k : Nat, k < l.length ∧ e = .returned (.int .i64 (k : Int)) ∧ l.find? p = some (l.getD k zeroF)) ∧ Below w.heap.size w w'
def RelPA (p : Fr → Bool) (l : List Fr) (w : World) (c : Value) (wr : World) : Prop := ∃ k : Nat, k ≤ l.length ∧ c = .int .i64 k ∧ (∀ x, x < k → p (l.getD x zeroF) = false) ∧ Below w.heap.size w wr
theorem jindex_any (v : Value) (l : List Fr) (n t : Int) (i : Nat) (bn bi bx : Nat) (w : World) (hv : SlF w.heap.size w v l) (hll : l.length ≤ 100000) (hn : w.cell? ⟨bn, 0, none⟩ = some (.int .i64 n)) (hi : w.cell? ⟨bi, 0, none⟩ = some (.int .i64 (i : Int))) (hx : w.cell? ⟨bx, 1, none⟩ = some (.int .i64 t))
  (ln : bn < w.heap.size) (li : bi < w.heap.size) (lx : bx < w.heap.size) :
  Calls Tryz.prog 151 #[v, .func (.func 152) #[] #[.pointer (some ⟨bn, 0, none⟩), .pointer (some ⟨bi, 0, none⟩), .pointer (some ⟨bx, 0, none⟩)]] w (PickAt (jfits n t i) l w) := by
 have HV := hI hv
 obtain ⟨a, cap, rfl⟩ := hv.len
 have CT := hI (fun (f : Fr) (w' : World) (hb : Below w.heap.size w w') => jtest_any f n t i bn bi bx w' (by rw [hb.cell (p := ⟨bn, 0, none⟩) ln]; exact hn) (by rw [hb.cell (p := ⟨bi, 0, none⟩) li]; exact hi) (by rw [hb.cell (p := ⟨bx, 1, none⟩) lx]; exact hx) (Nat.lt_of_lt_of_le ln hb.size) (Nat.lt_of_lt_of_le li hb.size) (Nat.lt_of_lt_of_le lx hb.size))
 clear hv hn hi hx
 go_enter Tryz.func151, Tryz.ntmps151
 go_wp2_with fail
 go_loopw [8] (fun c wr => RelPA (jfits n t i) l w c wr) (fun c _ => l.length - (intOf c).toNat)
 case atStart => exact ⟨0, Nat.zero_le _, rfl, fun x hx => absurd hx (by omega), Below.refl _ _⟩
 case round =>
  obtain ⟨k, hk, rfl, hno, hB⟩ := hrel; have HN := hI hno; have HB := hI hB; clear hno
  by_cases hlt : k < l.length
  ·obtain ⟨b, cap', hs, _, hld, _, _, _, _⟩ := (HV.out.below hB).at_ hlt
   injection hs with hs1 hs2 hs3; subst hs1 hs3; clear hs2; have CF := hI (CT.out (l.getD k zeroF) wr hB); have HFH := hI (fun (h : jfits n t i (l.getD k zeroF) = true) => find_here (p := jfits n t i) zeroF hlt HN.out h); have hz := szFr_run; generalize hgf : l.getD k zeroF = f at *; have HGF := hI hgf; clear hgf hB
   cases hj : jfits n t i f with
   | false =>
    rw [hj] at CF; have HJ := hI hj; clear hj; go_wp2_with fail; refine CF.out.mono ?_; rintro e w3 ⟨rfl, hb3⟩; have HB3 := hI (bthen HB.out hb3); clear hb3; go_wp2_with fail
    go_roundw
    case rel =>
     refine ⟨k + 1, hlt, by go_num, fun x hx => ?_, HB3.out⟩
     rcases Nat.lt_or_ge x k with h | h
     ·exact HN.out x h
     ·obtain rfl : x = k := by omega
      rw [HGF.out]; exact HJ.out
    case measure => simp [intOf]; omega
   | true =>
    rw [hj] at CF; have HJ := hI (HFH.out hj); clear hj; go_wp2_with fail; refine CF.out.mono ?_; rintro e w3 ⟨rfl, hb3⟩; have HB3 := hI (bthen HB.out hb3); clear hb3; go_wp2_with fail; go_ret; exact ⟨Or.inr ⟨k, hlt, rfl, by rw [HGF.out]; exact HJ.out⟩, HB3.out⟩
  ·obtain rfl : k = l.length := by omega
   go_wp2_with fail; go_ret; exact ⟨Or.inl ⟨rfl, find_none zeroF HN.out⟩, hB⟩
variable {q : Rk} {s : Int} {i : Nat}
theorem jfr_is {c : Cf} {d : Nat} {f : Fr} (h : jfr q c s i d = some f) : f.is := by
 unfold jfr at h
 split at h
 ·injection h with h; rw [← h]; exact qgot_is _ _ _ _ _ _
 ·cases h
theorem jl_is {c : Cf} : ∀ f ∈ jl q c s i, f.is := fun f hf => by
 unfold jl at hf
 obtain ⟨d, _, h⟩ := List.mem_filterMap.1 hf
 exact jfr_is h
def RelGF (q : Rk) (cf : Cf) (s : Int) (i : Nat) (U : List Nat) (w1 : World) (v c : Value) (wr : World) : Prop :=
 ∃ m : Nat, m ≤ U.length ∧ c = .int .i64 m ∧ wr.ownsRow w1.heap.size 151 112 v (jlN q cf s i U m).length ((jlN q cf s i U m).map frC).flatten ∧ Below w1.heap.size w1 wr
variable {lo : Nat} {c : Lc}
theorem goodFrames_any (w : World) (h : RackIn lo w c q) (cf : Cf) (s : Int) (i : Nat) (hr : CfRight cf) (h0 : 0 ≤ s) (h1 : s < cf.s) (hi : (i : Int) < cf.k) :
  Calls Tryz.prog 132 #[.pointer (some ⟨c.r, 0, none⟩), .agg (cfA cf), .int .i64 s, .int .i64 (i : Int)] w (FrsNew (jl q cf s i) w) := by
 have HB0 := hI (one_below w (.cells (cfA cf) 24))
 have CU := hI (qonline_any _ (h.below HB0.out))
 have CS := hI (fun w => jsector_any cf s (i : Int) w hr h0 h1 (by omega) hi)
 have CG := hI (fun (f : Fr) (w : World) (hf : f.is) => jgood_any cf s f w hr hf)
 have HR0 := hI (h.below HB0.out)
 have HC0 := hI (cfB_new w cf)
 have HUL := hI (upsN_length q q.n)
 have hn8 : q.n ≤ 8 := h.ok.n8
 clear h hr h0 h1 hi
 go_enter Tryz.func132, Tryz.ntmps132
 go_wp2_with fail
 refine CU.out.mono ?_
 rintro e w1 ⟨vU, rfl, hU, hb1⟩
 have HB1 := hI (bthen HB0.out hb1)
 have HR1 := hI (HR0.out.below hb1)
 have HC1 := hI (CfB.below HC0.out (by simp) hb1)
 have hl1 : w.heap.size < w1.heap.size := by have := hb1.size; simp at this; omega
 have HU := hI hU
 have HJL := hI (jlN_all q cf s i)
 obtain ⟨aU, cU, rfl, -⟩ := own_slice hU
 clear hU hb1
 generalize hUd : ups q = U at *
 have hul : U.length ≤ 8 := by have := HUL.out; rw [← hUd]; unfold ups; omega
 clear hUd
 go_wp2_with fail
 go_loopw [9, 17] (fun v c wr => RelGF q cf s i U w1 v c wr) (fun _ c _ => U.length - (intOf c).toNat)
 case atStart => exact ⟨0, Nat.zero_le _, rfl, (show w1.ownsRow _ _ _ _ 0 [] from World.ownsRow_nil _ _ _ _), Below.refl _ _⟩
 case round =>
  obtain ⟨m, hm, rfl, hO, hB⟩ := hrel; have HO := hI hO; have HB := hI hB
  by_cases hlt : m < U.length
  ·obtain ⟨gU, cU', hs, hcell⟩ := nums_cell (own_below HU.out hB) rfl hlt
   injection hs with hs1 hs2 hs3; subst hs1 hs3; clear hs2; have HJ := hI (show jfr q cf s i (U.getD m 0) = (if (qfound q (U.getD m 0 : Nat) (jbase cf s + i) 2 i (-1) && jgood cf s (qgot q (U.getD m 0 : Nat) (jbase cf s + i) 2 i (-1))) = true then some (qgot q (U.getD m 0 : Nat) (jbase cf s + i) 2 i (-1)) else none) from rfl); have HY := hI (fun f => jlN_yes (q := q) (c := cf) (s := s) (i := i) (f := f) hlt); have HNO := hI (jlN_no (q := q) (c := cf) (s := s) (i := i) hlt); have HLN := hI (jlN_length q cf s i U m); have CQ := hI (fun (w' : World) (hw : RackIn lo w' c q) => qget_any w' hw ((U.getD m 0 : Nat) : Int) (jbase cf s + i) 2 i (-1)); have HFI := hI (qgot_is q ((U.getD m 0 : Nat) : Int) (jbase cf s + i) 2 i (-1)); obtain ⟨d0, d1, d2, d3, d4⟩ := (CfB.below HC1.out hl1 hB).cells; have hlr : w.heap.size < wr.heap.size := Nat.lt_of_lt_of_le hl1 hB.size; clear hO hB; generalize qfound q ((U.getD m 0 : Nat) : Int) (jbase cf s + i) 2 i (-1) = bf at *; generalize qgot q ((U.getD m 0 : Nat) : Int) (jbase cf s + i) 2 i (-1) = f at *; generalize hdd : U.getD m 0 = d at *; clear hdd; go_wp2_with fail; refine (CS.out _).mono ?_; rintro e w3 ⟨rfl, hb3⟩; have HB3 := hI (bthen HB.out hb3); have HR3 := hI (HR1.out.below HB3.out); have HB3r := hI hb3; clear hb3; have hc2 : (Value.agg (frA f)).cells = frA f := rfl; have hc0 : (Value.agg (frA zeroF)).cells = frA zeroF := rfl; have hz := szFr_run; have hz0 := zero_frame; have hsz : (frC f).length = szFr := frC_length HFI.out
   have hst : ∀ W : World, (storeCells ⟨W.heap.size, 0, none⟩ (frC f) 0).run Tryz.prog (W.alloc (.cells (frA zeroF) 151)) = .ok () (W.alloc (.cells (frA f) 151)) := fun W => storeCells_frame zeroF_is HFI.out W
   go_wp2_with fail; refine (CQ.out _ HR3.out).mono ?_; rintro e w4 ⟨rfl, hb4⟩
   have hld : ∀ W : World, (loadCellsFrom ⟨W.heap.size, 0, none⟩ 0 szFr #[]).run Tryz.prog (W.alloc (.cells (frA f) 151)) = .ok (frA f) (W.alloc (.cells (frA f) 151)) := fun W => (frIn_new W f HFI.out).load
   have HB4 := hI (bthen HB3.out hb4); have HB5 := hI (balloc HB4.out (.cells (frA f) 151)); have HB5r := hI (balloc (bthen HB3r.out hb4) (.cells (frA f) 151)); obtain ⟨e0, e1, e2, e3, e4⟩ := (CfB.below HC1.out hl1 HB5.out).cells; have HF5 := hI (frIn_new w4 f HFI.out); clear hb4 d0 d1 d2 d3 d4
   cases hbf : bf with
   | false =>
    rw [hbf] at HJ; have HN := hI (HNO.out (by rw [HJ.out]; rfl)); clear hbf; go_wp2_with fail
    go_roundw
    case rel => exact ⟨m + 1, hlt, by go_num, by rw [HN.out]; exact own_below HO.out HB5r.out, HB5.out⟩
    case measure => simp [intOf]; omega
   | true =>
    rw [hbf] at HJ; clear hbf; have CGF := hI (fun w => CG.out f w HFI.out)
    cases hg : jgood cf s f with
    | false =>
     rw [hg] at HJ CGF; have HN := hI (HNO.out (by rw [HJ.out]; rfl)); clear hg; go_wp2_with (go_at_call 150; refine (CGF.out _).mono ?_; rintro e w6 ⟨rfl, hb6⟩; have HB6 := hI (bthen HB5.out hb6); have HB6r := hI (bthen HB5r.out hb6); clear hb6)
     go_roundw
     case rel => exact ⟨m + 1, hlt, by go_num, by rw [HN.out]; exact own_below HO.out HB6r.out, HB6.out⟩
     case measure => simp [intOf]; omega
    | true =>
     rw [hg] at HJ CGF; have HN := hI (HY.out f (by rw [HJ.out]; rfl)); clear hg; go_wp2_with fail; refine (CGF.out _).mono ?_; rintro e w6 ⟨rfl, hb6⟩; have HB6 := hI (bthen HB5.out hb6); have HB6r := hI (bthen HB5r.out hb6); have hl6 := (HF5.out.below (by simp) hb6).load; clear hb6 hst hld
     go_wp2_with (first
      | (refine wpList_one_frame (o := ⟨some 41, _, _, _, _, _⟩) rfl (.tmp 40) rfl f rfl HFI.out ?_)
      | (at_builtin; refine wpList_append_frame _ rfl (.tmp 39) (.tmp 41) rfl w1.heap.size _ _ _ rfl (own_below (own_below HO.out HB6r.out) (one_below _ _)) w6.heap.size f rfl (fun j u hu => new_cells _ _ _ _ _ (by simpa using hu)) HFI.out ?_ ?_ ?_; (have := HLN.out; omega); (have := HB6.out.size; simp; omega); intro v7 w7 hown7 hg7; have HO7 := hI hown7; have HG7 := hI hg7; obtain ⟨g7, cap7, rfl, -⟩ := own_slice' hown7; clear hown7 hg7))
     go_roundw
     case rel =>
      have h7 := HO7.out; rw [← frs_flat, ← HN.out] at h7; have s6 := HB6.out.size; refine ⟨m + 1, hlt, by go_num, ?_, (balloc HB6.out _).trans (HG7.out.below (by simp; omega) fun j hj => (own_block' HO.out hj).1)⟩; rw [HN.out, List.length_append]; rw [HN.out] at h7; exact h7
     case measure => simp [intOf]; omega
  ·obtain rfl : m = U.length := by omega
   have h9 := HO.out; obtain ⟨g, cv, rfl, -⟩ := own_slice' hO; clear hO; go_wp2_with fail; go_ret; rw [HJL.out] at h9; have hs9 : w.heap.size ≤ w1.heap.size := Nat.le_of_lt hl1; refine ⟨.slice g (jlN q cf s i U U.length).length cv, rfl, ?_, bthen HB1.out hB⟩; rw [HJL.out]; exact own_base h9 hs9
theorem step_append_block (w : World) {ops : Array Oper} {o : Oper} {a : Act} {K : Act → World → Prop} {Q : Exit → Act → World → Prop} {E : Prop} (hgd : o.guard = none) (s x : Operand)
  (ho : o.op = .call { callee := .builtin .append, args := #[s, x], argTypes := #[59, 59] })
  (base : Nat) (v : Value) (n : Nat) (xs : List Value) (hsv : a.eval s = v) (hown : w.ownsRow base 87 108 v n xs)
  (b : Nat) (d : List UInt8) (hx : a.eval x = .slice (some ⟨b, 0, none⟩) 1 1) (hb : ∀ j u, (bytesV d)[j]? = some u → w.cell? ⟨b, j, none⟩ = some u) (hd : d.length = 108) (h63 : n + 1 ≤ 100000) (hbase : base ≤ w.heap.size)
  (h : ∀ v' w', w'.ownsRow base 87 108 v' (n + 1) (xs ++ bytesV d) → Grew w v.ownBlock w' v'.ownBlock → K (a.put o.dst v') w') : if Region.wanted o (yielded ops a.tmps) = true then Oper.wp Tryz.prog o a w K Q else E := by
 have hw : Region.wanted o (yielded ops a.tmps) = true := by simp [Region.wanted, hgd]
 rw [if_pos hw]
 obtain ⟨i0, hi0, hz⟩ := Option.map_eq_some_iff.1 Tryz.infoBlock
 simp only [Prod.mk.injEq] at hz
 obtain ⟨hz0, hz1, hz2⟩ := hz
 exact wp_append_src w s x 59 59 ho base 87 i0 (.agg (bytesV (List.replicate 108 0)).toArray) 108 108 Tryz.underlying59 hi0 hz0 hz1 hz2 rfl v n xs hsv hown (.slice (some ⟨b, 0, none⟩) 1 1) 1 (bytesV d) hx
  (src_cells Tryz.underlying59 (by rw [bytesV_length]; exact hd) hb (bytesV_one d)) (by unfold maxLen; omega) (by omega) hbase fun v' w' h1 h2 _ => h v' w' h1 h2
variable {w : World}
theorem step_one_block {ops : Array Oper} {o : Oper} {a : Act} {K : Act → World → Prop} {Q : Exit → Act → World → Prop} {E : Prop} (hgd : o.guard = none) (x : Operand) (ho : o.op = .buildSlice 59 1 #[(0, x)])
  (d : List UInt8) (hx : a.eval x = .agg (bytesV d).toArray) (hd : d.length = 108)
  (h : K (a.put o.dst (.slice (some ⟨w.heap.size, 0, none⟩) 1 1)) (w.alloc (.cells (bytesV d).toArray 87))) : if Region.wanted o (yielded ops a.tmps) = true then Oper.wp Tryz.prog o a w K Q else E := by
 have hw : Region.wanted o (yielded ops a.tmps) = true := by simp [Region.wanted, hgd]
 rw [if_pos hw]
 obtain ⟨i0, hi0, hz⟩ := Option.map_eq_some_iff.1 Tryz.infoBlock
 simp only [Prod.mk.injEq] at hz
 obtain ⟨hz0, hz1, hz2⟩ := hz
 exact wp_buildSlice _ _ 1 _ ho (bytesV d).toArray i0 _ Tryz.underlying59 hi0 hz0 (by rw [hz1]; omega) (by rw [hz1]; omega) (by
  simp only [List.map_toArray, List.map_cons, List.map_nil]; rw [hx, hz1]
  exact fill_piece (by rw [bytesV_length]; exact hd) (by simp)) h
def SlFs (B : Nat) (w : World) (v : Value) (Ls : List (List Fr)) : Prop :=
 (Ls = [] ∧ ∃ a cap, v = .slice a 0 cap) ∨ ∃ b cap, v = .slice (some ⟨b, 0, none⟩) Ls.length cap ∧ b < B ∧ ∀ i, i < Ls.length → ∃ u, w.cell? ⟨b, i, none⟩ = some u ∧ SlF B w u (Ls.getD i [])
variable {B : Nat} {v : Value}
theorem SlFs.len {Ls : List (List Fr)} (h : SlFs B w v Ls) : ∃ a cap, v = .slice a Ls.length cap := by
 rcases h with ⟨rfl, a, cap, h⟩ | ⟨b, cap, h1, _⟩
 ·exact ⟨a, cap, h⟩
 ·exact ⟨_, cap, h1⟩
theorem SlFs.at_ {Ls : List (List Fr)} (h : SlFs B w v Ls) {i : Nat} (hi : i < Ls.length) : ∃ b cap u, v = .slice (some ⟨b, 0, none⟩) Ls.length cap ∧ b < B ∧ w.cell? ⟨b, i, none⟩ = some u ∧ SlF B w u (Ls.getD i []) := by
 rcases h with ⟨rfl, _⟩ | ⟨b, cap, h1, h2, h3⟩
 ·simp at hi
 ·obtain ⟨u, e1, e2⟩ := h3 i hi
  exact ⟨b, cap, u, h1, h2, e1, e2⟩
abbrev gL (Ls : List (List Fr)) : Nat → List Fr := fun i => Ls.getD i []
variable {n : Int} {x : Rc}
theorem jrec_step {L : Nat → List Fr} (h : jrec L n k = some x) : jrec L n (k + 1) = (match jpick n x.t k (L k) with | none => none | some f => some ⟨n, f.t, x.b ++ [f.d]⟩) := by
 unfold jrec
 rw [h]
 rfl
def RecBit (o : Option Rc) (w : World) (e : Ending) (w' : World) : Prop :=
 ∃ v, e = .returned (.tuple #[.agg (rcA (o.getD zeroR).q (o.getD zeroR).t v), .bool o.isSome]) ∧ w'.ownsRow w.heap.size 87 108 v (o.getD zeroR).b.length ((o.getD zeroR).b.map bytesV).flatten ∧ Below w.heap.size w w'
structure RelJR (Ls : List (List Fr)) (n : Int) (w : World) (k : Nat) (x : Rc) (vB : Value) (wr : World) : Prop where
 ks : jrec (gL Ls) n k = some x
 box : wr.heap[w.heap.size]? = some (.cells #[.int .i64 n] 3 (0, 0))
 ans : wr.heap[w.heap.size + 1]? = some (.cells #[.int .i64 0, .int .i64 0, .slice none 0 0] 135 (0, 0))
 rr : wr.heap[w.heap.size + 1 + 1]? = some (.cells (rcA x.q x.t vB) 135 (0, 0))
 own : wr.ownsRow (w.heap.size + 3) 87 108 vB x.b.length (x.b.map bytesV).flatten
 base : Below w.heap.size w wr
variable {vB : Value}
theorem RelJR.lt {Ls : List (List Fr)} {wr : World} (h : RelJR Ls n w k x vB wr) : w.heap.size + 1 + 1 < wr.heap.size := (Array.getElem?_eq_some_iff.1 h.rr).1
variable {w1 w2 : World}
theorem RelJR.then {Ls : List (List Fr)} (h : RelJR Ls n w k x vB w1) (hb : Below w1.heap.size w1 w2) : RelJR Ls n w k x vB w2 :=
 have hl := h.lt
 ⟨h.ks, (hb.block _ (by omega)).trans h.box, (hb.block _ (by omega)).trans h.ans, (hb.block _ hl).trans h.rr, own_below h.own hb, bthen h.base hb⟩
theorem RelJR.off {Ls : List (List Fr)} (h : RelJR Ls n w k x vB w1) : vB.ownBlock = none ∨ vB.ownBlock ≠ some (w.heap.size + 1 + 1) := by
 cases hv : vB.ownBlock with
 | none => exact Or.inl rfl
 | some j => exact Or.inr fun e => by have := (own_block' h.own hv).1; injection e; omega
theorem RelJR.cells {Ls : List (List Fr)} (h : RelJR Ls n w k x vB w1) : w1.cell? ⟨w.heap.size, 0, none⟩ = some (.int .i64 n) ∧ w1.cell? ⟨w.heap.size + 1 + 1, 0, none⟩ = some (.int .i64 x.q) ∧ w1.cell? ⟨w.heap.size + 1 + 1, 1, none⟩ = some (.int .i64 x.t) ∧ w1.cell? ⟨w.heap.size + 1 + 1, 2, none⟩ = some vB ∧ w1.frozen? ⟨w.heap.size + 1 + 1, 1, none⟩ = false ∧ w1.frozen? ⟨w.heap.size + 1 + 1, 2, none⟩ = false := by
 refine ⟨?_, ?_, ?_, ?_, frozen_of_row _ _ 1 _ _ h.rr, frozen_of_row _ _ 2 _ _ h.rr⟩
 ·rw [cell_of_row _ _ 0 _ _ (0, 0) h.box]; rfl
 ·rw [cell_of_row _ _ 0 _ _ (0, 0) h.rr]; rfl
 ·rw [cell_of_row _ _ 1 _ _ (0, 0) h.rr]; rfl
 ·rw [cell_of_row _ _ 2 _ _ (0, 0) h.rr]; rfl
variable {b : Nat}
theorem rec_setT (h : w.heap[b]? = some (.cells (rcA x.q x.t vB) 135 (0, 0))) (t : Int) : (w.setCell ⟨b, 1, none⟩ (.int .i64 t)).heap[b]? = some (.cells (rcA x.q t vB) 135 (0, 0)) :=
 heap_setCell_same w b 1 _ _ (.int .i64 t) h
theorem rec_setB {q t : Int} (h : w.heap[b]? = some (.cells (rcA q t vB) 135 (0, 0))) (v : Value) : (w.setCell ⟨b, 2, none⟩ v).heap[b]? = some (.cells (rcA q t v) 135 (0, 0)) :=
 heap_setCell_same w b 2 _ _ v h
theorem jrecord_any (v : Value) (Ls : List (List Fr)) (n : Int) (w : World) (hv : SlFs w.heap.size w v Ls) (hl : Ls.length ≤ 8) (hll : ∀ i, (Ls.getD i []).length ≤ 8) :
  Calls Tryz.prog 133 #[v, .int .i64 n] w (RecBit (jrec (gL Ls) n Ls.length) w) := by
 have HV := hI hv
 have HLL := hI hll
 obtain ⟨a, cap, rfl⟩ := hv.len
 clear hv hll
 have hmf : ∀ (fn : Fn) (first cap : Array Value) (w : World), (Instr.makeFunc fn first cap).run Tryz.prog w = .ok (.func fn first cap) w := fun _ _ _ _ => rfl
 have H0 := hI (show RelJR Ls n w 0 ⟨n, 0, []⟩ (.slice none 0 0) (((w.alloc (.cells #[.int .i64 n] 3)).alloc (.cells #[.int .i64 0, .int .i64 0, .slice none 0 0] 135)).alloc (.cells #[.int .i64 n, .int .i64 0, .slice none 0 0] 135)) from by
  refine ⟨rfl, ?_, ?_, ?_, (show World.ownsRow _ _ _ _ _ 0 [] from World.ownsRow_nil _ _ _ _), balloc (balloc (one_below _ _) _) _⟩
  ·rw [heap_alloc_old _ _ (by simp; omega), heap_alloc_old _ _ (by simp)]; exact heap_alloc_new _ _
  ·rw [heap_alloc_old _ _ (by simp)]; have := heap_alloc_new (w.alloc (.cells #[.int .i64 n] 3)) (.cells #[.int .i64 0, .int .i64 0, .slice none 0 0] 135); simpa using this
  ·have := heap_alloc_new ((w.alloc (.cells #[.int .i64 n] 3)).alloc (.cells #[.int .i64 0, .int .i64 0, .slice none 0 0] 135)) (.cells #[.int .i64 n, .int .i64 0, .slice none 0 0] 135); simpa using this)
 go_enter Tryz.func133, Tryz.ntmps133
 go_wp2_with fail
 go_loopw [14] (fun c wr => ∃ (k : Nat) (x : Rc) (vB : Value), k ≤ Ls.length ∧ c = .int .i64 k ∧ RelJR Ls n w k x vB wr) (fun c _ => Ls.length - (intOf c).toNat)
 case atStart => exact ⟨0, _, _, Nat.zero_le _, rfl, H0.out⟩
 case round =>
  obtain ⟨k, x, vB, hk, rfl, hR⟩ := hrel; have HR := hI hR
  by_cases hlt : k < Ls.length
  ·obtain ⟨bp, cap', u, hs, hbp, hcu0, hfu⟩ := HV.out.at_ hlt
   have hcu : wr.cell? ⟨bp, k, none⟩ = some u := by rw [hR.base.cell (p := ⟨bp, k, none⟩) hbp]; exact hcu0
   clear hcu0; injection hs with hs1 hs2 hs3; subst hs1 hs3; clear hs2; have HFU := hI hfu; have HST := hI (jrec_step hR.ks); have HL8 := hI (HLL.out k); have hlr := hR.lt; obtain ⟨y0, y1, y2, y3, y4, y5⟩ := hR.cells
   have CI := hI (show Calls Tryz.prog 151 #[u, .func (.func 152) #[] #[.pointer (some ⟨w.heap.size, 0, none⟩), .pointer (some ⟨wr.heap.size, 0, none⟩), .pointer (some ⟨w.heap.size + 1 + 1, 0, none⟩)]] (wr.alloc (.cells #[.int .i64 (k : Int)] 3)) (PickAt (jfits n x.t k) (Ls.getD k []) (wr.alloc (.cells #[.int .i64 (k : Int)] 3))) from by
    have h2 := hR.then (one_below wr (.cells #[.int .i64 (k : Int)] 3))
    have hc2 := h2.cells
    exact jindex_any u (Ls.getD k []) n x.t k w.heap.size wr.heap.size (w.heap.size + 1 + 1) _ ((hfu.below h2.base).wider (by simp; omega)) (by have := HL8.out; omega) hc2.1 (by simp) hc2.2.2.1 (by simp; omega) (by simp) (by simp; omega))
   clear hfu; obtain ⟨au, cu, rfl⟩ := HFU.out.len; clear hR; generalize hlk : Ls.getD k [] = l at *; have HLK := hI hlk; clear hlk; go_wp2_with fail; refine CI.out.mono ?_; rintro e w3 ⟨hcase, hb3⟩; have HR3 := hI (HR.out.then (bthen (one_below wr _) hb3)); have HLR3 := hI (show wr.heap.size < w3.heap.size by have := hb3.size; simp at this; omega); clear hb3
   rcases hcase with ⟨rfl, hno⟩ | ⟨p, hp, rfl, hy⟩
   ·have HNO := hI (show jrec (gL Ls) n Ls.length = none from by
     have e1 : jrec (gL Ls) n (k + 1) = none := by rw [HST.out, show gL Ls k = l from HLK.out]; unfold jpick; rw [hno]
     have := jrec_down (L := gL Ls) (n := n) (k := k + 1) (Ls.length - (k + 1)) e1
     rwa [show k + 1 + (Ls.length - (k + 1)) = Ls.length by omega] at this)
    clear hno y0 y1 y2 y3 y4 y5; have z0 := HR3.out.ans
    have zc : w3.cell? ⟨w.heap.size + 1, 0, none⟩ = some (.int .i64 0) ∧ w3.cell? ⟨w.heap.size + 1, 1, none⟩ = some (.int .i64 0) ∧ w3.cell? ⟨w.heap.size + 1, 2, none⟩ = some (.slice none 0 0) ∧ w3.frozen? ⟨w.heap.size + 1, 0, none⟩ = false ∧ w3.frozen? ⟨w.heap.size + 1, 1, none⟩ = false ∧ w3.frozen? ⟨w.heap.size + 1, 2, none⟩ = false := by
     refine ⟨?_, ?_, ?_, frozen_of_row _ _ 0 _ _ z0, frozen_of_row _ _ 1 _ _ z0, frozen_of_row _ _ 2 _ _ z0⟩
     ·rw [cell_of_row _ _ 0 _ _ (0, 0) z0]; rfl
     ·rw [cell_of_row _ _ 1 _ _ (0, 0) z0]; rfl
     ·rw [cell_of_row _ _ 2 _ _ (0, 0) z0]; rfl
    obtain ⟨c0, c1, c2, f0, f1, f2⟩ := zc; clear z0; go_wp2_with fail; exact bodyPost_ret (v := .tuple #[.agg (rcA 0 0 (.slice none 0 0)), .bool false]) (by simp [results, Tryz.results133, go_sem, c0, c1, c2]) rfl ⟨.slice none 0 0, by rw [HNO.out]; rfl, by rw [HNO.out]; exact World.ownsRow_nil _ _ _ _, ((HR3.out.base.setCell (p := ⟨w.heap.size + 1, 0, none⟩) (by show w.heap.size ≤ w.heap.size + 1; omega) _).setCell (p := ⟨w.heap.size + 1, 1, none⟩) (by show w.heap.size ≤ w.heap.size + 1; omega) _).setCell (p := ⟨w.heap.size + 1, 2, none⟩) (by show w.heap.size ≤ w.heap.size + 1; omega) _⟩
   ·have HP8 := hI (show p < 8 by have := HL8.out; omega)
    have HPK := hI (show jrec (gL Ls) n (k + 1) = some ⟨n, (l.getD p zeroF).t, x.b ++ [(l.getD p zeroF).d]⟩ from by
     rw [HST.out, show gL Ls k = l from HLK.out]; unfold jpick; rw [hy])
    clear hy y0 y1 y2 y3 y4 y5; obtain ⟨bf, cf', hs, hbl, _, ht, _, hd, hfi⟩ := HFU.out.at_ hp; injection hs with hs1 hs2 hs3; subst hs1 hs3; clear hs2; have HDL := hI (show (l.getD p zeroF).d.length = 108 from hfi); have hbB : bf < w.heap.size := hbl; obtain ⟨z0, z1, z2, z3, z4, z5⟩ := HR3.out.cells; have hl3 := HR3.out.lt
    have hl3' : w.heap.size + 1 < w3.heap.size := by omega
    have ht3 : w3.cell? ⟨bf, p * szFr + 2, none⟩ = some (.int .i64 (l.getD p zeroF).t) := by
     obtain ⟨b', c', hs', _, _, ht', _⟩ := (HFU.out.below HR3.out.base).at_ hp; injection hs' with q1 q2 q3; injection q1 with q1; injection q1 with q1; subst q1; exact ht'
    have HD37 := hI (fun (w' : World) (hw : Below w.heap.size w w') => show (loadCellsFrom ⟨bf, p * szFr + 4, none⟩ 0 szDa #[]).run Tryz.prog w' = .ok (bytesV (l.getD p zeroF).d).toArray w' from by
     obtain ⟨b', c', hs', _, _, _, _, hd', _⟩ := (HFU.out.below hw).at_ hp; injection hs' with q1 q2 q3; injection q1 with q1; injection q1 with q1; subst q1
     exact hd')
    clear ht hd hfi hbl; generalize l.getD p zeroF = f at *; have hz := szFr_run; have hzd := szDa_run
    have hneg : ¬ (p : Int) < 0 := by omega
    go_upto_region 9 with (fail)
    obtain ⟨w4, hw4⟩ : ∃ w4, w4 = w3.setCell ⟨w.heap.size + 1 + 1, 1, none⟩ (.int .i64 f.t) := ⟨_, rfl⟩
    rw [← hw4]; have H4 := hI (show w4.heap[w.heap.size + 1 + 1]? = some (.cells (rcA x.q f.t vB) 135 (0, 0)) from by rw [hw4]; exact rec_setT HR3.out.rr f.t); have HO4 := hI (show w4.ownsRow (w.heap.size + 3) 87 108 vB x.b.length (x.b.map bytesV).flatten from by rw [hw4]; exact own_kept_set HR3.out.own HR3.out.off); have HB4 := hI (show Below w.heap.size w w4 from by rw [hw4]; exact HR3.out.base.setCell (p := ⟨w.heap.size + 1 + 1, 1, none⟩) (by show w.heap.size ≤ w.heap.size + 1 + 1; omega) _); have HQN := hI (show x.q = n from (jrec_len HR3.out.ks).2); have HXL := hI (show x.b.length ≤ 8 from by have := (jrec_len HR3.out.ks).1; omega)
    have h4s : w4.heap.size = w3.heap.size := by rw [hw4]; exact (set_only _ _ _ _).1
    have HOTH := hI (show ∀ b, b ≠ w.heap.size + 1 + 1 → w4.heap[b]? = w3.heap[b]? from fun b hb => by rw [hw4]; exact (set_only _ _ _ _).2 b hb); have HLL4 := hI (show Below w4.heap.size w4 (w4.drew.alloc (.cells (bytesV f.d).toArray 87)) from (Below.refl w4.heap.size w4).drew.alloc (Nat.le_refl _) _); have HBL := hI (show Below w.heap.size w (w4.drew.alloc (.cells (bytesV f.d).toArray 87)) from bthen HB4.out HLL4.out); have HOL := hI (own_below HO4.out HLL4.out); have HL9 := hI (show x.b.length + 1 ≤ 100000 by have := HXL.out; omega); have HLE := hI (show w.heap.size + 3 ≤ (w4.drew.alloc (.cells (bytesV f.d).toArray 87)).heap.size by have := HLL4.out.size; omega); have HOB := hI (show ∀ j, vB.ownBlock = some j → w.heap.size + 3 ≤ j from fun j hj => (own_block' HO4.out hj).1)
    have HBK := hI (show ∀ (v5 : Value) (w5 : World), Grew (w4.drew.alloc (.cells (bytesV f.d).toArray 87)) vB.ownBlock w5 v5.ownBlock → ∀ b, b < w.heap.size + 3 → w5.heap[b]? = w4.heap[b]? from fun v5 w5 hg b hb => by
     rw [hg.by_.block b (by have := HLE.out; omega) (fun e => by have := HOB.out b e.symm; omega)]
     exact HLL4.out.block b (by omega))
    have HMID := hI (show ∀ (v5 : Value) (w5 : World), Grew (w4.drew.alloc (.cells (bytesV f.d).toArray 87)) vB.ownBlock w5 v5.ownBlock → w5.cell? ⟨w.heap.size + 1 + 1, 2, none⟩ = some vB ∧ w5.frozen? ⟨w.heap.size + 1 + 1, 2, none⟩ = false ∧ Below w.heap.size w w5 from fun v5 w5 hg => by
     have hrr := (HBK.out v5 w5 hg (w.heap.size + 1 + 1) (by omega)).trans H4.out; refine ⟨?_, frozen_of_row _ _ 2 _ _ hrr, HBL.out.trans (hg.below (by have := HLE.out; omega) fun j hj => by have := HOB.out j hj; omega)⟩
     rw [cell_of_row _ _ 2 _ _ (0, 0) hrr]; rfl)
    have HFIN := hI (show ∀ (v5 : Value) (w5 : World), w5.ownsRow (w.heap.size + 3) 87 108 v5 (x.b.length + 1) ((x.b.map bytesV).flatten ++ bytesV f.d) → Grew (w4.drew.alloc (.cells (bytesV f.d).toArray 87)) vB.ownBlock w5 v5.ownBlock →
      Below w.heap.size w (w5.setCell ⟨w.heap.size + 1 + 1, 2, none⟩ v5) ∧ ∃ (k' : Nat) (x' : Rc) (vB' : Value), k' ≤ Ls.length ∧ (Value.int .i64 ((k : Int) + 1)) = .int .i64 k' ∧ RelJR Ls n w k' x' vB' (w5.setCell ⟨w.heap.size + 1 + 1, 2, none⟩ v5) from fun v5 w5 ho hg => by
     have hb := (HMID.out v5 w5 hg).2.2.setCell (p := ⟨w.heap.size + 1 + 1, 2, none⟩) (by show w.heap.size ≤ w.heap.size + 1 + 1; omega) v5; have hrr := (HBK.out v5 w5 hg (w.heap.size + 1 + 1) (by omega)).trans H4.out; rw [HQN.out] at hrr
     have hoth : ∀ b, b ≠ w.heap.size + 1 + 1 → (w5.setCell ⟨w.heap.size + 1 + 1, 2, none⟩ v5).heap[b]? = w5.heap[b]? := fun b hb => (set_only _ _ _ _).2 b hb
     refine ⟨hb, k + 1, ⟨n, f.t, x.b ++ [f.d]⟩, v5, hlt, by go_num, HPK.out, ?_, ?_, rec_setB hrr v5, ?_, hb⟩
     ·rw [hoth _ (by omega), HBK.out v5 w5 hg _ (by omega), HOTH.out _ (by omega)]; exact HR3.out.box
     ·rw [hoth _ (by omega), HBK.out v5 w5 hg _ (by omega), HOTH.out _ (by omega)]; exact HR3.out.ans
     ·have e : ((x.b ++ [f.d]).map bytesV).flatten = (x.b.map bytesV).flatten ++ bytesV f.d := by rw [List.map_append, List.flatten_append]; simp
      show World.ownsRow _ _ _ _ _ (x.b ++ [f.d]).length ((x.b ++ [f.d]).map bytesV).flatten
      rw [e, List.length_append]; refine own_kept_set ho ?_
      cases hv : v5.ownBlock with
      | none => exact Or.inl rfl
      | some j => exact Or.inr fun e => by have := (own_block' ho hv).1; injection e; omega)
    have y2 : w4.cell? ⟨w.heap.size + 1 + 1, 2, none⟩ = some vB := by rw [cell_of_row _ _ 2 _ _ (0, 0) H4.out]; rfl
    have hl4 : w.heap.size + 1 + 1 < w4.heap.size := by rw [h4s]; exact hl3
    have hl4' : w.heap.size + 1 < w4.heap.size := by omega
    have hd37 := HD37.out
    have hda0 : ¬ szDa = 0 := by decide
    clear hw4 ht3 z0 z1 z2 z3 z4 z5 hl3 hl3' h4s; refine wp_region_noPanic ?_; refine wp_region_held_drew (S := (fun w' => Below w.heap.size w w')) (by kernel_rfl) HB4.out.drew (fun hHeld => ?_); refine hT 0 ⟨some 31, _, _, _, _, _⟩ rfl hHeld ?_; simp only [hP]; refine hT 2 ⟨some 33, _, _, _, _, _⟩ rfl hHeld ?_; simp only [hP]; refine hT 3 ⟨some 34, _, _, _, _, _⟩ rfl hHeld ?_; simp only [hP]; refine hT 4 ⟨some 35, _, _, _, _, _⟩ rfl hHeld ?_; simp only [hP]; refine hT 5 ⟨some 36, _, _, _, _, _⟩ rfl hHeld ?_; simp only [hP]; refine hT 6 ⟨some 37, _, _, _, _, _⟩ rfl hHeld ?_; simp only [hP]; refine wpAnyH_ready (rs := [1, 7]) (by kernel_rfl) (by simp) ?_; refine AllReadyH.cons (o := ⟨some 32, _, _, _, _, _⟩) rfl (fun K hK => ?_) ?_
    ·go_simp
     refine hK.out _ _ hHeld (fun _ => ?_); clear hK K; refine wpAnyH_ready (rs := [7]) (by kernel_rfl) (by simp) ?_; refine AllReadyH.cons (o := ⟨some 38, _, _, _, _, _⟩) rfl (fun K hK => ?_) ?_
     ·refine step_one_block (o := ⟨some 38, _, _, _, _, _⟩) rfl (.tmp 37) rfl f.d rfl HDL.out ?_
      have hbl : Below w.heap.size w (w4.drew.alloc (.cells (bytesV f.d).toArray 87)) := HBL.out; refine hK.out _ _ hbl (fun _ => ?_); clear hK K; refine wpAnyH_ready (rs := [8]) (by kernel_rfl) (by simp) ?_; refine AllReadyH.cons (o := ⟨some 39, _, _, _, _, _⟩) rfl (fun K hK => ?_) ?_
      ·refine step_append_block (o := ⟨some 39, _, _, _, _, _⟩) (w4.drew.alloc (.cells (bytesV f.d).toArray 87)) rfl (.tmp 32) (.tmp 38) rfl (w.heap.size + 3) _ _ _ rfl HOL.out w4.heap.size f.d rfl (fun j u hu => new_cells _ _ _ _ _ (by simpa using hu)) HDL.out HL9.out HLE.out ?_
       intro v5 w5 ho5 hg5; have HE5 := hI (HFIN.out v5 w5 ho5 hg5); obtain ⟨hx5, hf5, hb5⟩ := HMID.out v5 w5 hg5; obtain ⟨g5, c5, rfl, -⟩ := own_slice' ho5; clear ho5 hg5; refine hK.out _ _ hb5 (fun _ => ?_); clear hK K; refine hT 9 ⟨some 40, _, _, _, _, _⟩ rfl hb5 ?_; simp only [hP]; refine wpAnyH_ready (rs := [10]) (by kernel_rfl) (by simp) ?_; refine AllReadyH.cons (o := ⟨none, _, _, _, _, _⟩) rfl (fun K hK => ?_) ?_
       ·go_simp
        have hb6 := HE5.out.1; refine hK.out _ _ hb6 (fun _ => ?_); clear hK K; refine wpAnyH_done (by kernel_rfl) ?_ _; refine NoPanic.normal ?_; go_wp2_with fail
        go_roundw
        case rel => exact HE5.out.2
        case measure => simp [intOf]; omega
       exact AllReadyH.nil
      exact AllReadyH.nil
     exact AllReadyH.nil
    refine AllReadyH.cons (o := ⟨some 38, _, _, _, _, _⟩) rfl (fun K hK => ?_) ?_
    ·refine step_one_block (o := ⟨some 38, _, _, _, _, _⟩) rfl (.tmp 37) rfl f.d rfl HDL.out ?_
     have hbl : Below w.heap.size w (w4.drew.alloc (.cells (bytesV f.d).toArray 87)) := HBL.out; refine hK.out _ _ hbl (fun _ => ?_); clear hK K; refine wpAnyH_ready (rs := [1]) (by kernel_rfl) (by simp) ?_; refine AllReadyH.cons (o := ⟨some 32, _, _, _, _, _⟩) rfl (fun K hK => ?_) ?_
     ·go_simp
      refine hK.out _ _ hbl (fun _ => ?_); clear hK K; refine wpAnyH_ready (rs := [8]) (by kernel_rfl) (by simp) ?_; refine AllReadyH.cons (o := ⟨some 39, _, _, _, _, _⟩) rfl (fun K hK => ?_) ?_
      ·refine step_append_block (o := ⟨some 39, _, _, _, _, _⟩) (w4.drew.alloc (.cells (bytesV f.d).toArray 87)) rfl (.tmp 32) (.tmp 38) rfl (w.heap.size + 3) _ _ _ rfl HOL.out w4.heap.size f.d rfl (fun j u hu => new_cells _ _ _ _ _ (by simpa using hu)) HDL.out HL9.out HLE.out ?_
       intro v5 w5 ho5 hg5; have HE5 := hI (HFIN.out v5 w5 ho5 hg5); obtain ⟨hx5, hf5, hb5⟩ := HMID.out v5 w5 hg5; obtain ⟨g5, c5, rfl, -⟩ := own_slice' ho5; clear ho5 hg5; refine hK.out _ _ hb5 (fun _ => ?_); clear hK K; refine hT 9 ⟨some 40, _, _, _, _, _⟩ rfl hb5 ?_; simp only [hP]; refine wpAnyH_ready (rs := [10]) (by kernel_rfl) (by simp) ?_; refine AllReadyH.cons (o := ⟨none, _, _, _, _, _⟩) rfl (fun K hK => ?_) ?_
       ·go_simp
        have hb6 := HE5.out.1; refine hK.out _ _ hb6 (fun _ => ?_); clear hK K; refine wpAnyH_done (by kernel_rfl) ?_ _; refine NoPanic.normal ?_; go_wp2_with fail
        go_roundw
        case rel => exact HE5.out.2
        case measure => simp [intOf]; omega
       exact AllReadyH.nil
      exact AllReadyH.nil
     exact AllReadyH.nil
    exact AllReadyH.nil
  ·obtain rfl : k = Ls.length := by omega
   have z0 := hR.ans
   have zc : wr.cell? ⟨w.heap.size + 1, 0, none⟩ = some (.int .i64 0) ∧ wr.cell? ⟨w.heap.size + 1, 1, none⟩ = some (.int .i64 0) ∧ wr.cell? ⟨w.heap.size + 1, 2, none⟩ = some (.slice none 0 0) ∧ wr.frozen? ⟨w.heap.size + 1, 0, none⟩ = false ∧ wr.frozen? ⟨w.heap.size + 1, 1, none⟩ = false ∧ wr.frozen? ⟨w.heap.size + 1, 2, none⟩ = false := by
    refine ⟨?_, ?_, ?_, frozen_of_row _ _ 0 _ _ z0, frozen_of_row _ _ 1 _ _ z0, frozen_of_row _ _ 2 _ _ z0⟩
    ·rw [cell_of_row _ _ 0 _ _ (0, 0) z0]; rfl
    ·rw [cell_of_row _ _ 1 _ _ (0, 0) z0]; rfl
    ·rw [cell_of_row _ _ 2 _ _ (0, 0) z0]; rfl
   obtain ⟨c0, c1, c2, f0, f1, f2⟩ := zc; obtain ⟨y0, y1, y2, y3, y4, y5⟩ := hR.cells; have hl3 := hR.lt
   have hl3' : w.heap.size + 1 < wr.heap.size := by omega
   obtain ⟨gv, cv, rfl, -⟩ := own_slice' hR.own
   have HOW := hI (show ((wr.setCell ⟨w.heap.size + 1, 0, none⟩ (.int .i64 x.q)).setCell ⟨w.heap.size + 1, 1, none⟩ (.int .i64 x.t)).setCell ⟨w.heap.size + 1, 2, none⟩ (.slice gv x.b.length cv) |>.ownsRow (w.heap.size + 3) 87 108 (.slice gv x.b.length cv) x.b.length (x.b.map bytesV).flatten from by
    have hne : (Value.slice gv x.b.length cv).ownBlock = none ∨ (Value.slice gv x.b.length cv).ownBlock ≠ some (w.heap.size + 1) := by
     cases hv : (Value.slice gv x.b.length cv).ownBlock with
     | none => exact Or.inl rfl
     | some j => exact Or.inr fun e => by have := (own_block' hR.own hv).1; injection e; omega
    exact own_kept_set (own_kept_set (own_kept_set hR.own hne) hne) hne)
   have HBW := hI (show Below w.heap.size w (((wr.setCell ⟨w.heap.size + 1, 0, none⟩ (.int .i64 x.q)).setCell ⟨w.heap.size + 1, 1, none⟩ (.int .i64 x.t)).setCell ⟨w.heap.size + 1, 2, none⟩ (.slice gv x.b.length cv)) from
    ((hR.base.setCell (p := ⟨w.heap.size + 1, 0, none⟩) (by show w.heap.size ≤ w.heap.size + 1; omega) _).setCell (p := ⟨w.heap.size + 1, 1, none⟩) (by show w.heap.size ≤ w.heap.size + 1; omega) _).setCell (p := ⟨w.heap.size + 1, 2, none⟩) (by show w.heap.size ≤ w.heap.size + 1; omega) _)
   have HKS := hI hR.ks; clear hR z0; go_wp2_with fail; refine bodyPost_ret (v := .tuple #[.agg (rcA x.q x.t (.slice gv x.b.length cv)), .bool true]) (by simp [results, Tryz.results133, go_sem, c0, c1, c2]) rfl ⟨.slice gv x.b.length cv, by rw [HKS.out]; rfl, ?_, HBW.out⟩; rw [HKS.out]; exact own_base HOW.out (by omega)
def jslotV (q : Rk) (c : Cf) (s : Int) : Value := if jhasSlot c q s = true then (if jall (jl q c s) c.k.toNat then .nilIface else wrapV opJSlot s (lossV s 0 1)) else wrapV opJSlot s (errV 1)
def SlotOut (q : Rk) (c : Cf) (s : Int) (w : World) (e : Ending) (w' : World) : Prop :=
 ∃ v, e = .returned (.tuple #[.agg (rcA (jrecR q c s).q (jrecR q c s).t v), .bool (jwhole q c s), .int .i64 (jnewest q c s), jslotV q c s]) ∧ w'.ownsRow w.heap.size 87 108 v (jrecR q c s).b.length ((jrecR q c s).b.map bytesV).flatten ∧ Below w.heap.size w w'
theorem slot_no {c : Cf} (h : ¬ jw q c s) : jrecR q c s = zeroR ∧ jwhole q c s = false ∧ jnewest q c s = 0 := by
 have e : jrecO q c s = none := if_neg h
 refine ⟨?_, ?_, if_neg h⟩
 ·unfold jrecR; rw [e]; rfl
 ·unfold jwhole; rw [e]; rfl
theorem jl_len (q : Rk) (c : Cf) (s : Int) (i : Nat) (h : q.n ≤ 8) : (jl q c s i).length ≤ 8 := by
 have h1 : (jl q c s i).length ≤ (ups q).length := List.length_filterMap_le ..
 have h2 := upsN_length q q.n
 unfold ups at h1
 omega
theorem jrec_congr {L M : Nat → List Fr} {n : Int} : ∀ {k : Nat}, (∀ i, i < k → L i = M i) → jrec L n k = jrec M n k
 | 0, _ => rfl
 | k + 1, h => by
  have ih := jrec_congr (L := L) (M := M) (n := n) (k := k) fun i hi => h i (by omega)
  unfold jrec; rw [ih, h k (by omega)]
structure SlS (lo : Nat) (c : Lc) (q : Rk) (cf : Cf) (s : Int) (P K i : Nat) (w w' : World) : Prop where
 rack : RackIn lo w' c q
 cfg : CfB cf w.heap.size w'
 ans : w'.heap[w.heap.size + 1]? = some (.cells #[.int .i64 0, .int .i64 0, .slice none 0 0] 135 (0, 0))
 pl : ∃ cs, w'.heap[P]? = some (.cells cs 145 (0, 0)) ∧ cs.size = K ∧ ∀ j, j < i → ∃ u, cs[j]? = some u ∧ w'.ownsRow (P + 1) 151 112 u (jl q cf s j).length ((jl q cf s j).map frC).flatten
 base : Below w.heap.size w w'
 lt : w.heap.size + 1 < P ∧ c.r < P ∧ c.P < P ∧ ∀ i, i < q.n → c.d i < P ∧ c.S i < P ∧ c.M i < P
variable {P K : Nat} {w' : World}
theorem SlS.pos {cf : Cf} (h : SlS lo c q cf s P K i w w') : P < w'.heap.size := by
 obtain ⟨cs, h1, _⟩ := h.pl
 exact (Array.getElem?_eq_some_iff.1 h1).1
theorem SlS.then {cf : Cf} (h : SlS lo c q cf s P K i w w1) (hb : Below w1.heap.size w1 w2) : SlS lo c q cf s P K i w w2 := by
 have hp := h.pos
 have hl := h.lt
 obtain ⟨cs, h1, h2, h3⟩ := h.pl
 exact ⟨h.rack.below hb, CfB.below h.cfg (by omega) hb, (hb.block _ (by omega)).trans h.ans, ⟨cs, (hb.block _ hp).trans h1, h2, fun j hj => by obtain ⟨u, e1, e2⟩ := h3 j hj; exact ⟨u, e1, own_below e2 hb⟩⟩, bthen h.base hb, h.lt⟩
theorem own_ne {e s n : Nat} {xs : List Value} (h : w.ownsRow B e s v n xs) (hb : b < B) : v.ownBlock = none ∨ v.ownBlock ≠ some b := by
 cases hv : v.ownBlock with
 | none => exact Or.inl rfl
 | some j => exact Or.inr fun e => by have := (own_block' h hv).1; injection e; omega
theorem SlS.put {cf : Cf} {u : Value} (h : SlS lo c q cf s P K i w w1) (hi : i < K) (hu : w1.ownsRow (P + 1) 151 112 u (jl q cf s i).length ((jl q cf s i).map frC).flatten) :
  SlS lo c q cf s P K (i + 1) w (w1.setCell ⟨P, i, none⟩ u) := by
 obtain ⟨l1, l2, l3, l4⟩ := h.lt
 obtain ⟨cs, h1, h2, h3⟩ := h.pl
 have oth : ∀ b, b ≠ P → (w1.setCell ⟨P, i, none⟩ u).heap[b]? = w1.heap[b]? := (set_only P i u w1).2
 refine ⟨h.rack.keep (oth _ (by omega)) (oth _ (by omega)) fun j hj => ⟨oth _ (by have := l4 j hj; omega), oth _ (by have := l4 j hj; omega), oth _ (by have := l4 j hj; omega)⟩, (oth _ (by omega)).trans h.cfg, (oth _ (by omega)).trans h.ans, ⟨_, heap_setCell_same w1 P i _ _ u h1, by simpa using h2, fun j hj => ?_⟩, h.base.setCell (p := ⟨P, i, none⟩) (by show w.heap.size ≤ P; omega) u, h.lt⟩
 by_cases e : j = i
 ·subst e
  exact ⟨u, by rw [Array.getElem?_setIfInBounds_self_of_lt (by omega)], own_kept_set hu (own_ne hu (by omega))⟩
 ·obtain ⟨u', e1, e2⟩ := h3 j (by omega)
  exact ⟨u', by rw [Array.getElem?_setIfInBounds_ne (by omega)]; exact e1, own_kept_set e2 (own_ne e2 (by omega))⟩
theorem SlS.cell {cf : Cf} (h : SlS lo c q cf s P K i w w') {j : Nat} (hj : j < i) :
  ∃ u, w'.cell? ⟨P, j, none⟩ = some u ∧ SlF w'.heap.size w' u (jl q cf s j) := by
 obtain ⟨cs, h1, h2, h3⟩ := h.pl
 obtain ⟨u, e1, e2⟩ := h3 j hj
 exact ⟨u, by rw [cell_of_row _ _ j _ _ (0, 0) h1]; exact e1, slF_own e2 jl_is rfl⟩
theorem SlS.free {cf : Cf} (h : SlS lo c q cf s P K i w w') {j : Nat} (hj : j < K) : (∃ u, w'.cell? ⟨P, j, none⟩ = some u) ∧ w'.frozen? ⟨P, j, none⟩ = false := by
 obtain ⟨cs, h1, h2, h3⟩ := h.pl
 refine ⟨⟨cs[j]'(by omega), ?_⟩, frozen_of_row _ _ _ _ _ h1⟩
 rw [cell_of_row _ _ j _ _ (0, 0) h1]; exact Array.getElem?_eq_getElem (by omega)
theorem SlS.all {cf : Cf} (h : SlS lo c q cf s P K K w w') : SlFs w'.heap.size w' (.slice (some ⟨P, 0, none⟩) K K) ((List.range K).map (jl q cf s)) := by
 refine Or.inr ⟨P, K, by simp, h.pos, fun i hi => ?_⟩
 have hi' : i < K := by simpa using hi
 obtain ⟨u, e1, e2⟩ := h.cell hi'
 refine ⟨u, e1, ?_⟩
 have : ((List.range K).map (jl q cf s)).getD i [] = jl q cf s i := by simp [List.getD, hi']
 rw [this]; exact e2
theorem Tryz.infoFrames : (Tryz.prog.info? 145).map (fun i => (i.zero, i.size, i.bytes)) = some (some (.slice none 0 0), 1, 24) := by kernel_rfl
theorem make_places (n : Nat) (hn : n ≤ 8) (w : World) : (Instr.makeSlice 222 (.int .i64 (n : Int)) (.int .i64 (n : Int))).run Tryz.prog w = .ok (.slice (some ⟨w.heap.size, 0, none⟩) n n) (w.alloc (.cells (madeCells #[.slice none 0 0] n) 145)) :=
 run_make_row' (P := Tryz.prog) 222 145 (.slice none 0 0) 24 Tryz.underlying222 Tryz.infoFrames rfl .i64 .i64 n (by omega) (by omega) w
theorem jslot_no (w : World) (h : RackIn lo w c q) (cf : Cf) (s : Int) (hno : jhasSlot cf q s = false) :
  Calls Tryz.prog 116 #[.pointer (some ⟨c.r, 0, none⟩), .agg (cfA cf), .int .i64 s] w (SlotOut q cf s w) := by
 have HB := hI (show Below w.heap.size w ((w.alloc (.cells (cfA cf) 24)).alloc (.cells #[.int .i64 0, .int .i64 0, .slice none 0 0] 135)) from balloc (one_below _ _) _)
 have HF := hI (jhas_any _ (h.below HB.out) cf s)
 rw [hno] at HF
 have HA := hI (show ((w.alloc (.cells (cfA cf) 24)).alloc (.cells #[.int .i64 0, .int .i64 0, .slice none 0 0] 135)).heap[w.heap.size + 1]? = some (.cells #[.int .i64 0, .int .i64 0, .slice none 0 0] 135 (0, 0)) from by
  have := heap_alloc_new (w.alloc (.cells (cfA cf) 24)) (.cells #[.int .i64 0, .int .i64 0, .slice none 0 0] 135); simpa using this)
 obtain ⟨e1, e2, e3⟩ := slot_no (q := q) (c := cf) (s := s) (fun hh => by have := hh.1; rw [hno] at this; cases this)
 have E := hI (show jrecR q cf s = zeroR ∧ jwhole q cf s = false ∧ jnewest q cf s = 0 ∧ jslotV q cf s = wrapV opJSlot s (errV 1) from ⟨e1, e2, e3, if_neg (by rw [hno]; decide)⟩)
 have HC := hI (show CfB cf w.heap.size ((w.alloc (.cells (cfA cf) 24)).alloc (.cells #[.int .i64 0, .int .i64 0, .slice none 0 0] 135)) from CfB.below (cfB_new w cf) (B := w.heap.size + 1) (by omega) ((one_below _ _).mono (by simp)))
 obtain ⟨d0, d1, d2, d3, d4⟩ := HC.out.cells
 clear h hno e1 e2 e3
 go_enter Tryz.func116, Tryz.ntmps116
 go_wp2_with fail
 refine HF.out.mono ?_
 rintro e w2 ⟨rfl, hb2⟩
 have HB2 := hI (bthen HB.out hb2)
 have z0 := (hb2.block (w.heap.size + 1) (by simp)).trans HA.out
 have zc : w2.cell? ⟨w.heap.size + 1, 0, none⟩ = some (.int .i64 0) ∧ w2.cell? ⟨w.heap.size + 1, 1, none⟩ = some (.int .i64 0) ∧ w2.cell? ⟨w.heap.size + 1, 2, none⟩ = some (.slice none 0 0) ∧ w2.frozen? ⟨w.heap.size + 1, 0, none⟩ = false ∧ w2.frozen? ⟨w.heap.size + 1, 1, none⟩ = false ∧ w2.frozen? ⟨w.heap.size + 1, 2, none⟩ = false := by
  refine ⟨?_, ?_, ?_, frozen_of_row _ _ 0 _ _ z0, frozen_of_row _ _ 1 _ _ z0, frozen_of_row _ _ 2 _ _ z0⟩
  ·rw [cell_of_row _ _ 0 _ _ (0, 0) z0]; rfl
  ·rw [cell_of_row _ _ 1 _ _ (0, 0) z0]; rfl
  ·rw [cell_of_row _ _ 2 _ _ (0, 0) z0]; rfl
 obtain ⟨c0, c1, c2, f0, f1, f2⟩ := zc
 clear hb2 z0
 go_wp2_with (go_at_call 32; refine (wrap_some _ _ _ _ _).mono ?_; rintro e w' ⟨rfl, rfl⟩)
 refine bodyPost_ret (v := .tuple #[.agg (rcA 0 0 (.slice none 0 0)), .bool false, .int .i64 0, wrapV opJSlot s (errV 1)]) (by simp [results, Tryz.results116, go_sem, c0, c1, c2, wrapV, errV, opJSlot]) rfl ⟨.slice none 0 0, by rw [E.out.1, E.out.2.1, E.out.2.2.1, E.out.2.2.2]; rfl, by rw [E.out.1]; exact World.ownsRow_nil _ _ _ _, ((HB2.out.setCell (p := ⟨w.heap.size + 1, 0, none⟩) (by show w.heap.size ≤ w.heap.size + 1; omega) _).setCell (p := ⟨w.heap.size + 1, 1, none⟩) (by show w.heap.size ≤ w.heap.size + 1; omega) _).setCell (p := ⟨w.heap.size + 1, 2, none⟩) (by show w.heap.size ≤ w.heap.size + 1; omega) _⟩
def RelS1 (lo : Nat) (c : Lc) (q : Rk) (cf : Cf) (s : Int) (P K : Nat) (w : World) (n i : Value) (wr : World) : Prop :=
 ∃ m : Nat, m ≤ K ∧ i = .int .i64 m ∧ n = .int .i64 (jnew (jl q cf s) m) ∧ SlS lo c q cf s P K m w wr ∧ ∀ j, j < m → jl q cf s j ≠ []
def RelS2 (lo : Nat) (c : Lc) (q : Rk) (cf : Cf) (s : Int) (P K m : Nat) (w : World) (l : List Fr) (n0 : Int) (u : Value) (n i : Value) (wr : World) : Prop :=
 ∃ j : Nat, j ≤ l.length ∧ i = .int .i64 j ∧ n = .int .i64 (topG n0 (l.take j)) ∧ SlS lo c q cf s P K (m + 1) w wr ∧ SlF wr.heap.size wr u l
theorem topG_take {n0 : Int} {l : List Fr} {j : Nat} (h : j < l.length) : topG n0 (l.take (j + 1)) = max (topG n0 (l.take j)) (l.getD j zeroF).g := by
 rw [List.take_succ_eq_append_getElem h, topG_snoc]; simp [List.getD, h]
theorem jslotV_loss {c : Cf} (hh : jhasSlot c q s = true) (h : ¬ jall (jl q c s) c.k.toNat) : jslotV q c s = wrapV opJSlot s (lossV s 0 1) := by
 unfold jslotV; rw [if_pos hh, if_neg h]
theorem jslot_yes (w : World) (h : RackIn lo w c q) (cf : Cf) (s : Int) (hy : jhasSlot cf q s = true) :
  Calls Tryz.prog 116 #[.pointer (some ⟨c.r, 0, none⟩), .agg (cfA cf), .int .i64 s] w (SlotOut q cf s w) := by
 have HB := hI (show Below w.heap.size w ((w.alloc (.cells (cfA cf) 24)).alloc (.cells #[.int .i64 0, .int .i64 0, .slice none 0 0] 135)) from balloc (one_below _ _) _)
 have HF := hI (jhas_any _ (h.below HB.out) cf s)
 rw [hy] at HF
 have HA := hI (show ((w.alloc (.cells (cfA cf) 24)).alloc (.cells #[.int .i64 0, .int .i64 0, .slice none 0 0] 135)).heap[w.heap.size + 1]? = some (.cells #[.int .i64 0, .int .i64 0, .slice none 0 0] 135 (0, 0)) from by
  have := heap_alloc_new (w.alloc (.cells (cfA cf) 24)) (.cells #[.int .i64 0, .int .i64 0, .slice none 0 0] 135); simpa using this)
 have HC := hI (show CfB cf w.heap.size ((w.alloc (.cells (cfA cf) 24)).alloc (.cells #[.int .i64 0, .int .i64 0, .slice none 0 0] 135)) from CfB.below (cfB_new w cf) (B := w.heap.size + 1) (by omega) ((one_below _ _).mono (by simp)))
 obtain ⟨d0, d1, d2, d3, d4⟩ := HC.out.cells
 have HR := hI (h.below HB.out)
 have HFAR := hI (show Far w.heap.size c q.n ∧ c.P < w.heap.size from ⟨h.far, h.lt.2.1⟩)
 have HHY := hI hy
 have hn8 : q.n ≤ 8 := h.ok.n8
 unfold jhasSlot at hy
 simp only [Bool.and_eq_true, decide_eq_true_eq] at hy
 obtain ⟨hf, h0, h1⟩ := hy
 have hr := (fits_right hf).1
 have CG := hI (fun (i : Nat) (w' : World) (hw : RackIn lo w' c q) (hi : (i : Int) < cf.k) => goodFrames_any w' hw cf s i hr h0 h1 hi)
 obtain ⟨k, hk⟩ := Int.eq_ofNat_of_zero_le (show 0 ≤ cf.k by have := hr.2.2.1; omega)
 have hk8 : k ≤ 8 := by have := hr.2.2.2.1; have := hr.2.2.2.2.1; omega
 have HK := hI hk
 have HKT := hI (show cf.k.toNat = k by omega)
 have hmk := make_places k hk8
 have hk1 : 1 ≤ k := by have := hr.2.2.1; omega
 clear h hf h0 h1 hr hk
 go_enter Tryz.func116, Tryz.ntmps116
 go_wp2_with fail
 refine HF.out.mono ?_
 rintro e w2 ⟨rfl, hb2⟩
 have HB2 := hI (bthen HB.out hb2)
 have HL2 := hI (show w.heap.size + 1 < w2.heap.size by have := hb2.size; simp at this; omega)
 have HC2 := hI (show CfB cf w.heap.size w2 from CfB.below HC.out (by simp; omega) hb2)
 have HA2 := hI ((hb2.block (w.heap.size + 1) (by simp)).trans HA.out)
 have HR2 := hI (HR.out.below hb2)
 have e1 : w2.cell? ⟨w.heap.size, 1, none⟩ = some (.int .i64 (k : Int)) := by rw [show (k : Int) = cf.k from HK.out.symm]; exact HC2.out.cells.2.1
 clear hb2 d0 d1 d2 d3 d4
 go_wp2_with fail
 obtain ⟨w3, hw3⟩ : ∃ w3, w3 = w2.alloc (.cells (madeCells #[.slice none 0 0] k) 145) := ⟨_, rfl⟩
 rw [← hw3]
 have H3 := hI (show SlS lo c q cf s w2.heap.size k 0 w w3 from by
  rw [hw3]; have hb := one_below w2 (.cells (madeCells #[.slice none 0 0] k) 145)
  exact ⟨HR2.out.below hb, CfB.below HC2.out (by have := HL2.out; omega) hb, (hb.block _ HL2.out).trans HA2.out, ⟨_, heap_alloc_new _ _, size_madeCells _ _, fun j hj => absurd hj (by omega)⟩, bthen HB2.out hb,
   by have := HL2.out; have := HFAR.out.1.1; have := HFAR.out.2; exact ⟨by omega, by omega, by omega, fun i hi => by have := HFAR.out.1.2 i hi; omega⟩⟩)
 generalize w2.heap.size = P at *
 clear hw3 e1 hmk
 go_loopw [10, 31] (fun n i wr => RelS1 lo c q cf s P k w n i wr) (fun _ i _ => k - (intOf i).toNat)
 case atStart => exact ⟨0, Nat.zero_le _, rfl, rfl, H3.out, fun j hj => absurd hj (by omega)⟩
 case round =>
  obtain ⟨m, hm, rfl, rfl, hS, hne⟩ := hrel; have HS := hI hS; have HNE := hI hne; clear hne
  by_cases hlt : m < k
  ·obtain ⟨d0, d1, d2, d3, d4⟩ := CfB.cells hS.cfg
   have CGM := hI (CG.out m wr hS.rack (by rw [HK.out]; omega)); have HJN := hI (show jnew (jl q cf s) (m + 1) = topG (jnew (jl q cf s) m) (jl q cf s m) from rfl); have HJI := hI (show ∀ f ∈ jl q cf s m, f.is from jl_is); have HJ8 := hI (jl_len q cf s m hn8); clear hS; go_wp2_with fail; refine CGM.out.mono ?_; rintro e w4 ⟨u, rfl, hu, hb4⟩; have HS4 := hI (HS.out.then hb4); have hu1 := own_base hu (Nat.succ_le_of_lt HS.out.pos); have HS5 := hI (HS4.out.put hlt hu1); have HU5 := hI (show SlF (w4.setCell ⟨P, m, none⟩ u).heap.size (w4.setCell ⟨P, m, none⟩ u) u (jl q cf s m) from slF_own (own_kept_set hu1 (own_ne hu1 (Nat.lt_succ_self _))) HJI.out rfl); obtain ⟨⟨u0, c0⟩, f0⟩ := HS4.out.free hlt; have hc5 : (w4.setCell ⟨P, m, none⟩ u).cell? ⟨P, m, none⟩ = some u := World.cell?_setCell_same _ _ _ c0; obtain ⟨au, cu, rfl, -⟩ := own_slice' hu; clear hu hb4 hu1 d0 d1 d2 d3 d4; generalize hlg : jl q cf s m = l at *; have HLG := hI hlg; clear hlg
   go_upto_region 9 with (fail)
   generalize w4.setCell ⟨P, m, none⟩ (.slice au l.length cu) = w5 at *; clear c0 f0
   by_cases hz : l.length = 0
   ·have hz2 : ((l.length : Int) == 0) = true := by rw [hz]; rfl
    have E := hI (show jrecR q cf s = zeroR ∧ jwhole q cf s = false ∧ jnewest q cf s = 0 ∧ jslotV q cf s = wrapV opJSlot s (lossV s 0 1) from by
     have hno : ¬ jall (jl q cf s) cf.k.toNat := fun ha => ha m (by rw [HKT.out]; exact hlt) (by rw [HLG.out]; exact List.eq_nil_of_length_eq_zero hz)
     obtain ⟨g1, g2, g3⟩ := slot_no (q := q) (c := cf) (s := s) (fun hh => hno hh.2)
     exact ⟨g1, g2, g3, jslotV_loss HHY.out hno⟩)
    have z0 := HS5.out.ans
    have zc : w5.cell? ⟨w.heap.size + 1, 0, none⟩ = some (.int .i64 0) ∧ w5.cell? ⟨w.heap.size + 1, 1, none⟩ = some (.int .i64 0) ∧ w5.cell? ⟨w.heap.size + 1, 2, none⟩ = some (.slice none 0 0) ∧ w5.frozen? ⟨w.heap.size + 1, 0, none⟩ = false ∧ w5.frozen? ⟨w.heap.size + 1, 1, none⟩ = false ∧ w5.frozen? ⟨w.heap.size + 1, 2, none⟩ = false := by
     refine ⟨?_, ?_, ?_, frozen_of_row _ _ 0 _ _ z0, frozen_of_row _ _ 1 _ _ z0, frozen_of_row _ _ 2 _ _ z0⟩
     ·rw [cell_of_row _ _ 0 _ _ (0, 0) z0]; rfl
     ·rw [cell_of_row _ _ 1 _ _ (0, 0) z0]; rfl
     ·rw [cell_of_row _ _ 2 _ _ (0, 0) z0]; rfl
    obtain ⟨c0, c1, c2, f0, f1, f2⟩ := zc; have HB5 := hI HS5.out.base; clear z0 hz; go_wp2_with (go_at_call 32; refine (wrap_some _ _ _ _ _).mono ?_; rintro e w' ⟨rfl, rfl⟩); refine bodyPost_ret (v := .tuple #[.agg (rcA 0 0 (.slice none 0 0)), .bool false, .int .i64 0, wrapV opJSlot s (lossV s 0 1)]) (by simp [results, Tryz.results116, go_sem, c0, c1, c2, wrapV, lossV, opJSlot]) rfl ⟨.slice none 0 0, by rw [E.out.1, E.out.2.1, E.out.2.2.1, E.out.2.2.2]; rfl, by rw [E.out.1]; exact World.ownsRow_nil _ _ _ _, ((HB5.out.setCell (p := ⟨w.heap.size + 1, 0, none⟩) (by show w.heap.size ≤ w.heap.size + 1; omega) _).setCell (p := ⟨w.heap.size + 1, 1, none⟩) (by show w.heap.size ≤ w.heap.size + 1; omega) _).setCell (p := ⟨w.heap.size + 1, 2, none⟩) (by show w.heap.size ≤ w.heap.size + 1; omega) _⟩
   ·have hz2 : ((l.length : Int) == 0) = false := by simpa using hz
    generalize hn0 : jnew (jl q cf s) m = n0 at *; have HN0 := hI hn0; clear hn0; go_wp2_with fail
    go_loopw [10, 59] (fun n i wr => RelS2 lo c q cf s P k m w l n0 (.slice au l.length cu) n i wr) (fun _ i _ => l.length - (intOf i).toNat)
    case atStart => exact ⟨0, Nat.zero_le _, rfl, rfl, HS5.out, HU5.out⟩
    case round =>
     obtain ⟨j, hj, rfl, rfl, hS6, hU6⟩ := hrel; have HS6 := hI hS6; have HU6 := hI hU6; clear hS6
     by_cases hjl : j < l.length
     ·obtain ⟨b, cap', hs, _, hld, _, _, _, hfi⟩ := hU6.at_ hjl
      injection hs with hs1 hs2 hs3; subst hs1 hs3; clear hs2 hU6; have HFI := hI hfi; have HTT := hI (topG_take (n0 := n0) hjl); have hj8 : l.length ≤ 8 := HJ8.out; generalize l.getD j zeroF = f at *; generalize topG n0 (l.take j) = tg at *; have hc2 : (Value.agg (frA f)).cells = frA f := rfl; have hc0 : (Value.agg (frA zeroF)).cells = frA zeroF := rfl; have hzz := szFr_run; have hz0 := zero_frame; have hsz : (frC f).length = szFr := frC_length HFI.out
      have hst : ∀ W : World, (storeCells ⟨W.heap.size, 0, none⟩ (frC f) 0).run Tryz.prog (W.alloc (.cells (frA zeroF) 151)) = .ok () (W.alloc (.cells (frA f) 151)) := fun W => storeCells_frame zeroF_is HFI.out W
      have hx3 := (frIn_new wr f HFI.out).c3; clear hfi; go_wp2_with fail
      go_roundw
      case rel => exact ⟨j + 1, hjl, by go_num, by rw [HTT.out], HS6.out.then (one_below _ _), (HU6.out.below (one_below _ _)).wider (by simp)⟩
      case measure => simp [intOf]; omega
     ·obtain rfl : j = l.length := by omega
      have HTL := hI (show topG n0 (l.take l.length) = topG n0 l by rw [List.take_length]); go_wp2_with fail
      go_roundw
      case rel => exact ⟨m + 1, hlt, by go_num, by rw [HJN.out, HTL.out], HS6.out, fun i hi => by
       rcases Nat.lt_or_ge i m with h | h
       ·exact HNE.out i h
       ·obtain rfl : i = m := by omega
        rw [HLG.out]; exact fun e => hz (by rw [e]; rfl)⟩
      case measure => simp [intOf]; omega
  ·obtain rfl : m = k := by omega
   have HALL := hI (show jall (jl q cf s) cf.k.toNat from fun i hi => HNE.out i (by rw [HKT.out] at hi; exact hi))
   have hjw : jw q cf s := ⟨HHY.out, HALL.out⟩
   have HEV := hI (show jslotV q cf s = .nilIface from by unfold jslotV; rw [if_pos HHY.out, if_pos HALL.out]); have HEN := hI (show jnewest q cf s = jnew (jl q cf s) m from (if_pos hjw).trans (by rw [HKT.out])); have HLM := hI (show ∀ i, i < m → gL ((List.range m).map (jl q cf s)) i = jl q cf s i from fun i hi => by show ((List.range m).map (jl q cf s)).getD i [] = _; simp [List.getD, hi])
   have HEO := hI (show jrecO q cf s = jrec (gL ((List.range m).map (jl q cf s))) (jnew (jl q cf s) m) ((List.range m).map (jl q cf s)).length from by
    unfold jrecO; rw [if_pos hjw, HEN.out, HKT.out, List.length_map, List.length_range]
    exact (jrec_congr HLM.out).symm)
   have CREC := hI (jrecord_any (.slice (some ⟨P, 0, none⟩) m m) ((List.range m).map (jl q cf s)) (jnew (jl q cf s) m) wr hS.all (by simp; omega) (fun i => by
    by_cases hi : i < m
    ·rw [show ((List.range m).map (jl q cf s)).getD i [] = jl q cf s i from HLM.out i hi]; exact jl_len q cf s i hn8
    ·simp [List.getD, hi]))
   rw [← HEO.out] at CREC; have HRR := hI (show jrecR q cf s = (jrecO q cf s).getD zeroR ∧ jwhole q cf s = (jrecO q cf s).isSome from ⟨rfl, rfl⟩); clear hS hjw HEO; unfold RecBit at CREC; generalize hog : (jrecO q cf s).getD zeroR = x at *; generalize hbg : (jrecO q cf s).isSome = b at *; clear hog hbg; generalize jnew (jl q cf s) m = n at *; go_wp2_with fail; refine CREC.out.mono ?_; rintro e w6 ⟨v, rfl, hv, hb6⟩; have HS6 := hI (HS.out.then hb6); have HV6 := hI (own_base (B' := P + 1) hv (Nat.succ_le_of_lt HS.out.pos)); obtain ⟨gv, cv, rfl, -⟩ := own_slice' hv; have z0 := HS6.out.ans
   have zc : w6.cell? ⟨w.heap.size + 1, 0, none⟩ = some (.int .i64 0) ∧ w6.cell? ⟨w.heap.size + 1, 1, none⟩ = some (.int .i64 0) ∧ w6.cell? ⟨w.heap.size + 1, 2, none⟩ = some (.slice none 0 0) ∧ w6.frozen? ⟨w.heap.size + 1, 0, none⟩ = false ∧ w6.frozen? ⟨w.heap.size + 1, 1, none⟩ = false ∧ w6.frozen? ⟨w.heap.size + 1, 2, none⟩ = false := by
    refine ⟨?_, ?_, ?_, frozen_of_row _ _ 0 _ _ z0, frozen_of_row _ _ 1 _ _ z0, frozen_of_row _ _ 2 _ _ z0⟩
    ·rw [cell_of_row _ _ 0 _ _ (0, 0) z0]; rfl
    ·rw [cell_of_row _ _ 1 _ _ (0, 0) z0]; rfl
    ·rw [cell_of_row _ _ 2 _ _ (0, 0) z0]; rfl
   obtain ⟨c0, c1, c2, f0, f1, f2⟩ := zc
   have hl6 : w.heap.size + 1 < w6.heap.size := by have := HS6.out.pos; have := HS6.out.lt.1; omega
   clear hv hb6 z0; have HNE7 := hI (own_ne HV6.out (show w.heap.size + 1 < P + 1 by have := HS6.out.lt.1; omega)); have HPL := hI (show w.heap.size ≤ P + 1 by have := HS6.out.lt.1; omega); go_wp2_with fail; refine bodyPost_ret (v := .tuple #[.agg (rcA x.q x.t (.slice gv x.b.length cv)), .bool b, .int .i64 n, .nilIface]) (by simp [results, Tryz.results116, go_sem, c0, c1, c2, hl6]) rfl ⟨.slice gv x.b.length cv, by rw [HRR.out.1, HRR.out.2, HEN.out, HEV.out], ?_, ?_⟩
   ·rw [HRR.out.1]
    exact own_base (own_below (own_kept_set (own_kept_set (own_kept_set HV6.out HNE7.out) HNE7.out) HNE7.out) (one_below _ _)) HPL.out
   ·exact balloc (((HS6.out.base.setCell (p := ⟨w.heap.size + 1, 0, none⟩) (by show w.heap.size ≤ w.heap.size + 1; omega) _).setCell (p := ⟨w.heap.size + 1, 1, none⟩) (by show w.heap.size ≤ w.heap.size + 1; omega) _).setCell (p := ⟨w.heap.size + 1, 2, none⟩) (by show w.heap.size ≤ w.heap.size + 1; omega) _) _
theorem jslot_any (w : World) (h : RackIn lo w c q) (cf : Cf) (s : Int) :
  Calls Tryz.prog 116 #[.pointer (some ⟨c.r, 0, none⟩), .agg (cfA cf), .int .i64 s] w (SlotOut q cf s w) := by
 cases hb : jhasSlot cf q s with
 | false => exact jslot_no w h cf s hb
 | true => exact jslot_yes w h cf s hb
theorem neql_block {l m : List UInt8} (hl : l.length = 108) (hm : m.length = 108) (w : World) : (binOp .neq 87 (.agg (bytesV l).toArray) (.agg (bytesV m).toArray)).run Tryz.prog w = .ok (.bool (!decide (l = m))) w := by
 obtain ⟨i0, hi0, _⟩ := info_u8
 rw [run_neq_struct, run_equalIn_array w (9998 + 1) _ _ Tryz.underlying87 hi0, cells_u8, eq_items w 9998 l m _ (fun i hi => by simp at hi; omega), all_eq hl hm]; rfl
theorem guard_block : Tryz.prog.eqGuardType Tryz.prog.depth 87 = false := by kernel_rfl
def RelSK (l m : List (List UInt8)) (w : World) (c : Value) (wr : World) : Prop := ∃ k : Nat, k ≤ l.length ∧ c = .int .i64 k ∧ (∀ x, x < k → l.getD x z108 = m.getD x z108) ∧ Below w.heap.size w wr
theorem blocks_eq {l m : List (List UInt8)} (hl : l.length = m.length) (h : ∀ x, x < l.length → l.getD x z108 = m.getD x z108) : l = m := by
 refine List.ext_getElem hl fun i h1 h2 => ?_
 have := h i h1
 simpa [List.getD, h1, h2] using this
theorem same_blocks (va vb : Value) (l m : List (List UInt8)) (w : World) (ha : SlK w.heap.size w va l) (hb : SlK w.heap.size w vb m) (hl : l.length ≤ 8) :
  Calls Tryz.prog 57 #[va, vb] w (Bit (decide (l = m)) w) := by
 have HA := hI ha
 have HM := hI hb
 by_cases hlen : l.length = m.length
 ·obtain ⟨a1, cap1, rfl⟩ := ha.len
  obtain ⟨a2, cap2, rfl⟩ := hb.len; have Hlen := hI hlen; generalize hr : decide (l = m) = r; have Hr := hI hr; clear ha hb hr; rw [← hlen]; clear hlen
  go_enter Tryz.func57, Tryz.ntmps57
  go_wp2_with fail
  go_loopw [5] (fun c wr => RelSK l m w c wr) (fun c _ => l.length - (intOf c).toNat)
  case atStart => exact ⟨0, Nat.zero_le _, rfl, fun x hx => absurd hx (by omega), Below.refl _ _⟩
  case round =>
   obtain ⟨k, hk, rfl, hno, hB1⟩ := hrel; have Hno := hI hno; have HB1 := hI hB1; have hz := szBk_run; have hgd := guard_block
   by_cases hlt : k < l.length
   ·obtain ⟨b, cap', h1, hbB, h2, hd1⟩ := HA.out.at_ hlt
    obtain ⟨b', cap'', h3, hbB', h4, hd2⟩ := HM.out.at_ (i := k) (by have := Hlen.out; omega); rw [← Hlen.out] at h3; injection h1 with h1 h1' h1''; injection h3 with h3 h3' h3''; subst h1 h1'' h3 h3''
    have HD1 := hI (fun (w' : World) (hw : Below w.heap.size w w') => show (loadCellsFrom ⟨b, k * szBk, none⟩ 0 szBk #[]).run Tryz.prog w' = .ok (bytesV (l.getD k z108)).toArray w' from by
     obtain ⟨b2, c2, q, _, e, _⟩ := (HA.out.below hw).at_ hlt; injection q with q1 q2 q3; injection q1 with q1; injection q1 with q1; subst q1
     exact e)
    have HD2 := hI (fun (w' : World) (hw : Below w.heap.size w w') => show (loadCellsFrom ⟨b', k * szBk, none⟩ 0 szBk #[]).run Tryz.prog w' = .ok (bytesV (m.getD k z108)).toArray w' from by
     obtain ⟨b2, c2, q, _, e, _⟩ := (HM.out.below hw).at_ (i := k) (by have := Hlen.out; omega); injection q with q1 q2 q3; injection q1 with q1; injection q1 with q1; subst q1
     exact e)
    have hq1 := HD1.out; have hq2 := HD2.out
    have hne := fun w => neql_block hd1 hd2 w
    clear h1' h3' h2 h4 hno hB1
    by_cases he : l.getD k z108 = m.getD k z108
    ·have He := hI he
     have hd : decide (l.getD k z108 = m.getD k z108) = true := decide_eq_true he; rw [hd] at hne; clear hd he hd1 hd2; generalize bytesV (l.getD k z108) = x at *; generalize bytesV (m.getD k z108) = y at *; go_wp2_with fail; refine wp_region_noPanic ?_; refine wp_region_held_drew (S := (fun w' => Below w.heap.size w w')) (by kernel_rfl) HB1.out.drew (fun hHeld => ?_); refine hT 0 ⟨some 17, _, _, _, _, _⟩ rfl hHeld ?_; simp only [hP]; refine hT 1 ⟨some 18, _, _, _, _, _⟩ rfl hHeld ?_; simp only [hP]; refine hT 2 ⟨some 19, _, _, _, _, _⟩ rfl hHeld ?_; simp only [hP]; refine hT 3 ⟨some 20, _, _, _, _, _⟩ rfl hHeld ?_; simp only [hP]; refine hT 4 ⟨some 21, _, _, _, _, _⟩ rfl hHeld ?_; simp only [hP]; refine hT 5 ⟨some 22, _, _, _, _, _⟩ rfl hHeld ?_; simp only [hP]; refine hT 6 ⟨some 23, _, _, _, _, _⟩ rfl hHeld ?_; simp only [hP]; refine hT 7 ⟨some 24, _, _, _, _, _⟩ rfl hHeld ?_; simp only [hP]; refine hT 8 ⟨some 25, _, _, _, _, _⟩ rfl hHeld ?_; simp only [hP]; refine wpAnyH_done (by kernel_rfl) ?_ _; refine NoPanic.normal ?_; go_wp2_with fail
     go_roundw
     case rel =>
      refine ⟨k + 1, by omega, by go_num, fun y hy => ?_, HB1.out.drew⟩
      rcases Nat.lt_or_ge y k with h | h
      ·exact Hno.out y h
      ·obtain rfl : y = k := by omega
       exact He.out
     case measure => simp [intOf]; omega
    ·have He := hI (show ¬ l = m from fun e => he (by rw [e]))
     have hd : decide (l.getD k z108 = m.getD k z108) = false := decide_eq_false he; rw [hd] at hne; clear hd he hd1 hd2; generalize bytesV (l.getD k z108) = x at *; generalize bytesV (m.getD k z108) = y at *; go_wp2_with fail; refine wp_region_noPanic ?_; refine wp_region_held_drew (S := (fun w' => Below w.heap.size w w')) (by kernel_rfl) HB1.out.drew (fun hHeld => ?_); refine hT 0 ⟨some 17, _, _, _, _, _⟩ rfl hHeld ?_; simp only [hP]; refine hT 1 ⟨some 18, _, _, _, _, _⟩ rfl hHeld ?_; simp only [hP]; refine hT 2 ⟨some 19, _, _, _, _, _⟩ rfl hHeld ?_; simp only [hP]; refine hT 3 ⟨some 20, _, _, _, _, _⟩ rfl hHeld ?_; simp only [hP]; refine hT 4 ⟨some 21, _, _, _, _, _⟩ rfl hHeld ?_; simp only [hP]; refine hT 5 ⟨some 22, _, _, _, _, _⟩ rfl hHeld ?_; simp only [hP]; refine hT 6 ⟨some 23, _, _, _, _, _⟩ rfl hHeld ?_; simp only [hP]; refine hT 7 ⟨some 24, _, _, _, _, _⟩ rfl hHeld ?_; simp only [hP]; refine hT 8 ⟨some 25, _, _, _, _, _⟩ rfl hHeld ?_; simp only [hP]; refine wpAnyH_done (by kernel_rfl) ?_ _; refine NoPanic.normal ?_; go_wp2_with fail; go_ret; exact bit (by rw [← Hr.out]; simpa using He.out) HB1.out.drew
   ·obtain rfl : k = l.length := by omega
    clear hno hB1; go_wp2_with fail; go_ret; exact bit (by rw [← Hr.out]; exact (decide_eq_true (blocks_eq Hlen.out Hno.out)).symm) HB1.out
 ·obtain ⟨a1, cap1, rfl⟩ := ha.len
  obtain ⟨a2, cap2, rfl⟩ := hb.len
  have e1 : ((l.length : Int) != m.length) = true := by simpa using (by omega : ¬ (l.length : Int) = m.length)
  have e2 : ¬ (l.length : Int) = m.length := by omega
  have Hr := hI (show decide (l = m) = false from decide_eq_false fun e => hlen (by rw [e])); rw [Hr.out]; clear ha hb hlen
  go_enter Tryz.func57, Tryz.ntmps57
  go_wp2_with fail; go_ret; exact bit rfl (Below.refl _ _)
structure RcB (B : Nat) (x : Rc) (v : Value) (b : Nat) (w : World) : Prop where
 is : x.is
 le : B ≤ b
 top : w.heap[b]? = some (.cells (rcA x.q x.t v) 135 (0, 0))
 row : w.ownsRow B 87 108 v x.b.length (x.b.map bytesV).flatten
theorem RcB.lt (h : RcB B x v b w) : b < w.heap.size := (Array.getElem?_eq_some_iff.1 h.top).1
theorem RcB.below (h : RcB B x v b w) (hb : Below w.heap.size w w') : RcB B x v b w' := ⟨h.is, h.le, (hb.block _ h.lt).trans h.top, own_below h.row hb⟩
theorem RcB.cells (h : RcB B x v b w) : w.cell? ⟨b, 0, none⟩ = some (.int .i64 x.q) ∧ w.cell? ⟨b, 1, none⟩ = some (.int .i64 x.t) ∧ w.cell? ⟨b, 2, none⟩ = some v := by
 refine ⟨?_, ?_, ?_⟩ <;> rw [cell_of_row _ _ _ _ _ (0, 0) h.top] <;> rfl
theorem rcB_new (hx : x.is) (hB : B ≤ w.heap.size) (hv : w.ownsRow B 87 108 v x.b.length (x.b.map bytesV).flatten) : RcB B x v w.heap.size (w.alloc (.cells (rcA x.q x.t v) 135)) :=
 ⟨hx, hB, heap_alloc_new _ _, own_below hv (one_below _ _)⟩
theorem jrecR_is (q : Rk) (c : Cf) (s : Int) : (jrecR q c s).is := by
 have key : ∀ {n : Int} {k : Nat} {x : Rc}, jrec (jl q c s) n k = some x → x.is := fun {n k} => by
  induction k with
  | zero => intro x h; unfold jrec at h; injection h with h; subst h; exact fun d hd => by cases hd
  | succ k ih =>
   intro x h; unfold jrec at h
   cases hr : jrec (jl q c s) n k with
   | none => rw [hr] at h; cases h
   | some y =>
    rw [hr] at h
    cases hp : jpick n y.t k (jl q c s k) with
    | none => simp only [hp] at h; cases h
    | some f =>
     simp only [hp] at h; injection h with h; subst h; intro d hd
     rcases List.mem_append.1 hd with hd | hd
     ·exact ih hr d hd
     ·rw [List.mem_singleton.1 hd]
      exact jl_is f (List.mem_of_find?_eq_some hp)
 unfold jrecR
 cases h : jrecO q c s with
 | none => exact fun d hd => by cases hd
 | some x =>
  unfold jrecO at h
  split at h
  ·exact key h
  ·cases h
theorem jlog_n (q : Rk) (c : Cf) (x : Rc) : (Rk.jlog q c x).n = q.n := by
 unfold Rk.jlog; split
 ·exact runS_n _ _
 ·rfl
theorem jblank_n (q : Rk) (c : Cf) (s : Int) : (Rk.jblank q c s).n = q.n := by
 unfold Rk.jblank; split
 ·exact runS_n _ _
 ·rfl
end Go.Proofs.YtilljaneegbhlaaGreatDoor
