import Derived.Test.YthbpfnohbilhaaaGreatDoorZBMNums
import Derived.Test.YthbpfnohbilhaaaGreatDoorZBYMem
import Derived.Deep.RegionHeld3
import Derived.Test.YthbpfnohbilhaaaGreatDoorZBIsTop
namespace Go.Proofs.YthbpfnohbilhaaaGreatDoor
open Go.RowKit Go.Deep Crc Dk Qk Go.Maps Hf
set_option maxHeartbeats 16000000
set_option maxRecDepth 100000
variable {lo : Nat} {c : Lc} {q : Rk}
theorem stands_any (w : World) (h : RackIn lo w c q) (d : Nat) (sec : Int) (f : Fr) (hf : f.is) :
  Calls Tryz.prog 138 #[.pointer (some ⟨c.r, 0, none⟩), .int .i64 (d : Int), .int .i64 sec, .agg (frA f)] w (Bit (!lacks q d sec f) w) := by
 have HB0 := hI (one_below w (.cells (frA f) 147))
 have HR0 := hI (h.below HB0.out)
 have CG := hI (qget_any _ HR0.out (d : Int) sec f.k f.s f.t)
 have HGI := hI (qgot_is q (d : Int) sec f.k f.s f.t)
 have HLK := hI (show (!lacks q d sec f) = (qfound q d sec f.k f.s f.t && frEq (qgot q d sec f.k f.s f.t) f) by unfold lacks; rw [Bool.not_not])
 rw [HLK.out]
 have HF0 := hI (frB_new w f hf)
 have HFI := hI hf
 have b0 := frC_0 f
 have b1 := frC_1 f
 have b2 := frC_2 f
 have hcf : (Value.agg (frA f)).cells = frA f := rfl
 clear h HLK hf
 generalize qgot q (d : Int) sec f.k f.s f.t = g at *
 generalize qfound q (d : Int) sec f.k f.s f.t = bf at *
 have hc2 : (Value.agg (frA g)).cells = frA g := rfl
 have hc0 : (Value.agg (frA zeroF)).cells = frA zeroF := rfl
 have hz := szFr_run
 have hz0 := zero_frame
 have hsz : (frC g).length = szFr := frC_length HGI.out
 have hst : ∀ W : World, (storeCells ⟨W.heap.size, 0, none⟩ (frC g) 0).run Tryz.prog (W.alloc (.cells (frA zeroF) 147)) = .ok () (W.alloc (.cells (frA g) 147)) := fun W => storeCells_frame zeroF_is HGI.out W
 have hld : ∀ W : World, (loadCellsFrom ⟨W.heap.size, 0, none⟩ 0 szFr #[]).run Tryz.prog (W.alloc (.cells (frA g) 147)) = .ok (frA g) (W.alloc (.cells (frA g) 147)) := fun W => (frIn_new W g HGI.out).load
 have heq : ∀ W, (binOp .eql 147 (.agg (frA g)) (.agg (frA f))).run Tryz.prog W = .ok (.bool (frEq g f)) W := fun W => eql_frames g f HGI.out HFI.out W
 go_enter Tryz.func138, Tryz.ntmps138
 go_wp2_with fail
 refine CG.out.mono ?_
 rintro e w1 ⟨rfl, hb1⟩
 have HB1 := hI (bthen HB0.out hb1)
 have HF2 := hI ((HF0.out.below (B := (w.alloc (.cells (frA f) 147)).heap.size) (by simp) hb1).below (w' := w1.alloc (.cells (frA g) 147)) (B := w1.heap.size) (by have := hb1.size; simp at this; omega) (one_below _ _))
 have hl2 := HF2.out.fin.load
 clear hb1
 cases hbf : bf with
 | false =>
  have HBF := hI hbf; clear hbf; go_wp2_with fail; go_ret; exact bit (by rw [HBF.out]; rfl) (balloc HB1.out _)
 | true =>
  have HBF := hI hbf; clear hbf; go_wp2_with fail; go_ret; exact bit (by rw [HBF.out]; rfl) (balloc HB1.out _)
structure MfS (lo : Nat) (c : Lc) (U : List Nat) (vU : Value) (w : World) (n : Nat) (q : Rk) (w' : World) : Prop where
 rk : RkS lo c n q w w'
 up : w'.ownsRow w.heap.size 3 1 vU U.length (numsV U)
variable {U : List Nat} {vU : Value} {w w1 w2 : World} {q2 : Rk}
theorem MfS.next {n : Nat} (h : MfS lo c U vU w n q w1) (hf : Far w.heap.size c n) (hr : RackIn lo w2 c q2) (hn : q2.n = q.n) (hc : RC c q.n w1 w2) : MfS lo c U vU w n q2 w2 := by
 refine ⟨h.rk.next hr hn hc, ?_⟩
 rw [h.rk.nn] at hc
 exact own_rc h.up hf hc
def RelMf (lo : Nat) (c : Lc) (U : List Nat) (vU : Value) (w : World) (q : Rk) (i : Value) (wr : World) : Prop :=
 ∃ (m : Nat) (r : Rk), m ≤ U.length ∧ i = .int .i64 m ∧ RunTo q (fops U 0) r (fops U m) ∧ MfS lo c U vU w q.n r wr
theorem mflush_any (w : World) (h : RackIn lo w c q) :
  Calls Tryz.prog 139 #[.pointer (some ⟨c.r, 0, none⟩)] w (NextR lo c q.n (runS q (fops (ups q) 0)) (runE q (fops (ups q) 0)) w) := by
 have HFAR := hI (show Far w.heap.size c q.n from h.far)
 have CU := hI (qonline_any w h)
 have HR0 := hI h
 have HUL := hI (upsN_length q q.n)
 have hn8 : q.n ≤ 8 := h.ok.n8
 clear h
 go_enter Tryz.func139, Tryz.ntmps139
 go_wp2_with fail
 refine CU.out.mono ?_
 rintro e w2 ⟨vU, rfl, hU, hb2⟩
 have H2 := hI (show MfS lo c (ups q) vU w q.n q w2 from ⟨(RkS.start HR0.out).then hb2, hU⟩)
 obtain ⟨aU, cU, rfl, -⟩ := own_slice hU
 clear hU hb2
 generalize hUd : ups q = U at *
 have hul : U.length ≤ 8 := by have := HUL.out; rw [← hUd]; unfold ups; omega
 clear hUd
 go_wp2_with fail
 go_loopw [9] (fun i wr => RelMf lo c U (.slice aU U.length cU) w q i wr) (fun i _ => U.length - (intOf i).toNat)
 case atStart => exact ⟨0, q, Nat.zero_le _, rfl, RunTo.refl _ _, H2.out⟩
 case round =>
  obtain ⟨m, r2, hm2, rfl, hrun2, hS2⟩ := hrel
  by_cases hlt2 : m < U.length
  ·obtain ⟨gV, cV', hs, hcell⟩ := nums_cell hS2.up rfl hlt2
   injection hs with hs1 hs2 hs3; subst hs1 hs3; clear hs2; have HRN := hI (hrun2.congr (fops_next hlt2)); have HS2 := hI hS2; clear hrun2 hS2; generalize U.getD m 0 = d at *; have HW := hI (qflush_any wr HS2.out.rk.rack (d : Int))
   by_cases hw : r2.fcode (d : Int) = 0
   ·rw [hw, evs_zero] at HW
    have HN := hI (HRN.out.next hw); clear hw; go_wp2_with fail; refine HW.out.mono ?_; rintro e w4 ⟨rfl, hR4, hC4⟩; have HS4 := hI (HS2.out.next HFAR.out hR4 (flush_n _ _) hC4); clear hR4 hC4; go_wp2_with fail
    go_roundw
    case rel => exact ⟨m + 1, _, hlt2, by go_num, HN.out, HS4.out⟩
    case measure => simp [intOf]; omega
   ·rw [evs_some _ _ hw] at HW
    obtain ⟨e1, e2, e3⟩ := HRN.out.fail hw; have hev : Rop.ev r2 (.f (d : Int)) = wrapV opQFlush (d : Int) (errV (r2.fcode (d : Int))) := evs_some _ _ hw; rw [hev] at e3; have E1 := hI e1; have E3 := hI e3; clear e1 e2 e3 hev hw; unfold wrapV errV at HW; go_wp2_with fail; refine HW.out.mono ?_; rintro e w4 ⟨rfl, hR4, hC4⟩; have HS4 := hI (HS2.out.next HFAR.out hR4 (flush_n _ _) hC4); clear hR4 hC4; go_wp2_with fail; rw [E1.out, E3.out]; exact bodyPost_ret (v := wrapV opQFlush (d : Int) (errV (r2.fcode (d : Int)))) (by simp [results, Tryz.results139, go_sem, wrapV, errV, opQFlush]) rfl ⟨rfl, HS4.out.rk.rack, HS4.out.rk.rc⟩
  ·obtain rfl : m = U.length := by omega
   have HRN := hI (hrun2.congr (fops_end U)); have HS2 := hI hS2; clear hrun2 hS2; obtain ⟨e1, e2, e3⟩ := HRN.out.done; have E1 := hI e1; have E3 := hI e3; clear e1 e2 e3; go_wp2_with fail; rw [E1.out, E3.out]; go_ret; exact ⟨rfl, HS2.out.rk.rack, HS2.out.rk.rc⟩
def FrAt (S : World → Prop) (fs : List Fr) (w : World) (e : Ending) (w' : World) : Prop :=
 Below w.heap.size w w' ∧ ∃ b o cap, e = .returned (.slice (some ⟨b, o, none⟩) fs.length cap) ∧ ∀ w2, S w2 → ∀ i, i < fs.length → (loadCellsFrom ⟨b, o + i * szFr, none⟩ 0 szFr #[]).run Tryz.prog w2 = .ok (frA (fs.getD i zeroF)) w2
def FillOut (lo : Nat) (c : Lc) (q : Rk) (sec : Nat) (W : Nat → List Fr) (w : World) (e : Ending) (w' : World) : Prop :=
 ∃ n : Nat, e = .returned (.tuple #[.int .i64 (n : Int), runE q (fillOps q sec W)]) ∧ (runC q (fillOps q sec W) = 0 → n = (fillW q sec W).length) ∧ RackIn lo w' c (runS q (fillOps q sec W)) ∧ RC c q.n w w'
structure FlS (lo : Nat) (c : Lc) (S : World → Prop) (U : List Nat) (vU : Value) (w : World) (n : Nat) (q : Rk) (w' : World) : Prop where
 rk : RkS lo c n q w w'
 up : w'.ownsRow w.heap.size 3 1 vU U.length (numsV U)
 s : S w'
structure Stays (S : World → Prop) (c : Lc) (n : Nat) : Prop where
 below : ∀ w1 w2, S w1 → Below w1.heap.size w1 w2 → S w2
 rc : ∀ w1 w2, S w1 → RC c n w1 w2 → S w2
theorem FlS.then {S : World → Prop} {n : Nat} (h : FlS lo c S U vU w n q w1) (hS : Stays S c n) (hb : Below w1.heap.size w1 w2) : FlS lo c S U vU w n q w2 :=
 ⟨h.rk.then hb, own_below h.up hb, hS.below _ _ h.s hb⟩
theorem FlS.next {S : World → Prop} {n : Nat} (h : FlS lo c S U vU w n q w1) (hS : Stays S c n) (hf : Far w.heap.size c n) (hr : RackIn lo w2 c q2) (hn : q2.n = q.n) (hc : RC c q.n w1 w2) : FlS lo c S U vU w n q2 w2 := by
 refine ⟨h.rk.next hr hn hc, ?_, ?_⟩
 ·rw [h.rk.nn] at hc; exact own_rc h.up hf hc
 ·rw [h.rk.nn] at hc; exact hS.rc _ _ h.s hc
def RelFl1 (lo : Nat) (c : Lc) (S : World → Prop) (q : Rk) (sec : Nat) (W : Nat → List Fr) (U : List Nat) (vU : Value) (w : World) (x i : Value) (wr : World) : Prop :=
 ∃ (m n : Nat) (r : Rk), m ≤ U.length ∧ i = .int .i64 m ∧ x = .int .i64 n ∧ FillAt q sec W m 0 n r (lwops q sec W U m) ∧ FlS lo c S U vU w q.n r wr
def RelFl2 (lo : Nat) (c : Lc) (S : World → Prop) (q : Rk) (sec : Nat) (W : Nat → List Fr) (U : List Nat) (vU : Value) (w : World) (m d : Nat) (x i : Value) (wr : World) : Prop :=
 ∃ (j n : Nat) (r : Rk), j ≤ (W d).length ∧ i = .int .i64 j ∧ x = .int .i64 n ∧ FillAt q sec W m j n r (ldops q sec (W d) d j ++ lwops q sec W U (m + 1)) ∧ FlS lo c S U vU w q.n r wr
theorem fillW_le {sec : Nat} {W : Nat → List Fr} (h8 : q.n ≤ 8) (hW : ∀ d, (W d).length ≤ 8) : (fillW q sec W).length ≤ 64 := by
  have h1 : ∀ U : List Nat, (U.flatMap fun (d : Nat) => ldops q sec (W d) d 0).length ≤ U.length * 8 := fun U => by
    induction U with
    | nil => exact Nat.le_refl _
    | cons d U ih =>
      rw [List.flatMap_cons, List.length_append, List.length_cons]
      have hl : ∀ k j, j + k = (W d).length → (ldops q sec (W d) d j).length ≤ k := fun k => by
        induction k with
        | zero => intro j e; obtain rfl : j = (W d).length := by omega
                  rw [ldops_end]; exact Nat.le_refl _
        | succ k ih2 =>
          intro j e
          cases hb : lacks q d ((sec : Int) + j) ((W d).getD j zeroF) with
          | true => rw [ldops_yes (by omega) hb, List.length_cons]; have := ih2 (j + 1) (by omega); omega
          | false => rw [ldops_no (by omega) hb]; have := ih2 (j + 1) (by omega); omega
      have := hl (W d).length 0 (by omega); have := hW d; omega
  have h2 := h1 (ups q)
  have h3 : (ups q).length ≤ q.n := upsN_length q q.n
  have e : (fillW q sec W).length = ((ups q).flatMap fun (d : Nat) => ldops q sec (W d) d 0).length := by unfold fillW lwops; rw [List.drop_zero]
  omega
theorem fill_any (w : World) (h : RackIn lo w c q) (F cb : Nat) (sec : Nat) (W : Nat → List Fr) (S : World → Prop) (hsec : sec ≤ 1000) (hoff : q.off = false) (hW8 : ∀ d, (W d).length ≤ 8) (hWi : ∀ d, ∀ f ∈ W d, f.is) (hS0 : S w) (hS : Stays S c q.n) (hE : ∀ (args : Array Value) (W' : World), (callFunc F args).run Tryz.prog W' = .ok (.enter F args) W')
  (hF : ∀ (w' : World) (d : Nat), d < q.n → S w' → Calls Tryz.prog F #[.int .i64 (d : Int), .pointer (some ⟨cb, 0, none⟩)] w' (FrAt S (W d) w')) :
  Calls Tryz.prog 112 #[.pointer (some ⟨c.r, 0, none⟩), .int .i64 (sec : Int), .func (.func F) #[] #[.pointer (some ⟨cb, 0, none⟩)]] w (FillOut lo c q sec W w) := by
 have HFAR := hI (show Far w.heap.size c q.n from h.far)
 have CU := hI (qonline_any w h)
 have HR0 := hI h
 have HUL := hI (upsN_length q q.n)
 have hn8 : q.n ≤ 8 := h.ok.n8
 have HFL := hI (fillW_le (sec := sec) hn8 hW8)
 have HST := hI hS
 have HCF := hI hF
 have HWI := hI hWi
 have HW8 := hI hW8
 have HS0 := hI hS0
 have HUN := hI (fun (m : Nat) (hm : m < (ups q).length) => show (ups q).getD m 0 < q.n by
  have : (ups q).getD m 0 ∈ ups q := by simp only [List.getD, List.getElem?_eq_getElem hm, Option.getD_some]; exact List.getElem_mem hm
  exact (mem_ups.1 this).1)
 clear h hS hF hWi hW8 hS0
 go_enter Tryz.func112, Tryz.ntmps112
 go_wp2_with fail
 refine CU.out.mono ?_
 rintro e w2 ⟨vU, rfl, hU, hb2⟩
 have H2 := hI (show FlS lo c S (ups q) vU w q.n q w2 from ⟨(RkS.start HR0.out).then hb2, hU, HST.out.below _ _ HS0.out hb2⟩)
 obtain ⟨aU, cU, rfl, -⟩ := own_slice hU
 have HA0 := hI (FillAt.start q sec W)
 clear hU hb2
 have HSK := hI (fun (m j n : Nat) (r : Rk) (M : List Rop) (hA : FillAt q sec W m j n r M) (hm : m < (ups q).length) (f : Fr) => hA.look hm f)
 have HWR := hI (fun (m j n : Nat) (r : Rk) (M : List Rop) (l : List UInt8) (hA : FillAt q sec W m j n r (.w ((ups q).getD m 0 : Nat) ((sec : Int) + j) l :: M)) (h0 : (Rop.w ((ups q).getD m 0 : Nat) ((sec : Int) + j) l).code r = 0) => hA.wrote h0)
 have HDK := hI (fun (m j n : Nat) (r : Rk) (M : List Rop) (hA : FillAt q sec W m j n r M) (hm : m < (ups q).length) => hA.disk hm)
 have HSM := hI (fun (m j n : Nat) (r : Rk) (hA : FillAt q sec W m j n r []) (hn : n ≠ 0) => hA.some_ hn)
 generalize hUd : ups q = U at *
 have HUD := hI hUd
 have hul : U.length ≤ 8 := by have := HUL.out; rw [← hUd]; unfold ups; omega
 clear hUd
 go_wp2_with fail
 go_loopw [8, 17] (fun x i wr => RelFl1 lo c S q sec W U (.slice aU U.length cU) w x i wr) (fun _ i _ => U.length - (intOf i).toNat)
 case atStart => exact ⟨0, 0, q, Nat.zero_le _, rfl, rfl, HA0.out, H2.out⟩
 case round =>
  obtain ⟨m, n, r, hm, rfl, rfl, hA, hS⟩ := hrel
  by_cases hlt : m < U.length
  ·obtain ⟨gU, cU', hs, hcell⟩ := nums_cell hS.up rfl hlt
   injection hs with hs1 hs2 hs3; subst hs1 hs3; clear hs2; have HA := hI (hA.congr (lwops_next hlt)); have HS := hI hS; have CF := hI (HCF.out wr (U.getD m 0) (HUN.out m hlt) hS.s); have hwl := HW8.out (U.getD m 0); have HSKm := hI (fun (j n : Nat) (r : Rk) (M : List Rop) (hA : FillAt q sec W m j n r M) (f : Fr) => HSK.out m j n r M hA hlt f); have HWRm := hI (HWR.out m); have HDKm := hI (fun (j n : Nat) (r : Rk) (M : List Rop) (hA : FillAt q sec W m j n r M) => HDK.out m j n r M hA hlt); clear hA hS; generalize U.getD m 0 = d at *; go_wp2_with fail; refine CF.out.mono ?_; rintro e w3 ⟨hb3, b, o, cap, rfl, hld⟩; have HS3 := hI (HS.out.then HST.out hb3); have HLD := hI hld; clear hb3 hld; go_wp2_with fail
   go_loopw [8, 25] (fun x i wr => RelFl2 lo c S q sec W U (.slice (some ⟨gU, 0, none⟩) U.length cU) w m d x i wr) (fun _ i _ => (W d).length - (intOf i).toNat)
   case atStart => exact ⟨0, n, r, Nat.zero_le _, rfl, rfl, HA.out, HS3.out⟩
   case round =>
    obtain ⟨j, n2, r2, hj, rfl, rfl, hA2, hS2⟩ := hrel; have hle := hA2.le
    have hn64 : n2 ≤ 64 := by have := HFL.out; omega
    by_cases hjl : j < (W d).length
    ·have hld := HLD.out wr hS2.s j hjl
     have HLK := hI (HSKm.out j n2 r2 _ hA2 ((W d).getD j zeroF)); have HFI := hI (HWI.out (d) ((W d).getD j zeroF) (frs_mem hjl)); have HA2 := hI hA2; have HS2 := hI hS2; have CP := hI (fun W' => put_any ((W d).getD j zeroF) W' HFI.out); have CS := hI (fun (W' : World) (hr : RackIn lo W' c r2) => stands_any W' hr (d) ((sec : Int) + j) ((W d).getD j zeroF) HFI.out); have hz := szFr_run; have hz0 := zero_frame; have hc2 : (Value.agg (frA ((W d).getD j zeroF))).cells = frA ((W d).getD j zeroF) := rfl; have hc0 : (Value.agg (frA zeroF)).cells = frA zeroF := rfl; have hsz : (frC ((W d).getD j zeroF)).length = szFr := frC_length HFI.out
     have hst : ∀ W' : World, (storeCells ⟨W'.heap.size, 0, none⟩ (frC ((W d).getD j zeroF)) 0).run Tryz.prog (W'.alloc (.cells (frA zeroF) 147)) = .ok () (W'.alloc (.cells (frA ((W d).getD j zeroF)) 147)) := fun W' => storeCells_frame zeroF_is HFI.out W'
     have hlf : ∀ W' : World, (loadCellsFrom ⟨W'.heap.size, 0, none⟩ 0 szFr #[]).run Tryz.prog (W'.alloc (.cells (frA ((W d).getD j zeroF)) 147)) = .ok (frA ((W d).getD j zeroF)) (W'.alloc (.cells (frA ((W d).getD j zeroF)) 147)) := fun W' => (frIn_new W' _ HFI.out).load
     have HFB := hI (frB_new wr ((W d).getD j zeroF) HFI.out); have hsj : IntKind.i64.wrap ((sec : Int) + (j : Int)) = (sec : Int) + (j : Int) := IntWalk.i64_in _ (by omega); have hwl2 := hwl; clear hA2 hS2
     cases hlk : lacks q (d) ((sec : Int) + j) ((W d).getD j zeroF) with
     | false =>
      have HN := hI (HA2.out.congr (by rw [ldops_no hjl hlk])).skip; rw [hlk] at HLK; have HS3 := hI (HS2.out.then HST.out (one_below wr (.cells (frA ((W d).getD j zeroF)) 147))); have CS2 := hI (CS.out _ HS3.out.rk.rack); rw [HLK.out] at CS2; clear CS hlk; generalize (W d).getD j zeroF = f at *; go_wp2_with fail; refine CS2.out.mono ?_; rintro e w4 ⟨rfl, hb4⟩; have HS4 := hI (HS3.out.then HST.out hb4); clear hb4; go_wp2_with fail
      go_roundw
      case rel => exact ⟨j + 1, n2, r2, hjl, by go_num, rfl, HN.out, HS4.out⟩
      case measure => simp [intOf]; omega
     | true =>
      have HN := hI (HA2.out.congr (by rw [ldops_yes hjl hlk, List.cons_append])); rw [hlk] at HLK; have HS3 := hI (HS2.out.then HST.out (one_below wr (.cells (frA ((W d).getD j zeroF)) 147))); have CS2 := hI (CS.out _ HS3.out.rk.rack); rw [HLK.out] at CS2; clear CS hlk; have HWW := hI (fun (hc : (Rop.w (d : Nat) ((sec : Int) + j) (put ((W d).getD j zeroF))).code r2 = 0) => HWRm.out j n2 r2 _ _ HN.out hc); have HFF := hI (fun (hc : (Rop.w (d : Nat) ((sec : Int) + j) (put ((W d).getD j zeroF))).code r2 ≠ 0) => HN.out.fail hc); generalize (W d).getD j zeroF = f at *; generalize put f = l at *; go_wp2_with fail; refine CS2.out.mono ?_; rintro e w4 ⟨rfl, hb4⟩; have HS4 := hI (HS3.out.then HST.out hb4); have hl4 := (HFB.out.below (B := (wr.alloc (.cells (frA f) 147)).heap.size) (by simp) hb4).fin.load; clear hb4; go_wp2_with fail; refine (CP.out _).mono ?_; rintro e w5 ⟨v5, rfl, hown5, hb5⟩; have HS5 := hI (HS4.out.then HST.out hb5); have HV5 := hI (slb_own hown5); obtain ⟨g5, c5, rfl, -⟩ := own_slice hown5; clear hown5 hb5; have HW := hI (qwrite_any w5 HS5.out.rk.rack (d : Int) ((sec : Int) + (j : Int)) _ l HV5.out)
      by_cases hw : r2.wcode (d : Int) ((sec : Int) + (j : Int)) l.length = 0
      ·rw [hw, evs_zero] at HW
       have HN2 := hI (HWW.out hw); clear hw; go_wp2_with fail; refine HW.out.mono ?_; rintro e w6 ⟨rfl, hR6, hC6⟩; have HS6 := hI (HS5.out.next HST.out HFAR.out hR6 (write_n _ _ _ _) hC6); clear hR6 hC6; go_wp2_with fail
       go_roundw
       case rel => exact ⟨j + 1, n2 + 1, _, hjl, by go_num, by go_num, HN2.out, HS6.out⟩
       case measure => simp [intOf]; omega
      ·rw [evs_some _ _ hw] at HW
       obtain ⟨e1, e2, e3⟩ := HFF.out hw; have hev : Rop.ev r2 (.w (d : Int) ((sec : Int) + (j : Int)) l) = wrapV opQWrite (d : Int) (errV (r2.wcode (d : Int) ((sec : Int) + (j : Int)) l.length)) := evs_some _ _ hw; rw [hev] at e3; have E1 := hI e1; have E2 := hI (show runC q (fillOps q sec W) ≠ 0 by rw [e2]; exact hw); have E3 := hI e3; clear e1 e2 e3 hev hw; unfold wrapV errV at HW; go_wp2_with fail; refine HW.out.mono ?_; rintro e w6 ⟨rfl, hR6, hC6⟩; have HS6 := hI (HS5.out.next HST.out HFAR.out hR6 (write_n _ _ _ _) hC6); clear hR6 hC6; go_wp2_with fail; exact bodyPost_ret (v := .tuple #[.int .i64 (n2 : Int), wrapV opQWrite (d : Int) (errV (r2.wcode (d : Int) ((sec : Int) + (j : Int)) l.length))]) (by simp [results, Tryz.results112, go_sem, wrapV, errV, opQWrite]) rfl ⟨n2, by rw [E3.out], fun hc => absurd hc E2.out, by rw [E1.out]; exact HS6.out.rk.rack, HS6.out.rk.rc⟩
    ·obtain rfl : j = (W d).length := by omega
     have HN := hI (HDKm.out _ _ _ _ (hA2.congr (by rw [ldops_end, List.nil_append]))); have HS2 := hI hS2; clear hA2 hS2; go_wp2_with fail
     go_roundw
     case rel => exact ⟨m + 1, n2, r2, hlt, by go_num, rfl, HN.out, HS2.out⟩
     case measure => simp [intOf]; omega
  ·obtain rfl : m = U.length := by omega
   have HA := hI (hA.congr (lwops_end q sec W U)); have HS := hI hS; have hle := HA.out.le
   have hn64 : n ≤ 64 := by have := HFL.out; omega
   clear hA hS
   by_cases hn0 : n = 0
   ·subst hn0
    obtain ⟨a1, a2, a3⟩ := HA.out.none_; have A1 := hI a1; have A2 := hI a2; subst a3; clear a1 a2; go_wp2_with fail; exact bodyPost_ret (v := .tuple #[.int .i64 0, .nilIface]) (by simp [results, Tryz.results112, go_sem]) rfl ⟨0, by rw [A2.out]; rfl, fun _ => by rw [A1.out]; rfl, by rw [A2.out]; exact HS.out.rk.rack, HS.out.rk.rc⟩
   ·have hnb : ((n : Int) == 0) = false := by simpa using hn0
    obtain ⟨e1, e2, e3⟩ := HSM.out _ _ _ _ HA.out hn0; have hur : ups r = U := HA.out.u.trans HUD.out; have CFl := hI (mflush_any wr HS.out.rk.rack); rw [hur] at CFl; have E1 := hI e1; have E2 := hI e2; have E3 := hI e3; have HLE := hI (show n = (fillW q sec W).length by have := hle; simpa using this); have hnn := HS.out.rk.nn; clear e1 e2 e3 hur; generalize runS r (fops U 0) = r3 at *
    rcases runE_form (fops U 0) r with ⟨r1, r2⟩ | ⟨r1, op, i, r2⟩
    ·rw [r2] at CFl E3
     clear r1 r2; go_wp2_with fail; refine CFl.out.mono ?_; rintro e w4 ⟨rfl, hR4, hC4⟩; have HR4 := hI hR4; have HC4 := hI (HS.out.rk.rc.trans (by rw [hnn] at hC4; exact hC4)); clear hR4 hC4; go_wp2_with fail; exact bodyPost_ret (v := .tuple #[.int .i64 (n : Int), .nilIface]) (by simp [results, Tryz.results112, go_sem]) rfl ⟨n, by rw [E3.out], fun _ => HLE.out, by rw [E1.out]; exact HR4.out, HC4.out⟩
    ·rw [r2] at CFl E3
     clear r1 r2; generalize runC r (fops U 0) = rc at *; unfold wrapV errV at CFl; go_wp2_with fail; refine CFl.out.mono ?_; rintro e w4 ⟨rfl, hR4, hC4⟩; have HR4 := hI hR4; have HC4 := hI (HS.out.rk.rc.trans (by rw [hnn] at hC4; exact hC4)); clear hR4 hC4; go_wp2_with fail; exact bodyPost_ret (v := .tuple #[.int .i64 (n : Int), wrapV op i (errV rc)]) (by simp [results, Tryz.results112, go_sem, wrapV, errV]) rfl ⟨n, by rw [E3.out], fun _ => HLE.out, by rw [E1.out]; exact HR4.out, HC4.out⟩
end Go.Proofs.YthbpfnohbilhaaaGreatDoor
namespace Go.Proofs.YthbpfnohbilhaaaGreatDoor
open Go.RowKit Go.Deep Crc Dk Qk Go.Maps Hf
set_option maxHeartbeats 8000000
set_option maxRecDepth 100000
def SupOut (lo : Nat) (c : Lc) (q : Rk) (cf : Cf) (w : World) (e : Ending) (w' : World) : Prop :=
 ∃ (n : Nat) (v : Value), e = .returned (.tuple #[.int .i64 (n : Int), v]) ∧ KV (runC q (supW cf q)) v ∧ (runC q (supW cf q) = 0 → n = smcnt cf q (ups q) 0) ∧ RackIn lo w' c (runS q (supW cf q)) ∧ RC c q.n w w'
structure SpS (lo : Nat) (c : Lc) (cf : Cf) (U : List Nat) (vU : Value) (w : World) (n : Nat) (q : Rk) (w' : World) : Prop where
 cr : CrS lo c n q cf w.heap.size w w'
 up : w'.ownsRow w.heap.size 3 1 vU U.length (numsV U)
variable {lo : Nat} {c : Lc} {U : List Nat} {vU : Value} {w w1 w2 : World} {q : Rk}
theorem SpS.then {cf : Cf} {n : Nat} (h : SpS lo c cf U vU w n q w1) (hb : Below w1.heap.size w1 w2) : SpS lo c cf U vU w n q w2 := ⟨h.cr.then hb, own_below h.up hb⟩
theorem SpS.next {cf : Cf} {n : Nat} {q2 : Rk} (h : SpS lo c cf U vU w n q w1) (hf : Far w.heap.size c n) (hr : RackIn lo w2 c q2) (hn : q2.n = q.n) (hc : RC c q.n w1 w2) : SpS lo c cf U vU w n q2 w2 := by
 refine ⟨h.cr.next hr hn hc, ?_⟩
 rw [h.cr.rk.nn] at hc
 exact own_rc h.up hf hc
def RelSp (lo : Nat) (c : Lc) (cf : Cf) (q : Rk) (U : List Nat) (vU : Value) (w : World) (x i : Value) (wr : World) : Prop :=
 ∃ (m n : Nat) (r : Rk), m ≤ U.length ∧ i = .int .i64 m ∧ x = .int .i64 n ∧ n ≤ m ∧ MSupAt cf q m n r ∧ SpS lo c cf U vU w q.n r wr
theorem rsupers_any (w : World) (h : RackIn lo w c q) (cf : Cf) (hf : cf.fits q = true) :
  Calls Tryz.prog 78 #[.pointer (some ⟨c.r, 0, none⟩), .agg (cfA cf)] w (SupOut lo c q cf w) := by
 have HFAR := hI (show Far w.heap.size c q.n from h.far)
 have HC0 := hI (crS_new h cf)
 have CU := hI (qonline_any _ HC0.out.rk.rack)
 have HFT := hI hf
 have HUL := hI (upsN_length q q.n)
 have hn8 : q.n ≤ 8 := h.ok.n8
 have HA0 := hI (MSupAt.start cf q)
 have HLK := hI (fun (m n : Nat) (r : Rk) (hA : MSupAt cf q m n r) (hm : m < (ups q).length) => hA.look hm)
 have HYES := hI (fun (m n : Nat) (r : Rk) (hA : MSupAt cf q m n r) (hm : m < (ups q).length) (ht : tells cf q ((ups q).getD m 0) = true) => hA.skip hm ht)
 have HNO := hI (fun (m n : Nat) (r : Rk) (hA : MSupAt cf q m n r) (hm : m < (ups q).length) (ht : tells cf q ((ups q).getD m 0) = false) (h0 : runC r (supO cf ((ups q).getD m 0)) = 0) => hA.wrote hm ht h0)
 have HFA := hI (fun (m n : Nat) (r : Rk) (hA : MSupAt cf q m n r) (hm : m < (ups q).length) (ht : tells cf q ((ups q).getD m 0) = false) (h0 : runC r (supO cf ((ups q).getD m 0)) ≠ 0) => hA.fail hm ht h0)
 have HDN := hI (fun (n : Nat) (r : Rk) (hA : MSupAt cf q (ups q).length n r) => hA.done)
 have HTL := hI (fun (d : Nat) => show tells cf q d = (cfHas q d && decide (cfOf q d = cf)) from rfl)
 have hgd := guard_conf
 clear h hf
 go_enter Tryz.func78, Tryz.ntmps78
 go_wp2_with fail
 refine CU.out.mono ?_
 rintro e w2 ⟨vU, rfl, hU, hb2⟩
 have H2 := hI (show SpS lo c cf (ups q) vU w q.n q w2 from ⟨HC0.out.then hb2, own_base hU (by simp)⟩)
 obtain ⟨aU, cU, rfl, -⟩ := own_slice hU
 clear hU hb2
 generalize hUd : ups q = U at *
 have hul : U.length ≤ 8 := by have := HUL.out; rw [← hUd]; unfold ups; omega
 have HUD := hI hUd
 clear hUd
 go_wp2_with fail
 go_loopw [6, 15] (fun x i wr => RelSp lo c cf q U (.slice aU U.length cU) w x i wr) (fun _ i _ => U.length - (intOf i).toNat)
 case atStart => exact ⟨0, 0, q, Nat.zero_le _, rfl, rfl, Nat.le_refl _, HA0.out, H2.out⟩
 case round =>
  obtain ⟨m, n, r, hm, rfl, rfl, hnm, hA, hS⟩ := hrel
  by_cases hlt : m < U.length
  ·obtain ⟨gU, cU', hs, hcell⟩ := nums_cell hS.up rfl hlt
   injection hs with hs1 hs2 hs3; subst hs1 hs3; clear hs2; have HA := hI hA; have HS := hI hS; have hlk := HLK.out m n r hA hlt; have HG := hI (sget_any wr hS.cr.rk.rack ((U.getD m 0 : Nat) : Int)); rw [hlk.1, hlk.2] at HG; have HT := hI (HTL.out (U.getD m 0)); have HY := hI (fun ht => HYES.out m n r hA hlt ht); have HN := hI (fun ht h0 => HNO.out m n r hA hlt ht h0); have HX := hI (fun ht h0 => HFA.out m n r hA hlt ht h0); have HSP := sput_run (fits_same HFT.out hA.n.1 hA.n.2.1) (U.getD m 0); have HKV := hI (serr_kv r cf ((U.getD m 0 : Nat) : Int)); have CW := hI (fun (w' : World) (hr : RackIn lo w' c r) => sput_any w' hr cf ((U.getD m 0 : Nat) : Int)); rw [HSP.2] at HKV; rw [HSP.1] at CW; have hsn : (runS r (supO cf (U.getD m 0))).n = r.n := runS_n _ _; clear hA hS hlk HSP; generalize U.getD m 0 = d at *; generalize Rk.serr r cf (d : Int) = sv at *; go_wp2_with fail; refine HG.out.mono ?_; rintro e w3 ⟨rfl, hb3⟩; have HS3 := hI ((HS.out.then hb3).then (one_below w3 (.cells (cfA (cfOf q d)) 23))); have HC3 := hI (cfB_new w3 (cfOf q d)); have p := HC3.out.cells; have p2 := HS3.out.cr.cells; clear hb3; obtain ⟨p0, p1, p2', p3, p4⟩ := p; obtain ⟨s0, s1, s2, s3, s4⟩ := p2
   cases hh : cfHas q d with
   | true =>
    by_cases hx : cfOf q d = cf
    ·have HY2 := hI (HY.out (by rw [HT.out, hh, decide_eq_true hx]; rfl))
     generalize cfOf q d = x at *
     have heq : ∀ w, (binOp .eql 23 (.agg (cfA x)) (.agg (cfA cf))).run Tryz.prog w = .ok (.bool true) w := fun w => by rw [eql_conf, decide_eq_true hx]
     clear hh hx; go_wp2_with fail
     go_roundw
     case rel => exact ⟨m + 1, n, r, hlt, by go_num, rfl, by omega, HY2.out, HS3.out⟩
     case measure => simp [intOf]; omega
    ·have ht : tells cf q d = false := by rw [HT.out, hh, decide_eq_false hx]; rfl
     have HN2 := hI (HN.out ht); have HX2 := hI (HX.out ht); generalize cfOf q d = x at *
     have heq : ∀ w, (binOp .eql 23 (.agg (cfA x)) (.agg (cfA cf))).run Tryz.prog w = .ok (.bool false) w := fun w => by rw [eql_conf, decide_eq_false hx]
     clear hh hx ht; have CW2 := hI (CW.out _ HS3.out.cr.rk.rack); generalize runS r (supO cf d) = r3 at *; generalize runC r (supO cf d) = rc at *
     by_cases h0 : rc = 0
     ·have hsv := HKV.out.nil h0
      subst hsv; have HN3 := hI (HN2.out h0); clear h0; go_wp2_with fail; refine CW2.out.mono ?_; rintro e w5 ⟨rfl, hR5, hC5⟩; have HS5 := hI (HS3.out.next HFAR.out hR5 hsn hC5); clear hR5 hC5; go_wp2_with fail
      go_roundw
      case rel => exact ⟨m + 1, n + 1, r3, hlt, by go_num, by go_num, by omega, HN3.out, HS5.out⟩
      case measure => simp [intOf]; omega
     ·obtain ⟨T, y, hsv⟩ := HKV.out.some h0
      subst hsv; obtain ⟨e1, e2⟩ := HX2.out h0; have E1 := hI e1; have E2 := hI e2; have H0 := hI h0; clear h0 e1 e2; go_wp2_with fail; refine CW2.out.mono ?_; rintro e w5 ⟨rfl, hR5, hC5⟩; have HS5 := hI (HS3.out.next HFAR.out hR5 hsn hC5); clear hR5 hC5; go_wp2_with fail; exact bodyPost_ret (v := .tuple #[.int .i64 (n : Int), .iface T y]) (by simp [results, Tryz.results78, go_sem]) rfl ⟨n, _, rfl, by rw [E2.out]; exact HKV.out, fun hc => absurd (E2.out.symm.trans hc) H0.out, by rw [E1.out]; exact HS5.out.cr.rk.rack, HS5.out.cr.rk.rc⟩
   | false =>
    have ht : tells cf q d = false := by rw [HT.out, hh]; rfl
    have HN2 := hI (HN.out ht); have HX2 := hI (HX.out ht); generalize cfOf q d = x at *; clear hh ht; have CW2 := hI (CW.out _ HS3.out.cr.rk.rack); generalize runS r (supO cf d) = r3 at *; generalize runC r (supO cf d) = rc at *
    by_cases h0 : rc = 0
    ·have hsv := HKV.out.nil h0
     subst hsv; have HN3 := hI (HN2.out h0); clear h0; go_wp2_with fail; refine CW2.out.mono ?_; rintro e w5 ⟨rfl, hR5, hC5⟩; have HS5 := hI (HS3.out.next HFAR.out hR5 hsn hC5); clear hR5 hC5; go_wp2_with fail
     go_roundw
     case rel => exact ⟨m + 1, n + 1, r3, hlt, by go_num, by go_num, by omega, HN3.out, HS5.out⟩
     case measure => simp [intOf]; omega
    ·obtain ⟨T, y, hsv⟩ := HKV.out.some h0
     subst hsv; obtain ⟨e1, e2⟩ := HX2.out h0; have E1 := hI e1; have E2 := hI e2; have H0 := hI h0; clear h0 e1 e2; go_wp2_with fail; refine CW2.out.mono ?_; rintro e w5 ⟨rfl, hR5, hC5⟩; have HS5 := hI (HS3.out.next HFAR.out hR5 hsn hC5); clear hR5 hC5; go_wp2_with fail; exact bodyPost_ret (v := .tuple #[.int .i64 (n : Int), .iface T y]) (by simp [results, Tryz.results78, go_sem]) rfl ⟨n, _, rfl, by rw [E2.out]; exact HKV.out, fun hc => absurd (E2.out.symm.trans hc) H0.out, by rw [E1.out]; exact HS5.out.cr.rk.rack, HS5.out.cr.rk.rc⟩
  ·obtain rfl : m = U.length := by omega
   obtain ⟨e1, e2, e3⟩ := HDN.out n r hA; have E1 := hI e1; have E2 := hI e2; have E3 := hI e3; have HS := hI hS; clear e1 e2 e3 hA hS; go_wp2_with fail; exact bodyPost_ret (v := .tuple #[.int .i64 (n : Int), .nilIface]) (by simp [results, Tryz.results78, go_sem]) rfl ⟨n, _, rfl, by rw [E2.out]; exact KV.zero, fun _ => by rw [HUD.out]; exact E3.out, by rw [E1.out]; exact HS.out.cr.rk.rack, HS.out.cr.rk.rc⟩
def FcS (b B : Nat) (v : Value) (fs : List Fr) (w : World) : Prop := w.heap[b]? = some (.cells #[v] 175 (0, 0)) ∧ w.ownsRow B 147 112 v fs.length (fs.map frC).flatten
variable {b B : Nat} {v : Value} {fs : List Fr}
theorem FcS.cell (h : FcS b B v fs w) : w.cell? ⟨b, 0, none⟩ = some v := by rw [cell_of_row _ b 0 _ _ (0, 0) h.1]; rfl
theorem FcS.stays {n : Nat} (hb : Far b c n) (hB : Far B c n) : Stays (FcS b B v fs) c n where
 below := fun w1 w2 h hbl => ⟨(hbl.block b (Array.getElem?_eq_some_iff.1 h.1).1).trans h.1, own_below h.2 hbl⟩
 rc := fun w1 w2 h hc => ⟨by rw [hc.block b (Array.getElem?_eq_some_iff.1 h.1).1 (by have := hb.1; omega) (fun i hi => by have := hb.2 i hi; omega)]; exact h.1, own_rc h.2 hB hc⟩
variable {cap : Nat}
theorem FcS.load {a : Option Addr} (h : FcS b B (.slice a fs.length cap) fs w) (hi : ∀ f ∈ fs, f.is) {g : Nat} (ha : a = some ⟨g, 0, none⟩) {d : Nat} (hd : d < fs.length) :
  (loadCellsFrom ⟨g, d * szFr, none⟩ 0 szFr #[]).run Tryz.prog w = .ok (frA (fs.getD d zeroF)) w := by
 obtain ⟨g2, cap2, hs, _, hld, _⟩ := (slF_own h.2 hi rfl).at_ hd
 injection hs with hs1 _ _
 rw [ha] at hs1
 injection hs1 with hs1
 injection hs1 with hs1 _ _
 subst hs1
 exact hld
variable {g : Nat}
theorem slot1_any (hi : ∀ f ∈ fs, f.is) (w : World) (h : FcS b B (.slice (some ⟨g, 0, none⟩) fs.length cap) fs w) (d : Nat) :
  Calls Tryz.prog 114 #[.int .i64 (d : Int), .pointer (some ⟨b, 0, none⟩)] w (FrAt (FcS b B (.slice (some ⟨g, 0, none⟩) fs.length cap) fs) fs w) := by
 have hc := h.cell
 have HI := hI hi
 clear h hi
 go_enter Tryz.func114, Tryz.ntmps114
 go_wp2_with fail
 go_ret
 exact ⟨Below.refl _ _, g, 0, cap, rfl, fun w2 h2 i hil => by rw [Nat.zero_add]; exact h2.load HI.out rfl hil⟩
theorem stripe1_any (hi : ∀ f ∈ fs, f.is) (hl : fs.length ≤ 8) (hcp : fs.length ≤ cap) (w : World) (h : FcS b B (.slice (some ⟨g, 0, none⟩) fs.length cap) fs w) (d : Nat) (hd : d < fs.length) :
    Calls Tryz.prog 116 #[.int .i64 (d : Int), .pointer (some ⟨b, 0, none⟩)] w (FrAt (FcS b B (.slice (some ⟨g, 0, none⟩) fs.length cap) fs) [fs.getD d zeroF] w) := by
  have hc := h.cell
  have HI := hI hi
  have hw1 : IntKind.i64.wrap ((d : Int) + 1) = ((d + 1 : Nat) : Int) := (IntWalk.i64_in _ (by omega)).trans (by omega)
  have i0 : (0 : Int) ≤ d := by omega
  have i1 : (d : Int) ≤ ((d + 1 : Nat) : Int) := by omega
  have i2 : ((d + 1 : Nat) : Int) ≤ (cap : Int) := by omega
  clear h hi
  go_enter Tryz.func116, Tryz.ntmps116
  go_wp2_with fail
  go_ret
  refine ⟨Below.refl _ _, g, d * 112, cap - d, rfl, fun w2 h2 i hil => ?_⟩
  have hi0 : i = 0 := by have : i < 1 := hil
                         omega
  subst hi0
  have := h2.load HI.out rfl hd
  rw [Nat.zero_mul, Nat.add_zero]
  exact this
end Go.Proofs.YthbpfnohbilhaaaGreatDoor
namespace Go.Proofs.YthbpfnohbilhaaaGreatDoor
open Go.RowKit Go.Deep Crc Dk Qk Go.Maps Hf
def RpOut (lo : Nat) (c : Lc) (q : Rk) (T : Rk → Int → Nat → Value → Prop) (w : World) (e : Ending) (w' : World) : Prop :=
 ∃ (q' : Rk) (k : Int) (n : Nat) (v : Value), e = .returned (.tuple #[.int .i64 (n : Int), v]) ∧ KV k v ∧ T q' k n v ∧ RackIn lo w' c q' ∧ RC c q.n w w'
variable {q : Rk}
theorem jrecR_len {c : Cf} {s : Int} (h : jwhole q c s = true) : (jrecR q c s).b.length = c.k.toNat := by
 unfold jwhole at h
 unfold jrecR
 cases ho : jrecO q c s with
 | none => rw [ho] at h; cases h
 | some x =>
  show x.b.length = _
  unfold jrecO at ho
  split at ho
  ·exact (jrec_len ho).1
  ·cases ho
variable {lo : Nat} {c : Lc}
set_option maxHeartbeats 8000000 in
set_option maxRecDepth 100000 in
theorem rslot_any (w : World) (h : RackIn lo w c q) (cf : Cf) (s : Nat) (hf : cf.fits q = true) (hs : (s : Int) < cf.s) (hoff : q.off = false) (hw : jcode q cf s = 0 → jwhole q cf s = true) :
  Calls Tryz.prog 79 #[.pointer (some ⟨c.r, 0, none⟩), .agg (cfA cf), .int .i64 (s : Int)] w (RpOut lo c q (fun q' k n _ => SlotTo cf q s q' k n) w) := by
 have hr := (fits_right hf).1
 have HFAR := hI (show Far w.heap.size c q.n from h.far)
 have H1 := hI (crS_new h cf)
 have CS := hI (jslot_any _ H1.out.rk.rack cf (s : Int))
 have hkv := jslot_kv q cf (s : Int)
 obtain ⟨d0, d1, d2, d3, d4⟩ := H1.out.cells
 have hsec := jsec_lt hf hs (show ((0 : Nat) : Int) < cf.k by have := hr.2.2.1; omega)
 have hk8 := h.ok.k8
 have CSE := hI (fun W => show Calls Tryz.prog 113 #[.agg (cfA cf), .int .i64 (s : Int), .int .i64 0] W (Num ((jsec cf s 0 : Nat) : Int) W) by
  have := jsector_any cf (s : Int) (0 : Nat) W hr (by omega) hs (by omega) (by have := hr.2.2.1; omega); rw [jsec_eq (show 0 ≤ cf.k by have := hr.2.2.1; omega)] at this
  exact this)
 have hk1 : 1 ≤ cf.k.toNat := by have := hr.2.2.1; omega
 by_cases hz : jcode q cf (s : Int) = 0
 ·have hwh := hw hz
  have HNIL := hkv.nil hz; have HLEN := hI (jrecR_len hwh); have HXI := hI (jrecR_is q cf (s : Int)); have HSX := hI (show slotX cf q s = jrecR q cf (s : Int) from if_pos hwh); have HZ := hI hz
  have hk9 : cf.k.toNat ≤ 8 := by have := hr.2.2.2.1; have := hr.2.2.2.2.1; omega
  unfold SlotOut at CS; rw [HNIL, hwh] at CS; have CFI := hI (fun (W : World) (S : World → Prop) (hW : RackIn lo W c q) => fun (F cb : Nat) => fill_any W hW F cb (jsec cf s 0) (sW (jrecR q cf (s : Int))) S (by omega) hoff (fun _ => by show (jFl _).length ≤ 8; rw [jFl_length, jrecR_len hwh]; exact hk9) (fun _ => jFl_is (jrecR_is q cf (s : Int)))); clear h hf hs hoff hw hkv hz hwh HNIL hr; generalize jrecR q cf (s : Int) = x at *; generalize jnewest q cf (s : Int) = nw at *
  go_enter Tryz.func79, Tryz.ntmps79
  go_wp2_with fail; refine CS.out.mono ?_; rintro e w3 ⟨v3, rfl, ho3, hb3⟩; have H3 := hI ((H1.out.then hb3).then (one_below w3 (.cells (rcA x.q x.t v3) 155))); have HSL := hI (slK_own (own_below ho3 (one_below w3 (.cells (rcA x.q x.t v3) 155))) HXI.out rfl); obtain ⟨ax, cx, rfl, -⟩ := own_slice' ho3; have CFR := hI (jframes_any x _ _ HXI.out HSL.out (by have := HLEN.out; omega)); have H3a := hI (show w3.heap.size < (w3.alloc (.cells (rcA x.q x.t (.slice ax x.b.length cx)) 155)).heap.size by simp); clear ho3 hb3 d0 d1 d2 d3 d4; go_wp2_with fail; refine CFR.out.mono ?_; rintro e w4 ⟨v4, rfl, ho4, hb4⟩; have H4 := hI ((H3.out.then hb4).then (one_below w4 (.cells #[v4] 175))); have HF4 := hI (show Far w4.heap.size c q.n from HFAR.out.mono (by have := H3.out.rk.rc.size; have := hb4.size; omega))
  have hl1 : 0 < (jFl x).length := by rw [jFl_length, HLEN.out]; omega
  obtain ⟨av, cv, rfl, -⟩ := own_slice' ho4; obtain ⟨gv, hgv⟩ := own_addr' ho4 hl1; subst hgv; have HS4 := hI (show FcS w4.heap.size w.heap.size (.slice (some ⟨gv, 0, none⟩) (jFl x).length cv) (jFl x) (w4.alloc (.cells #[.slice (some ⟨gv, 0, none⟩) (jFl x).length cv] 175)) from ⟨heap_alloc_new _ _, own_below (own_base ho4 H3.out.rk.rc.size) (one_below _ _)⟩); have CF4 := hI (fun (W : World) (hW : RackIn lo W c q) (hS : FcS w4.heap.size w.heap.size (.slice (some ⟨gv, 0, none⟩) (jFl x).length cv) (jFl x) W) => CFI.out W (FcS w4.heap.size w.heap.size (.slice (some ⟨gv, 0, none⟩) (jFl x).length cv) (jFl x)) hW 114 w4.heap.size hS (FcS.stays HF4.out HFAR.out) (fun args W' => by go_simp) (fun w' d _ h => slot1_any (jFl_is HXI.out) w' h d)); have HE := hI (show Stays (FcS w4.heap.size w.heap.size (.slice (some ⟨gv, 0, none⟩) (jFl x).length cv) (jFl x)) c q.n from FcS.stays HF4.out HFAR.out); clear ho4 hb4; obtain ⟨d0, d1, d2, d3, d4⟩ := H4.out.cells; go_wp2_with fail; refine (CSE.out _).mono ?_; rintro e w5 ⟨rfl, hb5⟩; have H5 := hI (H4.out.then hb5); have HS5 := hI (HE.out.below _ _ HS4.out hb5); clear hb5; go_wp2_with fail; refine (CF4.out w5 H5.out.rk.rack HS5.out).mono ?_; rintro e w6 ⟨n, rfl, hn, hR6, hC6⟩
  have HO := hI (show RpOut lo c q (fun q' k n _ => SlotTo cf q s q' k n) w (.returned (.tuple #[.int .i64 (n : Int), runE q (fillOps q (jsec cf s 0) (sW x))])) w6 from ⟨_, _, n, _, rfl, runE_kv _ _, Or.inr ⟨HZ.out, by rw [HSX.out]; exact ⟨rfl, rfl, hn⟩⟩, hR6, H5.out.rk.rc.trans hC6⟩); clear hn hR6 hC6; generalize runE q (fillOps q (jsec cf s 0) (sW x)) = vE at *; go_wp2_with fail; exact bodyPost_ret (v := .tuple #[.int .i64 (n : Int), vE]) (by simp [results, Tryz.results79, go_sem]) rfl HO.out
 ·obtain ⟨T, y, hy⟩ := hkv.some hz
  have HKV := hI hkv; have HZ := hI hz; unfold SlotOut at CS; rw [hy] at CS HKV; clear h hf hs hoff hw hkv hz hy hr; generalize jrecR q cf (s : Int) = x at *; generalize jnewest q cf (s : Int) = nw at *; generalize jwhole q cf (s : Int) = wh at *
  go_enter Tryz.func79, Tryz.ntmps79
  go_wp2_with fail; refine CS.out.mono ?_; rintro e w3 ⟨v3, rfl, ho3, hb3⟩; have H3 := hI ((H1.out.then hb3).then (one_below w3 (.cells (rcA x.q x.t v3) 155))); obtain ⟨ax, cx, rfl, -⟩ := own_slice' ho3; clear ho3 hb3 d0 d1 d2 d3 d4; go_wp2_with fail; exact bodyPost_ret (v := .tuple #[.int .i64 0, .iface T y]) (by simp [results, Tryz.results79, go_sem]) rfl ⟨q, _, 0, _, rfl, HKV.out, Or.inl ⟨HZ.out, rfl, rfl, rfl⟩, H3.out.rk.rack, H3.out.rk.rc⟩
set_option maxHeartbeats 8000000 in
set_option maxRecDepth 100000 in
theorem rstripe_any (w : World) (h : RackIn lo w c q) (cf : Cf) (t : Nat) (hf : cf.fits q = true) (ht : (t : Int) < cf.t) (hoff : q.off = false) :
  Calls Tryz.prog 80 #[.pointer (some ⟨c.r, 0, none⟩), .agg (cfA cf), .int .i64 (t : Int)] w (RpOut lo c q (fun q' k n v => StripeTo cf q t q' k n ∧ (tcode q cf t ≠ 0 → v = tgetV q cf t)) w) := by
 obtain ⟨hr, hn, _⟩ := fits_right hf
 have HFAR := hI (show Far w.heap.size c q.n from h.far)
 have H1 := hI (crS_new h cf)
 have CS := hI (tget_any _ H1.out.rk.rack cf (t : Int))
 have hkv := tget_kv q cf (t : Int)
 obtain ⟨d0, d1, d2, d3, d4⟩ := H1.out.cells
 have hsec := tsec_lt hf ht
 have hk8 := h.ok.k8
 have hn8 := h.ok.n8
 have CSE := hI (fun W => tsector_any cf (t : Int) W hr (by omega) ht)
 simp only [tsec_eq hr] at CSE
 obtain ⟨K, hK⟩ : ∃ K : Nat, cf.k = K := ⟨cf.k.toNat, by have := hr.2.2.1; omega⟩
 have CFI := hI (fun (g : Int) (bs : List (List UInt8)) (W : World) (S : World → Prop) (hW : RackIn lo W c q) => fun (F cb : Nat) => fill_any W hW F cb (tsec cf t) (tW K t g bs) S (by omega) hoff (fun _ => by show 1 ≤ 8; decide) (fun d f hf => by rw [List.mem_singleton.1 hf]; exact tF_is _ _ _ _ _))
 by_cases hz : tcode q cf (t : Int) = 0
 ·have CFR := hI (fun (W : World) (bs : List (List UInt8)) (v0 : Value) (hl : bs.length = K) (hv : SlK W.heap.size W v0 bs) => tframes_any cf K q.n (t : Int) (tnew q cf t) bs v0 W hK hn (by have := hr.2.2.1; omega) (by have := hr.2.2.2.1; omega) hn8 hl hv)
  have HZ := hI hz; have HKK := hI (show cf.k.toNat = K by omega)
  have hk1 : 1 ≤ q.n := by have := hr.2.2.1; have := hr.2.2.2.1; omega
  have HKI := hI hK; have HQN := hI hn8; have HPR := hI (fun (d : Nat) (hd : d < q.n) (g : Int) (bs : List (List UInt8)) => show tW K (t : Int) g bs d = [(tFl K q.n (t : Int) g bs).getD d zeroF] by rw [tFl_getD hd]; rfl); clear h hf ht hoff hkv hr hn hsec hk8 hn8 hK; unfold GetOut at CS; generalize hgg : tnew q cf (t : Int) = g at *; have HGG := hI hgg; clear hgg
  go_enter Tryz.func80, Tryz.ntmps80
  go_wp2_with fail; refine CS.out.mono ?_; rintro e w3 ⟨hb3, ⟨_, v3, bs, rfl, ho3, h108, hbo⟩ | ⟨hne, _⟩⟩
  rotate_left
  ·exact absurd hz hne
  have H3 := hI (H1.out.then hb3); have HBO := hI hbo; have HL := hI (show bs.length = K by have := hbo.1; rw [HKK.out] at this; exact this); have CF3 := hI (CFR.out w3 bs v3 HL.out (slK_own ho3 h108 rfl)); obtain ⟨ax, cx, rfl, -⟩ := own_slice' ho3; clear ho3 hb3 hbo h108 hz d0 d1 d2 d3 d4; obtain ⟨d0, d1, d2, d3, d4⟩ := H3.out.cells; go_wp2_with fail; refine CF3.out.mono ?_; rintro e w4 ⟨v4, rfl, ho4, hb4⟩; have H4 := hI ((H3.out.then hb4).then (one_below w4 (.cells #[v4] 175))); have HF4 := hI (show Far w4.heap.size c q.n from HFAR.out.mono (by have := H3.out.rk.rc.size; have := hb4.size; omega)); have HFLN := hI (show (tFl K q.n (t : Int) g bs).length = q.n from tFl_length _ _ _ _ _); have HFI := hI (tFl_is K q.n (t : Int) g bs); have HPB := hI (fun (d : Nat) (hd : d < q.n) => HPR.out d hd g bs); have CF5 := hI (fun (W : World) (S : World → Prop) (hW : RackIn lo W c q) => CFI.out g bs W S hW); have HTL := hI (show ∀ q' k n, FillTo q (tsec cf t) (tW K (t : Int) g bs) q' k n → StripeTo cf q t q' k n from fun q' k n hh => Or.inr ⟨HZ.out, bs, HBO.out, by rw [HKK.out, HGG.out]; exact hh⟩); generalize tFl K q.n (t : Int) g bs = fs at *; generalize tW K (t : Int) g bs = W0 at *; obtain ⟨av, cv, rfl, hcv⟩ := own_slice' ho4; obtain ⟨gv, hgv⟩ := own_addr' ho4 (by rw [HFLN.out]; omega); subst hgv
  have HS4 := hI (show FcS w4.heap.size w.heap.size (.slice (some ⟨gv, 0, none⟩) fs.length cv) fs (w4.alloc (.cells #[.slice (some ⟨gv, 0, none⟩) fs.length cv] 175)) from ⟨heap_alloc_new _ _, own_below (own_base ho4 H3.out.rk.rc.size) (one_below _ _)⟩); have CF4 := hI (fun (W : World) (hW : RackIn lo W c q) (hS : FcS w4.heap.size w.heap.size (.slice (some ⟨gv, 0, none⟩) fs.length cv) fs W) => CF5.out W (FcS w4.heap.size w.heap.size (.slice (some ⟨gv, 0, none⟩) fs.length cv) fs) hW 116 w4.heap.size hS (FcS.stays HF4.out HFAR.out) (fun args W' => by go_simp) (fun w' d hd h => by rw [HPB.out d hd]; exact stripe1_any HFI.out (by rw [HFLN.out]; exact HQN.out) hcv w' h d (by rw [HFLN.out]; exact hd))); have HE := hI (show Stays (FcS w4.heap.size w.heap.size (.slice (some ⟨gv, 0, none⟩) fs.length cv) fs) c q.n from FcS.stays HF4.out HFAR.out); clear ho4 hb4 d0 d1 d2 d3 d4; obtain ⟨d0, d1, d2, d3, d4⟩ := H4.out.cells; go_wp2_with fail; refine (CSE.out _).mono ?_; rintro e w5 ⟨rfl, hb5⟩; have H5 := hI (H4.out.then hb5); have HS5 := hI (HE.out.below _ _ HS4.out hb5); clear hb5; go_wp2_with fail; refine (CF4.out w5 H5.out.rk.rack HS5.out).mono ?_; rintro e w6 ⟨n, rfl, hn, hR6, hC6⟩
  have HO := hI (show RpOut lo c q (fun q' k n v => StripeTo cf q t q' k n ∧ (tcode q cf t ≠ 0 → v = tgetV q cf t)) w (.returned (.tuple #[.int .i64 (n : Int), runE q (fillOps q (tsec cf t) W0)])) w6 from ⟨_, _, n, _, rfl, runE_kv _ _, ⟨HTL.out _ _ _ ⟨rfl, rfl, hn⟩, fun hh => absurd HZ.out hh⟩, hR6, H5.out.rk.rc.trans hC6⟩); clear hn hR6 hC6; generalize runE q (fillOps q (tsec cf t) W0) = vE at *; go_wp2_with fail; exact bodyPost_ret (v := .tuple #[.int .i64 (n : Int), vE]) (by simp [results, Tryz.results80, go_sem]) rfl HO.out
 ·obtain ⟨T, y, hy⟩ := hkv.some hz
  have HKV := hI hkv; have HZ := hI hz; have HY := hI hy; rw [hy] at HKV; clear h hf ht hoff hkv hz hy hr hn hK; unfold GetOut at CS; rw [HY.out] at CS; generalize tnew q cf (t : Int) = g at *
  go_enter Tryz.func80, Tryz.ntmps80
  go_wp2_with fail; refine CS.out.mono ?_; rintro e w3 ⟨hb3, ⟨h0, _⟩ | ⟨_, rfl⟩⟩
  ·exact absurd h0 HZ.out
  have H3 := hI (H1.out.then hb3); clear hb3 d0 d1 d2 d3 d4; go_wp2_with fail; exact bodyPost_ret (v := .tuple #[.int .i64 0, .iface T y]) (by simp [results, Tryz.results80, go_sem]) rfl ⟨q, _, 0, _, rfl, HKV.out, ⟨Or.inl ⟨HZ.out, rfl, rfl, rfl⟩, fun _ => HY.out.symm⟩, H3.out.rk.rack, H3.out.rk.rc⟩
end Go.Proofs.YthbpfnohbilhaaaGreatDoor
namespace Go.Proofs.YthbpfnohbilhaaaGreatDoor
open Go.RowKit Go.Deep Crc Dk Qk Go.Maps Hf
set_option maxHeartbeats 8000000
set_option maxRecDepth 100000
def GroupTo (q : Rk) (cf : Cf) (g : Nat) (q' : Rk) (k : Int) (n : Nat) (v : Value) : Prop := TickTo cf q g q' k n ∧ ∀ t : Nat, g = 1 + cf.s.toNat + t → tcode q cf t ≠ 0 → v = tgetV q cf t
variable {lo : Nat} {c : Lc} {q : Rk}
theorem repair_any (w : World) (h : RackIn lo w c q) (cf : Cf) (g : Nat) (hf : cf.fits q = true) (hg : g < groups cf) (hoff : q.off = false) (hw : ∀ s : Nat, s < cf.s.toNat → jcode q cf s = 0 → jwhole q cf s = true) :
  Calls Tryz.prog 55 #[.pointer (some ⟨c.r, 0, none⟩), .agg (cfA cf), .int .i64 (g : Int)] w (RpOut lo c q (GroupTo q cf g) w) := by
 have hr := (fits_right hf).1
 have H1 := hI (crS_new h cf)
 have HFAR := hI (show Far w.heap.size c q.n from h.far)
 have hs0 : 0 ≤ cf.s := by have := hr.2.2.2.2.2.2.2.1; omega
 have hs8 : cf.s ≤ 8 := by have := hr.2.2.2.2.2.2.2.2; omega
 have hgl : (g : Int) < 1000 := by unfold groups at hg; have := hr.2.2.2.2.2.2.1; omega
 obtain ⟨d0, d1, d2, d3, d4⟩ := H1.out.cells
 rcases group_cases hg with rfl | ⟨s, hs, rfl⟩ | ⟨t, ht, rfl⟩
 ·have CS := hI (rsupers_any _ H1.out.rk.rack cf hf)
  clear h hf hg hoff hw hr
  go_enter Tryz.func55, Tryz.ntmps55
  go_wp2_with fail; refine CS.out.mono ?_; rintro e w3 ⟨n, v, rfl, hkv, hn, hR, hC⟩; have HO := hI (show RpOut lo c q (GroupTo q cf 0) w (.returned (.tuple #[.int .i64 (n : Int), v])) w3 from ⟨_, _, n, v, rfl, hkv, ⟨tick_super ⟨rfl, rfl, hn⟩, fun t e => absurd e (by omega)⟩, hR, H1.out.rk.rc.trans hC⟩); clear hkv hn hR hC; go_wp2_with fail; exact bodyPost_ret (v := .tuple #[.int .i64 (n : Int), v]) (by simp [results, Tryz.results55, go_sem]) rfl HO.out
 ·have hsi : (s : Int) < cf.s := by omega
  have CS := hI (rslot_any _ H1.out.rk.rack cf s hf hsi hoff (hw s hs))
  have e1 : ¬ (((1 + s : Nat) : Int) < 1) := by omega
  have e2 : ((1 + s : Nat) : Int) < 1 + cf.s := by omega
  have hw1 : IntKind.i64.wrap (1 + cf.s) = 1 + cf.s := IntWalk.i64_in _ (by omega); have hw2 : IntKind.i64.wrap (((1 + s : Nat) : Int) - 1) = (s : Int) := (IntWalk.i64_in _ (by omega)).trans (by omega); have HSS := hI hs; clear h hf hg hoff hw hr hsi; generalize hgg : ((1 + s : Nat) : Int) = gi at *
  go_enter Tryz.func55, Tryz.ntmps55
  go_wp2_with fail; refine CS.out.mono ?_; rintro e w3 ⟨q', k, n, v, rfl, hkv, hT, hR, hC⟩; have HO := hI (show RpOut lo c q (GroupTo q cf (1 + s)) w (.returned (.tuple #[.int .i64 (n : Int), v])) w3 from ⟨_, _, n, v, rfl, hkv, ⟨tick_slot HSS.out hT, fun t e => absurd e (by have := HSS.out; omega)⟩, hR, H1.out.rk.rc.trans hC⟩); clear hkv hT hR hC; go_wp2_with fail; exact bodyPost_ret (v := .tuple #[.int .i64 (n : Int), v]) (by simp [results, Tryz.results55, go_sem]) rfl HO.out
 ·have hti : (t : Int) < cf.t := by omega
  have CS := hI (rstripe_any _ H1.out.rk.rack cf t hf hti hoff)
  have e1 : ¬ (((1 + cf.s.toNat + t : Nat) : Int) < 1) := by omega
  have e2 : ¬ (((1 + cf.s.toNat + t : Nat) : Int) < 1 + cf.s) := by omega
  have hw1 : IntKind.i64.wrap (1 + cf.s) = 1 + cf.s := IntWalk.i64_in _ (by omega); have hw2 : IntKind.i64.wrap (((1 + cf.s.toNat + t : Nat) : Int) - (1 + cf.s)) = (t : Int) := (IntWalk.i64_in _ (by omega)).trans (by omega); clear h hf hg hoff hw hr hti; generalize hgg : ((1 + cf.s.toNat + t : Nat) : Int) = gi at *
  go_enter Tryz.func55, Tryz.ntmps55
  go_wp2_with fail; refine CS.out.mono ?_; rintro e w3 ⟨q', k, n, v, rfl, hkv, hT, hR, hC⟩
  have hTT : ∀ t' : Nat, 1 + cf.s.toNat + t = 1 + cf.s.toNat + t' → tcode q cf t' ≠ 0 → v = tgetV q cf t' := fun t' e => by
   have e' : t = t' := by omega
   rw [← e']; exact hT.2
  have HO := hI (show RpOut lo c q (GroupTo q cf (1 + cf.s.toNat + t)) w (.returned (.tuple #[.int .i64 (n : Int), v])) w3 from ⟨_, _, n, v, rfl, hkv, ⟨tick_stripe hT.1, hTT⟩, hR, H1.out.rk.rc.trans hC⟩); clear hTT; clear hkv hT hR hC; go_wp2_with fail; exact bodyPost_ret (v := .tuple #[.int .i64 (n : Int), v]) (by simp [results, Tryz.results55, go_sem]) rfl HO.out
def mendA (b g : Nat) : Array Value := #[.pointer (some ⟨b, 0, none⟩), .int .i64 (g : Int)]
def MB (b g mb : Nat) (w : World) : Prop := w.heap[mb]? = some (.cells (mendA b g) 92 (0, 0))
variable {b g mb : Nat} {w : World}
theorem MB.lt (h : MB b g mb w) : mb < w.heap.size := (Array.getElem?_eq_some_iff.1 h).1
variable {w' : World}
theorem MB.below (h : MB b g mb w) (hb : Below w.heap.size w w') : MB b g mb w' := (hb.block mb h.lt).trans h
theorem MB.cell (h : MB b g mb w) (i : Nat) : w.cell? ⟨mb, i, none⟩ = (mendA b g)[i]? := by rw [cell_of_row _ mb i _ _ (0, 0) h]
theorem MB.free (h : MB b g mb w) (i : Nat) : w.frozen? ⟨mb, i, none⟩ = false := by unfold World.frozen?; unfold MB at h; simp only [h]; simp
theorem MB.rc {n : Nat} (h : MB b g mb w) (hf : Far mb c n) (hc : RC c n w w') : MB b g mb w' := by
 unfold MB
 rw [hc.block mb h.lt (by have := hf.1; omega) (fun i hi => by have := hf.2 i hi; omega)]
 exact h
structure RCM (c : Lc) (n b mb : Nat) (w w' : World) : Prop where
 os : w'.os = w.os
 tape : w'.tape = w.tape
 output : w'.output = w.output
 size : w.heap.size ≤ w'.heap.size
 block : ∀ k, k < w.heap.size → k ≠ c.r → k ≠ b → k ≠ mb → (∀ i, i < n → k ≠ c.d i ∧ k ≠ c.S i ∧ k ≠ c.M i) → w'.heap[k]? = w.heap[k]?
theorem RCM.trans {n : Nat} {w1 w2 : World} (h : RCM c n b mb w w1) (h2 : RCM c n b mb w1 w2) : RCM c n b mb w w2 :=
 ⟨h2.os.trans h.os, h2.tape.trans h.tape, h2.output.trans h.output, Nat.le_trans h.size h2.size, fun k hk h1 h3 h4 h5 => (h2.block k (Nat.lt_of_lt_of_le hk h.size) h1 h3 h4 h5).trans (h.block k hk h1 h3 h4 h5)⟩
theorem RCV.rcm {n : Nat} (h : RCV c n b w w') (mb : Nat) : RCM c n b mb w w' := ⟨h.os, h.tape, h.output, h.size, fun k hk h1 h2 _ h4 => h.block k hk h1 h2 h4⟩
theorem RCV.rcm2 {n : Nat} (h : RCV c n mb w w') (b : Nat) : RCM c n b mb w w' := ⟨h.os, h.tape, h.output, h.size, fun k hk h1 _ h3 h4 => h.block k hk h1 h3 h4⟩
theorem RC.rcm {n : Nat} (h : RC c n w w') (b mb : Nat) : RCM c n b mb w w' := (h.rcv b).rcm mb
theorem vrack_any (w : World) {cf : Cf} {r b : Nat} {g : Int} {down : Bool} (h : VB cf r g down b w) : Calls Tryz.prog 53 #[.pointer (some ⟨b, 0, none⟩)] w (fun e w' => e = .returned (.pointer (some ⟨r, 0, none⟩)) ∧ w = w') := by
 have c0 := h.cells.1
 clear h
 go_enter Tryz.func53, Tryz.ntmps53
 go_wp2_with fail
 go_ret
 exact ⟨rfl, rfl⟩
theorem mat_any (w : World) {b g mb : Nat} (h : MB b g mb w) : Calls Tryz.prog 20 #[.pointer (some ⟨mb, 0, none⟩)] w (NumSame (g : Int) w) := by
 have c1 : w.cell? ⟨mb, 1, none⟩ = some (.int .i64 (g : Int)) := h.cell 1
 clear h
 go_enter Tryz.func20, Tryz.ntmps20
 go_wp2_with fail
 go_ret
 exact ⟨rfl, rfl⟩
theorem mgroups_any (w : World) (cf : Cf) (hr : CfRight cf) : Calls Tryz.prog 23 #[.agg (cfA cf)] w (Num (groups cf : Nat) w) := by
 have e : ((groups cf : Nat) : Int) = 1 + cf.s + cf.t := by unfold groups; have := hr.2.2.2.2.2.1; have := hr.2.2.2.2.2.2.2.1; omega
 rw [e]
 have h1 := hr.2.2.2.2.2.1
 have h2 := hr.2.2.2.2.2.2.1
 have h3 := hr.2.2.2.2.2.2.2.1
 have h4 := hr.2.2.2.2.2.2.2.2
 have hw1 : IntKind.i64.wrap (1 + cf.s) = 1 + cf.s := IntWalk.i64_in _ (by omega)
 have hw2 : IntKind.i64.wrap (1 + cf.s + cf.t) = 1 + cf.s + cf.t := IntWalk.i64_in _ (by omega)
 obtain ⟨d0, d1, d2, d3, d4⟩ := (cfB_new w cf).cells
 clear hr e
 go_enter Tryz.func23, Tryz.ntmps23
 go_wp2_with fail
 go_ret
 exact ⟨rfl, one_below _ _⟩
theorem mnew_any (w : World) (b : Nat) : Calls Tryz.prog 19 #[.pointer (some ⟨b, 0, none⟩)] w (fun e w' => e = .returned (.pointer (some ⟨w.heap.size, 0, none⟩)) ∧ MB b 0 w.heap.size w' ∧ Below w.heap.size w w') := by
 go_enter Tryz.func19, Tryz.ntmps19
 go_wp2_with fail
 go_ret
 exact ⟨rfl, heap_alloc_new _ _, one_below _ _⟩
def opTick : ByteArray := ⟨#[109, 101, 110, 100, 46, 84, 105, 99, 107]⟩
def TickOut (lo : Nat) (c : Lc) (q : Rk) (cf : Cf) (vg : Int) (b g mb : Nat) (w : World) (e : Ending) (w' : World) : Prop :=
 ∃ (q' : Rk) (k : Int) (n : Nat) (v : Value), e = .returned (.tuple #[.int .i64 (n : Int), v]) ∧ KV k v ∧ TickTo cf q g q' k n ∧ (∀ t : Nat, g = 1 + cf.s.toNat + t → tcode q cf t ≠ 0 → v = wrapV opTick (g : Int) (tgetV q cf t)) ∧
  RackIn lo w' c q' ∧ VB cf c.r vg (decide (k = 5)) b w' ∧ MB b ((g + 1) % groups cf) mb w' ∧ RCM c q.n b mb w w'
theorem isdown_kv {k : Int} {v : Value} (h : KV k v) (w : World) : Calls Tryz.prog 56 #[v, errV 5] w (Bit (decide (k = 5)) w) := by
 rcases h with ⟨rfl, rfl⟩ | ⟨h0, l, rfl⟩ | ⟨rfl, l, x, y, z, rfl⟩
 ·refine (Is_nil _ _ w).mono ?_
  rintro e w' ⟨rfl, rfl⟩; exact bit rfl (Below.refl _ _)
 ·by_cases h5 : k = 5
  ·rw [decide_eq_true h5]; exact Is_err_err_yes l k 5 w _ rfl h5
  ·rw [decide_eq_false h5]; exact Is_err_err_no l k 5 w _ rfl h5
 ·rw [decide_eq_false (by decide)]
  exact Is_loss_err_no l x y z 5 w _ rfl (by decide)
theorem tickTo_n {c : Cf} {q' : Rk} {n : Nat} {e : Int} (h : TickTo c q g q' e n) : q'.n = q.n := by
 unfold TickTo at h
 split at h
 ·rw [h.1, runS_n]
 ·split at h
  ·rcases h with ⟨_, rfl, _⟩ | ⟨_, h, _⟩
   ·rfl
   ·rw [h, runS_n]
  ·rcases h with ⟨_, rfl, _⟩ | ⟨_, bs, _, h, _⟩
   ·rfl
   ·rw [h, runS_n]
theorem MB.next (h : MB b g mb w) (g' : Nat) : MB b g' mb (w.setCell ⟨mb, 1, none⟩ (.int .i64 (g' : Int))) := by
 have := heap_setCell_same w mb 1 _ _ (.int .i64 (g' : Int)) h
 unfold MB; rw [this]; rfl
variable {i : Nat}
theorem VB.other {cf : Cf} {r : Nat} {g : Int} {down : Bool} (h : VB cf r g down b w) (hne : mb ≠ b) (v : Value) : VB cf r g down b (w.setCell ⟨mb, i, none⟩ v) := by
 unfold VB; rw [heap_setCell_other w ⟨mb, i, none⟩ b v (fun e => hne e.symm)]; exact h
theorem MB.other {b' : Nat} (h : MB b g mb w) (hne : b' ≠ mb) (v : Value) : MB b g mb (w.setCell ⟨b', i, none⟩ v) := by
 unfold MB; rw [heap_setCell_other w ⟨b', i, none⟩ mb v (fun e => hne e.symm)]; exact h
theorem tick_any (w : World) (h : RackIn lo w c q) {cf : Cf} {b g mb : Nat} {vg : Int} (hv : VB cf c.r vg false b w) (hm : MB b g mb w) (hfb : FarV b c q.n) (hfm : FarV mb c q.n) (hne : mb ≠ b) (hf : cf.fits q = true) (hg : g < groups cf) (hoff : q.off = false)
  (hw : ∀ s : Nat, s < cf.s.toNat → jcode q cf s = 0 → jwhole q cf s = true) : Calls Tryz.prog 22 #[.pointer (some ⟨mb, 0, none⟩)] w (TickOut lo c q cf vg b g mb w) := by
 have hr := (fits_right hf).1
 have CG := hI (fun W => mgroups_any W cf hr)
 have CD := hI (vdown_any w.drew hv)
 have CR := hI (vrack_any w.drew hv)
 have CO := hI (qoff_any w.drew (h.drewN 1))
 rw [hoff] at CO
 have CC := hI (vconfig_any w.drew hv)
 have CRP := hI (fun (W : World) (hW : RackIn lo W c q) => repair_any W hW cf g hf hg hoff hw)
 have HR := hI h
 have HV := hI hv
 have HM := hI hm
 have HFB := hI hfb
 have HFM := hI hfm
 have HNE := hI hne
 have c0 : w.cell? ⟨mb, 0, none⟩ = some (.pointer (some ⟨b, 0, none⟩)) := hm.cell 0
 have c1 : w.cell? ⟨mb, 1, none⟩ = some (.int .i64 (g : Int)) := hm.cell 1
 have hgl : g < 1000 := by unfold groups at hg; have := hr.2.2.2.2.2.2.1; have := hr.2.2.2.2.2.2.2.2; omega
 have hg1 : groups cf < 1000 := by unfold groups; have := hr.2.2.2.2.2.2.1; have := hr.2.2.2.2.2.2.2.2; omega
 have hg0 : groups cf ≠ 0 := by omega
 generalize hG : groups cf = G at *
 have HG := hI hG
 clear h hv hm hfb hfm hf hg hoff hw hr hG
 have c0' : ∀ w', MB b g mb w' → w'.cell? ⟨mb, 0, none⟩ = some (.pointer (some ⟨b, 0, none⟩)) := fun w' h => h.cell 0
 have c1' : ∀ w', MB b g mb w' → w'.cell? ⟨mb, 1, none⟩ = some (.int .i64 (g : Int)) := fun w' h => h.cell 1
 have hm0 : MB b g mb w.drew := HM.out
 go_enter Tryz.func22, Tryz.ntmps22
 go_wp2_with fail
 refine wp_region_noPanic ?_
 refine wp_region_held_drew (S := (fun w' => MB b g mb w')) (by kernel_rfl) hm0 (fun hHeld => ?_)
 refine hT 0 ⟨some 8, _, _, _, _, _⟩ rfl hHeld ?_
 simp only [hP]
 refine hT 1 ⟨some 9, _, _, _, _, _⟩ rfl hHeld ?_
 simp only [hP]
 refine hT 2 ⟨some 10, _, _, _, _, _⟩ rfl hHeld ?_
 simp only [hP]
 refine hT 3 ⟨some 11, _, _, _, _, _⟩ rfl hHeld ?_
 simp only [hP]
 refine hT 4 ⟨some 12, _, _, _, _, _⟩ rfl hHeld ?_
 simp only [hP]
 refine hT 5 ⟨some 13, _, _, _, _, _⟩ rfl hHeld ?_
 simp only [hP]
 refine hT 6 ⟨some 14, _, _, _, _, _⟩ rfl hHeld ?_
 simp only [hP]
 refine hT 7 ⟨some 15, _, _, _, _, _⟩ rfl hHeld ?_
 simp only [hP]
 refine hT 8 ⟨some 4, _, _, _, _, _⟩ rfl hHeld ?_
 simp only [hP]
 refine hT 9 ⟨some 5, _, _, _, _, _⟩ rfl hHeld ?_
 simp only [hP]
 refine wpAnyH_done (by kernel_rfl) ?_ _
 refine NoPanic.normal ?_
 clear c0' c1' hm0 hHeld
 go_wp2_with fail
 refine CD.out.mono ?_
 rintro e w1 ⟨rfl, hw1⟩
 subst hw1
 go_wp2_with fail
 refine CR.out.mono ?_
 rintro e w1 ⟨rfl, hw1⟩
 subst hw1
 go_wp2_with fail
 refine CO.out.mono ?_
 rintro e w1 ⟨rfl, hw1⟩
 subst hw1
 go_wp2_with fail
 refine CC.out.mono ?_
 rintro e w3 ⟨rfl, hb3⟩
 have HB3 := hI hb3
 clear hb3
 go_wp2_with fail
 refine (CG.out _).mono ?_
 rintro e w4 ⟨rfl, hb4⟩
 have HB4 := hI (bthen HB3.out hb4)
 have HBW4 := hI (bthen (Below.drew (Below.refl w.heap.size w)) HB4.out)
 have HM4 := hI (HM.out.below HBW4.out)
 have hmod : Int.tmod ((g : Int) + 1) (G : Int) = (((g + 1) % G : Nat) : Int) := by rw [Int.tmod_eq_emod_of_nonneg (by omega)]; push_cast; rfl
 have hgz : ¬ (G : Int) = 0 := by omega
 have hw1 : IntKind.i64.wrap ((g : Int) + 1) = (g : Int) + 1 := IntWalk.i64_in _ (by omega)
 have hw2 : IntKind.i64.wrap (((g + 1) % G : Nat) : Int) = (((g + 1) % G : Nat) : Int) := IntWalk.i64_in _ (by have := Nat.mod_lt (g + 1) (Nat.pos_of_ne_zero hg0); omega)
 obtain ⟨x1, f1⟩ : w4.cell? ⟨mb, 1, none⟩ = some (.int .i64 (g : Int)) ∧ w4.frozen? ⟨mb, 1, none⟩ = false := ⟨HM4.out.cell 1, HM4.out.free 1⟩
 clear hb4
 go_wp2_with fail
 have HCM := hI (show (((g + 1) % G : Nat) : Int) = ((g : Int) + 1) % (G : Int) by push_cast; rfl)
 have HM5 := hI (show MB b ((g + 1) % G) mb (w4.setCell ⟨mb, 1, none⟩ (.int .i64 (((g : Int) + 1) % (G : Int)))) by have := HM4.out.next ((g + 1) % G); rwa [HCM.out] at this)
 have HR5 := hI ((HR.out.below HBW4.out).setV HFM.out 1 (.int .i64 (((g : Int) + 1) % (G : Int))))
 have HV5 := hI ((HV.out.below HBW4.out).other (i := 1) HNE.out (.int .i64 (((g : Int) + 1) % (G : Int))))
 have HX5 := hI (((RC.of_below (c := c) (n := q.n) HBW4.out).rcm b mb).trans ((RCV.set c q.n mb 1 (.int .i64 (((g : Int) + 1) % (G : Int))) w4).rcm2 b))
 clear x1 f1 hmod hw1 hw2 hgz
 generalize w4.setCell ⟨mb, 1, none⟩ (.int .i64 (((g : Int) + 1) % (G : Int))) = w5 at *
 generalize ((g : Int) + 1) % (G : Int) = gx at *
 have CR5 := hI (vrack_any w5 HV5.out)
 have CC5 := hI (vconfig_any w5 HV5.out)
 refine CR5.out.mono ?_
 rintro e w1 ⟨rfl, hw1⟩
 subst hw1
 go_wp2_with fail
 refine CC5.out.mono ?_
 rintro e w6 ⟨rfl, hb6⟩
 have HR6 := hI (HR5.out.below hb6)
 have HV6 := hI (HV5.out.below hb6)
 have HM6 := hI (HM5.out.below hb6)
 have HX6 := hI (HX5.out.trans ((RC.of_below (c := c) (n := q.n) hb6).rcm b mb))
 clear hb6
 go_wp2_with fail
 refine (CRP.out w6 HR6.out).mono ?_
 rintro e w7 ⟨q', k, n, v, rfl, hkv, hT, hR7, hC7⟩
 have HT := hI hT
 have HKV := hI hkv
 have HR7 := hI hR7
 have HV7 := hI (HV6.out.rc HFB.out.1 hC7)
 have HM7 := hI (HM6.out.rc HFM.out.1 hC7)
 have HX7 := hI (HX6.out.trans (hC7.rcm b mb))
 clear hT hR7 hC7
 by_cases hk : k = 0
 ·obtain rfl := hkv.nil hk
  subst hk; have CI := hI (fun W => isdown_kv KV.zero W); simp only [show decide ((0 : Int) = 5) = false from rfl] at CI; unfold errV at CI; clear hkv; go_wp2_with fail; refine (CI.out _).mono ?_; rintro e w8 ⟨rfl, hb8⟩; have HR8 := hI (HR7.out.below hb8); have HV8 := hI (HV7.out.below hb8); have HM8 := hI (HM7.out.below hb8); have HX8 := hI (HX7.out.trans ((RC.of_below (c := c) (n := q.n) hb8).rcm b mb)); clear hb8; go_wp2_with fail; refine (wrap_nil _ _ _).mono ?_; rintro e w' ⟨rfl, rfl⟩; go_wp2_with fail
  exact bodyPost_ret (v := .tuple #[.int .i64 (n : Int), .nilIface]) (by simp [results, Tryz.results22, go_sem]) rfl ⟨q', 0, n, _, rfl, KV.zero, HT.out.1, fun t e hne => by
   have := HT.out.2 t e hne
   exact absurd (tget_kv q cf t) (fun h => by rw [← this] at h; rcases h with ⟨h0, _⟩ | ⟨_, l, h1⟩ | ⟨_, l, x, y, z, h1⟩; exact hne h0; (obtain ⟨T, u, hu⟩ := chain_iface l 40 (.int .i64 (tcode q cf t)); unfold errV at h1; rw [hu] at h1; cases h1); (obtain ⟨T, u, hu⟩ := chain_iface l 48 (.agg #[.int .i64 x, .int .i64 y, .int .i64 z]); unfold lossV at h1; rw [hu] at h1; cases h1)), HR8.out, HV8.out, by rw [HG.out]; exact HM8.out, HX8.out⟩
 ·obtain ⟨T, y, hy⟩ := hkv.some hk
  subst hy; have CI := hI (fun W => isdown_kv hkv W); have HW := hI (show KV k (wrapV opTick (g : Int) (.iface T y)) from hkv.wrap hk _ _)
  by_cases h5 : k = 5
  ·simp only [decide_eq_true h5] at CI
   have H5 := hI h5; unfold errV at CI; clear hkv h5 hk; go_wp2_with fail; refine (CI.out _).mono ?_; rintro e w8 ⟨rfl, hb8⟩; have HR8 := hI (HR7.out.below hb8); have HV8 := hI (HV7.out.below hb8); have HM8 := hI (HM7.out.below hb8); have HX8 := hI (HX7.out.trans ((RC.of_below (c := c) (n := q.n) hb8).rcm b mb)); have CF := hI (vfail_any w8 HV8.out); have HN7 := hI (show q'.n = q.n from tickTo_n HT.out.1); clear hb8; go_wp2_with fail; refine CF.out.mono ?_; rintro e w9 ⟨rfl, hw9⟩; subst hw9; have HR9 := hI (HR8.out.setV (b := b) (by rw [HN7.out]; exact HFB.out) 7 (.bool true)); have HV9 := hI (HV8.out.setDown true); have HM9 := hI (HM8.out.other (i := 7) HNE.out.symm (.bool true)); have HX9 := hI (HX8.out.trans ((RCV.set c q.n b 7 (.bool true) w8).rcm mb)); go_wp2_with fail; refine (wrap_some _ _ _ _ _).mono ?_; rintro e w' ⟨rfl, rfl⟩; go_wp2_with fail; exact bodyPost_ret (v := .tuple #[.int .i64 (n : Int), wrapV opTick (g : Int) (.iface T y)]) (by simp [results, Tryz.results22, go_sem, wrapV, opTick]) rfl ⟨q', k, n, _, rfl, HW.out, HT.out.1, fun t e hne => by rw [HT.out.2 t e hne], HR9.out, by rw [decide_eq_true H5.out]; exact HV9.out, by rw [HG.out]; exact HM9.out, HX9.out⟩
  ·simp only [decide_eq_false h5] at CI
   have H5 := hI h5; unfold errV at CI; clear hkv h5 hk; go_wp2_with fail; refine (CI.out _).mono ?_; rintro e w8 ⟨rfl, hb8⟩; have HR8 := hI (HR7.out.below hb8); have HV8 := hI (HV7.out.below hb8); have HM8 := hI (HM7.out.below hb8); have HX8 := hI (HX7.out.trans ((RC.of_below (c := c) (n := q.n) hb8).rcm b mb)); clear hb8; go_wp2_with fail; refine (wrap_some _ _ _ _ _).mono ?_; rintro e w' ⟨rfl, rfl⟩; go_wp2_with fail; exact bodyPost_ret (v := .tuple #[.int .i64 (n : Int), wrapV opTick (g : Int) (.iface T y)]) (by simp [results, Tryz.results22, go_sem, wrapV, opTick]) rfl ⟨q', k, n, _, rfl, HW.out, HT.out.1, fun t e hne => by rw [HT.out.2 t e hne], HR8.out, by rw [decide_eq_false H5.out]; exact HV8.out, by rw [HG.out]; exact HM8.out, HX8.out⟩
end Go.Proofs.YthbpfnohbilhaaaGreatDoor
namespace Go.Proofs.YthbpfnohbilhaaaGreatDoor
open Go.RowKit Go.Deep Crc Dk Qk Go.Maps Hf
set_option maxHeartbeats 2000000 in
set_option maxRecDepth 100000 in
theorem opened13_any (w : World) (cf : Cf) (hfr : On (newRk cf.n.toNat cf.secs.toNat) cf ∧ Alive (newRk cf.n.toNat cf.secs.toNat) ∧ ((cf.n.toNat : Nat) : Int) = cf.n ∧ ((cf.secs.toNat : Nat) : Int) = cf.secs ∧ 1 ≤ cf.n.toNat ∧ cf.n.toNat ≤ 6 ∧ 1 ≤ cf.secs.toNat ∧ cf.secs.toNat ≤ 128) (hrt : CfRight cf) : Calls Tryz.prog 18 #[.agg (cfA cf)] w (OpdB cf w) := by
 obtain ⟨f1, f2, hn, hsec, n1, n6, s1, s128⟩ := hfr
 have CS := hI (fun w => ksectors_any cf w hrt)
 have CN := hI (fun w => show Calls Tryz.prog 44 #[.int .i64 cf.n, .int .i64 cf.secs] w (QNew w cf.n.toNat cf.secs.toNat) by
  have := qs_new cf.n.toNat cf.secs.toNat w n1 (by omega) s1 s128
  rwa [hn, hsec] at this)
 have HMF := hI (make_free f1 f2 rfl hn)
 have HK := hI (show ((Rk.vmake (newRk cf.n.toNat cf.secs.toNat) cf).n : Int) = cf.n ∧ ((Rk.vmake (newRk cf.n.toNat cf.secs.toNat) cf).k : Int) = cf.secs by rw [vmake_n, vmake_k]; exact ⟨hn, hsec⟩)
 have HFIT := hI f1.fits
 clear hrt f1 f2 hn hsec n1 n6 s1 s128
 have H2 := hI (show JfS cf w.heap.size w (w.alloc (.cells (cfA cf) 23)) from ⟨cfB_new w cf, by simp, one_below _ _⟩)
 go_enter Tryz.func18, Tryz.ntmps18
 go_wp2_with fail
 have h2 := H2.out
 generalize w.alloc (.cells (cfA cf) 23) = w2 at *
 generalize w.heap.size = b at *
 have d0 : ∀ w', JfS cf b w w' → w'.cell? ⟨b, 0, none⟩ = some (.int .i64 cf.id) := fun w' h => h.1.cell 0
 have d1 : ∀ w', JfS cf b w w' → w'.cell? ⟨b, 1, none⟩ = some (.int .i64 cf.k) := fun w' h => h.1.cell 1
 have d2 : ∀ w', JfS cf b w w' → w'.cell? ⟨b, 2, none⟩ = some (.int .i64 cf.n) := fun w' h => h.1.cell 2
 have d3 : ∀ w', JfS cf b w w' → w'.cell? ⟨b, 3, none⟩ = some (.int .i64 cf.t) := fun w' h => h.1.cell 3
 have d4 : ∀ w', JfS cf b w w' → w'.cell? ⟨b, 4, none⟩ = some (.int .i64 cf.s) := fun w' h => h.1.cell 4
 refine wp_region_noPanic ?_
 refine wp_region_held_drew (S := (fun w' => JfS cf b w w')) (by kernel_rfl) h2.drew (fun hHeld => ?_)
 refine hT 0 ⟨some 9, _, _, _, _, _⟩ rfl hHeld ?_
 simp only [hP]
 refine hT 1 ⟨some 10, _, _, _, _, _⟩ rfl hHeld ?_
 simp only [hP]
 refine hT 2 ⟨some 11, _, _, _, _, _⟩ rfl hHeld ?_
 simp only [hP]
 refine hC 3 rfl fun K hK => ?_
 go_simp
 refine (CS.out _).mono ?_
 rintro e w3 ⟨rfl, hb3⟩
 have h3 := JfS.then hHeld hb3
 clear hb3
 refine hK.out _ _ h3 (fun _ => ?_)
 clear hK K
 refine hC 4 rfl fun K hK => ?_
 go_simp
 refine (CN.out _).mono ?_
 rintro e w4 ⟨c, rfl, h4⟩
 have H4 := hI h4
 have H3 := hI h3
 have h5 := JfS.made h3 h4
 clear h4
 refine hK.out _ _ h5 (fun _ => ?_)
 clear hK K
 refine hT 5 ⟨some 8, _, _, _, _, _⟩ rfl h5 ?_
 simp only [hP]
 refine hT 6 ⟨some 14, _, _, _, _, _⟩ rfl h5 ?_
 simp only [hP]
 refine hT 7 ⟨some 15, _, _, _, _, _⟩ rfl h5 ?_
 simp only [hP]
 refine hT 8 ⟨some 4, _, _, _, _, _⟩ rfl h5 ?_
 simp only [hP]
 refine hT 9 ⟨some 5, _, _, _, _, _⟩ rfl h5 ?_
 simp only [hP]
 refine wpAnyH_done (by kernel_rfl) ?_ _
 refine NoPanic.normal ?_
 have HJ5 := hI h5
 obtain ⟨e0, e1, e2, e3, e4⟩ := CfB.cells h5.1
 clear d0 d1 d2 d3 d4 h2 hHeld h3 h5
 generalize newRk cf.n.toNat cf.secs.toNat = q0 at *
 have CM := hI (vmake_any w4 H4.out.rack cf)
 go_wp2_with fail
 refine CM.out.mono ?_
 rintro e w5 ⟨v5, rfl, hkv5, hr5, hc5⟩
 obtain rfl := hkv5.nil HMF.out.1
 have HQ5 := hI (H4.out.next hr5 hc5)
 have CO := hI (qs_opens HQ5.out rfl HMF.out.2.1 (allP_enough HMF.out.2.1.tnt.on.fits))
 clear hkv5 hr5 hc5 e0 e1 e2 e3 e4
 go_wp2_with fail
 refine CO.out.mono ?_
 rintro e w6 ⟨q', hc6, hr6, hn6, hk6, ⟨b', g', V', rfl, hvw, _, hfree, hlive, hevo, hg'⟩ | ⟨v6, _, _, hne, _⟩⟩
 rotate_left
 ·exact absurd HMF.out.2.2 hne
 have hV : V' = V0 cf := by
  rcases hevo with ⟨h1, _⟩ | ⟨y, h1, _⟩
  ·exact h1
  ·cases h1
 have hg1 : g' = 1 := by have := hlive.s1; omega
 subst hV hg1
 have hall : allP (Rk.vmake q0 cf) = allP q' := by unfold allP; rw [hn6]
 rw [hall] at hlive
 have HRES := hI (show VW w3 c cf q'.n q' 1 false b' w6 ∧ Live cf (V0 cf) (allP q') q' 1 ∧ q'.rem = -1 ∧ (q'.k : Int) = cf.secs ∧ (q'.n : Int) = cf.n from
  ⟨by rw [hn6]; exact hvw, hlive, hfree HMF.out.2.2, by rw [hk6]; exact HK.out.2, by rw [hn6]; exact HK.out.1⟩)
 clear hc6 hr6 hn6 hk6 hvw hfree hlive hevo hg' hall
 go_wp2_with fail
 refine bodyPost_ret (v := .tuple #[.pointer (some ⟨c.r, 0, none⟩), .pointer (some ⟨b', 0, none⟩)]) (by simp [results, Tryz.results18, go_sem]) rfl ?_
 exact ⟨c, b', q', w3, rfl, HRES.out.1, H3.out.2.2, HRES.out.2.1, HRES.out.2.2.1, allP_alive HRES.out.2.1, HRES.out.2.2.2.1, HRES.out.2.2.2.2⟩
structure MW (w1 : World) (c : Lc) (cf : Cf) (n : Nat) (q : Rk) (vg : Int) (down : Bool) (b g mb : Nat) (w : World) : Prop where
 vw : VW w1 c cf n q vg down b w
 cu : MB b g mb w
 far : FarV mb c n
 ne : mb ≠ b
 le : w1.heap.size ≤ mb
variable {w1 w w' : World} {c : Lc} {q : Rk} {vg : Int} {down : Bool} {b g mb : Nat}
theorem MW.below {cf : Cf} {n : Nat} (h : MW w1 c cf n q vg down b g mb w) (hb : Below w.heap.size w w') : MW w1 c cf n q vg down b g mb w' := ⟨h.vw.below hb, h.cu.below hb, h.far, h.ne, h.le⟩
theorem MW.rack {cf : Cf} {n : Nat} {q' : Rk} (h : MW w1 c cf n q vg down b g mb w) (hv : VW w1 c cf n q' vg down b w') (hc : RC c n w w') : MW w1 c cf n q' vg down b g mb w' := ⟨hv, h.cu.rc h.far.1 hc, h.far, h.ne, h.le⟩
theorem VW.cursor {cf : Cf} {n : Nat} (h : VW w1 c cf n q vg down b w) (hm : MB b 0 w.heap.size w') (hb : Below w.heap.size w w') : MW w1 c cf n q vg down b 0 w.heap.size w' :=
 ⟨h.below hb, hm, by have := h.qs.rack.farV (Nat.le_refl w.heap.size); rwa [h.nn] at this, by have := h.vb.lt; omega, h.qs.base.size⟩
theorem rcm_below {lo : Nat} {n : Nat} {w0 : World} (h : RCM c n b mb w w') (hr : RackIn lo w c q) (hn : q.n = n) (hb : Below lo w0 w) (hl : lo ≤ w.heap.size) (hlb : lo ≤ b) (hlm : lo ≤ mb) : Below lo w0 w' := by
 exact hb.trans ⟨h.os, h.tape, h.output, h.size, fun k hk => h.block k (by omega) (by have := hr.lr; omega) (by omega) (by omega) (fun i hi => by have := hr.ld i (by omega); omega)⟩
def MTk (w1 : World) (c : Lc) (cf : Cf) (n : Nat) (q : Rk) (vg : Int) (b g mb : Nat) (w : World) (e : Ending) (w' : World) : Prop :=
 ∃ (q' : Rk) (k : Int) (m : Nat) (v : Value), e = .returned (.tuple #[.int .i64 (m : Int), v]) ∧ KV k v ∧ TickTo cf q g q' k m ∧ (∀ t : Nat, g = 1 + cf.s.toNat + t → tcode q cf t ≠ 0 → v = wrapV opTick (g : Int) (tgetV q cf t)) ∧
  MW w1 c cf n q' vg (decide (k = 5)) b ((g + 1) % groups cf) mb w' ∧ RCM c n b mb w w'
theorem MW.tick {cf : Cf} {n : Nat} (h : MW w1 c cf n q vg false b g mb w) (hf : cf.fits q = true) (hg : g < groups cf) (hoff : q.off = false) (hw : ∀ s : Nat, s < cf.s.toNat → jcode q cf s = 0 → jwhole q cf s = true) :
  Calls Tryz.prog 22 #[.pointer (some ⟨mb, 0, none⟩)] w (MTk w1 c cf n q vg b g mb w) := by
 refine (tick_any w h.vw.qs.rack h.vw.vb h.cu (by rw [h.vw.nn]; exact h.vw.farv) (by rw [h.vw.nn]; exact h.far) h.ne hf hg hoff hw).mono ?_
 rintro e w' ⟨q', k, m, v, rfl, hkv, hT, hL, hR, hV, hM, hC⟩
 rw [h.vw.nn] at hC
 exact ⟨q', k, m, v, rfl, hkv, hT, hL, ⟨⟨⟨hR, rcm_below hC h.vw.qs.rack h.vw.nn h.vw.qs.base h.vw.qs.base.size h.vw.le h.le⟩, (tickTo_n hT).trans h.vw.nn, hV, h.vw.farv, h.vw.le⟩, hM, h.far, h.ne, h.le⟩, hC⟩
theorem MW.at {cf : Cf} {n : Nat} (h : MW w1 c cf n q vg down b g mb w) : Calls Tryz.prog 20 #[.pointer (some ⟨mb, 0, none⟩)] w (NumSame (g : Int) w) := mat_any w h.cu
variable {V : Vl} {P : Nat → Bool}
theorem Live.whole {c : Cf} {seq : Int} (h : Live c V P q seq) : ∀ s : Nat, s < c.s.toNat → jcode q c s = 0 → jwhole q c s = true := fun s hs h0 => by
 rcases h.inv.slotAny h.on (s := s) (by omega) with h6 | ⟨_, hw, _⟩
 ·rw [h0] at h6; cases h6
 ·exact hw
def cM : Cf := ⟨9, 1, 2, 2, 1⟩
theorem cM_on : On (newRk 2 4) cM := (pl_new (by decide) (by decide) (by decide) (by decide) (by decide)).on
theorem cM_right : CfRight cM := cM_on.right
theorem cM_fresh : On (newRk cM.n.toNat cM.secs.toNat) cM ∧ Alive (newRk cM.n.toNat cM.secs.toNat) ∧ ((cM.n.toNat : Nat) : Int) = cM.n ∧ ((cM.secs.toNat : Nat) : Int) = cM.secs ∧ 1 ≤ cM.n.toNat ∧ cM.n.toNat ≤ 6 ∧ 1 ≤ cM.secs.toNat ∧ cM.secs.toNat ≤ 128 :=
 ⟨cM_on, fun _ _ => rfl, by decide, by decide, by decide, by decide, by decide, by decide⟩
theorem VW.replace {cf : Cf} {n : Nat} {g : Int} (h : VW w1 c cf n q g down b w) (i : Int) : Calls Tryz.prog 35 #[.pointer (some ⟨c.r, 0, none⟩), .int .i64 i] w (VN w1 c cf n (Rk.dying q i false) g down b (.bool (decide (q.has i))) w) :=
 h.step (qreplace_any w h.qs.rack i) (dying_rem q i false).2.1
variable {B : Nat} {v : Value}
theorem own_rcm {e k m n : Nat} {xs : List Value} (h : w.ownsRow B e k v m xs) (hf : Far B c n) (hc : RCM c n b mb w w') (hne : v.ownBlock ≠ some b) (hnm : v.ownBlock ≠ some mb) : w'.ownsRow B e k v m xs := by
 obtain ⟨h1, h2⟩ := h
 refine ⟨h1, ?_⟩
 rcases h2 with h2 | ⟨g, cap, cur, hv, hg, hh, r⟩
 ·exact Or.inl h2
 ·refine Or.inr ⟨g, cap, cur, hv, hg, ?_, r⟩
  rw [hc.block g (Array.getElem?_eq_some_iff.1 hh).1 (by have := hf.1; omega) (fun e => hne (by rw [hv, e]; rfl)) (fun e => hnm (by rw [hv, e]; rfl)) (fun i hi => by have := hf.2 i hi; omega)]; exact hh
theorem MW.row {cf : Cf} {n : Nat} {bs : List (List UInt8)} (h : MW w1 c cf n q vg down b g mb w) (hv : BkB B bs v w) (hf : Far B c n) (hc : RCM c n b mb w w') : BkB B bs v w' :=
 ⟨hv.is, own_rcm hv.row hf hc (own_vb hv.row h.vw.vb (by decide)) (own_kind_ne hv.row h.cu (by decide))⟩
theorem enough_on {c : Cf} {d : Nat} (hk : c.k.toNat = 1) (hd : d < q.n) (hl : (q.s d).dead = false) : Enough c (onP q) q.n := ⟨by
 rw [hk]
 exact List.length_pos_of_mem (List.mem_filter.2 ⟨List.mem_range.2 hd, onP_iff.2 ⟨hd, hl⟩⟩)⟩
def RelMR1 (w4 : World) (c : Lc) (V : Vl) (P : Nat → Bool) (b mb : Nat) (w0 : World) (x : Value) (wr : World) : Prop :=
 ∃ (i : Nat) (q : Rk), i ≤ 4 ∧ x = .int .i64 i ∧ MW w4 c cM 2 q 2 false b (i % 4) mb wr ∧ Rnd cM V P 2 0 i q ∧ Alive q ∧ w0.heap.size ≤ wr.heap.size
def RelMR2 (w4 : World) (c : Lc) (q : Rk) (b mb B : Nat) (A : List (List UInt8)) (v : Value) (w0 : World) (x : Value) (wr : World) : Prop :=
 ∃ i : Nat, i ≤ 4 ∧ x = .int .i64 i ∧ MW w4 c cM 2 q 2 false b (i % 4) mb wr ∧ BkB B A v wr ∧ w0.heap.size ≤ wr.heap.size
set_option maxHeartbeats 4000000 in
set_option maxRecDepth 100000 in
theorem mruns_any (w : World) : Calls Tryz.prog 29 #[] w (Bit true w) := by
  obtain ⟨w1, hw1⟩ : ∃ w1, w1 = w.alloc (.cells (cfA cM) 23) := ⟨_, rfl⟩
  have H1 := hI (show CfB cM w.heap.size w1 ∧ w.heap.size < w1.heap.size ∧ Below w.heap.size w w1 by rw [hw1]; exact ⟨cfB_new w cM, by simp, one_below _ _⟩)
  have COP := hI (show Calls Tryz.prog 18 #[.agg #[.int .i64 9, .int .i64 1, .int .i64 2, .int .i64 2, .int .i64 1]] w1 (OpdB cM w1) from opened13_any w1 cM cM_fresh cM_right)
  have hcR : (w.alloc (.cells #[.int .i64 9, .int .i64 1, .int .i64 2, .int .i64 2, .int .i64 1] 23)) = w1 := hw1.symm
  obtain ⟨e0, e1, e2, e3, e4⟩ : w1.cell? ⟨w.heap.size, 0, none⟩ = some (.int .i64 9) ∧ w1.cell? ⟨w.heap.size, 1, none⟩ = some (.int .i64 1) ∧ w1.cell? ⟨w.heap.size, 2, none⟩ = some (.int .i64 2) ∧ w1.cell? ⟨w.heap.size, 3, none⟩ = some (.int .i64 2) ∧ w1.cell? ⟨w.heap.size, 4, none⟩ = some (.int .i64 1) := CfB.cells H1.out.1
  clear hw1
  go_enter Tryz.func29, Tryz.ntmps29
  go_wp2_with fail
  clear hcR e0 e1 e2 e3 e4
  refine COP.out.mono ?_
  rintro e w3 ⟨c, b, q0, w4, rfl, hvw, hb4, hlive, hrem, halive, _, hnn⟩
  have hn2 : q0.n = 2 := by have : (q0.n : Int) = 2 := hnn
                            omega
  rw [hn2] at hvw
  have HW3 := hI hvw
  have HL3 := hI hlive
  have HR3 := hI hrem
  have HA3 := hI halive
  have HN3 := hI hn2
  have HBW := hI (fun (w' : World) (h : Below w4.heap.size w4 w') => show Below w.heap.size w w' from bthen H1.out.2.2 (bthen hb4 h))
  have HCC := hI (fun (w' : World) (h : Below w4.heap.size w4 w') => show CfB cM w.heap.size w' from CfB.below H1.out.1 H1.out.2.1 (bthen hb4 h))
  have HE3 := hI (show Enough cM (allP q0) q0.n from allP_enough hlive.on.fits)
  have HFA := hI (show Far w3.heap.size c 2 from by have := hvw.qs.rack.far; rwa [hn2] at this)
  clear hvw hb4 hlive hrem halive hnn hn2
  have CA := hI (fun w' => show Calls Tryz.prog 34 #[.int .i64 1, .int .i64 4] w' (BlksNew (blks 4 1) w') from blocks_any 1 4 w' (by decide))
  have hlA : (blks 4 1).length = 1 := blks_length 4 1
  have HIA := hI (blks_is 4 1)
  go_wp2_with fail
  refine (CA.out w3).mono ?_
  rintro e w5 ⟨va, rfl, hva, hb5⟩
  have HA5 := hI (show BkB w3.heap.size (blks 4 1) va w5 from bkB_of hva (Nat.le_refl _))
  have HW5 := hI (HW3.out.below hb5)
  have HSZ5 := hI hb5.size
  have HB5 := hI (HW5.out.qs.base)
  obtain ⟨ga, ca, rfl, -⟩ := own_slice' hva
  generalize blks 4 1 = A at *
  clear hva hb5
  have CC := hI (show Calls Tryz.prog 33 #[.pointer (some ⟨b, 0, none⟩), .int .i64 1, .slice ga A.length ca] w5 _ from HW5.out.commits HL3.out HE3.out (by decide) (s := 1) (by decide) (by rw [hlA]; rfl) HA5.out HFA.out)
  rw [hlA] at CC
  rw [hlA]
  go_wp2_with fail
  refine CC.out.mono ?_
  rintro e w6 ⟨v6, q6, rfl, hrc6, hn6, _, ⟨rfl, hf6, hvw6, hl6⟩ | ⟨_, hne, _⟩⟩
  rotate_left
  · exact absurd HR3.out hne
  have HW6 := hI hvw6
  have HR6 := hI (hf6 HR3.out)
  have HSZ6 := hI (show w3.heap.size ≤ w6.heap.size from Nat.le_trans HSZ5.out hrc6.size)
  have hap : allP q6 = allP q0 := by unfold allP; rw [hn6]
  rw [← hap] at hl6
  obtain ⟨V6, hV6⟩ : ∃ V6, V6 = addY cM (V0 cM) (cRec 1 (1 : Nat) A) := ⟨_, rfl⟩
  have HG6 := hI (show V6.G 1 = 2 ∧ V6.B 1 = A by rw [hV6]; exact ⟨rfl, rfl⟩)
  rw [← hV6] at hl6
  have hN6 : q6.n = 2 := hn6.trans HN3.out
  have HRP := hI (hl6.replaced (d := 0) (allP_alive hl6) HR6.out (by rw [hN6]; decide))
  have CRE := hI (show Calls Tryz.prog 35 #[.pointer (some ⟨c.r, 0, none⟩), .int .i64 0] w6 _ from HW6.out.replace ((0 : Nat) : Int))
  have HE6 := hI (show Enough cM (PD (allP q6) 0) 2 from ⟨by
    show 1 ≤ _
    exact List.length_pos_of_mem (a := 1) (List.mem_filter.2 ⟨List.mem_range.2 (by decide), by show (decide (1 < q6.n) && decide (1 ≠ 0)) = true; rw [hN6]; rfl⟩)⟩)
  clear hrc6 hn6 hf6 hvw6 hl6 hV6 hap
  generalize PD (allP q6) 0 = P at *
  generalize Rk.dying q6 ((0 : Nat) : Int) false = q7 at *
  go_wp2_with fail
  refine CRE.out.mono ?_
  rintro e w7 ⟨rfl, hvw7, hrc7⟩
  have HW7 := hI hvw7
  have HSZ7 := hI (Nat.le_trans HSZ6.out hrc7.size)
  clear hvw7 hrc7
  go_wp2_with fail
  refine (mnew_any w7 b).mono ?_
  rintro e w8 ⟨rfl, hm8, hb8⟩
  have HM8 := hI (HW7.out.cursor hm8 hb8)
  have HSZ8 := hI (Nat.le_trans HSZ7.out hb8.size)
  have CG := hI (fun w' => show Calls Tryz.prog 23 #[.agg #[.int .i64 9, .int .i64 1, .int .i64 2, .int .i64 2, .int .i64 1]] w' (Num 4 w') from mgroups_any w' cM cM_right)
  obtain ⟨d0, d1, d2, d3, d4⟩ : w8.cell? ⟨w.heap.size, 0, none⟩ = some (.int .i64 9) ∧ w8.cell? ⟨w.heap.size, 1, none⟩ = some (.int .i64 1) ∧ w8.cell? ⟨w.heap.size, 2, none⟩ = some (.int .i64 2) ∧ w8.cell? ⟨w.heap.size, 3, none⟩ = some (.int .i64 2) ∧ w8.cell? ⟨w.heap.size, 4, none⟩ = some (.int .i64 1) := CfB.cells (HCC.out w8 HM8.out.vw.qs.base)
  generalize w7.heap.size = mb at *
  clear hm8 hb8
  go_wp2_with fail
  refine (CG.out _).mono ?_
  rintro e w9 ⟨rfl, hb9⟩
  have HM9 := hI (HM8.out.below hb9)
  have HSZ9 := hI (Nat.le_trans HSZ8.out hb9.size)
  clear hb9 d0 d1 d2 d3 d4
  go_wp2_with fail
  go_loopw [5] (fun x wr => RelMR1 w4 c V6 P b mb w3 x wr) (fun x _ => 4 - (intOf x).toNat)
  case atStart => exact ⟨0, q7, by decide, rfl, HM9.out, HRP.out.1, HRP.out.2.2, HSZ9.out⟩
  case round =>
    obtain ⟨i, q, hi, rfl, hM, hRn, hAl, hsz⟩ := hrel
    by_cases hlt : i < 4
    · have hn2 : q.n = 2 := hM.vw.nn
      have CT := hI (hM.tick hRn.live.on.fits (by show i % 4 < 4; omega) hRn.live.on.off hRn.live.whole); have HRn := hI hRn; have HAL := hI hAl; have HSZ := hI hsz; have hi4 : i % 4 = i := Nat.mod_eq_of_lt hlt; clear hM hRn hAl hsz; go_wp2_with fail; refine CT.out.mono ?_; rintro e wt ⟨q', k, m, v, rfl, hkv, hT, _, hM', hC'⟩; rw [hi4] at hT hM'; obtain ⟨rfl, hm, hnq, hR'⟩ := HRn.out.tick (by rw [hn2]; exact HE6.out) hlt hT; obtain rfl := hkv.nil rfl
      have hm1 : m = 1 := by
        rw [hm]
        have : i = 0 ∨ i = 1 ∨ i = 2 ∨ i = 3 := by omega
        rcases this with rfl | rfl | rfl | rfl <;> rfl
      subst hm1; have HM' := hI hM'; have HR' := hI hR'
      have HAL' := hI (show Alive q' from fun d hd => by
        have h0 : d = 0 ∨ d = 1 := by rw [hnq, hn2] at hd; omega
        rcases h0 with rfl | rfl
        · exact hR'.dl
        · cases hdd : (q'.s 1).dead with
          | false => rfl
          | true => exact absurd (hR'.live.inv.p 1 (HRn.out.oth 1 (by rw [hn2]; decide) (by decide) (HAL.out 1 (by rw [hn2]; decide)))).2 (by rw [hdd]; decide))
      have HSZ' := hI (Nat.le_trans HSZ.out hC'.size); clear hm hnq hR' hkv hT hM' hC'; go_wp2_with fail
      go_roundw
      case rel => exact ⟨i + 1, q', by omega, by go_num, HM'.out, HR'.out, HAL'.out, HSZ'.out⟩
      case measure => simp [intOf]; omega
    · obtain rfl : i = 4 := by omega
      have hn2 : q.n = 2 := hM.vw.nn; have hL : Live cM V6 (onP q) q 2 := hRn.done; have HD := hI (hL.dies (d := 1) (by rw [hn2]; decide) (hAl 1 (by rw [hn2]; decide))); have HM := hI hM; have HSZ := hI hsz; have HREM := hI hRn.rem; have CD := hI (show Calls Tryz.prog 42 #[.pointer (some ⟨c.r, 0, none⟩), .int .i64 1] wr _ from hM.vw.die ((1 : Nat) : Int))
      have hdl : ((Rk.dying q (1 : Nat) true).s 0).dead = false := by
        have h := onP_dying (q := q) (d := 1) (by rw [hn2]; decide)
        have h0 : onP (Rk.dying q (1 : Nat) true) 0 = true := by rw [h]; show (onP q 0 && decide (0 ≠ 1)) = true; rw [onP_iff.2 ⟨by rw [hn2]; decide, hAl 0 (by rw [hn2]; decide)⟩]; rfl
        exact (onP_iff.1 h0).2
      have HE := hI (enough_on (c := cM) (q := Rk.dying q (1 : Nat) true) (d := 0) rfl (by rw [HD.out.2.1, hn2]; decide) hdl); clear hM hRn hAl hsz hL hdl; have HD1 := hI (show Live cM V6 (onP (Rk.dying q ((1 : Nat) : Int) true)) (Rk.dying q ((1 : Nat) : Int) true) 2 ∧ (Rk.dying q ((1 : Nat) : Int) true).n = q.n ∧ (Rk.dying q ((1 : Nat) : Int) true).rem = -1 from ⟨HD.out.1, HD.out.2.1, HD.out.2.2.trans HREM.out⟩); clear HD; generalize Rk.dying q ((1 : Nat) : Int) true = q2 at *; go_wp2_with fail; refine CD.out.mono ?_; rintro e wd ⟨rfl, hvwd, hrcd⟩; have HMd := hI (HM.out.rack hvwd hrcd); have HSZd := hI (Nat.le_trans HSZ.out hrcd.size); clear hvwd hrcd; have CR := hI (show Calls Tryz.prog 39 #[.pointer (some ⟨b, 0, none⟩), .int .i64 1] wd (GotB (V6.G 1) (V6.B 1) wd) from HMd.out.vw.reads HD1.out.1.inv HD1.out.1.on (t := 1) (by decide) (HD1.out.1.read HE.out (t := 1) (by decide)).1); rw [HG6.out.1, HG6.out.2] at CR; go_wp2_with fail; refine CR.out.mono ?_; rintro e we ⟨vx, rfl, hx, hbe⟩; have HMe := hI (HMd.out.below hbe); have HX := hI (show BkB w3.heap.size A vx we from ⟨HIA.out, own_base hx HSZd.out⟩); have HSZe := hI (Nat.le_trans HSZd.out hbe.size); obtain ⟨gx, cx, rfl, -⟩ := own_slice' hx; clear hx hbe; have HALL := hI (HD1.out.1.hasAll); go_wp2_with fail
      go_loopw [11] (fun x wr => RelMR2 w4 c q2 b mb w3.heap.size A (.slice gx A.length cx) w3 x wr) (fun x _ => 4 - (intOf x).toNat)
      case atStart => exact ⟨0, by decide, rfl, HMe.out, HX.out, HSZe.out⟩
      case round =>
        obtain ⟨i, hi, rfl, hM, hX, hsz⟩ := hrel
        by_cases hlt : i < 4
        · have CT := hI (hM.tick HD1.out.1.on.fits (by show i % 4 < 4; omega) HD1.out.1.on.off HD1.out.1.whole)
          have hi4 : i % 4 = i := Nat.mod_eq_of_lt hlt; have HX2 := hI hX; have HM2 := hI hM; have HSZ2 := hI hsz; clear hM hX hsz; go_wp2_with fail; refine CT.out.mono ?_; rintro e wt ⟨q', k, m, v, rfl, hkv, hT, _, hM', hC'⟩; rw [hi4] at hT hM'; obtain ⟨rfl, rfl, rfl⟩ := tick_idle HD1.out.1 HE.out HD1.out.2.2 (HALL.out i (by show i < 4; exact hlt)) (by show i < 4; exact hlt) hT; obtain rfl := hkv.nil rfl; have HM' := hI hM'; have HX' := hI (HM2.out.row HX2.out HFA.out hC'); have HSZ' := hI (Nat.le_trans HSZ2.out hC'.size); clear hkv hT hM' hC'; go_wp2_with fail
          go_roundw
          case rel => exact ⟨i + 1, by omega, by go_num, HM'.out, HX'.out, HSZ'.out⟩
          case measure => simp [intOf]; omega
        · obtain rfl : i = 4 := by omega
          have HM2 := hI hM; have HX2 := hI hX; have HSZ2 := hI hsz; clear hM hX hsz; have hgz : ((2 : Int) == 2) = true := rfl; go_wp2_with fail; refine (CA.out _).mono ?_; rintro e wf ⟨vb, rfl, hvb, hbf⟩; have HMf := hI (HM2.out.below hbf); have CS := hI (same_blocks _ vb A A wf (HX2.out.below hbf).slk (slK_own hvb HIA.out rfl) (by rw [hlA]; decide)); rw [show decide (A = A) = true from decide_eq_true rfl] at CS; obtain ⟨gb, cb, rfl, -⟩ := own_slice' hvb; rw [hlA] at CS; clear hvb hbf; go_wp2_with fail; refine CS.out.mono ?_; rintro e wg ⟨rfl, hbg⟩; have HMg := hI (HMf.out.below hbg); clear hbg; go_wp2_with fail; refine HMg.out.at.mono ?_; rintro e wh ⟨rfl, hwh⟩; subst hwh; go_wp2_with fail; go_ret; exact bit rfl (HBW.out _ HMg.out.vw.qs.base)
def VOpN (w1 : World) (c : Lc) (cf : Cf) (n : Nat) (V : Vl) (Y : Option Rc) (P : Nat → Bool) (q : Rk) (M : Int) (w : World) (e : Ending) (w' : World) : Prop :=
 ∃ q' : Rk, NR q' ∧ RC c n w w' ∧ RackIn w1.heap.size w' c q' ∧ q'.n = q.n ∧ q'.k = q.k ∧ ((∃ (b : Nat) (g : Int) (V' : Vl), e = .returned (.tuple #[.pointer (some ⟨b, 0, none⟩), .nilIface]) ∧ VW w1 c cf n q' g false b w' ∧ w.heap.size ≤ b ∧ Free q q' ∧ Live cf V' P q' g ∧ Evo cf V Y V' none ∧ g ≤ M) ∨
  (∃ v, KV 5 v ∧ e = .returned (.tuple #[.pointer none, v]) ∧ q.rem ≠ -1 ∧ q'.off = true ∧ ∃ V' Y', Down cf V' Y' P q' M ∧ Evo cf V Y V' Y'))
theorem qs_opensN {cf : Cf} {n : Nat} {Y : Option Rc} {M : Int} (h : QS w1 c q w) (hn : q.n = n) (hR : Raw cf V Y P q M) (hP : Enough cf P q.n) (hN : NR q) : Calls Tryz.prog 38 #[.pointer (some ⟨c.r, 0, none⟩)] w (VOpN w1 c cf n V Y P q M w) := by
 refine (vopen_any w h.rack).mono ?_
 rintro e w' ⟨q', e', g, ho, hr, hc, hout⟩
 obtain ⟨⟨f1, f2⟩, n1, k1, r⟩ := hR.opens hP ho
 have hc0 := hc
 rw [hn] at hc
 refine ⟨q', hN.opens ho, hc, hr, n1, k1, ?_⟩
 rcases r with ⟨a1, a2, V', a3, a4, a5⟩ | ⟨a1, a2, a3, a4⟩
 ·rcases hout with ⟨_, b, rfl, hb, hv⟩ | ⟨h0, _⟩
  ·rw [f2] at hv
   exact Or.inl ⟨b, g, V', rfl, ⟨h.next hr hc0, n1.trans hn, hv, by rw [← hn]; exact h.rack.farV hb, Nat.le_trans h.base.size hb⟩, hb, a2, a3, a4, a5⟩
  ·exact absurd a1 h0
 ·rcases hout with ⟨h0, _⟩ | ⟨_, v, hkv, rfl⟩
  ·rw [h0] at a1; cases a1
  ·rw [a1] at hkv
   exact Or.inr ⟨v, hkv, rfl, a2, a3, a4⟩
def OpdN (cf : Cf) (w : World) (e : Ending) (w' : World) : Prop :=
 ∃ (c : Lc) (b : Nat) (q : Rk) (w1 : World), NR q ∧ e = .returned (.tuple #[.pointer (some ⟨c.r, 0, none⟩), .pointer (some ⟨b, 0, none⟩)]) ∧ VW w1 c cf q.n q 1 false b w' ∧ Below w.heap.size w w1 ∧ Live cf (V0 cf) (allP q) q 1 ∧ q.rem = -1 ∧ Alive q ∧ (q.k : Int) = cf.secs ∧ (q.n : Int) = cf.n
set_option maxHeartbeats 2000000 in
set_option maxRecDepth 100000 in
theorem opened13N_any (w : World) (cf : Cf) (hfr : On (newRk cf.n.toNat cf.secs.toNat) cf ∧ Alive (newRk cf.n.toNat cf.secs.toNat) ∧ ((cf.n.toNat : Nat) : Int) = cf.n ∧ ((cf.secs.toNat : Nat) : Int) = cf.secs ∧ 1 ≤ cf.n.toNat ∧ cf.n.toNat ≤ 6 ∧ 1 ≤ cf.secs.toNat ∧ cf.secs.toNat ≤ 128) (hrt : CfRight cf) : Calls Tryz.prog 18 #[.agg (cfA cf)] w (OpdN cf w) := by
 obtain ⟨f1, f2, hn, hsec, n1, n6, s1, s128⟩ := hfr
 have CS := hI (fun w => ksectors_any cf w hrt)
 have CN := hI (fun w => show Calls Tryz.prog 44 #[.int .i64 cf.n, .int .i64 cf.secs] w (QNew w cf.n.toNat cf.secs.toNat) by
  have := qs_new cf.n.toNat cf.secs.toNat w n1 (by omega) s1 s128
  rwa [hn, hsec] at this)
 have HMF := hI (make_free f1 f2 rfl hn)
 have HNR := hI ((nr_new cf.n.toNat cf.secs.toNat).vmake cf)
 have HK := hI (show ((Rk.vmake (newRk cf.n.toNat cf.secs.toNat) cf).n : Int) = cf.n ∧ ((Rk.vmake (newRk cf.n.toNat cf.secs.toNat) cf).k : Int) = cf.secs by rw [vmake_n, vmake_k]; exact ⟨hn, hsec⟩)
 have HFIT := hI f1.fits
 clear hrt f1 f2 hn hsec n1 n6 s1 s128
 have H2 := hI (show JfS cf w.heap.size w (w.alloc (.cells (cfA cf) 23)) from ⟨cfB_new w cf, by simp, one_below _ _⟩)
 go_enter Tryz.func18, Tryz.ntmps18
 go_wp2_with fail
 have h2 := H2.out
 generalize w.alloc (.cells (cfA cf) 23) = w2 at *
 generalize w.heap.size = b at *
 have d0 : ∀ w', JfS cf b w w' → w'.cell? ⟨b, 0, none⟩ = some (.int .i64 cf.id) := fun w' h => h.1.cell 0
 have d1 : ∀ w', JfS cf b w w' → w'.cell? ⟨b, 1, none⟩ = some (.int .i64 cf.k) := fun w' h => h.1.cell 1
 have d2 : ∀ w', JfS cf b w w' → w'.cell? ⟨b, 2, none⟩ = some (.int .i64 cf.n) := fun w' h => h.1.cell 2
 have d3 : ∀ w', JfS cf b w w' → w'.cell? ⟨b, 3, none⟩ = some (.int .i64 cf.t) := fun w' h => h.1.cell 3
 have d4 : ∀ w', JfS cf b w w' → w'.cell? ⟨b, 4, none⟩ = some (.int .i64 cf.s) := fun w' h => h.1.cell 4
 refine wp_region_noPanic ?_
 refine wp_region_held_drew (S := (fun w' => JfS cf b w w')) (by kernel_rfl) h2.drew (fun hHeld => ?_)
 refine hT 0 ⟨some 9, _, _, _, _, _⟩ rfl hHeld ?_
 simp only [hP]
 refine hT 1 ⟨some 10, _, _, _, _, _⟩ rfl hHeld ?_
 simp only [hP]
 refine hT 2 ⟨some 11, _, _, _, _, _⟩ rfl hHeld ?_
 simp only [hP]
 refine hC 3 rfl fun K hK => ?_
 go_simp
 refine (CS.out _).mono ?_
 rintro e w3 ⟨rfl, hb3⟩
 have h3 := JfS.then hHeld hb3
 clear hb3
 refine hK.out _ _ h3 (fun _ => ?_)
 clear hK K
 refine hC 4 rfl fun K hK => ?_
 go_simp
 refine (CN.out _).mono ?_
 rintro e w4 ⟨c, rfl, h4⟩
 have H4 := hI h4
 have H3 := hI h3
 have h5 := JfS.made h3 h4
 clear h4
 refine hK.out _ _ h5 (fun _ => ?_)
 clear hK K
 refine hT 5 ⟨some 8, _, _, _, _, _⟩ rfl h5 ?_
 simp only [hP]
 refine hT 6 ⟨some 14, _, _, _, _, _⟩ rfl h5 ?_
 simp only [hP]
 refine hT 7 ⟨some 15, _, _, _, _, _⟩ rfl h5 ?_
 simp only [hP]
 refine hT 8 ⟨some 4, _, _, _, _, _⟩ rfl h5 ?_
 simp only [hP]
 refine hT 9 ⟨some 5, _, _, _, _, _⟩ rfl h5 ?_
 simp only [hP]
 refine wpAnyH_done (by kernel_rfl) ?_ _
 refine NoPanic.normal ?_
 have HJ5 := hI h5
 obtain ⟨e0, e1, e2, e3, e4⟩ := CfB.cells h5.1
 clear d0 d1 d2 d3 d4 h2 hHeld h3 h5
 generalize newRk cf.n.toNat cf.secs.toNat = q0 at *
 have CM := hI (vmake_any w4 H4.out.rack cf)
 go_wp2_with fail
 refine CM.out.mono ?_
 rintro e w5 ⟨v5, rfl, hkv5, hr5, hc5⟩
 obtain rfl := hkv5.nil HMF.out.1
 have HQ5 := hI (H4.out.next hr5 hc5)
 have CO := hI (qs_opensN HQ5.out rfl HMF.out.2.1 (allP_enough HMF.out.2.1.tnt.on.fits) HNR.out)
 clear hkv5 hr5 hc5 e0 e1 e2 e3 e4
 go_wp2_with fail
 refine CO.out.mono ?_
 rintro e w6 ⟨q', hnr, hc6, hr6, hn6, hk6, ⟨b', g', V', rfl, hvw, _, hfree, hlive, hevo, hg'⟩ | ⟨v6, _, _, hne, _⟩⟩
 rotate_left
 ·exact absurd HMF.out.2.2 hne
 have hV : V' = V0 cf := by
  rcases hevo with ⟨h1, _⟩ | ⟨y, h1, _⟩
  ·exact h1
  ·cases h1
 have hg1 : g' = 1 := by have := hlive.s1; omega
 subst hV hg1
 have hall : allP (Rk.vmake q0 cf) = allP q' := by unfold allP; rw [hn6]
 rw [hall] at hlive
 have HRES := hI (show VW w3 c cf q'.n q' 1 false b' w6 ∧ Live cf (V0 cf) (allP q') q' 1 ∧ q'.rem = -1 ∧ (q'.k : Int) = cf.secs ∧ (q'.n : Int) = cf.n ∧ NR q' from
  ⟨by rw [hn6]; exact hvw, hlive, hfree HMF.out.2.2, by rw [hk6]; exact HK.out.2, by rw [hn6]; exact HK.out.1, hnr⟩)
 clear hnr hc6 hr6 hn6 hk6 hvw hfree hlive hevo hg' hall
 go_wp2_with fail
 refine bodyPost_ret (v := .tuple #[.pointer (some ⟨c.r, 0, none⟩), .pointer (some ⟨b', 0, none⟩)]) (by simp [results, Tryz.results18, go_sem]) rfl ?_
 exact ⟨c, b', q', w3, HRES.out.2.2.2.2.2, rfl, HRES.out.1, H3.out.2.2, HRES.out.2.1, HRES.out.2.2.1, allP_alive HRES.out.2.1, HRES.out.2.2.2.1, HRES.out.2.2.2.2.1⟩
theorem opened13N_ok (w : World) (cf : Cf) (hok : CfgOk cf) : Calls Tryz.prog 18 #[.agg (cfA cf)] w (OpdN cf w) := opened13N_any w cf (fresh_on hok) hok.right
end Go.Proofs.YthbpfnohbilhaaaGreatDoor
