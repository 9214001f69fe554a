import Derived.Test.YthbpfnohbilhaaaGreatDoorZVYMem
import Derived.Test.YthbpfnohbilhaaaGreatDoorZVOpenV
import Derived.Deep.RegionHeld3
import Derived.Deep.RegionLaw
import Derived.Deep.DeepCutAuto
import Derived.IntWalk
import Derived.Test.YthbpfnohbilhaaaGreatDoorZVCRows
namespace Go.Proofs.YthbpfnohbilhaaaGreatDoor
open Go.RowKit Go.Deep Dk Qk Go.Maps Hf
variable {l : List Nat}
theorem erase_mem (hn : l.Nodup) {x : Nat} (hx : x < l.length) : ∀ d, d ∈ l.eraseIdx x ↔ d ∈ l ∧ d ≠ l.getD x 0 := fun d => by
 have e : l.getD x 0 = l[x] := by simp [List.getD, hx]
 rw [e, List.mem_eraseIdx_iff_getElem]
 constructor
 ·rintro ⟨i, hi, hne, rfl⟩
  exact ⟨List.getElem_mem hi, fun hq => hne ((List.getElem_inj hn).1 hq)⟩
 ·rintro ⟨hm, hne⟩
  obtain ⟨i, hi, rfl⟩ := List.getElem_of_mem hm; exact ⟨i, hi, fun hq => hne (by subst hq; rfl), rfl⟩
theorem getD_memN {x : Nat} (hx : x < l.length) : l.getD x 0 ∈ l := by simp only [List.getD, List.getElem?_eq_getElem hx, Option.getD_some]; exact List.getElem_mem hx
variable {w : World}
theorem src_nums {B n cap m c lo g : Nat} (h : w.ownsRow B 3 1 (.slice (some ⟨g, 0, none⟩) n cap) n (numsV l)) (hl : l.length = n) (hlo : lo + m ≤ n) :
  Src Tryz.prog 1 53 (.slice (some ⟨g, lo, none⟩) m c) m (numsV ((l.drop lo).take m)) w :=
 Src.ofSlice _ Tryz.underlying53 ⟨g, lo, none⟩ m c _ (by unfold numsV; rw [List.length_map, List.length_take, List.length_drop, Nat.mul_one]; omega) (fun j u hu => by
  have hj : j < (numsV ((l.drop lo).take m)).length := (List.getElem?_eq_some_iff.1 hu).1
  have hj2 : j < m ∧ lo + j < l.length := by unfold numsV at hj; rw [List.length_map, List.length_take, List.length_drop] at hj; omega
  have e : (numsV l)[lo + j]? = some u := by
   unfold numsV at hu ⊢; rw [List.getElem?_map, List.getElem?_take_of_lt hj2.1, List.getElem?_drop] at hu; rw [List.getElem?_map]; exact hu
  have h3 := holds_own h _ u e
  have hadd : (⟨g, lo, none⟩ : Addr).add j = ⟨g, lo + j, none⟩ := by unfold Addr.add; split <;> simp_all
  rw [hadd]; exact h3) (fun u hu => by
  obtain ⟨c, _, rfl⟩ := List.mem_map.1 hu
  rfl)
theorem src_nonum (a : Option Addr) (c : Nat) : Src Tryz.prog 1 53 (.slice a 0 c) 0 [] w := by
 cases a with
 | none => exact Src.ofNil _ Tryz.underlying53 _
 | some a => exact Src.ofSlice _ Tryz.underlying53 a 0 c [] rfl (by simp) (by simp)
theorem step_append_nums (w : World) {ops : Array Oper} {o : Oper} {a : Act} {K : Act → World → Prop} {Q : Exit → Act → World → Prop} {E : Prop} (hgd : o.guard = none) (s x : Operand)
  (ho : o.op = .call { callee := .builtin .append, args := #[s, x], argTypes := #[53, 53] })
  (base : Nat) (v : Value) (n : Nat) (xs : List Value) (hsv : a.eval s = v) (hown : w.ownsRow base 3 1 v n xs)
  (y : Value) (m : Nat) (news : List Value) (hx : a.eval x = y) (hs : Src Tryz.prog 1 53 y m news w) (h63 : n + m ≤ 100000) (hbase : base ≤ w.heap.size)
  (h : ∀ v' w', w'.ownsRow base 3 1 v' (n + m) (xs ++ news) → Grew w v.ownBlock w' v'.ownBlock → K (a.put o.dst v') w') : if Region.wanted o (yielded ops a.tmps) = true then Oper.wp Tryz.prog o a w K Q else E := by
 have hw : Region.wanted o (yielded ops a.tmps) = true := by simp [Region.wanted, hgd]
 rw [if_pos hw]
 obtain ⟨i0, hi0, hz⟩ := Option.map_eq_some_iff.1 info_int
 simp only [Prod.mk.injEq] at hz
 obtain ⟨hz0, hz1, hz2⟩ := hz
 exact wp_append_src w s x 53 53 ho base 3 i0 (.int .i64 0) 1 8 Tryz.underlying53 hi0 hz0 hz1 hz2 rfl v n xs hsv hown y m news hx hs (by unfold maxLen; omega) (by omega) hbase fun v' w' h1 h2 _ => h v' w' h1 h2
theorem two_nums {w5 w6 w7 : World} {o : Obj} {v6 : Value} {r7 : Option Nat} (hg6 : Grew (w5.alloc o).drew (some w5.heap.size) w6 v6.ownBlock) (hg7 : Grew w6 v6.ownBlock w7 r7) : Below w5.heap.size w5 w7 := by
 have h0 : Below w5.heap.size w5 (w5.alloc o).drew := (one_below w5 o).drew
 have k6 : ∀ k, v6.ownBlock = some k → w5.heap.size ≤ k := fun k hk => by
  rcases hg6.own with e | e
  ·rw [e] at hk; injection hk with hk; omega
  ·exact Nat.le_trans h0.size (e k hk)
 have h6 : Below w5.heap.size w5 w6 := h0.trans (hg6.below h0.size fun k hk => by injection hk with hk; omega)
 exact h6.trans (hg7.below h6.size k6)
theorem nums_erase (l : List Nat) (x : Nat) : numsV (l.take x) ++ numsV (l.drop (x + 1)) = numsV (l.eraseIdx x) := by
 unfold numsV
 rw [← List.map_append, List.eraseIdx_eq_take_drop_succ]
end Go.Proofs.YthbpfnohbilhaaaGreatDoor
namespace Go.Proofs.YthbpfnohbilhaaaGreatDoor
open Go.RowKit Go.Deep Crc Dk Qk Go.Maps Hf
structure TS (w1 w0 : World) (c : Lc) (n k0 : Nat) (q : Rk) (w : World) : Prop where
 qs : QS w1 c q w
 rc : RC c n w0 w
 nn : q.n = n
 kk : q.k = k0
 far : FarV w0.heap.size c n
 le : w1.heap.size ≤ w0.heap.size
variable {w1 w : World} {c : Lc} {q : Rk}
theorem TS.start (h : QS w1 c q w) : TS w1 w c q.n q.k q w := ⟨h, RC.refl _ _ _, rfl, rfl, h.rack.farV (Nat.le_refl _), h.base.size⟩
variable {w0 w' : World} {n k0 : Nat}
theorem TS.below (h : TS w1 w0 c n k0 q w) (hb : Below w0.heap.size w w') : TS w1 w0 c n k0 q w' :=
 ⟨⟨h.qs.rack.keep (hb.block _ h.far.1.1) (hb.block _ h.far.2) fun i hi => by
   have hi' : i < n := by have := h.nn; omega
   exact ⟨hb.block _ (h.far.1.2 i hi').1, hb.block _ (h.far.1.2 i hi').2.1, hb.block _ (h.far.1.2 i hi').2.2⟩, h.qs.base.trans (hb.mono h.le)⟩,
  ⟨hb.os.trans h.rc.os, hb.tape.trans h.rc.tape, hb.output.trans h.rc.output, Nat.le_trans h.rc.size hb.size, fun k hk a b => (hb.block k hk).trans (h.rc.block k hk a b)⟩, h.nn, h.kk, h.far, h.le⟩
theorem TS.next {q' : Rk} (h : TS w1 w0 c n k0 q w) (hr : RackIn w1.heap.size w' c q') (hn : q'.n = q.n) (hk : q'.k = q.k) (hc : RC c n w w') : TS w1 w0 c n k0 q' w' :=
 ⟨h.qs.next hr (by rw [h.nn]; exact hc), h.rc.trans hc, hn.trans h.nn, hk.trans h.kk, h.far, h.le⟩
def TaintOut (F : List Nat → Rk → Prop) (w1 : World) (c : Lc) (n k0 m : Nat) (w : World) (e : Ending) (w' : World) : Prop :=
 ∃ (L : List Nat) (q' : Rk), e = .returned (.tuple #[]) ∧ L.length + m = n ∧ F L q' ∧ TS w1 w c n k0 q' w'
theorem rotten_kk (q : Rk) (i sec a : Int) (x : Nat) : (Rk.rotten q i sec a x).k = q.k := by unfold Rk.rotten; split <;> rfl
theorem rotten_nn (q : Rk) (i sec a : Int) (x : Nat) : (Rk.rotten q i sec a x).n = q.n := by unfold Rk.rotten; split <;> rfl
theorem dying_kk (q : Rk) (i : Int) (b : Bool) : (Rk.dying q i b).k = q.k := by unfold Rk.dying; split <;> rfl
set_option maxHeartbeats 16000000 in
set_option maxRecDepth 100000 in
theorem taint_any (F : List Nat → Rk → Prop) (hF : ∀ (L : List Nat) (q q' : Rk) (x : Nat), x < L.length → F L q → Wore q (L.getD x 0) q' → F (L.eraseIdx x) q')
  {w1 : World} {c : Lc} {q0 : Rk} {N k0 : Nat} (w : World) (h : QS w1 c q0 w) (hn : q0.n = N) (hk : q0.k = k0) (h8 : N ≤ 8) (hk8 : 1 ≤ k0 ∧ k0 ≤ 100000) (h0 : F (List.range N) q0) (T : Nat) (hTN : T ≤ N)
  (vo vh : Value) (lo lh : List Int) (hvo : SlI w1.heap.size w1 vo lo) (hvh : SlI w1.heap.size w1 vh lh) :
  Calls Tryz.prog 48 #[.pointer (some ⟨c.r, 0, none⟩), .int .i64 (T : Int), vo, vh] w (TaintOut F w1 c N k0 T w) := by
 have HF := hI hF
 have HVO := hI hvo
 have HVH := hI hvh
 have HK8 := hI hk8
 have HTS := hI (show TS w1 w c N k0 q0 w by have := TS.start h; rwa [hn, hk] at this)
 have HF0 := hI h0
 obtain ⟨ao, co, rfl⟩ := hvo.len
 obtain ⟨ah, ch, rfl⟩ := hvh.len
 clear h hn hk h0 hvo hvh hF hk8
 go_enter Tryz.func48, Tryz.ntmps48
 go_wp2_with fail
 go_loopw [8, 9] (fun v i wr => ∃ m : Nat, m ≤ N ∧ i = .int .i64 m ∧ TS w1 w c N k0 q0 wr ∧ wr.ownsRow w.heap.size 3 1 v m (numsV (List.range m))) (fun _ i _ => N - (intOf i).toNat)
 case atStart => exact ⟨0, Nat.zero_le _, rfl, HTS.out, World.ownsRow_nil _ _ _ _⟩
 case round =>
  obtain ⟨m, hm, rfl, hJ, hO⟩ := hrel; have HJ := hI hJ; have HO1 := hI hO; have CN := hI (show Calls Tryz.prog 76 #[.pointer (some ⟨c.r, 0, none⟩)] wr (NumSame (N : Int) wr) from by have := qn_any wr hJ.qs.rack; rwa [hJ.nn] at this); obtain ⟨gl, cl, rfl, -⟩ := own_slice hO; clear hJ hO
  by_cases hlt : m < N
  ·go_wp2_with fail
   refine CN.out.mono ?_; rintro e wn ⟨rfl, hwn⟩; subst hwn; go_wp2_with (at_builtin; refine wpList_append_num _ rfl (.tmp 20) (.tmp 22) rfl w.heap.size _ _ _ rfl (own_below HO1.out (one_below _ _)) wr.heap.size (.int .i64 (m : Int)) rfl ?_ rfl ?_ ?_ ?_; (exact new_cells _ _ _ _ _ rfl); omega; (have := HJ.out.rc.size; simp; omega); intro vl wl howna hga; have HOA := hI howna; have HGA := hI hga; obtain ⟨g7, c7, rfl, -⟩ := own_slice howna; clear howna hga)
   go_roundw
   case rel =>
    refine ⟨m + 1, hlt, by go_num, (HJ.out.below ((one_below wr (.cells #[.int .i64 (m : Int)] 3)).mono HJ.out.rc.size)).below (HGA.out.below (by have := HJ.out.rc.size; simp; omega) fun k hk => (own_block' (own_below HO1.out (one_below wr (.cells #[.int .i64 (m : Int)] 3))) hk).1), ?_⟩; rw [List.range_succ]; have := HOA.out
    simpa [numsV] using this
   case measure => simp [intOf]; omega
  ·obtain rfl : N = m := by omega
   go_wp2_with fail; refine CN.out.mono ?_; rintro e wn ⟨rfl, hwn⟩; subst hwn; clear hlt hm CN; have HJ1 := hI HJ.out; have HO2 := hI HO1.out; clear HTS; go_wp2_with fail
   go_loopw [8, 10] (fun v i wr => ∃ (m : Nat) (L : List Nat) (q : Rk), m ≤ T ∧ i = .int .i64 m ∧ L.length + m = N ∧ F L q ∧ TS w1 w c N k0 q wr ∧ wr.ownsRow w.heap.size 3 1 v L.length (numsV L)) (fun _ i _ => T - (intOf i).toNat)
   case atStart => exact ⟨0, List.range N, q0, Nat.zero_le _, rfl, by simp, HF0.out, HJ1.out, by rw [List.length_range]; exact HO2.out⟩
   case round =>
    clear HJ HO1 HJ1 HO2; obtain ⟨m, L, q, hm, rfl, hLm, hFI, hJ, hO⟩ := hrel; have HJ := hI hJ; have HO1 := hI hO; have HI := hI hFI; have HLM := hI hLm; have hbase := hJ.qs.base; have CSE := hI (fun (wx : World) (hx : TS w1 w c N k0 q wx) => show Calls Tryz.prog 43 #[.pointer (some ⟨c.r, 0, none⟩)] wx (NumSame (k0 : Int) wx) from by have := qsectors_any wx hx.qs.rack; rwa [hx.kk] at this); clear hJ hFI hLm
    by_cases hlt : m < T
    ·have hLpos : 0 < L.length := by have := HLM.out; omega
     obtain ⟨gl, cl, rfl, hcl⟩ := own_slice hO; obtain ⟨gg, rfl⟩ := own_addr hO hLpos; clear hO
     have hLl : L.length ≤ 8 := by have := HLM.out; omega
     generalize hM : L.length = M at *; have HM := hI hM; clear hM; have hwM : IntKind.i64.wrap ((M : Int) - 1) = (M : Int) - 1 := IntWalk.i64_in _ (by omega); have hwk : IntKind.i64.wrap ((k0 : Int) - 1) = (k0 : Int) - 1 := IntWalk.i64_in _ (by have := HK8.out; omega)
     go_upto_if 37 with fail
     go_cut [11] from 34 to 45 (fun v wx => ∃ x : Nat, x < M ∧ v = .int .i64 x ∧ wx = wr)
     case first =>
      by_cases hml : m < lo.length
      ·obtain ⟨bo, oo, co2, hse, hco⟩ := HVO.out.num (Nat.le_refl _) hbase hml
       injection hse with hse1 hse2 hse3; subst hse1 hse3; clear hse2
       have hml' : (m : Int) < lo.length := by omega
       have HWI := hI (fun W => within_int (lo.getD m 0) 0 ((M : Int) - 1) W (by omega) (by omega) (by omega)); generalize lo.getD m 0 = y at *; go_wp2_with fail; refine (HWI.out _).mono ?_; rintro e w' ⟨x, hxr, rfl, hw'⟩; subst hw'; obtain ⟨x, rfl⟩ := Int.eq_ofNat_of_zero_le hxr.1; go_wp2_with fail
       go_meet
       exact ⟨x, by have := hxr.2; omega, rfl, rfl⟩
      ·have hml' : ¬ (m : Int) < lo.length := by omega
       go_wp2_with fail
       go_meet
       exact ⟨0, by omega, rfl, rfl⟩
     case rest =>
      obtain ⟨x, hxM, rfl, hwc⟩ := hcut; obtain rfl : wr = wc := hwc.symm
      go_upto_if 49 with fail
      go_cut [12, 13] from 46 to 62 (fun v u wx => ∃ z s : Nat, z ≤ 2 ∧ v = .int .i64 z ∧ u = .int .i64 s ∧ TS w1 w c N k0 q wx ∧ wx.ownsRow w.heap.size 3 1 (.slice (some ⟨gg, 0, none⟩) M cl) M (numsV L))
      case first =>
       by_cases hml : m < lh.length
       ·have HLC := hI (fun (w' : World) (h : Below w1.heap.size w1 w') => HVH.out.num (Nat.le_refl _) h hml)
        obtain ⟨bo, oo, co2, hse, hco⟩ := HLC.out _ hbase; injection hse with hse1 hse2 hse3; subst hse1 hse3; clear hse2 hco
        have hlc := fun (w' : World) (h : TS w1 w c N k0 q w') => show w'.cell? ⟨bo, oo + m, none⟩ = some (.int .i64 (lh.getD m 0)) by
         obtain ⟨b1, o1, c1, e1, e2⟩ := HLC.out w' h.qs.base; injection e1 with e1 _ _; injection e1 with e1; injection e1 with e1 e3 _; subst e1 e3; exact e2
        have hml' : (m : Int) < lh.length := by omega
        have HW1 := hI (fun W => within_int (lh.getD m 0) 0 2 W (by omega) (by omega) (by omega)); have HW2 := hI (fun W => within_int (lh.getD m 0) 0 ((k0 : Int) - 1) W (by omega) (by have := HK8.out; omega) (by have := HK8.out; omega)); generalize lh.getD m 0 = y at *; go_wp2_with fail; refine wp_region_noPanic ?_; refine wp_region_held_drew (S := (fun w' => TS w1 w c N k0 q w')) (by kernel_rfl) (HJ.out.below (Below.refl _ _).drew) (fun hHeld => ?_); refine hT 0 ⟨some 50, _, _, _, _, _⟩ rfl hHeld ?_; simp only [hP]; refine hT 1 ⟨some 51, _, _, _, _, _⟩ rfl hHeld ?_; simp only [hP]; refine hT 2 ⟨some 52, _, _, _, _, _⟩ rfl hHeld ?_; simp only [hP]; refine hT 3 ⟨some 53, _, _, _, _, _⟩ rfl hHeld ?_; simp only [hP]; refine hT 5 ⟨some 55, _, _, _, _, _⟩ rfl hHeld ?_; simp only [hP]; refine hT 6 ⟨some 56, _, _, _, _, _⟩ rfl hHeld ?_; simp only [hP]; refine hT 7 ⟨some 57, _, _, _, _, _⟩ rfl hHeld ?_; simp only [hP]; refine hT 8 ⟨some 58, _, _, _, _, _⟩ rfl hHeld ?_; simp only [hP]; refine hT 9 ⟨some 59, _, _, _, _, _⟩ rfl hHeld ?_; simp only [hP]
        refine hC 4 rfl fun K hK => ?_
        go_simp; refine (HW1.out _).mono ?_; rintro e wa ⟨z, hzr, rfl, hwa⟩; subst hwa; refine hK.out _ _ hHeld (fun _ => ?_); clear hK K
        refine hC 10 rfl fun K hK => ?_
        go_simp; refine (CSE.out _ (HJ.out.below (Below.refl _ _).drew)).mono ?_; rintro e wa ⟨rfl, hwa⟩; subst hwa; refine hK.out _ _ hHeld (fun _ => ?_); clear hK K; refine hT 11 ⟨some 61, _, _, _, _, _⟩ rfl hHeld ?_; simp only [hP]
        refine hC 12 rfl fun K hK => ?_
        go_simp; refine (HW2.out _).mono ?_; rintro e wa ⟨s, hsr, rfl, hwa⟩; subst hwa; refine hK.out _ _ hHeld (fun _ => ?_); clear hK K; refine hT 13 ⟨some 12, _, _, _, _, _⟩ rfl hHeld ?_; simp only [hP]; refine hT 14 ⟨some 13, _, _, _, _, _⟩ rfl hHeld ?_; simp only [hP]; refine wpAnyH_done (by kernel_rfl) ?_ _; refine NoPanic.normal ?_; obtain ⟨z, rfl⟩ := Int.eq_ofNat_of_zero_le hzr.1; obtain ⟨s, rfl⟩ := Int.eq_ofNat_of_zero_le hsr.1; clear hlc; go_wp2_with fail
        go_meet
        exact ⟨z, s, by have := hzr.2; omega, rfl, rfl, HJ.out.below (Below.refl _ _).drew, own_below HO1.out (Below.refl _ _).drew⟩
       ·have hml' : ¬ (m : Int) < lh.length := by omega
        go_wp2_with fail
        go_meet
        exact ⟨0, 0, by omega, rfl, rfl, HJ.out, HO1.out⟩
      case rest =>
       have HJ0 := HJ; have HO0 := HO1; clear HJ HO1 hbase; obtain ⟨z, s, hz, rfl, rfl, hJ, hO⟩ := hcut; have HJ := hI hJ; have HO1 := hI hO; clear hJ hO HJ0 HO0; have HXN := hI (show x < L.length by rw [HM.out]; exact hxM); have hcell := own_cell HO1.out (numsV_at (l := L) (i := x) HXN.out); have CDI := hI (qdie_any wc HJ.out.qs.rack (L.getD x 0 : Nat)); have CRP := hI (qreplace_any wc HJ.out.qs.rack (L.getD x 0 : Nat)); have CRT := hI (show Calls Tryz.prog 30 #[.pointer (some ⟨c.r, 0, none⟩), .int .i64 (L.getD x 0 : Nat), .int .i64 (s : Int), .int .i64 (x : Int), .int .u32 5] wc (NextR w1.heap.size c q.n (Rk.rotten q (L.getD x 0 : Nat) (s : Int) (x : Int) 5) (.bool (Rk.rots q (L.getD x 0 : Nat) (s : Int) (x : Int) 5)) wc) from qrot_any wc HJ.out.qs.rack (L.getD x 0 : Nat) (s : Int) (x : Int) 5); rw [HJ.out.nn] at CDI CRP CRT; have HN0 := hI (HF.out L q _ x HXN.out HI.out .die); have HN1 := hI (HF.out L q _ x HXN.out HI.out .replace); have HN2 := hI (HF.out L q _ x HXN.out HI.out (.rot (s : Int) (x : Int) 5 (by decide) (by decide))); have HE0 := hI (show ∀ b, (Rk.dying q (L.getD x 0 : Nat) b).n = q.n ∧ (Rk.dying q (L.getD x 0 : Nat) b).k = q.k from fun b => ⟨dying_n _ _ _, dying_kk _ _ _⟩); have HE2 := hI (show (Rk.rotten q (L.getD x 0 : Nat) (s : Int) (x : Int) 5).n = q.n ∧ (Rk.rotten q (L.getD x 0 : Nat) (s : Int) (x : Int) 5).k = q.k from ⟨rotten_nn _ _ _ _ _, rotten_kk _ _ _ _ _⟩); generalize hd : L.getD x 0 = dd at *; have HD := hI hd; clear hd
       have hxi : (x : Int) < M := by omega
       obtain rfl | rfl | rfl : z = 0 ∨ z = 1 ∨ z = 2 := by omega
       ·go_wp2_with fail
        refine CDI.out.mono ?_; rintro e w7 ⟨rfl, hr7, hc7⟩; have HJ7 := hI (HJ.out.next hr7 (HE0.out true).1 (HE0.out true).2 hc7); have HO7 := hI (own_rc HO1.out HJ.out.far.1 hc7); clear hr7 hc7 hcell; go_wp2_with fail; have HQ1 := hI (fun W (h : w7.heap.size ≤ W.heap.size ∧ W.ownsRow w.heap.size 3 1 (.slice (some ⟨gg, 0, none⟩) M cl) M (numsV L)) => show Src Tryz.prog 1 53 (.slice (some ⟨gg, 0, none⟩) x cl) x (numsV (L.take x)) W from src_nums (lo := 0) h.2 HM.out (by omega)); have HXL := hI (show 0 + x ≤ 100000 by omega); have HXL2 := hI (show 0 + x + (M - (x + 1)) ≤ 100000 by omega); have hwx : IntKind.i64.wrap ((x : Int) + 1) = (x : Int) + 1 := IntWalk.i64_in _ (by omega)
        have hnx : (0 : Int) ≤ (x : Int) + 1 := by omega
        have htn : ((x : Int) + 1).toNat = x + 1 := by omega
        have hxc0 : (x : Int) ≤ cl := by omega
        have hxc2 : ((x : Int) + 1) ≤ M := by omega
        have HFIN := hI (fun (v : Value) (w9 : World) (ho : w9.ownsRow w7.heap.size 3 1 v (0 + x + (M - (x + 1))) (numsV (L.take x) ++ numsV (L.drop (x + 1)))) (hb : Below w7.heap.size w7 w9) => show (fun (v : Value) (wr : World) => ∃ (m2 : Nat) (L2 : List Nat) (q2 : Rk), m2 ≤ T ∧ (Value.int .i64 ((m : Int) + 1)) = .int .i64 m2 ∧ L2.length + m2 = N ∧ F L2 q2 ∧ TS w1 w c N k0 q2 wr ∧ wr.ownsRow w.heap.size 3 1 v L2.length (numsV L2)) v w9 from
         ⟨m + 1, L.eraseIdx x, _, hlt, by go_num, by have := HLM.out; rw [List.length_eraseIdx, HM.out, if_pos hxM]; omega, HN0.out, HJ7.out.below (hb.mono HJ7.out.rc.size), by
          rw [List.length_eraseIdx, HM.out, if_pos hxM, ← nums_erase]; have := own_base ho HJ7.out.rc.size
          rwa [show 0 + x + (M - (x + 1)) = M - 1 by omega] at this⟩)
        by_cases hxc : x + 1 = cl
        ·have HXC := hI hxc
         have hxc3 : (cl = x + 1) ↔ True := ⟨fun _ => trivial, fun _ => HXC.out.symm⟩
         clear hxc
         have HQ2 := hI (fun W => show Src Tryz.prog 1 53 (.slice (some ⟨gg, 0, none⟩) (M - (x + 1)) (cl - (x + 1))) (M - (x + 1)) (numsV (L.drop (x + 1))) W from by
          have e : M - (x + 1) = 0 := by have := HXC.out; omega
          rw [e, List.drop_eq_nil_of_le (by rw [HM.out]; omega)]; exact src_nonum _ _)
         have HGB := hI (show gg < w7.heap.size from (HO7.out.lt gg rfl).2)
         have HNB := hI (show (Value.slice (some ⟨gg, 0, none⟩) M cl).ownBlock ≠ some w7.heap.size from fun e => by
          have e' : gg = w7.heap.size := by injection e
          have := HGB.out
          omega)
         go_region_law (first
          | (refine step_append_nums (o := ⟨some 94, _, _, _, _, _⟩) _ rfl (.tmp 90) (.tmp 93) (by rfl) w7.heap.size _ 0 [] (by rfl) (own_new _ w7.heap.size #[] 3 1 0 (by exact Nat.le_refl _) rfl (by decide)) _ x _ (by rfl) (HQ1.out _ ⟨by simp, own_below HO7.out (by repeat (first | exact Below.refl _ _ | apply Below.drew | refine balloc ?_ _))⟩) HXL.out (by simp) ?_; intro v8 w8 hown8 hg8; have HO8 := hI hown8; have HG8 := hI hg8; have HLK8 := hI (World.ownsRow.kept (own_below HO7.out (by repeat (first | exact Below.refl _ _ | apply Below.drew | refine balloc ?_ _))) hg8.by_ (Or.inr HNB.out)); clear hown8 hg8)
          | (refine step_append_nums (o := ⟨some 99, _, _, _, _, _⟩) _ rfl (.tmp 94) (.tmp 98) (by rfl) w7.heap.size _ (0 + x) _ (by rfl) HO8.out _ (M - (x + 1)) _ (by rfl) (HQ2.out _) HXL2.out (by have := HG8.out.size; simp at this; omega) ?_; intro v9 w9 hown9 hg9; have H9 := hI (HFIN.out v9 w9 (by have := hown9; rwa [List.nil_append] at this) (two_nums HG8.out hg9)); obtain ⟨g9, c9, rfl, -⟩ := own_slice hown9; clear hown9 hg9))
         all_goals
          go_wp2_with fail
          go_roundw
          case rel =>
           have hrl := H9.out; rw [Nat.zero_add] at hrl; exact hrl
          case measure => simp [intOf]; omega
        ·have hxc' : ((x : Int) + 1) < cl := by omega
         have hxc3 : ¬ cl = x + 1 := fun e => hxc e.symm
         have HQ2 := hI (fun W (h : W.ownsRow w.heap.size 3 1 (.slice (some ⟨gg, 0, none⟩) M cl) M (numsV L)) => show Src Tryz.prog 1 53 (.slice (some ⟨gg, x + 1, none⟩) (M - (x + 1)) (cl - (x + 1))) (M - (x + 1)) (numsV (L.drop (x + 1))) W from by
          have := src_nums (lo := x + 1) (m := M - (x + 1)) (c := cl - (x + 1)) h HM.out (by omega)
          rwa [List.take_of_length_le (by rw [List.length_drop, HM.out]; exact Nat.le_refl _)] at this)
         have HGB := hI (show gg < w7.heap.size from (HO7.out.lt gg rfl).2)
         have HNB := hI (show (Value.slice (some ⟨gg, 0, none⟩) M cl).ownBlock ≠ some w7.heap.size from fun e => by
          have e' : gg = w7.heap.size := by injection e
          have := HGB.out
          omega)
         go_region_law (first
          | (refine step_append_nums (o := ⟨some 94, _, _, _, _, _⟩) _ rfl (.tmp 90) (.tmp 93) (by rfl) w7.heap.size _ 0 [] (by rfl) (own_new _ w7.heap.size #[] 3 1 0 (by exact Nat.le_refl _) rfl (by decide)) _ x _ (by rfl) (HQ1.out _ ⟨by simp, own_below HO7.out (by repeat (first | exact Below.refl _ _ | apply Below.drew | refine balloc ?_ _))⟩) HXL.out (by simp) ?_; intro v8 w8 hown8 hg8; have HO8 := hI hown8; have HG8 := hI hg8; have HLK8 := hI (World.ownsRow.kept (own_below HO7.out (by repeat (first | exact Below.refl _ _ | apply Below.drew | refine balloc ?_ _))) hg8.by_ (Or.inr HNB.out)); clear hown8 hg8)
          | (refine step_append_nums (o := ⟨some 99, _, _, _, _, _⟩) _ rfl (.tmp 94) (.tmp 98) (by rfl) w7.heap.size _ (0 + x) _ (by rfl) HO8.out _ (M - (x + 1)) _ (by rfl) (HQ2.out _ HLK8.out) HXL2.out (by have := HG8.out.size; simp at this; omega) ?_; intro v9 w9 hown9 hg9; have H9 := hI (HFIN.out v9 w9 (by have := hown9; rwa [List.nil_append] at this) (two_nums HG8.out hg9)); obtain ⟨g9, c9, rfl, -⟩ := own_slice hown9; clear hown9 hg9))
         all_goals
          go_wp2_with fail
          go_roundw
          case rel =>
           have hrl := H9.out; rw [Nat.zero_add] at hrl; exact hrl
          case measure => simp [intOf]; omega
       ·go_wp2_with fail
        refine CRP.out.mono ?_; rintro e w7 ⟨rfl, hr7, hc7⟩; have HJ7 := hI (HJ.out.next hr7 (HE0.out false).1 (HE0.out false).2 hc7); have HO7 := hI (own_rc HO1.out HJ.out.far.1 hc7); clear hr7 hc7 hcell; go_wp2_with fail; have HQ1 := hI (fun W (h : w7.heap.size ≤ W.heap.size ∧ W.ownsRow w.heap.size 3 1 (.slice (some ⟨gg, 0, none⟩) M cl) M (numsV L)) => show Src Tryz.prog 1 53 (.slice (some ⟨gg, 0, none⟩) x cl) x (numsV (L.take x)) W from src_nums (lo := 0) h.2 HM.out (by omega)); have HXL := hI (show 0 + x ≤ 100000 by omega); have HXL2 := hI (show 0 + x + (M - (x + 1)) ≤ 100000 by omega); have hwx : IntKind.i64.wrap ((x : Int) + 1) = (x : Int) + 1 := IntWalk.i64_in _ (by omega)
        have hnx : (0 : Int) ≤ (x : Int) + 1 := by omega
        have htn : ((x : Int) + 1).toNat = x + 1 := by omega
        have hxc0 : (x : Int) ≤ cl := by omega
        have hxc2 : ((x : Int) + 1) ≤ M := by omega
        have HFIN := hI (fun (v : Value) (w9 : World) (ho : w9.ownsRow w7.heap.size 3 1 v (0 + x + (M - (x + 1))) (numsV (L.take x) ++ numsV (L.drop (x + 1)))) (hb : Below w7.heap.size w7 w9) => show (fun (v : Value) (wr : World) => ∃ (m2 : Nat) (L2 : List Nat) (q2 : Rk), m2 ≤ T ∧ (Value.int .i64 ((m : Int) + 1)) = .int .i64 m2 ∧ L2.length + m2 = N ∧ F L2 q2 ∧ TS w1 w c N k0 q2 wr ∧ wr.ownsRow w.heap.size 3 1 v L2.length (numsV L2)) v w9 from
         ⟨m + 1, L.eraseIdx x, _, hlt, by go_num, by have := HLM.out; rw [List.length_eraseIdx, HM.out, if_pos hxM]; omega, HN1.out, HJ7.out.below (hb.mono HJ7.out.rc.size), by
          rw [List.length_eraseIdx, HM.out, if_pos hxM, ← nums_erase]; have := own_base ho HJ7.out.rc.size
          rwa [show 0 + x + (M - (x + 1)) = M - 1 by omega] at this⟩)
        by_cases hxc : x + 1 = cl
        ·have HXC := hI hxc
         have hxc3 : (cl = x + 1) ↔ True := ⟨fun _ => trivial, fun _ => HXC.out.symm⟩
         clear hxc
         have HQ2 := hI (fun W => show Src Tryz.prog 1 53 (.slice (some ⟨gg, 0, none⟩) (M - (x + 1)) (cl - (x + 1))) (M - (x + 1)) (numsV (L.drop (x + 1))) W from by
          have e : M - (x + 1) = 0 := by have := HXC.out; omega
          rw [e, List.drop_eq_nil_of_le (by rw [HM.out]; omega)]; exact src_nonum _ _)
         have HGB := hI (show gg < w7.heap.size from (HO7.out.lt gg rfl).2)
         have HNB := hI (show (Value.slice (some ⟨gg, 0, none⟩) M cl).ownBlock ≠ some w7.heap.size from fun e => by
          have e' : gg = w7.heap.size := by injection e
          have := HGB.out
          omega)
         go_region_law (first
          | (refine step_append_nums (o := ⟨some 94, _, _, _, _, _⟩) _ rfl (.tmp 90) (.tmp 93) (by rfl) w7.heap.size _ 0 [] (by rfl) (own_new _ w7.heap.size #[] 3 1 0 (by exact Nat.le_refl _) rfl (by decide)) _ x _ (by rfl) (HQ1.out _ ⟨by simp, own_below HO7.out (by repeat (first | exact Below.refl _ _ | apply Below.drew | refine balloc ?_ _))⟩) HXL.out (by simp) ?_; intro v8 w8 hown8 hg8; have HO8 := hI hown8; have HG8 := hI hg8; have HLK8 := hI (World.ownsRow.kept (own_below HO7.out (by repeat (first | exact Below.refl _ _ | apply Below.drew | refine balloc ?_ _))) hg8.by_ (Or.inr HNB.out)); clear hown8 hg8)
          | (refine step_append_nums (o := ⟨some 99, _, _, _, _, _⟩) _ rfl (.tmp 94) (.tmp 98) (by rfl) w7.heap.size _ (0 + x) _ (by rfl) HO8.out _ (M - (x + 1)) _ (by rfl) (HQ2.out _) HXL2.out (by have := HG8.out.size; simp at this; omega) ?_; intro v9 w9 hown9 hg9; have H9 := hI (HFIN.out v9 w9 (by have := hown9; rwa [List.nil_append] at this) (two_nums HG8.out hg9)); obtain ⟨g9, c9, rfl, -⟩ := own_slice hown9; clear hown9 hg9))
         all_goals
          go_wp2_with fail
          go_roundw
          case rel =>
           have hrl := H9.out; rw [Nat.zero_add] at hrl; exact hrl
          case measure => simp [intOf]; omega
        ·have hxc' : ((x : Int) + 1) < cl := by omega
         have hxc3 : ¬ cl = x + 1 := fun e => hxc e.symm
         have HQ2 := hI (fun W (h : W.ownsRow w.heap.size 3 1 (.slice (some ⟨gg, 0, none⟩) M cl) M (numsV L)) => show Src Tryz.prog 1 53 (.slice (some ⟨gg, x + 1, none⟩) (M - (x + 1)) (cl - (x + 1))) (M - (x + 1)) (numsV (L.drop (x + 1))) W from by
          have := src_nums (lo := x + 1) (m := M - (x + 1)) (c := cl - (x + 1)) h HM.out (by omega)
          rwa [List.take_of_length_le (by rw [List.length_drop, HM.out]; exact Nat.le_refl _)] at this)
         have HGB := hI (show gg < w7.heap.size from (HO7.out.lt gg rfl).2)
         have HNB := hI (show (Value.slice (some ⟨gg, 0, none⟩) M cl).ownBlock ≠ some w7.heap.size from fun e => by
          have e' : gg = w7.heap.size := by injection e
          have := HGB.out
          omega)
         go_region_law (first
          | (refine step_append_nums (o := ⟨some 94, _, _, _, _, _⟩) _ rfl (.tmp 90) (.tmp 93) (by rfl) w7.heap.size _ 0 [] (by rfl) (own_new _ w7.heap.size #[] 3 1 0 (by exact Nat.le_refl _) rfl (by decide)) _ x _ (by rfl) (HQ1.out _ ⟨by simp, own_below HO7.out (by repeat (first | exact Below.refl _ _ | apply Below.drew | refine balloc ?_ _))⟩) HXL.out (by simp) ?_; intro v8 w8 hown8 hg8; have HO8 := hI hown8; have HG8 := hI hg8; have HLK8 := hI (World.ownsRow.kept (own_below HO7.out (by repeat (first | exact Below.refl _ _ | apply Below.drew | refine balloc ?_ _))) hg8.by_ (Or.inr HNB.out)); clear hown8 hg8)
          | (refine step_append_nums (o := ⟨some 99, _, _, _, _, _⟩) _ rfl (.tmp 94) (.tmp 98) (by rfl) w7.heap.size _ (0 + x) _ (by rfl) HO8.out _ (M - (x + 1)) _ (by rfl) (HQ2.out _ HLK8.out) HXL2.out (by have := HG8.out.size; simp at this; omega) ?_; intro v9 w9 hown9 hg9; have H9 := hI (HFIN.out v9 w9 (by have := hown9; rwa [List.nil_append] at this) (two_nums HG8.out hg9)); obtain ⟨g9, c9, rfl, -⟩ := own_slice hown9; clear hown9 hg9))
         all_goals
          go_wp2_with fail
          go_roundw
          case rel =>
           have hrl := H9.out; rw [Nat.zero_add] at hrl; exact hrl
          case measure => simp [intOf]; omega
       ·go_wp2_with fail
        refine CRT.out.mono ?_; rintro e w7 ⟨rfl, hr7, hc7⟩; have HJ7 := hI (HJ.out.next hr7 HE2.out.1 HE2.out.2 hc7); have HO7 := hI (own_rc HO1.out HJ.out.far.1 hc7); clear hr7 hc7 hcell; go_wp2_with fail; have HQ1 := hI (fun W (h : w7.heap.size ≤ W.heap.size ∧ W.ownsRow w.heap.size 3 1 (.slice (some ⟨gg, 0, none⟩) M cl) M (numsV L)) => show Src Tryz.prog 1 53 (.slice (some ⟨gg, 0, none⟩) x cl) x (numsV (L.take x)) W from src_nums (lo := 0) h.2 HM.out (by omega)); have HXL := hI (show 0 + x ≤ 100000 by omega); have HXL2 := hI (show 0 + x + (M - (x + 1)) ≤ 100000 by omega); have hwx : IntKind.i64.wrap ((x : Int) + 1) = (x : Int) + 1 := IntWalk.i64_in _ (by omega)
        have hnx : (0 : Int) ≤ (x : Int) + 1 := by omega
        have htn : ((x : Int) + 1).toNat = x + 1 := by omega
        have hxc0 : (x : Int) ≤ cl := by omega
        have hxc2 : ((x : Int) + 1) ≤ M := by omega
        have HFIN := hI (fun (v : Value) (w9 : World) (ho : w9.ownsRow w7.heap.size 3 1 v (0 + x + (M - (x + 1))) (numsV (L.take x) ++ numsV (L.drop (x + 1)))) (hb : Below w7.heap.size w7 w9) => show (fun (v : Value) (wr : World) => ∃ (m2 : Nat) (L2 : List Nat) (q2 : Rk), m2 ≤ T ∧ (Value.int .i64 ((m : Int) + 1)) = .int .i64 m2 ∧ L2.length + m2 = N ∧ F L2 q2 ∧ TS w1 w c N k0 q2 wr ∧ wr.ownsRow w.heap.size 3 1 v L2.length (numsV L2)) v w9 from
         ⟨m + 1, L.eraseIdx x, _, hlt, by go_num, by have := HLM.out; rw [List.length_eraseIdx, HM.out, if_pos hxM]; omega, HN2.out, HJ7.out.below (hb.mono HJ7.out.rc.size), by
          rw [List.length_eraseIdx, HM.out, if_pos hxM, ← nums_erase]; have := own_base ho HJ7.out.rc.size
          rwa [show 0 + x + (M - (x + 1)) = M - 1 by omega] at this⟩)
        by_cases hxc : x + 1 = cl
        ·have HXC := hI hxc
         have hxc3 : (cl = x + 1) ↔ True := ⟨fun _ => trivial, fun _ => HXC.out.symm⟩
         clear hxc
         have HQ2 := hI (fun W => show Src Tryz.prog 1 53 (.slice (some ⟨gg, 0, none⟩) (M - (x + 1)) (cl - (x + 1))) (M - (x + 1)) (numsV (L.drop (x + 1))) W from by
          have e : M - (x + 1) = 0 := by have := HXC.out; omega
          rw [e, List.drop_eq_nil_of_le (by rw [HM.out]; omega)]; exact src_nonum _ _)
         have HGB := hI (show gg < w7.heap.size from (HO7.out.lt gg rfl).2)
         have HNB := hI (show (Value.slice (some ⟨gg, 0, none⟩) M cl).ownBlock ≠ some w7.heap.size from fun e => by
          have e' : gg = w7.heap.size := by injection e
          have := HGB.out
          omega)
         go_region_law (first
          | (refine step_append_nums (o := ⟨some 94, _, _, _, _, _⟩) _ rfl (.tmp 90) (.tmp 93) (by rfl) w7.heap.size _ 0 [] (by rfl) (own_new _ w7.heap.size #[] 3 1 0 (by exact Nat.le_refl _) rfl (by decide)) _ x _ (by rfl) (HQ1.out _ ⟨by simp, own_below HO7.out (by repeat (first | exact Below.refl _ _ | apply Below.drew | refine balloc ?_ _))⟩) HXL.out (by simp) ?_; intro v8 w8 hown8 hg8; have HO8 := hI hown8; have HG8 := hI hg8; have HLK8 := hI (World.ownsRow.kept (own_below HO7.out (by repeat (first | exact Below.refl _ _ | apply Below.drew | refine balloc ?_ _))) hg8.by_ (Or.inr HNB.out)); clear hown8 hg8)
          | (refine step_append_nums (o := ⟨some 99, _, _, _, _, _⟩) _ rfl (.tmp 94) (.tmp 98) (by rfl) w7.heap.size _ (0 + x) _ (by rfl) HO8.out _ (M - (x + 1)) _ (by rfl) (HQ2.out _) HXL2.out (by have := HG8.out.size; simp at this; omega) ?_; intro v9 w9 hown9 hg9; have H9 := hI (HFIN.out v9 w9 (by have := hown9; rwa [List.nil_append] at this) (two_nums HG8.out hg9)); obtain ⟨g9, c9, rfl, -⟩ := own_slice hown9; clear hown9 hg9))
         all_goals
          go_wp2_with fail
          go_roundw
          case rel =>
           have hrl := H9.out; rw [Nat.zero_add] at hrl; exact hrl
          case measure => simp [intOf]; omega
        ·have hxc' : ((x : Int) + 1) < cl := by omega
         have hxc3 : ¬ cl = x + 1 := fun e => hxc e.symm
         have HQ2 := hI (fun W (h : W.ownsRow w.heap.size 3 1 (.slice (some ⟨gg, 0, none⟩) M cl) M (numsV L)) => show Src Tryz.prog 1 53 (.slice (some ⟨gg, x + 1, none⟩) (M - (x + 1)) (cl - (x + 1))) (M - (x + 1)) (numsV (L.drop (x + 1))) W from by
          have := src_nums (lo := x + 1) (m := M - (x + 1)) (c := cl - (x + 1)) h HM.out (by omega)
          rwa [List.take_of_length_le (by rw [List.length_drop, HM.out]; exact Nat.le_refl _)] at this)
         have HGB := hI (show gg < w7.heap.size from (HO7.out.lt gg rfl).2)
         have HNB := hI (show (Value.slice (some ⟨gg, 0, none⟩) M cl).ownBlock ≠ some w7.heap.size from fun e => by
          have e' : gg = w7.heap.size := by injection e
          have := HGB.out
          omega)
         go_region_law (first
          | (refine step_append_nums (o := ⟨some 94, _, _, _, _, _⟩) _ rfl (.tmp 90) (.tmp 93) (by rfl) w7.heap.size _ 0 [] (by rfl) (own_new _ w7.heap.size #[] 3 1 0 (by exact Nat.le_refl _) rfl (by decide)) _ x _ (by rfl) (HQ1.out _ ⟨by simp, own_below HO7.out (by repeat (first | exact Below.refl _ _ | apply Below.drew | refine balloc ?_ _))⟩) HXL.out (by simp) ?_; intro v8 w8 hown8 hg8; have HO8 := hI hown8; have HG8 := hI hg8; have HLK8 := hI (World.ownsRow.kept (own_below HO7.out (by repeat (first | exact Below.refl _ _ | apply Below.drew | refine balloc ?_ _))) hg8.by_ (Or.inr HNB.out)); clear hown8 hg8)
          | (refine step_append_nums (o := ⟨some 99, _, _, _, _, _⟩) _ rfl (.tmp 94) (.tmp 98) (by rfl) w7.heap.size _ (0 + x) _ (by rfl) HO8.out _ (M - (x + 1)) _ (by rfl) (HQ2.out _ HLK8.out) HXL2.out (by have := HG8.out.size; simp at this; omega) ?_; intro v9 w9 hown9 hg9; have H9 := hI (HFIN.out v9 w9 (by have := hown9; rwa [List.nil_append] at this) (two_nums HG8.out hg9)); obtain ⟨g9, c9, rfl, -⟩ := own_slice hown9; clear hown9 hg9))
         all_goals
          go_wp2_with fail
          go_roundw
          case rel =>
           have hrl := H9.out; rw [Nat.zero_add] at hrl; exact hrl
          case measure => simp [intOf]; omega
    ·have htl : ¬ (m : Int) < T := by omega
     obtain ⟨gl, cl, rfl, -⟩ := own_slice hO
     obtain rfl : m = T := by omega
     clear hO hlt hm hbase; go_wp2_with fail; go_end0; exact ⟨L, q, rfl, HLM.out, HI.out, HJ.out⟩
def nilK : Value := .slice none 0 0
theorem was_info : (Tryz.prog.info? 56).map (fun i => (i.zero, i.size, i.bytes)) = some (some (.slice none 0 0), 1, 24) := by kernel_rfl
theorem make_was (n : Nat) (hn : n ≤ 100000) (w : World) : (Instr.makeSlice 71 (.int .i64 (n : Int)) (.int .i64 (n : Int))).run Tryz.prog w = .ok (.slice (some ⟨w.heap.size, 0, none⟩) n n) (w.alloc (.cells (madeCells #[.slice none 0 0] n) 56)) :=
 run_make_row' (P := Tryz.prog) 71 56 (.slice none 0 0) 24 Tryz.underlying71 was_info rfl .i64 .i64 n (by omega) (by omega) w
structure WasR (B : Nat) (w : World) (v : Value) (us : List Value) (L : List (List (List UInt8))) : Prop where
 top : w.ownsRow B 56 1 v L.length us
 each : ∀ i, i < L.length → BkB B (L.getD i []) (us.getD i nilK) w
variable {B : Nat} {v : Value} {us : List Value}
theorem WasR.below {L : List (List (List UInt8))} (h : WasR B w v us L) (hb : Below w.heap.size w w') : WasR B w' v us L :=
 ⟨own_below h.top hb, fun i hi => (h.each i hi).below hb⟩
theorem WasR.rc {L : List (List (List UInt8))} (h : WasR B w v us L) (hf : Far B c n) (hc : RC c n w w') : WasR B w' v us L :=
 ⟨own_rc h.top hf hc, fun i hi => (h.each i hi).rc hf hc⟩
variable {b r : Nat}
theorem WasR.rcv {cf : Cf} {g : Int} {down : Bool} {L : List (List (List UInt8))} (h : WasR B w v us L) (hf : Far B c n) (hb : VB cf r g down b w) (hc : RCV c n b w w') : WasR B w' v us L :=
 ⟨own_rcv h.top hf hc (own_vb h.top hb (by decide)), fun i hi => (h.each i hi).rcv hf hb hc⟩
theorem WasR.ulen {L : List (List (List UInt8))} (h : WasR B w v us L) : us.length = L.length := by
 have := h.top.1
 omega
variable {g : Nat}
theorem WasR.cell {c : Nat} {L : List (List (List UInt8))} (h : WasR B w (.slice (some ⟨g, 0, none⟩) n c) us L) {i : Nat} (hi : i < L.length) : w.cell? ⟨g, i, none⟩ = some (us.getD i nilK) := by
 have hn : L.length = n := by
  rcases h.top.2 with ⟨e, _⟩ | ⟨g', cap', cur, e, _⟩
  ·cases e
  ·injection e with _ e _; exact e.symm
 subst hn
 exact own_cell h.top (by rw [List.getD, List.getElem?_eq_getElem (by rw [h.ulen]; exact hi)]; rfl)
theorem WasR.put {c : Nat} {L : List (List (List UInt8))} (h : WasR B w (.slice (some ⟨g, 0, none⟩) n c) us L) {i : Nat} (hi : i < L.length) {u : Value} {bs : List (List UInt8)} (hu : BkB B bs u w) :
  WasR B (w.setCell ⟨g, i, none⟩ u) (.slice (some ⟨g, 0, none⟩) n c) (us.set i u) (L.set i bs) := by
 have hn : L.length = n := by
  rcases h.top.2 with ⟨e, _⟩ | ⟨g', cap', cur, e, _⟩
  ·cases e
  ·injection e with _ e _; exact e.symm
 subst hn
 have hg : ∃ cs fz, w.heap[g]? = some (.cells cs 56 fz) := by
  rcases h.top.2 with ⟨e, _⟩ | ⟨g', cap', cur, e, _, hg, _⟩
  ·cases e
  ·injection e with e _ _; injection e with e; injection e with e _ _; subst e; exact ⟨_, _, hg⟩
 obtain ⟨cs, fz, hg⟩ := hg
 have hk : ∀ {bs : List (List UInt8)} {x : Value}, BkB B bs x w → BkB B bs x (w.setCell ⟨g, i, none⟩ u) := fun hx => ⟨hx.is, own_kept_set hx.row (Or.inr (own_kind_ne hx.row hg (by decide)))⟩
 refine ⟨by rw [List.length_set]; exact own_set h.top i u, fun j hj => ?_⟩
 rw [List.length_set] at hj
 by_cases e : j = i
 ·subst e
  rw [getD_set_eq _ _ _ _ hj, getD_set_eq _ _ _ _ (by rw [h.ulen]; exact hj)]; exact hk hu
 ·rw [getD_set_ne _ _ _ _ _ e, getD_set_ne _ _ _ _ _ e]
  exact hk (h.each j hj)
theorem was_made (w : World) (n : Nat) (hn : n ≤ 100000) : WasR w.heap.size (w.alloc (.cells (madeCells #[.slice none 0 0] n) 56)) (.slice (some ⟨w.heap.size, 0, none⟩) n n) (List.replicate n nilK) (List.replicate n []) := by
 have h := own_new w w.heap.size (madeCells #[nilK] n) 56 1 n (Nat.le_refl _) (by rw [size_madeCells]; simp) (by unfold maxLen; omega)
 rw [show (madeCells #[nilK] n).toList = List.replicate n nilK from by
  refine List.ext_getElem (by simp [madeCells]) fun i h1 h2 => ?_
  simp [madeCells, Nat.mod_one]] at h
 refine ⟨by rw [List.length_replicate]; exact h, fun i hi => ?_⟩
 rw [getD_rep, getD_rep]
 exact ⟨fun d hd => (by cases hd), World.ownsRow_nil _ _ _ _⟩
def lf (T : Nat) (f : Nat → List (List UInt8)) : List (List (List UInt8)) := (List.range T).map f
theorem lf_len (T : Nat) (f : Nat → List (List UInt8)) : (lf T f).length = T := by simp [lf]
variable {T i : Nat}
theorem lf_get (f : Nat → List (List UInt8)) (h : i < T) : (lf T f).getD i [] = f i := by simp [lf, List.getD, h]
theorem lf_set (T i : Nat) (f : Nat → List (List UInt8)) (b : List (List UInt8)) : (lf T f).set i b = lf T (fun t => if t = i then b else f t) := by
 refine List.ext_getElem (by simp [lf]) fun j h1 h2 => ?_
 simp only [lf, List.getElem_set, List.getElem_map, List.getElem_range]
 by_cases e : i = j
 ·subst e; simp
 ·rw [if_neg e, if_neg (fun h => e h.symm)]
theorem lf_congr {f f' : Nat → List (List UInt8)} (h : ∀ t, t < T → f t = f' t) : lf T f = lf T f' :=
 List.map_congr_left fun t ht => h t (List.mem_range.1 ht)
def WasF (B g T : Nat) (f : Nat → List (List UInt8)) (w : World) : Prop := ∃ us, WasR B w (.slice (some ⟨g, 0, none⟩) T T) us (lf T f)
theorem WasF.below {f : Nat → List (List UInt8)} (h : WasF B g T f w) (hb : Below w.heap.size w w') : WasF B g T f w' := by
 obtain ⟨us, h⟩ := h; exact ⟨us, h.below hb⟩
theorem WasF.rc {f : Nat → List (List UInt8)} (h : WasF B g T f w) (hf : Far B c n) (hc : RC c n w w') : WasF B g T f w' := by
 obtain ⟨us, h⟩ := h; exact ⟨us, h.rc hf hc⟩
variable {sq : Int}
theorem WasF.rcv {f : Nat → List (List UInt8)} {cf : Cf} {down : Bool} (h : WasF B g T f w) (hf : Far B c n) (hb : VB cf r sq down b w) (hc : RCV c n b w w') : WasF B g T f w' := by
 obtain ⟨us, h⟩ := h; exact ⟨us, h.rcv hf hb hc⟩
theorem WasF.congr {f f' : Nat → List (List UInt8)} (h : WasF B g T f w) (e : ∀ t, t < T → f t = f' t) : WasF B g T f' w := by
 obtain ⟨us, h⟩ := h; exact ⟨us, by rwa [lf_congr e] at h⟩
theorem WasF.cell {f : Nat → List (List UInt8)} (h : WasF B g T f w) (hi : i < T) : ∃ a cap, w.cell? ⟨g, i, none⟩ = some (.slice a (f i).length cap) ∧ BkB B (f i) (.slice a (f i).length cap) w := by
 obtain ⟨us, h⟩ := h
 have h1 := h.cell (i := i) (by rw [lf_len]; exact hi)
 have h2 := h.each i (by rw [lf_len]; exact hi)
 rw [lf_get f hi] at h2
 obtain ⟨a, cap, e, _⟩ := own_slice' h2.row
 rw [e] at h1 h2
 exact ⟨a, cap, h1, h2⟩
theorem WasF.frozen {f : Nat → List (List UInt8)} (h : WasF B g T f w) (i : Nat) : w.frozen? ⟨g, i, none⟩ = false := by
 obtain ⟨us, h⟩ := h
 have := h.top
 rw [lf_len] at this
 exact own_frozen this i
theorem WasF.put {f : Nat → List (List UInt8)} (h : WasF B g T f w) (hi : i < T) {u : Value} {bs : List (List UInt8)} (hu : BkB B bs u w) : WasF B g T (fun t => if t = i then bs else f t) (w.setCell ⟨g, i, none⟩ u) := by
 obtain ⟨us, h⟩ := h
 have := h.put (i := i) (by rw [lf_len]; exact hi) hu
 rw [lf_set] at this
 exact ⟨_, this⟩
theorem WasF.ge {f : Nat → List (List UInt8)} (h : WasF B g T f w) : B ≤ g ∧ g < w.heap.size := by
 obtain ⟨us, h⟩ := h; exact h.top.lt g rfl
theorem WasF.other {B2 : Nat} {f : Nat → List (List UInt8)} (h : WasF B g T f w) {u x : Value} {bs : List (List UInt8)} (hx : BkB B2 bs x w) : BkB B2 bs x (w.setCell ⟨g, i, none⟩ u) := by
 obtain ⟨us, h⟩ := h
 rcases h.top.2 with ⟨e, _⟩ | ⟨g', cap', cur, e, _, hg, _⟩
 ·cases e
 ·injection e with e _ _; injection e with e; injection e with e _ _; subst e
  exact ⟨hx.is, own_kept_set hx.row (Or.inr (own_kind_ne hx.row hg (by decide)))⟩
theorem was_madeF (w : World) (T : Nat) (hn : T ≤ 100000) : WasF w.heap.size w.heap.size T (fun _ => []) (w.alloc (.cells (madeCells #[.slice none 0 0] T) 56)) := by
 have h := was_made w T hn
 refine ⟨List.replicate T nilK, ?_⟩
 rw [show lf T (fun _ => []) = List.replicate T [] from by simp [lf, List.map_const']]
 exact h
theorem vw_was {cf : Cf} {down : Bool} {f : Nat → List (List UInt8)} (h : VW w1 c cf n q sq down b w) (ho : WasF B g T f w) (hf : FarV B c n) (hB : w1.heap.size ≤ B) (v : Value) : VW w1 c cf n q sq down b (w.setCell ⟨g, i, none⟩ v) := by
 have hg := ho.ge.1
 have hne : g ≠ b := by
  obtain ⟨us, ho⟩ := ho
  exact fun e => own_vb ho.top h.vb (by decide) (by rw [e]; rfl)
 exact ⟨⟨h.qs.rack.setV (b := g) (by rw [h.nn]; exact ⟨hf.1.mono hg, Nat.lt_of_lt_of_le hf.2 hg⟩) _ _, h.qs.base.setCell (p := ⟨g, i, none⟩) (Nat.le_trans hB hg) _⟩, h.nn, by unfold VB; rw [heap_setCell_other w ⟨g, i, none⟩ b v (fun e => hne e.symm)]; exact h.vb, h.farv, h.le⟩
def BlkOut (K : Nat) (w : World) (e : Ending) (w' : World) : Prop := ∃ (A : List (List UInt8)) (a : Option Addr) (cap : Nat), e = .returned (.slice a K cap) ∧ A.length = K ∧ BkB w.heap.size A (.slice a K cap) w' ∧ Below w.heap.size w w'
theorem blocks_some (K : Nat) (z : Int) (w : World) (h : K ≤ 8) : Calls Tryz.prog 34 #[.int .i64 (K : Int), .int .i64 z] w (BlkOut K w) := by
 refine (blocks_any K z w h).mono ?_
 rintro e w' ⟨v, rfl, ho, hb⟩
 have hB := bkB_of ho (Nat.le_refl w.heap.size)
 obtain ⟨a, c, rfl, -⟩ := own_slice' ho
 rw [blks_length] at hB ⊢
 exact ⟨_, a, c, rfl, blks_length _ _, hB, hb⟩
end Go.Proofs.YthbpfnohbilhaaaGreatDoor
