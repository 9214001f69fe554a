import Derived.Test.YtilljaneegbhlaaGreatDoorZSFits
import Derived.Test.YtilljaneegbhlaaGreatDoorZSGet
namespace Go.Proofs.YtilljaneegbhlaaGreatDoor
open Go.RowKit Go.Deep Crc Dk Qk Go.Maps Hf
set_option maxHeartbeats 4000000
set_option maxRecDepth 100000
def opSPut : ByteArray := ⟨#[115, 117, 112, 101, 114, 46, 80, 117, 116]⟩
def opSFind : ByteArray := ⟨#[115, 117, 112, 101, 114, 46, 70, 105, 110, 100]⟩
def Rk.serr (q : Rk) (c : Cf) (i : Int) : Value :=
 if c.fits q = true then
  (if q.wcode i 0 (put (supF c i)).length = 0 then
   (if (q.write i 0 (put (supF c i))).fcode i = 0 then .nilIface else wrapV opSPut i (wrapV opQFlush i (errV ((q.write i 0 (put (supF c i))).fcode i))))
  else wrapV opSPut i (wrapV opQWrite i (errV (q.wcode i 0 (put (supF c i)).length))))
 else wrapV opSPut i (errV 1)
variable {lo : Nat} {c : Lc} {q : Rk}
theorem sput_no (w : World) (h : RackIn lo w c q) (cf : Cf) (i : Int) (hf : cf.fits q = false) :
  Calls Tryz.prog 65 #[.pointer (some ⟨c.r, 0, none⟩), .agg (cfA cf), .int .i64 i] w (NextR lo c q.n q (wrapV opSPut i (errV 1)) w) := by
 have h1 := ftS_new h cf
 have HF := hI (sfits_any _ h1.1 cf)
 rw [hf] at HF
 have H1 := hI h1
 obtain ⟨d0, d1, d2, d3, d4⟩ := h1.2.1.cells
 clear h h1
 go_enter Tryz.func65, Tryz.ntmps65
 go_wp2_with (first
  | (go_at_call 34; refine HF.out.mono ?_; rintro e w2 ⟨rfl, hb2⟩; have H2 := hI (FtS.then H1.out hb2); clear hb2)
  | (go_at_call 32; refine (wrap_some _ _ _ _ _).mono ?_; rintro e w' ⟨rfl, rfl⟩))
 exact bodyPost_ret (v := wrapV opSPut i (errV 1)) (by simp [results, Tryz.results65, go_sem, wrapV, errV, opSPut]) rfl ⟨rfl, H2.out.1, RC.of_below H2.out.2.2.2⟩
theorem sput_yes (w : World) (h : RackIn lo w c q) (cf : Cf) (i : Int) (hf : cf.fits q = true) :
  Calls Tryz.prog 65 #[.pointer (some ⟨c.r, 0, none⟩), .agg (cfA cf), .int .i64 i] w (NextR lo c q.n (Rk.sput q cf i) (Rk.serr q cf i) w) := by
 have h1 := ftS_new h cf
 have HF := hI (sfits_any _ h1.1 cf)
 rw [hf] at HF
 have H1 := hI h1
 have CB := hI (fun w => superblock_any cf i w (fits_right hf).1)
 have CP := hI (fun w => put_any (supF cf i) w (supF_is cf i))
 have HSP := hI (show Rk.sput q cf i = _ from if_pos hf)
 have HSE := hI (show Rk.serr q cf i = _ from if_pos hf)
 obtain ⟨d0, d1, d2, d3, d4⟩ := h1.2.1.cells
 clear h h1 hf
 generalize supF cf i = F at *
 go_enter Tryz.func65, Tryz.ntmps65
 go_wp2_with fail
 refine HF.out.mono ?_
 rintro e w2 ⟨rfl, hb2⟩
 have h2 := FtS.then H1.out hb2
 have H2 := hI h2
 obtain ⟨e0, e1, e2, e3, e4⟩ := h2.2.1.cells
 clear hb2 h2 d0 d1 d2 d3 d4
 go_wp2_with fail
 refine (CB.out w2).mono ?_
 rintro e w3 ⟨rfl, hb3⟩
 have H3 := hI (FtS.then H2.out hb3)
 clear hb3
 go_wp2_with fail
 refine (CP.out w3).mono ?_
 rintro e w4 ⟨v4, rfl, ho4, hb4⟩
 have H4 := hI (FtS.then H3.out hb4)
 have HW := hI (qwrite_any w4 H4.out.1 i 0 v4 (Hf.put F) (slb_own ho4))
 clear hb4 ho4
 generalize Hf.put F = L at *
 by_cases hw : q.wcode i 0 L.length = 0
 ·rw [hw, evs_zero] at HW
  rw [if_pos hw] at HSP HSE; clear hw; go_wp2_with fail; refine HW.out.mono ?_; rintro e w5 ⟨rfl, hR5, hC5⟩; have HFL := hI (qflush_any w5 hR5 i); have HC5 := hI hC5; have HN5 := hI (write_n q i 0 L); generalize q.write i 0 L = q1 at *; clear hR5 hC5
  by_cases hx : q1.fcode i = 0
  ·rw [hx, evs_zero] at HFL
   rw [if_pos hx] at HSE; clear hx
   go_wp2_with (first
    | (go_at_call 84; refine HFL.out.mono ?_; rintro e w6 ⟨rfl, hR6, hC6⟩; have HR6 := hI hR6; have HC6 := hI hC6; clear hR6 hC6)
    | (go_at_call 32; refine (wrap_nil _ _ _).mono ?_; rintro e w' ⟨rfl, rfl⟩))
   rw [HSP.out, HSE.out]; go_ret; have hc6 := HC6.out; rw [HN5.out] at hc6; exact ⟨rfl, HR6.out, ((RC.of_below H4.out.2.2.2).trans HC5.out).trans hc6⟩
  ·rw [evs_some _ _ hx] at HFL
   rw [if_neg hx] at HSE; clear hx; unfold wrapV errV at HFL
   go_wp2_with (first
    | (go_at_call 84; refine HFL.out.mono ?_; rintro e w6 ⟨rfl, hR6, hC6⟩; have HR6 := hI hR6; have HC6 := hI hC6; clear hR6 hC6)
    | (go_at_call 32; refine (wrap_some _ _ _ _ _).mono ?_; rintro e w' ⟨rfl, rfl⟩))
   rw [HSP.out, HSE.out]; have hc6 := HC6.out; rw [HN5.out] at hc6; exact bodyPost_ret (v := wrapV opSPut i (wrapV opQFlush i (errV (q1.fcode i)))) (by simp [results, Tryz.results65, go_sem, wrapV, errV, opSPut]) rfl ⟨rfl, HR6.out, ((RC.of_below H4.out.2.2.2).trans HC5.out).trans hc6⟩
 ·rw [evs_some _ _ hw] at HW
  rw [if_neg hw] at HSP HSE; clear hw; unfold wrapV errV at HW
  go_wp2_with (first
   | (go_at_call 83; refine HW.out.mono ?_; rintro e w5 ⟨rfl, hR5, hC5⟩; have HR5 := hI hR5; have HC5 := hI hC5; clear hR5 hC5)
   | (go_at_call 32; refine (wrap_some _ _ _ _ _).mono ?_; rintro e w' ⟨rfl, rfl⟩))
  rw [HSP.out, HSE.out]; exact bodyPost_ret (v := wrapV opSPut i (wrapV opQWrite i (errV (q.wcode i 0 L.length)))) (by simp [results, Tryz.results65, go_sem, wrapV, errV, opSPut]) rfl ⟨rfl, HR5.out, (RC.of_below H4.out.2.2.2).trans HC5.out⟩
theorem sput_any (w : World) (h : RackIn lo w c q) (cf : Cf) (i : Int) :
  Calls Tryz.prog 65 #[.pointer (some ⟨c.r, 0, none⟩), .agg (cfA cf), .int .i64 i] w (NextR lo c q.n (Rk.sput q cf i) (Rk.serr q cf i) w) := by
 cases hf : cf.fits q with
 | true => exact sput_yes w h cf i hf
 | false =>
  have e1 : Rk.sput q cf i = q := if_neg (by rw [hf]; decide); have e2 : Rk.serr q cf i = wrapV opSPut i (errV 1) := if_neg (by rw [hf]; decide); rw [e1, e2]; exact sput_no w h cf i hf
theorem eq_conf (a b : Cf) (w : World) : (Op.equalIn 10000 24 (.agg (cfA a)) (.agg (cfA b))).run Tryz.prog w = .ok (decide (a = b)) w := by
 have hfs : (Tryz.prog.fieldsOf 24).toList.map (fun q => (q.name, q.type, q.offset)) = [("Id", 3, 0), ("K", 3, 1), ("N", 3, 2), ("Stripes", 3, 3), ("Slots", 3, 4)] := by kernel_rfl
 rw [run_equalIn_struct w 9999 _ _ _ (by kernel_rfl) (by kernel_rfl)]
 generalize (Tryz.prog.fieldsOf 24).toList = fs at hfs
 obtain ⟨f0, fs, rfl, h0, hfs⟩ := List.map_eq_cons_iff.1 hfs
 obtain ⟨f1, fs, rfl, h1, hfs⟩ := List.map_eq_cons_iff.1 hfs
 obtain ⟨f2, fs, rfl, h2, hfs⟩ := List.map_eq_cons_iff.1 hfs
 obtain ⟨f3, fs, rfl, h3, hfs⟩ := List.map_eq_cons_iff.1 hfs
 obtain ⟨f4, fs, rfl, h4, hfs⟩ := List.map_eq_cons_iff.1 hfs
 obtain rfl := List.map_eq_nil_iff.1 hfs
 have ei : ∀ (x y : Int), (Op.equalIn 9999 3 (.int .i64 x) (.int .i64 y)).run Tryz.prog w = .ok (x == y) w := fun x y => run_equalIn_int w 9998 _ .i64 .i64 _ _ Tryz.underlying3
 have pi : ∀ (c : Cf) (i : Nat) (x : Int), (cfA c)[i]? = some (.int .i64 x) → (part 3 (cfA c) i).run Tryz.prog w = .ok (.int .i64 x) w := fun c i x h => part_int w _ _ _ h
 rw [eqFields_step w 9999 _ _ f0 _ h0 (by decide) (pi a 0 a.id rfl) (pi b 0 b.id rfl) (ei _ _),
  eqFields_step w 9999 _ _ f1 _ h1 (by decide) (pi a 1 a.k rfl) (pi b 1 b.k rfl) (ei _ _),
  eqFields_step w 9999 _ _ f2 _ h2 (by decide) (pi a 2 a.n rfl) (pi b 2 b.n rfl) (ei _ _),
  eqFields_step w 9999 _ _ f3 _ h3 (by decide) (pi a 3 a.t rfl) (pi b 3 b.t rfl) (ei _ _),
  eqFields_step w 9999 _ _ f4 _ h4 (by decide) (pi a 4 a.s rfl) (pi b 4 b.s rfl) (ei _ _)]
 simp only [Op.eqFields, Sem.run_pure, beq_iff_eq]
 have hd : decide (a = b) = decide (a.id = b.id ∧ a.k = b.k ∧ a.n = b.n ∧ a.t = b.t ∧ a.s = b.s) :=
  decide_eq_decide.2 ⟨fun h => by subst h; exact ⟨rfl, rfl, rfl, rfl, rfl⟩, fun ⟨h1, h2, h3, h4, h5⟩ => Cf.same h1 h2 h3 h4 h5⟩
 rw [hd]
 by_cases e0 : a.id = b.id
 ·by_cases e1 : a.k = b.k
  ·by_cases e2 : a.n = b.n
   ·by_cases e3 : a.t = b.t
    ·by_cases e4 : a.s = b.s
     ·simp [e0, e1, e2, e3, e4]
     ·simp [e0, e1, e2, e3, e4]
    ·simp [e0, e1, e2, e3]
   ·simp [e0, e1, e2]
  ·simp [e0, e1]
 ·simp [e0]
theorem eql_conf (a b : Cf) (w : World) : (binOp .eql 24 (.agg (cfA a)) (.agg (cfA b))).run Tryz.prog w = .ok (.bool (decide (a = b))) w := by
 rw [run_eql_struct, eq_conf]; rfl
theorem guard_conf : Tryz.prog.eqGuardType Tryz.prog.depth 24 = false := by kernel_rfl
def ferr (q : Rk) : Value := if fndOk q = true then .nilIface else wrapV opSFind ((fnd q q.n).2 : Int) (errV 7)
def fcodeF (q : Rk) : Int := if fndOk q = true then 0 else 7
def CfErr (c : Cf) (v : Value) (w : World) (e : Ending) (w' : World) : Prop := e = .returned (.tuple #[.agg (cfA c), v]) ∧ Below w.heap.size w w'
def FdS (lo : Nat) (c : Lc) (q : Rk) (cf : Cf) (b0 b1 : Nat) (w w' : World) : Prop := RackIn lo w' c q ∧ CfB cf b1 w' ∧ CfB zeroC b0 w' ∧ b0 < b1 ∧ b1 < w'.heap.size ∧ Below w.heap.size w w'
variable {b0 : Nat} {w w1 : World}
theorem FdS.then {cf : Cf} {b1 : Nat} {w2 : World} (h : FdS lo c q cf b0 b1 w w1) (hb : Below w1.heap.size w1 w2) : FdS lo c q cf b0 b1 w w2 :=
 ⟨h.1.below hb, h.2.1.below h.2.2.2.2.1 hb, h.2.2.1.below (Nat.lt_trans h.2.2.2.1 h.2.2.2.2.1) hb, h.2.2.2.1, Nat.lt_of_lt_of_le h.2.2.2.2.1 hb.size, bthen h.2.2.2.2.2 hb⟩
theorem RackIn.keepB {B : Nat} {w' : World} (h : RackIn lo w c q) (hf : Far B c q.n ∧ c.P < B) (hb : Below B w w') : RackIn lo w' c q :=
 h.keep (hb.block _ hf.1.1) (hb.block _ hf.2) fun i hi => ⟨hb.block _ (hf.1.2 i hi).1, hb.block _ (hf.1.2 i hi).2.1, hb.block _ (hf.1.2 i hi).2.2⟩
theorem FdS.fill {cf : Cf} (h : FdS lo c q cf b0 (w.heap.size + 1) w w1) (hf : Far w.heap.size c q.n ∧ c.P < w.heap.size) (x : Cf) : FdS lo c q x b0 (w.heap.size + 1) w (fillC x (w.heap.size + 1) w1) := by
 have hb := fillC_below (B := w.heap.size + 1) (Below.refl (w.heap.size + 1) w1) (Nat.le_refl _) x
 exact ⟨h.1.keepB ⟨hf.1.mono (Nat.le_succ _), Nat.lt_succ_of_lt hf.2⟩ hb, h.2.1.fill x, h.2.2.1.below h.2.2.2.1 hb, h.2.2.2.1, Nat.lt_of_lt_of_le h.2.2.2.2.1 hb.size, h.2.2.2.2.2.trans (hb.mono (Nat.le_succ _))⟩
def RelFd (lo : Nat) (c : Lc) (q : Rk) (w : World) (v x : Value) (wr : World) : Prop :=
 ∃ m : Nat, m ≤ q.n ∧ x = .int .i64 m ∧ v = .int .i64 ((fnd q m).2 : Int) ∧ FdS lo c q (fnd q m).1 w.heap.size (w.heap.size + 1) w wr
theorem sfind_any (w : World) (h : RackIn lo w c q) : Calls Tryz.prog 93 #[.pointer (some ⟨c.r, 0, none⟩)] w (CfErr (fndC q) (ferr q) w) := by
 have h0 : FdS lo c q zeroC w.heap.size (w.heap.size + 1) w ((w.alloc (.cells (cfA zeroC) 24)).alloc (.cells (cfA zeroC) 24)) :=
  ⟨(h.below (one_below _ _)).below (one_below _ _), by have := cfB_new (w.alloc (.cells (cfA zeroC) 24)) zeroC; simpa using this, (cfB_new w zeroC).below (B := w.heap.size + 1) (by omega) ((one_below _ _).mono (by simp)), by omega, by simp, balloc (one_below _ _) _⟩
 have CN := hI (qn_any ((w.alloc (.cells (cfA zeroC) 24)).alloc (.cells (cfA zeroC) 24)) h0.1)
 have H0 := hI h0
 have hn8 := h.ok.n8
 have hgd := guard_conf
 have HFAR := hI (show Far w.heap.size c q.n ∧ c.P < w.heap.size from ⟨h.far, h.lt.2.1⟩)
 clear h h0
 go_enter Tryz.func93, Tryz.ntmps93
 go_wp2_with (go_at_call 59; refine CN.out.mono ?_; rintro e w' ⟨rfl, rfl⟩)
 go_loopw [5, 11] (fun v x wr => RelFd lo c q w v x wr) (fun _ x _ => q.n - (intOf x).toNat)
 case atStart => exact ⟨0, Nat.zero_le _, rfl, rfl, H0.out⟩
 case round =>
  obtain ⟨m, hm, rfl, rfl, hs⟩ := hrel
  by_cases hlt : m < q.n
  ·have HS := hI hs
   have HG := hI (sget_any wr hs.1 (m : Int)); have HFN := hI (fnd_le q m); clear hs; go_wp2_with fail; refine HG.out.mono ?_; rintro e w2 ⟨rfl, hb2⟩; have H3 := hI ((FdS.then HS.out hb2).then (one_below w2 (.cells (cfA (cfOf q m)) 24))); have HC3 := hI (cfB_new w2 (cfOf q m)); have HL3 := hI (show w.heap.size + 1 < w2.heap.size from Nat.lt_of_lt_of_le HS.out.2.2.2.2.1 hb2.size); clear hb2
   cases hh : cfHas q m with
   | false =>
    have HN := hI (fnd_no hh); generalize cfOf q m = x at *; clear hh; go_wp2_with fail
    go_roundw
    case rel => exact ⟨m + 1, by omega, by go_num, by rw [HN.out], by rw [HN.out]; exact H3.out⟩
    case measure => simp [intOf]; omega
   | true =>
    by_cases hz : (fnd q m).2 = 0
    ·have HN := hI (fnd_yes hh hz)
     generalize cfOf q m = x at *; have h3 := H3.out; have hc3 := HC3.out
     have hne : w.heap.size + 1 ≠ w2.heap.size := by have := HL3.out; omega
     obtain ⟨p0, p1, p2, p3, p4⟩ := h3.2.1.cells; obtain ⟨f0, f1, f2, f3, f4⟩ := h3.2.1.free; obtain ⟨g0, g1, g2, g3, g4⟩ := (h3.2.1.fill x).cells; have HF := hI (h3.fill HFAR.out x)
     have heq : ∀ w, (binOp .eql 24 (.agg (cfA x)) (.agg (cfA x))).run Tryz.prog w = .ok (.bool true) w := fun w => by rw [eql_conf, decide_eq_true rfl]
     clear h3 hc3; go_wp2_with fail
     go_roundw
     case rel => exact ⟨m + 1, by omega, by go_num, by rw [HN.out]; rfl, by rw [HN.out]; exact HF.out⟩
     case measure => simp [intOf]; omega
    ·have hz1 : (((fnd q m).2 : Int) == 0) = false := by simpa using hz
     have h3 := H3.out; obtain ⟨p0, p1, p2, p3, p4⟩ := h3.2.1.cells
     by_cases hx : cfOf q m = (fnd q m).1
     ·have HN := hI (fnd_same hh hz hx)
      generalize cfOf q m = x at *
      have heq : ∀ w, (binOp .eql 24 (.agg (cfA x)) (.agg (cfA (fnd q m).1))).run Tryz.prog w = .ok (.bool true) w := fun w => by rw [eql_conf, decide_eq_true hx]
      clear h3 hz hx; generalize (fnd q m).1 = y at *; generalize (fnd q m).2 = hv at *; go_wp2_with fail
      go_roundw
      case rel =>
       have hb8 := HFN.out; exact ⟨m + 1, by omega, by go_num, by rw [HN.out]; have e : wrap64 ((hv : Int) + 1) = ((hv + 1 : Nat) : Int) := (by unfold wrap64; omega); rw [e], by rw [HN.out]; exact H3.out⟩
      case measure => simp [intOf]; omega
     ·have HN := hI (fnd_other hh hz hx)
      generalize hxx : cfOf q m = x at *
      have heq : ∀ w, (binOp .eql 24 (.agg (cfA x)) (.agg (cfA (fnd q m).1))).run Tryz.prog w = .ok (.bool false) w := fun w => by rw [eql_conf, decide_eq_false hx]
      have HE := hI (show fnd q m = ((fnd q m).1, (fnd q m).2) from rfl); clear h3 hz hx hxx; generalize (fnd q m).1 = y at *; generalize (fnd q m).2 = hv at *; go_wp2_with fail
      go_roundw
      case rel => exact ⟨m + 1, by omega, by go_num, by rw [HN.out, HE.out], by rw [HN.out, HE.out]; exact H3.out⟩
      case measure => simp [intOf]; omega
  ·obtain rfl : m = q.n := by omega
   have HS := hI hs; have HD1 := hI (show fndC q = if fndOk q = true then (fnd q q.n).1 else zeroC from rfl); have HD2 := hI (show ferr q = if fndOk q = true then .nilIface else wrapV opSFind ((fnd q q.n).2 : Int) (errV 7) from rfl); have HD3 := hI (show fndOk q = (decide ((fnd q q.n).1.k ≤ (fnd q q.n).2) && (fnd q q.n).1.fits q) from rfl); have HF := hI (sfits_any wr hs.1 (fnd q q.n).1); have HFN := hI (fnd_le q q.n); generalize (fnd q q.n).1 = y at *; generalize (fnd q q.n).2 = hv at *; obtain ⟨p0, p1, p2, p3, p4⟩ := hs.2.1.cells; obtain ⟨z0, z1, z2, z3, z4⟩ := hs.2.2.1.cells; obtain ⟨f0, f1, f2, f3, f4⟩ := hs.2.2.1.free; have HBB := hI hs.2.2.2.2.2; have HZ := hI (hs.2.2.1.fill ⟨0, 0, 0, 0, 0⟩).cells
   by_cases hk : (hv : Int) < y.k
   ·have HO := hI (show fndOk q = false by rw [HD3.out, decide_eq_false (by omega)]; rfl)
    have HE := hI (fillC_below hs.2.2.2.2.2 (Nat.le_refl w.heap.size) ⟨0, 0, 0, 0, 0⟩); clear hs; go_wp2_with (go_at_call 32; refine (wrap_some _ _ _ _ _).mono ?_; rintro e w' ⟨rfl, rfl⟩); obtain ⟨g0, g1, g2, g3, g4⟩ := HZ.out; exact bodyPost_ret (v := .tuple #[.agg (cfA ⟨0, 0, 0, 0, 0⟩), wrapV opSFind (hv : Int) (errV 7)]) (by simp [results, Tryz.results93, go_sem, g0, g1, g2, g3, g4, wrapV, errV, opSFind]) rfl ⟨by rw [HD1.out, HD2.out, HO.out]; rfl, HE.out⟩
   ·have hk2 : decide (y.k ≤ (hv : Int)) = true := decide_eq_true (by omega)
    rw [hk2, Bool.true_and] at HD3; clear hk2
    cases hf : y.fits q with
    | false =>
     have HO := hI (show fndOk q = false by rw [HD3.out, hf]); rw [hf] at HF; have HSS := hI hs; clear hs hf; go_wp2_with fail; refine HF.out.mono ?_; rintro e w2 ⟨rfl, hb2⟩
     have h2 := FdS.then HSS.out hb2
     obtain ⟨y0, y1, y2, y3, y4⟩ := h2.2.2.1.cells; obtain ⟨x0, x1, x2, x3, x4⟩ := h2.2.2.1.free; have HZ2 := hI (h2.2.2.1.fill ⟨0, 0, 0, 0, 0⟩).cells; have HE := hI (fillC_below h2.2.2.2.2.2 (Nat.le_refl w.heap.size) ⟨0, 0, 0, 0, 0⟩); clear h2 hb2; go_wp2_with (go_at_call 32; refine (wrap_some _ _ _ _ _).mono ?_; rintro e w' ⟨rfl, rfl⟩); obtain ⟨g0, g1, g2, g3, g4⟩ := HZ2.out; exact bodyPost_ret (v := .tuple #[.agg (cfA ⟨0, 0, 0, 0, 0⟩), wrapV opSFind (hv : Int) (errV 7)]) (by simp [results, Tryz.results93, go_sem, g0, g1, g2, g3, g4, wrapV, errV, opSFind]) rfl ⟨by rw [HD1.out, HD2.out, HO.out]; rfl, HE.out⟩
    | true =>
     have HO := hI (show fndOk q = true by rw [HD3.out, hf]); rw [hf] at HF; have HSS := hI hs; clear hs hf; go_wp2_with fail; refine HF.out.mono ?_; rintro e w2 ⟨rfl, hb2⟩
     have h2 := FdS.then HSS.out hb2
     obtain ⟨a0, a1, a2, a3, a4⟩ := h2.2.1.cells; obtain ⟨y0, y1, y2, y3, y4⟩ := h2.2.2.1.cells; obtain ⟨x0, x1, x2, x3, x4⟩ := h2.2.2.1.free; have HZ2 := hI (h2.2.2.1.fill y).cells; have HE := hI (fillC_below h2.2.2.2.2.2 (Nat.le_refl w.heap.size) y); clear h2 hb2; go_wp2_with fail; obtain ⟨g0, g1, g2, g3, g4⟩ := HZ2.out; exact bodyPost_ret (v := .tuple #[.agg (cfA y), .nilIface]) (by simp [results, Tryz.results93, go_sem, g0, g1, g2, g3, g4]) rfl ⟨by rw [HD1.out, HD2.out, HO.out]; rfl, HE.out⟩
end Go.Proofs.YtilljaneegbhlaaGreatDoor
