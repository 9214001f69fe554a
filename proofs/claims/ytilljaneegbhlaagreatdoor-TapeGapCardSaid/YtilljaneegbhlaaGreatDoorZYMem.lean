import Derived.Test.YtilljaneegbhlaaGreatDoorZSFind
import Derived.Test.YtilljaneegbhlaaGreatDoorZJBase
import Derived.Test.YtilljaneegbhlaaGreatDoorZQS
import Derived.Test.YtilljaneegbhlaaGreatDoorZJGet
import Derived.Test.YtilljaneegbhlaaGreatDoorZTGet
import Derived.Deep.RegionHeld3
import Derived.IntWalk
import Derived.Test.YtilljaneegbhlaaGreatDoorZYPure
import Derived.Test.YtilljaneegbhlaaGreatDoorYLay
namespace Go.Proofs.YtilljaneegbhlaaGreatDoor
open Go.RowKit Go.Deep Crc Dk Qk Go.Maps Hf
def JfS (cf : Cf) (b : Nat) (w w' : World) : Prop := CfB cf b w' ∧ b < w'.heap.size ∧ Below w.heap.size w w'
variable {b : Nat} {w : World}
theorem JfS.drew {cf : Cf} {w' : World} (h : JfS cf b w w') : JfS cf b w w'.drew := ⟨h.1, h.2.1, h.2.2.drew⟩
variable {w1 w2 : World}
theorem JfS.then {cf : Cf} (h : JfS cf b w w1) (hb : Below w1.heap.size w1 w2) : JfS cf b w w2 := ⟨CfB.below h.1 h.2.1 hb, Nat.lt_of_lt_of_le h.2.1 hb.size, bthen h.2.2 hb⟩
theorem JfS.made {cf : Cf} {c : Lc} {q : Rk} (h : JfS cf b w w1) (hq : QS w1 c q w2) : JfS cf b w w2 := h.then hq.base
theorem dying_n (q : Rk) (i : Int) (d : Bool) : (Rk.dying q i d).n = q.n := by unfold Rk.dying; split <;> rfl
end Go.Proofs.YtilljaneegbhlaaGreatDoor
namespace Go.Proofs.YtilljaneegbhlaaGreatDoor
open Go.RowKit Go.Deep Dk Qk Go.Maps Hf
structure BkB (B : Nat) (bs : List (List UInt8)) (v : Value) (w : World) : Prop where
 is : ∀ d ∈ bs, d.length = 108
 row : w.ownsRow B 87 108 v bs.length (bs.map bytesV).flatten
variable {B : Nat} {bs : List (List UInt8)} {v : Value} {w w' : World}
theorem BkB.below (h : BkB B bs v w) (hb : Below w.heap.size w w') : BkB B bs v w' := ⟨h.is, own_below h.row hb⟩
theorem BkB.rc {n : Nat} {c : Lc} (h : BkB B bs v w) (hf : Far B c n) (hc : RC c n w w') : BkB B bs v w' := ⟨h.is, own_rc h.row hf hc⟩
theorem BkB.slk (h : BkB B bs v w) : SlK w.heap.size w v bs := slK_own h.row h.is rfl
theorem bkB_of {n : Int} {k : Nat} (h : w'.ownsRow w.heap.size 87 108 v (blks n k).length ((blks n k).map bytesV).flatten) (hB : B ≤ w.heap.size) : BkB B (blks n k) v w' := ⟨blks_is n k, own_base h hB⟩
def GotB (g : Int) (bs : List (List UInt8)) (w : World) (e : Ending) (w' : World) : Prop := ∃ v, e = .returned (.tuple #[v, .int .i64 g, .nilIface]) ∧ w'.ownsRow w.heap.size 87 108 v bs.length (bs.map bytesV).flatten ∧ Below w.heap.size w w'
end Go.Proofs.YtilljaneegbhlaaGreatDoor
namespace Go.Proofs.YtilljaneegbhlaaGreatDoor
open Go.RowKit Go.Deep Crc Dk Qk Go.Maps Hf
set_option maxHeartbeats 2000000
set_option maxRecDepth 100000
def KV (k : Int) (v : Value) : Prop := (k = 0 ∧ v = .nilIface) ∨ (k ≠ 0 ∧ ∃ l, v = chain l (errV k)) ∨ (k = 6 ∧ ∃ l a b d, v = chain l (lossV a b d))
theorem KV.zero : KV 0 .nilIface := Or.inl ⟨rfl, rfl⟩
variable {k : Int} {v : Value}
theorem KV.nil (h : KV k v) (hk : k = 0) : v = .nilIface := by
 rcases h with ⟨_, h⟩ | ⟨h, _⟩ | ⟨h, _⟩
 ·exact h
 ·exact absurd hk h
 ·omega
theorem KV.some (h : KV k v) (hk : k ≠ 0) : ∃ T x, v = .iface T x := by
 rcases h with ⟨h, _⟩ | ⟨_, l, rfl⟩ | ⟨_, l, a, b, d, rfl⟩
 ·exact absurd h hk
 ·exact chain_iface l _ _
 ·exact chain_iface l _ _
theorem KV.wrap (h : KV k v) (hk : k ≠ 0) (op : ByteArray) (n : Int) : KV k (wrapV op n v) := by
 rcases h with ⟨h, _⟩ | ⟨h, l, rfl⟩ | ⟨h, l, a, b, d, rfl⟩
 ·exact absurd h hk
 ·exact Or.inr (Or.inl ⟨h, (op, n) :: l, rfl⟩)
 ·exact Or.inr (Or.inr ⟨h, (op, n) :: l, a, b, d, rfl⟩)
theorem KV.err (hk : k ≠ 0) : KV k (errV k) := Or.inr (Or.inl ⟨hk, [], rfl⟩)
theorem KV.loss (a b d : Int) : KV 6 (lossV a b d) := Or.inr (Or.inr ⟨rfl, [], a, b, d, rfl⟩)
theorem kind_kv (h : KV k v) (w : World) (hT : Typ w) : Calls Tryz.prog 13 #[v] w (Num k w) := by
 rcases h with ⟨rfl, rfl⟩ | ⟨_, l, hv⟩ | ⟨rfl, l, a, b, d, hv⟩
 ·exact kind_nil w
 ·exact kind_err l k w v hv hT
 ·exact kind_loss l a b d w v hv hT
theorem runE_kv (q : Rk) (L : List Rop) : KV (runC q L) (runE q L) := by
 rcases runE_form L q with ⟨h1, h2⟩ | ⟨h1, o, i, h2⟩
 ·rw [h1, h2]; exact KV.zero
 ·rw [h2]; exact (KV.err h1).wrap h1 o i
theorem wrapR_kv (op : ByteArray) (n : Int) (q : Rk) (L : List Rop) : KV (runC q L) (wrapR op n q L) := by
 unfold wrapR
 by_cases h : runC q L = 0
 ·rw [if_pos h, h]; exact KV.zero
 ·rw [if_neg h]; exact (runE_kv q L).wrap h op n
theorem jlog_kv (q : Rk) (c : Cf) (x : Rc) : KV (Rk.jlogC q c x) (Rk.jlogV q c x) := by
 unfold Rk.jlogC Rk.jlogV
 split
 ·exact wrapR_kv _ _ _ _
 ·exact (KV.err (by decide)).wrap (by decide) _ _
theorem jblank_kv (q : Rk) (c : Cf) (s : Int) : KV (Rk.jblankC q c s) (Rk.jblankV q c s) := by
 unfold Rk.jblankC Rk.jblankV
 split
 ·exact wrapR_kv _ _ _ _
 ·exact (KV.err (by decide)).wrap (by decide) _ _
theorem tput_kv (q : Rk) (c : Cf) (s g : Int) (bs : List (List UInt8)) : KV (Rk.tputC q c s g bs) (Rk.tputV q c s g bs) := by
 unfold Rk.tputC Rk.tputV
 split
 ·exact wrapR_kv _ _ _ _
 ·exact (KV.err (by decide)).wrap (by decide) _ _
theorem serr_kv (q : Rk) (c : Cf) (i : Int) : KV (Rk.scode q c i) (Rk.serr q c i) := by
 unfold Rk.scode Rk.serr
 by_cases h : c.fits q = true
 ·rw [if_pos h, if_pos h]
  by_cases h1 : q.wcode i 0 (put (supF c i)).length = 0
  ·rw [if_pos h1, if_pos h1]
   by_cases h2 : (q.write i 0 (put (supF c i))).fcode i = 0
   ·rw [if_pos h2, h2]; exact KV.zero
   ·rw [if_neg h2]; exact ((KV.err h2).wrap h2 _ _).wrap h2 _ _
  ·rw [if_neg h1, if_neg h1]; exact ((KV.err h1).wrap h1 _ _).wrap h1 _ _
 ·rw [if_neg h, if_neg h]; exact (KV.err (by decide)).wrap (by decide) _ _
theorem tget_kv (q : Rk) (c : Cf) (s : Int) : KV (tcode q c s) (tgetV q c s) := by
 unfold tcode tgetV
 split
 ·split
  ·exact (KV.err (by decide)).wrap (by decide) _ _
  ·split
   ·exact (KV.loss _ _ _).wrap (by decide) _ _
   ·exact KV.zero
 ·exact (KV.err (by decide)).wrap (by decide) _ _
theorem jslot_kv (q : Rk) (c : Cf) (s : Int) : KV (jcode q c s) (jslotV q c s) := by
 unfold jcode jslotV
 split
 ·split
  ·exact KV.zero
  ·exact (KV.loss _ _ _).wrap (by decide) _ _
 ·exact (KV.err (by decide)).wrap (by decide) _ _
theorem ferr_kv (q : Rk) : KV (fcodeF q) (ferr q) := by
 unfold fcodeF ferr
 split
 ·exact KV.zero
 ·exact (KV.err (by decide)).wrap (by decide) _ _
theorem wrapV_ne (h : KV k v) (hk : k ≠ 0) : ∃ T x, v = .iface T x ∧ KV k (.iface T x) := by
 obtain ⟨T, x, rfl⟩ := h.some hk
 exact ⟨T, x, rfl, h⟩
theorem wrap_kv (h : KV k v) (op : ByteArray) (n : Int) (w : World) : Calls Tryz.prog 32 #[.string op, .int .i64 n, v] w fun e w' => (∃ v', e = .returned v' ∧ KV k v') ∧ w = w' := by
 by_cases hk : k = 0
 ·rw [h.nil hk, hk]
  refine (wrap_nil op n w).mono ?_; rintro e w' ⟨rfl, hw⟩; exact ⟨⟨_, rfl, KV.zero⟩, hw⟩
 ·obtain ⟨T, x, hx⟩ := h.some hk
  have h2 := h.wrap hk op n; rw [hx] at h2 ⊢; refine (wrap_some op n T x w).mono ?_; rintro e w' ⟨rfl, hw⟩; exact ⟨⟨_, rfl, h2⟩, hw⟩
def NextE (lo : Nat) (c : Lc) (n : Nat) (q' : Rk) (k : Int) (w : World) (e : Ending) (w' : World) : Prop := ∃ v, e = .returned v ∧ KV k v ∧ RackIn lo w' c q' ∧ RC c n w w'
structure RkS (lo : Nat) (c : Lc) (n : Nat) (q : Rk) (w0 w : World) : Prop where
 rack : RackIn lo w c q
 nn : q.n = n
 rc : RC c n w0 w
variable {lo : Nat} {c : Lc} {q : Rk} {w : World}
theorem RkS.start (h : RackIn lo w c q) : RkS lo c q.n q w w := ⟨h, rfl, RC.refl _ _ _⟩
variable {n : Nat} {w0 w' : World}
theorem RkS.then (h : RkS lo c n q w0 w) (hb : Below w.heap.size w w') : RkS lo c n q w0 w' := ⟨h.rack.below hb, h.nn, h.rc.trans (RC.of_below hb)⟩
variable {q' : Rk}
theorem RkS.next (h : RkS lo c n q w0 w) (hr : RackIn lo w' c q') (hn : q'.n = q.n) (hc : RC c q.n w w') : RkS lo c n q' w0 w' :=
 ⟨hr, hn.trans h.nn, h.rc.trans (by rw [← h.nn]; exact hc)⟩
theorem zeros_zer : zeros 128 = zer := by decide
theorem run_one (q : Rk) (o : Rop) : runC q [o] = o.code q ∧ runS q [o] = o.next q := by
 constructor
 ·show (if o.code q = 0 then 0 else o.code q) = o.code q
  by_cases h : o.code q = 0
  ·rw [if_pos h, h]
  ·rw [if_neg h]
 ·show (if o.code q = 0 then o.next q else o.next q) = o.next q
  rw [ite_self]
def RelF1 (lo : Nat) (c : Lc) (q : Rk) (w : World) (i : Value) (wr : World) : Prop :=
 ∃ (m : Nat) (r : Rk), m ≤ q.n ∧ i = .int .i64 m ∧ RunT q (fgOps q) r (stops 0 zF (List.range q.n) m ++ fops (List.range q.n) 0) ∧ RkS lo c q.n r w wr
def RelF2 (lo : Nat) (c : Lc) (q : Rk) (w : World) (i : Value) (wr : World) : Prop :=
 ∃ (m : Nat) (r : Rk), m ≤ q.n ∧ i = .int .i64 m ∧ RunT q (fgOps q) r (fops (List.range q.n) m) ∧ RkS lo c q.n r w wr
theorem forget_any (w : World) (h : RackIn lo w c q) : Calls Tryz.prog 62 #[.pointer (some ⟨c.r, 0, none⟩)] w (NextE lo c q.n (runS q (fgOps q)) (runC q (fgOps q)) w) := by
 have H0 := hI (RkS.start h)
 have CN := hI (qn_any w h)
 have h8 : q.n ≤ 8 := h.ok.n8
 clear h
 go_enter Tryz.func62, Tryz.ntmps62
 go_wp2_with fail
 refine CN.out.mono ?_
 rintro e w' ⟨rfl, hw⟩
 subst hw
 go_wp2_with fail
 go_loopw [9] (fun i wr => RelF1 lo c q w i wr) (fun i _ => q.n - (intOf i).toNat)
 case atStart => exact ⟨0, q, Nat.zero_le _, rfl, RunT.refl _ _, H0.out⟩
 case round =>
  obtain ⟨m, r, hm, rfl, hrun, hS⟩ := hrel
  by_cases hlt : m < q.n
  ·have HRN := hI (hrun.congr (show stops 0 zF (List.range q.n) m ++ fops (List.range q.n) 0 = [Rop.w (m : Int) 0 zer] ++ (stops 0 zF (List.range q.n) (m + 1) ++ fops (List.range q.n) 0) by
    rw [stops_next (by simpa using hlt), range_getD hlt]; rfl))
   have HS := hI hS; clear hrun hS; have hmk : (Instr.makeSlice 37 (.int .i64 128) (.int .i64 128)).run Tryz.prog wr = .ok (.slice (some ⟨wr.heap.size, 0, none⟩) 128 128) (wr.alloc (.cells (madeCells #[.int .u8 0] 128) 5)) := make_u8 128 (by decide) wr; have HA := hI (HS.out.then (one_below wr (.cells (madeCells #[.int .u8 0] 128) 5))); have HV := hI (slb_own (made_own wr wr.heap.size 128 (Nat.le_refl _) (by decide))); rw [zeros_zer] at HV; generalize wr.alloc (.cells (madeCells #[.int .u8 0] 128) 5) = wA at *; have HW := hI (qwrite_any wA HA.out.rack (m : Int) 0 _ zer HV.out)
   by_cases hw : r.wcode (m : Int) 0 zer.length = 0
   ·rw [hw, evs_zero] at HW
    have HN := hI (HRN.out.next (by rw [(run_one ..).1]; exact hw)); rw [(run_one ..).2] at HN; clear hw; go_wp2_with fail; refine HW.out.mono ?_; rintro e w4 ⟨rfl, hR4, hC4⟩; have HS4 := hI (HA.out.next hR4 (write_n _ _ _ _) hC4); clear hR4 hC4; go_wp2_with fail
    go_roundw
    case rel => exact ⟨m + 1, _, hlt, by go_num, HN.out, HS4.out⟩
    case measure => simp [intOf]; omega
   ·rw [evs_some _ _ hw] at HW
    obtain ⟨e1, e2⟩ := HRN.out.fail (by rw [(run_one ..).1]; exact hw); rw [(run_one ..).2] at e1; rw [(run_one ..).1] at e2; have E1 := hI e1; have E2 := hI e2; have HKV := hI ((KV.err hw).wrap hw opQWrite (m : Int)); clear e1 e2 hw; unfold wrapV errV at HW; go_wp2_with fail; refine HW.out.mono ?_; rintro e w4 ⟨rfl, hR4, hC4⟩; have HS4 := hI (HA.out.next hR4 (write_n _ _ _ _) hC4); clear hR4 hC4; go_wp2_with fail; rw [E1.out, E2.out]; exact bodyPost_ret (v := wrapV opQWrite (m : Int) (errV (r.wcode (m : Int) 0 zer.length))) (by simp [results, Tryz.results62, go_sem, wrapV, errV, opQWrite]) rfl ⟨_, rfl, HKV.out, HS4.out.rack, HS4.out.rc⟩
  ·obtain rfl : m = q.n := by omega
   have HRUN := hI (hrun.congr (show stops 0 zF (List.range q.n) q.n ++ fops (List.range q.n) 0 = fops (List.range q.n) 0 by
    have := stops_end 0 zF (List.range q.n); rw [List.length_range] at this; rw [this]; rfl))
   have HS := hI hS; have CN2 := hI (qn_any wr hS.rack); rw [hS.nn] at CN2; clear hrun hS; go_wp2_with fail; refine CN2.out.mono ?_; rintro e w' ⟨rfl, hw⟩; subst hw; go_wp2_with fail
   go_loopw [22] (fun i wr => RelF2 lo c q w i wr) (fun i _ => q.n - (intOf i).toNat)
   case atStart => exact ⟨0, r, Nat.zero_le _, rfl, HRUN.out, HS.out⟩
   case round =>
    obtain ⟨m, r2, hm2, rfl, hrun2, hS2⟩ := hrel
    by_cases hlt2 : m < q.n
    ·have HRN := hI (hrun2.congr (show fops (List.range q.n) m = [Rop.f (m : Int)] ++ fops (List.range q.n) (m + 1) by
      rw [fops_next (by simpa using hlt2), range_getD hlt2]; rfl))
     have HS2 := hI hS2; clear hrun2 hS2; have HW := hI (qflush_any wr HS2.out.rack (m : Int))
     by_cases hw : r2.fcode (m : Int) = 0
     ·rw [hw, evs_zero] at HW
      have HN := hI (HRN.out.next (by rw [(run_one ..).1]; exact hw)); rw [(run_one ..).2] at HN; clear hw; go_wp2_with fail; refine HW.out.mono ?_; rintro e w4 ⟨rfl, hR4, hC4⟩; have HS4 := hI (HS2.out.next hR4 (flush_n _ _) hC4); clear hR4 hC4; go_wp2_with fail
      go_roundw
      case rel => exact ⟨m + 1, _, hlt2, by go_num, HN.out, HS4.out⟩
      case measure => simp [intOf]; omega
     ·rw [evs_some _ _ hw] at HW
      obtain ⟨e1, e2⟩ := HRN.out.fail (by rw [(run_one ..).1]; exact hw); rw [(run_one ..).2] at e1; rw [(run_one ..).1] at e2; have E1 := hI e1; have E2 := hI e2; have HKV := hI ((KV.err hw).wrap hw opQFlush (m : Int)); clear e1 e2 hw; unfold wrapV errV at HW; go_wp2_with fail; refine HW.out.mono ?_; rintro e w4 ⟨rfl, hR4, hC4⟩; have HS4 := hI (HS2.out.next hR4 (flush_n _ _) hC4); clear hR4 hC4; go_wp2_with fail; rw [E1.out, E2.out]; exact bodyPost_ret (v := wrapV opQFlush (m : Int) (errV (r2.fcode (m : Int)))) (by simp [results, Tryz.results62, go_sem, wrapV, errV, opQFlush]) rfl ⟨_, rfl, HKV.out, HS4.out.rack, HS4.out.rc⟩
    ·obtain rfl : m = q.n := by omega
     have HRN := hI (hrun2.congr (show fops (List.range q.n) q.n = [] by have := fops_end (List.range q.n); rwa [List.length_range] at this)); have HS2 := hI hS2; clear hrun2 hS2; obtain ⟨e1, e2⟩ := HRN.out.done; have E1 := hI e1; have E2 := hI e2; clear e1 e2; go_wp2_with fail; rw [E1.out, E2.out]; go_ret; exact ⟨_, rfl, KV.zero, HS2.out.rack, HS2.out.rc⟩
structure CrS (lo : Nat) (c : Lc) (n : Nat) (q : Rk) (cf : Cf) (b : Nat) (w0 w : World) : Prop where
 rk : RkS lo c n q w0 w
 cfg : CfB cf b w
 lt : b < w.heap.size
 far : Far b c n
variable {b : Nat}
theorem CrS.then {cf : Cf} (h : CrS lo c n q cf b w0 w) (hb : Below w.heap.size w w') : CrS lo c n q cf b w0 w' :=
 ⟨h.rk.then hb, CfB.below h.cfg h.lt hb, Nat.lt_of_lt_of_le h.lt hb.size, h.far⟩
theorem CrS.next {cf : Cf} (h : CrS lo c n q cf b w0 w) (hr : RackIn lo w' c q') (hn : q'.n = q.n) (hc : RC c q.n w w') : CrS lo c n q' cf b w0 w' :=
 ⟨h.rk.next hr hn hc, h.cfg.rc h.far h.lt (by rw [← h.rk.nn]; exact hc), Nat.lt_of_lt_of_le h.lt hc.size, h.far⟩
theorem crS_new (h : RackIn lo w c q) (cf : Cf) : CrS lo c q.n q cf w.heap.size w (w.alloc (.cells (cfA cf) 24)) :=
 ⟨(RkS.start h).then (one_below _ _), cfB_new w cf, by simp, h.far⟩
theorem CrS.nextE {cf : Cf} (h : CrS lo c n q cf b w0 w) (hr : RackIn lo w' c q') (hn : q'.n = q.n) (hc : RC c n w w') : CrS lo c n q' cf b w0 w' :=
 h.next hr hn (by rw [h.rk.nn]; exact hc)
theorem CrS.cells {cf : Cf} (h : CrS lo c n q cf b w0 w) : w.cell? ⟨b, 0, none⟩ = some (.int .i64 cf.id) ∧ w.cell? ⟨b, 1, none⟩ = some (.int .i64 cf.k) ∧ w.cell? ⟨b, 2, none⟩ = some (.int .i64 cf.n) ∧ w.cell? ⟨b, 3, none⟩ = some (.int .i64 cf.t) ∧ w.cell? ⟨b, 4, none⟩ = some (.int .i64 cf.s) := CfB.cells h.cfg
theorem bkB_made (k : Nat) (hk : k ≤ 8) (w : World) : BkB w.heap.size (List.replicate k z108) (.slice (some ⟨w.heap.size, 0, none⟩) k k) (w.alloc (.cells (madeCells (bytesV z108).toArray (k * 108)) 87)) := by
 have h := own_new w w.heap.size (madeCells (bytesV z108).toArray (k * 108)) 87 108 k (Nat.le_refl _) (size_madeCells _ _) (by unfold maxLen; omega)
 rw [rep_flat (by rw [bytesV_length]; simp [z108]) (by decide), show List.replicate k (bytesV z108) = (List.replicate k z108).map bytesV by rw [List.map_replicate]] at h
 exact ⟨fun d hd => by rw [List.eq_of_mem_replicate hd]; simp [z108], by rw [List.length_replicate]; exact h⟩
def RelV1 (S : Nat) (lo : Nat) (c : Lc) (q : Rk) (cf : Cf) (b : Nat) (w : World) (i : Value) (wr : World) : Prop :=
 ∃ (m : Nat) (r : Rk), m ≤ S ∧ i = .int .i64 m ∧ RunT q (mkOps cf q) r (mkB cf q m ++ (mkT cf q 0 ++ mkS cf q.n 0)) ∧ CrS lo c q.n r cf b w wr
def RelV2 (T : Nat) (lo : Nat) (c : Lc) (q : Rk) (cf : Cf) (b B : Nat) (v : Value) (w : World) (i : Value) (wr : World) : Prop :=
 ∃ (m : Nat) (r : Rk), m ≤ T ∧ i = .int .i64 m ∧ RunT q (mkOps cf q) r (mkT cf q m ++ mkS cf q.n 0) ∧ CrS lo c q.n r cf b w wr ∧ BkB B (zBs cf) v wr
def RelV3 (lo : Nat) (c : Lc) (q : Rk) (cf : Cf) (b : Nat) (w : World) (i : Value) (wr : World) : Prop :=
 ∃ (m : Nat) (r : Rk), m ≤ q.n ∧ i = .int .i64 m ∧ RunT q (mkOps cf q) r (mkS cf q.n m) ∧ CrS lo c q.n r cf b w wr
variable {m : Nat}
theorem jblank_run {c : Cf} {r : Rk} (h : c.fits r = true) (hm : (m : Int) < c.s) (hu : ups r = ups q) : Rk.jblank r c m = runS r (slotOps c m (blankR c) q) ∧ Rk.jblankC r c m = runC r (slotOps c m (blankR c) q) := by
 unfold Rk.jblank Rk.jblankC
 rw [if_pos (has_slot h hm), if_pos (has_slot h hm), slotOps_ups hu]
 exact ⟨rfl, rfl⟩
theorem tput_run {c : Cf} {r : Rk} (h : c.fits r = true) (hm : (m : Int) < c.t) (hu : ups r = ups q) : Rk.tput r c m 1 (zBs c) = runS r (topsOf c m 1 (zBs c) q) ∧ Rk.tputC r c m 1 (zBs c) = runC r (topsOf c m 1 (zBs c) q) := by
 unfold Rk.tput Rk.tputC
 rw [if_pos ((zBs_in hm).ok h), if_pos ((zBs_in hm).ok h), topsOf_ups hu]
 exact ⟨rfl, rfl⟩
theorem create_any (w : World) (h : RackIn lo w c q) (cf : Cf) (hf : cf.fits q = true) : Calls Tryz.prog 37 #[.pointer (some ⟨c.r, 0, none⟩), .agg (cfA cf)] w (NextE lo c q.n (runS q (mkOps cf q)) (runC q (mkOps cf q)) w) := by
 have H0 := hI (crS_new h cf)
 obtain ⟨hr, hn, -⟩ := fits_right hf
 obtain ⟨K, hkk⟩ : ∃ K : Nat, cf.k = K := ⟨cf.k.toNat, by have := hr.2.2.1; omega⟩
 have hk8 : K ≤ 8 := by have := hr.2.2.2.1; have := hr.2.2.2.2.1; omega
 have HZ := hI (show zBs cf = List.replicate K z108 by unfold zBs; rw [hkk]; rfl)
 have hcs : ((cf.s.toNat : Nat) : Int) = cf.s := by have := hr.2.2.2.2.2.2.2.1; omega
 have hct : ((cf.t.toNat : Nat) : Int) = cf.t := by have := hr.2.2.2.2.2.1; omega
 have hs8 : cf.s.toNat ≤ 4 := by have := hr.2.2.2.2.2.2.2.2; omega
 have ht8 : cf.t.toNat ≤ 64 := by have := hr.2.2.2.2.2.2.1; omega
 have h8 : q.n ≤ 8 := h.ok.n8
 obtain ⟨S, hSd⟩ : ∃ S : Nat, cf.s.toNat = S := ⟨_, rfl⟩
 obtain ⟨T, hTd⟩ : ∃ T : Nat, cf.t.toNat = T := ⟨_, rfl⟩
 rw [hSd] at hcs hs8
 rw [hTd] at hct ht8
 have HSD := hI hSd
 have HTD := hI hTd
 clear hSd hTd
 have HF := hI hf
 have HOPS := hI (show mkOps cf q = fgOps q ++ (mkB cf q 0 ++ (mkT cf q 0 ++ mkS cf q.n 0)) by unfold mkOps fgOps; rw [List.append_assoc])
 have HKK := hI hkk
 have HCS := hI hcs
 have HCT := hI hct
 have HNQ := hI hn
 clear hr hf hkk hcs hct hn
 have CF := hI (forget_any _ H0.out.rk.rack)
 have HCF := hI (fun (r : Rk) (w' : World) (hC : CrS lo c q.n r cf w.heap.size w w') => hC.cells)
 go_enter Tryz.func37, Tryz.ntmps37
 go_wp2_with fail
 generalize hwA : w.alloc (.cells (cfA cf) 24) = wA at *
 clear hwA
 refine CF.out.mono ?_
 rintro e w2 ⟨v, rfl, hkv, hr2, hc2⟩
 have H2 := hI (H0.out.next hr2 (runS_n _ _) hc2)
 clear hr2 hc2
 by_cases hz : runC q (fgOps q) = 0
 rotate_left
 ·obtain ⟨T, x, rfl, hkv⟩ := wrapV_ne hkv hz
  have HKV := hI hkv; obtain ⟨e1, e2⟩ := (RunT.refl q (fgOps q ++ (mkB cf q 0 ++ (mkT cf q 0 ++ mkS cf q.n 0)))).fail hz; rw [← HOPS.out] at e1 e2; have E1 := hI e1; have E2 := hI e2; clear hkv e1 e2 hz; go_wp2_with fail; rw [E1.out, E2.out]; go_ret; exact ⟨_, rfl, HKV.out, H2.out.rk.rack, H2.out.rk.rc⟩
 obtain rfl := hkv.nil hz
 have HR2 := hI ((RunT.refl q (mkOps cf q)).congr HOPS.out |>.next hz)
 clear hkv hz
 generalize runS q (fgOps q) = r2 at *
 obtain ⟨d0, d1, d2, d3, d4⟩ := HCF.out _ _ H2.out
 rw [← HCS.out] at d4
 go_wp2_with fail
 clear d0 d1 d2 d3 d4
 go_loopw [20] (fun i wr => RelV1 S lo c q cf w.heap.size w i wr) (fun i _ => S - (intOf i).toNat)
 case atStart => exact ⟨0, r2, Nat.zero_le _, rfl, HR2.out, H2.out⟩
 case round =>
  obtain ⟨m, r, hm, rfl, hrun, hS⟩ := hrel
  by_cases hlt : m < S
  ·have HRN := hI (hrun.congr (show mkB cf q m ++ (mkT cf q 0 ++ mkS cf q.n 0) = slotOps cf m (blankR cf) q ++ (mkB cf q (m + 1) ++ (mkT cf q 0 ++ mkS cf q.n 0)) by rw [mkB_next (by rw [HSD.out]; exact hlt), List.append_assoc]))
   have HS := hI hS; have HE := jblank_run (m := m) (fits_same HF.out hrun.n hrun.k) (by have := HCS.out; omega) hrun.u; obtain ⟨d0, d1, d2, d3, d4⟩ := HCF.out _ _ hS; have CW := hI (jblank_any wr hS.rk.rack cf (m : Int)); have hkv := jblank_kv r cf (m : Int); rw [HE.2] at hkv; rw [HE.1] at CW; clear hrun hS HE
   by_cases hz : runC r (slotOps cf m (blankR cf) q) = 0
   ·rw [hkv.nil hz] at CW
    have HN := hI (HRN.out.next hz); clear hkv hz; go_wp2_with fail; refine CW.out.mono ?_; rintro e w4 ⟨rfl, hR4, hC4⟩; have HS4 := hI (HS.out.next hR4 (runS_n _ _) hC4); clear hR4 hC4 d0 d1 d2 d3 d4; go_wp2_with fail
    go_roundw
    case rel => exact ⟨m + 1, _, hlt, by go_num, HN.out, HS4.out⟩
    case measure => simp [intOf]; omega
   ·obtain ⟨T, x, hv, hkv⟩ := wrapV_ne hkv hz
    rw [hv] at CW; have HKV := hI hkv; obtain ⟨e1, e2⟩ := HRN.out.fail hz; have E1 := hI e1; have E2 := hI e2; clear hkv e1 e2 hz hv; go_wp2_with fail; refine CW.out.mono ?_; rintro e w4 ⟨rfl, hR4, hC4⟩; have HS4 := hI (HS.out.next hR4 (runS_n _ _) hC4); clear hR4 hC4 d0 d1 d2 d3 d4; go_wp2_with fail; rw [E1.out, E2.out]; go_ret; exact ⟨_, rfl, HKV.out, HS4.out.rk.rack, HS4.out.rk.rc⟩
  ·obtain rfl : S = m := by omega
   have HRUN := hI (hrun.congr (show mkB cf q S ++ (mkT cf q 0 ++ mkS cf q.n 0) = mkT cf q 0 ++ mkS cf q.n 0 by rw [← HSD.out, mkB_end]; rfl)); have HS := hI hS; obtain ⟨d0, d1, d2, d3, d4⟩ := HCF.out _ _ hS; clear hrun hS; have hmk := make_blocks K hk8 wr; have HBK := hI (bkB_made K hk8 wr); rw [← HZ.out] at HBK; have HA := hI (HS.out.then (one_below wr (.cells (madeCells (bytesV z108).toArray (K * 108)) 87))); have HFAR := hI (HS.out.far.mono (Nat.le_of_lt HS.out.lt)); rw [HKK.out] at d1; obtain ⟨e0, e1, e2, e3, e4⟩ := HCF.out _ _ HA.out; rw [← HCT.out] at e3; generalize wr.alloc (.cells (madeCells (bytesV z108).toArray (K * 108)) 87) = wB at *; generalize wr.heap.size = B at *; go_wp2_with fail; clear d0 d1 d2 d3 d4 e0 e1 e2 e3 e4
   go_loopw [36] (fun i wr => RelV2 T lo c q cf w.heap.size B (.slice (some ⟨B, 0, none⟩) K K) w i wr) (fun i _ => T - (intOf i).toNat)
   case atStart => exact ⟨0, r, Nat.zero_le _, rfl, HRUN.out, HA.out, HBK.out⟩
   case round =>
    obtain ⟨m, r, hm, rfl, hrun, hS, hB⟩ := hrel
    by_cases hlt : m < T
    ·have HRN := hI (hrun.congr (show mkT cf q m ++ mkS cf q.n 0 = topsOf cf m 1 (zBs cf) q ++ (mkT cf q (m + 1) ++ mkS cf q.n 0) by rw [mkT_next (by rw [HTD.out]; exact hlt), List.append_assoc]))
     have HS := hI hS; have HBW := hI hB; have HE := tput_run (m := m) (fits_same HF.out hrun.n hrun.k) (by have := HCT.out; omega) hrun.u; obtain ⟨d0, d1, d2, d3, d4⟩ := HCF.out _ _ hS; have CW := hI (tput_any wr hS.rk.rack cf (m : Int) 1 (zBs cf) _ hB.slk); have hkv := tput_kv r cf (m : Int) 1 (zBs cf); rw [HE.2] at hkv; rw [HE.1] at CW; clear hrun hS HE hB
     by_cases hz : runC r (topsOf cf m 1 (zBs cf) q) = 0
     ·rw [hkv.nil hz] at CW
      have HN := hI (HRN.out.next hz); clear hkv hz; go_wp2_with fail; refine CW.out.mono ?_; rintro e w4 ⟨rfl, hR4, hC4⟩; have HS4 := hI (HS.out.next hR4 (runS_n _ _) hC4); have HB4 := hI (HBW.out.rc HFAR.out (by have := hC4; rw [HS.out.rk.nn] at this; exact this)); clear hR4 hC4 d0 d1 d2 d3 d4; go_wp2_with fail
      go_roundw
      case rel => exact ⟨m + 1, _, hlt, by go_num, HN.out, HS4.out, HB4.out⟩
      case measure => simp [intOf]; omega
     ·obtain ⟨T, x, hv, hkv⟩ := wrapV_ne hkv hz
      rw [hv] at CW; have HKV := hI hkv; obtain ⟨e1, e2⟩ := HRN.out.fail hz; have E1 := hI e1; have E2 := hI e2; clear hkv e1 e2 hz hv; go_wp2_with fail; refine CW.out.mono ?_; rintro e w4 ⟨rfl, hR4, hC4⟩; have HS4 := hI (HS.out.next hR4 (runS_n _ _) hC4); clear hR4 hC4 d0 d1 d2 d3 d4; go_wp2_with fail; rw [E1.out, E2.out]; go_ret; exact ⟨_, rfl, HKV.out, HS4.out.rk.rack, HS4.out.rk.rc⟩
    ·obtain rfl : T = m := by omega
     have HRUN := hI (hrun.congr (show mkT cf q T ++ mkS cf q.n 0 = mkS cf q.n 0 by rw [← HTD.out, mkT_end]; rfl)); have HS := hI hS; obtain ⟨d0, d1, d2, d3, d4⟩ := HCF.out _ _ hS; rw [HNQ.out] at d2; clear hrun hS hB; go_wp2_with fail; clear d0 d1 d2 d3 d4
     go_loopw [50] (fun i wr => RelV3 lo c q cf w.heap.size w i wr) (fun i _ => q.n - (intOf i).toNat)
     case atStart => exact ⟨0, r, Nat.zero_le _, rfl, HRUN.out, HS.out⟩
     case round =>
      obtain ⟨m, r, hm, rfl, hrun, hS⟩ := hrel
      by_cases hlt : m < q.n
      ·have HRN := hI (hrun.congr (mkS_next hlt))
       have HS := hI hS; have HE := sput_run (fits_same HF.out hrun.n hrun.k) m; obtain ⟨d0, d1, d2, d3, d4⟩ := HCF.out _ _ hS; have CW := hI (sput_any wr hS.rk.rack cf (m : Int)); have hkv := serr_kv r cf (m : Int); rw [HE.2] at hkv; rw [HE.1] at CW; clear hrun hS HE
       by_cases hz : runC r (supO cf m) = 0
       ·rw [hkv.nil hz] at CW
        have HN := hI (HRN.out.next hz); clear hkv hz; go_wp2_with fail; refine CW.out.mono ?_; rintro e w4 ⟨rfl, hR4, hC4⟩; have HS4 := hI (HS.out.next hR4 (runS_n _ _) hC4); clear hR4 hC4 d0 d1 d2 d3 d4; go_wp2_with fail
        go_roundw
        case rel => exact ⟨m + 1, _, hlt, by go_num, HN.out, HS4.out⟩
        case measure => simp [intOf]; omega
       ·obtain ⟨T, x, hv, hkv⟩ := wrapV_ne hkv hz
        rw [hv] at CW; have HKV := hI hkv; obtain ⟨e1, e2⟩ := HRN.out.fail hz; have E1 := hI e1; have E2 := hI e2; clear hkv e1 e2 hz hv; go_wp2_with fail; refine CW.out.mono ?_; rintro e w4 ⟨rfl, hR4, hC4⟩; have HS4 := hI (HS.out.next hR4 (runS_n _ _) hC4); clear hR4 hC4 d0 d1 d2 d3 d4; go_wp2_with fail; rw [E1.out, E2.out]; go_ret; exact ⟨_, rfl, HKV.out, HS4.out.rk.rack, HS4.out.rk.rc⟩
      ·obtain rfl : m = q.n := by omega
       have HRN := hI (hrun.congr (mkS_end cf q.n)); have HS := hI hS; clear hrun hS; obtain ⟨e1, e2⟩ := HRN.out.done; have E1 := hI e1; have E2 := hI e2; clear e1 e2; go_wp2_with fail; rw [E1.out, E2.out]; go_ret; exact ⟨_, rfl, KV.zero, HS.out.rk.rack, HS.out.rk.rc⟩
def opVMake : ByteArray := ⟨#[118, 111, 108, 117, 109, 101, 46, 77, 97, 107, 101]⟩
theorem vmake_any (w : World) (h : RackIn lo w c q) (cf : Cf) : Calls Tryz.prog 10 #[.pointer (some ⟨c.r, 0, none⟩), .agg (cfA cf)] w (NextE lo c q.n (Rk.vmake q cf) (Rk.vmakeC q cf) w) := by
 have H1 := hI (show TgS lo c q cf w.heap.size w (w.alloc (.cells (cfA cf) 24)) from ⟨h.below (one_below _ _), tcS_new w cf⟩)
 have HF := hI (sfits_any _ H1.out.1 cf)
 obtain ⟨d0, d1, d2, d3, d4⟩ := H1.out.2.1.cells
 cases hf : cf.fits q with
 | false =>
  rw [hf] at HF; have HE := hI (show Rk.vmakeC q cf = 1 ∧ Rk.vmake q cf = q from ⟨if_neg (by rw [hf]; decide), if_neg (by rw [hf]; decide)⟩); clear h hf
  go_enter Tryz.func10, Tryz.ntmps10
  go_wp2_with (first
   | (go_at_call 34; refine HF.out.mono ?_; rintro e w2 ⟨rfl, hb2⟩; have H2 := hI (H1.out.then hb2); clear hb2)
   | (go_at_call 32; refine (wrap_some _ _ _ _ _).mono ?_; rintro e w' ⟨rfl, rfl⟩))
  rw [HE.out.1, HE.out.2]; exact bodyPost_ret (v := wrapV opVMake 0 (errV 1)) (by simp [results, Tryz.results10, go_sem, wrapV, errV, opVMake]) rfl ⟨_, rfl, (KV.err (by decide)).wrap (by decide) _ _, H2.out.1, RC.of_below H2.out.2.2.2⟩
 | true =>
  rw [hf] at HF; have HCO := hI (show Rk.vmakeC q cf = (if q.off = true ∨ ((ups q).length : Int) < cf.n then 7 else runC q (mkOps cf q)) from if_pos hf); have HCV := hI (show Rk.vmake q cf = (if q.off = true ∨ ((ups q).length : Int) < cf.n then q else runS q (mkOps cf q)) from if_pos hf); have CO := hI (fun w' (h' : TgS lo c q cf w.heap.size w w') => qoff_any w' h'.1); have CU := hI (fun w' (h' : TgS lo c q cf w.heap.size w w') => qonline_any w' h'.1); have CC := hI (fun w' (h' : TgS lo c q cf w.heap.size w w') => create_any w' h'.1 cf hf); clear h hf
  go_enter Tryz.func10, Tryz.ntmps10
  go_wp2_with fail; refine HF.out.mono ?_; rintro e w2 ⟨rfl, hb2⟩; have H2 := hI (H1.out.then hb2); clear hb2 d0 d1 d2 d3 d4; go_wp2_with fail; have h2 := H2.out; generalize hbb : w.heap.size = b at *
  have d0 : ∀ w', TgS lo c q cf b w w' → w'.cell? ⟨b, 0, none⟩ = some (.int .i64 cf.id) := fun w' h => h.2.1.cell 0
  have d1 : ∀ w', TgS lo c q cf b w w' → w'.cell? ⟨b, 1, none⟩ = some (.int .i64 cf.k) := fun w' h => h.2.1.cell 1
  have d2 : ∀ w', TgS lo c q cf b w w' → w'.cell? ⟨b, 2, none⟩ = some (.int .i64 cf.n) := fun w' h => h.2.1.cell 2
  have d3 : ∀ w', TgS lo c q cf b w w' → w'.cell? ⟨b, 3, none⟩ = some (.int .i64 cf.t) := fun w' h => h.2.1.cell 3
  have d4 : ∀ w', TgS lo c q cf b w w' → w'.cell? ⟨b, 4, none⟩ = some (.int .i64 cf.s) := fun w' h => h.2.1.cell 4
  cases ho : q.off with
  | true =>
   rw [ho] at HCO HCV CO; have HE := hI (show Rk.vmakeC q cf = 7 ∧ Rk.vmake q cf = q from ⟨by rw [HCO.out, if_pos (Or.inl rfl)], by rw [HCV.out, if_pos (Or.inl rfl)]⟩); clear ho; refine wp_region_noPanic ?_; refine wp_region_held_drew (S := (fun w' => TgS lo c q cf b w w')) (by kernel_rfl) h2.drew (fun hHeld => ?_); refine hT 0 ⟨some 11, _, _, _, _, _⟩ rfl hHeld ?_; simp only [hP]
   refine hC 1 rfl fun K hK => ?_
   go_simp; refine (CO.out _ hHeld).mono ?_; rintro e w9 ⟨rfl, hw9⟩; obtain rfl := hw9; refine hK.out _ _ hHeld (fun _ => ?_); clear hK K; refine hT 2 ⟨some 13, _, _, _, _, _⟩ rfl hHeld ?_; simp only [hP]; refine hU 3 ⟨some 14, _, _, _, _, _⟩ rfl hHeld ?_; simp only [hP]; refine hU 4 ⟨some 15, _, _, _, _, _⟩ rfl hHeld ?_; simp only [hP]; refine hU 5 ⟨some 16, _, _, _, _, _⟩ rfl hHeld ?_; simp only [hP]; refine hU 6 ⟨some 17, _, _, _, _, _⟩ rfl hHeld ?_; simp only [hP]; refine hU 7 ⟨some 18, _, _, _, _, _⟩ rfl hHeld ?_; simp only [hP]; refine hU 8 ⟨some 19, _, _, _, _, _⟩ rfl hHeld ?_; simp only [hP]; refine hT 9 ⟨some 20, _, _, _, _, _⟩ rfl hHeld ?_; simp only [hP]; refine wpAnyH_done (by kernel_rfl) ?_ _; refine NoPanic.normal ?_; go_wp2_with (go_at_call 32; refine (wrap_some _ _ _ _ _).mono ?_; rintro e w' ⟨rfl, rfl⟩); rw [HE.out.1, HE.out.2]; exact bodyPost_ret (v := wrapV opVMake 0 (errV 7)) (by simp [results, Tryz.results10, go_sem, wrapV, errV, opVMake]) rfl ⟨_, rfl, (KV.err (by decide)).wrap (by decide) _ _, hHeld.1, RC.of_below hHeld.2.2.2⟩
  | false =>
   rw [ho] at HCO HCV CO; clear ho
   by_cases hu : ((ups q).length : Int) < cf.n
   ·have HE := hI (show Rk.vmakeC q cf = 7 ∧ Rk.vmake q cf = q from ⟨by rw [HCO.out, if_pos (Or.inr hu)], by rw [HCV.out, if_pos (Or.inr hu)]⟩)
    refine wp_region_noPanic ?_; refine wp_region_held_drew (S := (fun w' => TgS lo c q cf b w w')) (by kernel_rfl) h2.drew (fun hHeld => ?_); refine hT 0 ⟨some 11, _, _, _, _, _⟩ rfl hHeld ?_; simp only [hP]
    refine hC 1 rfl fun K hK => ?_
    go_simp; refine (CO.out _ hHeld).mono ?_; rintro e w9 ⟨rfl, hw9⟩; obtain rfl := hw9; refine hK.out _ _ hHeld (fun _ => ?_); clear hK K; refine hT 2 ⟨some 13, _, _, _, _, _⟩ rfl hHeld ?_; simp only [hP]; refine hT 3 ⟨some 14, _, _, _, _, _⟩ rfl hHeld ?_; simp only [hP]; refine hT 6 ⟨some 17, _, _, _, _, _⟩ rfl hHeld ?_; simp only [hP]; refine hT 7 ⟨some 18, _, _, _, _, _⟩ rfl hHeld ?_; simp only [hP]
    refine hC 4 rfl fun K hK => ?_
    go_simp; refine (CU.out _ hHeld).mono ?_; rintro e w5 ⟨v5, rfl, ho5, hb5⟩
    have h5 := TgS.then hHeld (by first | exact hb5 | exact bthen (Below.drew (Below.refl _ _)) hb5)
    obtain ⟨g5, c5, rfl, -⟩ := own_slice ho5; clear ho5 hb5; refine hK.out _ _ h5 (fun _ => ?_); clear hK K; refine hT 5 ⟨some 16, _, _, _, _, _⟩ rfl h5 ?_; simp only [hP]; refine hT 8 ⟨some 19, _, _, _, _, _⟩ rfl h5 ?_; simp only [hP]; refine hT 9 ⟨some 20, _, _, _, _, _⟩ rfl h5 ?_; simp only [hP]; refine wpAnyH_done (by kernel_rfl) ?_ _; refine NoPanic.normal ?_; go_wp2_with (go_at_call 32; refine (wrap_some _ _ _ _ _).mono ?_; rintro e w' ⟨rfl, rfl⟩); rw [HE.out.1, HE.out.2]; exact bodyPost_ret (v := wrapV opVMake 0 (errV 7)) (by simp [results, Tryz.results10, go_sem, wrapV, errV, opVMake]) rfl ⟨_, rfl, (KV.err (by decide)).wrap (by decide) _ _, h5.1, RC.of_below h5.2.2.2⟩
   ·have HNU := hI (show ¬ (false = true ∨ ((ups q).length : Int) < cf.n) from fun e => e.elim (fun e => by cases e) hu)
    rw [if_neg HNU.out] at HCO HCV; refine wp_region_noPanic ?_; refine wp_region_held_drew (S := (fun w' => TgS lo c q cf b w w')) (by kernel_rfl) h2.drew (fun hHeld => ?_); refine hT 0 ⟨some 11, _, _, _, _, _⟩ rfl hHeld ?_; simp only [hP]
    refine hC 1 rfl fun K hK => ?_
    go_simp; refine (CO.out _ hHeld).mono ?_; rintro e w9 ⟨rfl, hw9⟩; obtain rfl := hw9; refine hK.out _ _ hHeld (fun _ => ?_); clear hK K; refine hT 2 ⟨some 13, _, _, _, _, _⟩ rfl hHeld ?_; simp only [hP]; refine hT 3 ⟨some 14, _, _, _, _, _⟩ rfl hHeld ?_; simp only [hP]; refine hT 6 ⟨some 17, _, _, _, _, _⟩ rfl hHeld ?_; simp only [hP]; refine hT 7 ⟨some 18, _, _, _, _, _⟩ rfl hHeld ?_; simp only [hP]
    refine hC 4 rfl fun K hK => ?_
    go_simp; refine (CU.out _ hHeld).mono ?_; rintro e w5 ⟨v5, rfl, ho5, hb5⟩
    have h5 := TgS.then hHeld (by first | exact hb5 | exact bthen (Below.drew (Below.refl _ _)) hb5)
    obtain ⟨g5, c5, rfl, -⟩ := own_slice ho5; clear ho5 hb5; refine hK.out _ _ h5 (fun _ => ?_); clear hK K; refine hT 5 ⟨some 16, _, _, _, _, _⟩ rfl h5 ?_; simp only [hP]; refine hT 8 ⟨some 19, _, _, _, _, _⟩ rfl h5 ?_; simp only [hP]; refine hT 9 ⟨some 20, _, _, _, _, _⟩ rfl h5 ?_; simp only [hP]; refine wpAnyH_done (by kernel_rfl) ?_ _; refine NoPanic.normal ?_; have e0 := d0 _ h5; have e1 := d1 _ h5; have e2 := d2 _ h5; have e3 := d3 _ h5; have e4 := d4 _ h5; clear d0 d1 d2 d3 d4; go_wp2_with fail; refine (CC.out _ h5).mono ?_; rintro e w6 ⟨v, rfl, hkv, hr6, hc6⟩; have HKV := hI hkv; have HR6 := hI hr6; have HC6 := hI ((RC.of_below h5.2.2.2).trans hc6); clear hkv hr6 hc6 e0 e1 e2 e3 e4; go_wp2_with fail; refine (wrap_kv HKV.out _ _ _).mono ?_; rintro e w7 ⟨⟨v', rfl, hkv'⟩, rfl⟩; have HKV' := hI hkv'; clear hkv'; go_wp2_with fail; rw [HCO.out, HCV.out]; go_ret; exact ⟨_, rfl, HKV'.out, HR6.out, HC6.out⟩
theorem avail_any (w : World) (h : RackIn lo w c q) (cf : Cf) : Calls Tryz.prog 76 #[.pointer (some ⟨c.r, 0, none⟩), .agg (cfA cf)] w (Bit (decide (cf.k ≤ ((ups q).length : Int))) w) := by
 have H1 := hI (show TgS lo c q cf w.heap.size w (w.alloc (.cells (cfA cf) 24)) from ⟨h.below (one_below _ _), tcS_new w cf⟩)
 have CU := hI (fun w' (h' : TgS lo c q cf w.heap.size w w') => qonline_any w' h'.1)
 clear h
 go_enter Tryz.func76, Tryz.ntmps76
 go_wp2_with fail
 have h2 := H1.out
 generalize w.alloc (.cells (cfA cf) 24) = w1 at *
 generalize hbb : w.heap.size = b at *
 have d1 : ∀ w', TgS lo c q cf b w w' → w'.cell? ⟨b, 1, none⟩ = some (.int .i64 cf.k) := fun w' h => h.2.1.cell 1
 refine wp_region_noPanic ?_
 refine wp_region_held_drew (S := (fun w' => TgS lo c q cf b w w')) (by kernel_rfl) h2.drew (fun hHeld => ?_)
 refine hT 0 ⟨some 5, _, _, _, _, _⟩ rfl hHeld ?_
 simp only [hP]
 refine hT 3 ⟨some 8, _, _, _, _, _⟩ rfl hHeld ?_
 simp only [hP]
 refine hT 4 ⟨some 9, _, _, _, _, _⟩ rfl hHeld ?_
 simp only [hP]
 refine hC 1 rfl fun K hK => ?_
 go_simp
 refine (CU.out _ hHeld).mono ?_
 rintro e w5 ⟨v5, rfl, ho5, hb5⟩
 have h5 := TgS.then hHeld (by first | exact hb5 | exact bthen (Below.drew (Below.refl _ _)) hb5)
 obtain ⟨g5, c5, rfl, -⟩ := own_slice ho5
 clear ho5 hb5
 refine hK.out _ _ h5 (fun _ => ?_)
 clear hK K
 refine hT 2 ⟨some 7, _, _, _, _, _⟩ rfl h5 ?_
 simp only [hP]
 refine hT 5 ⟨some 10, _, _, _, _, _⟩ rfl h5 ?_
 simp only [hP]
 refine hT 6 ⟨some 4, _, _, _, _, _⟩ rfl h5 ?_
 simp only [hP]
 refine wpAnyH_done (by kernel_rfl) ?_ _
 refine NoPanic.normal ?_
 go_wp2_with fail
 go_ret
 exact bit (by first | rfl | (simp; done) | (by_cases e : cf.k ≤ ((ups q).length : Int) <;> simp [e])) h5.2.2.2
def volA (cf : Cf) (r : Nat) (g : Int) (down : Bool) : Array Value := #[.pointer (some ⟨r, 0, none⟩), .int .i64 cf.id, .int .i64 cf.k, .int .i64 cf.n, .int .i64 cf.t, .int .i64 cf.s, .int .i64 g, .bool down]
def VB (cf : Cf) (r : Nat) (g : Int) (down : Bool) (b : Nat) (w : World) : Prop := w.heap[b]? = some (.cells (volA cf r g down) 96 (0, 0))
variable {r : Nat} {g : Int}
theorem VB.lt {cf : Cf} {down : Bool} (h : VB cf r g down b w) : b < w.heap.size := (Array.getElem?_eq_some_iff.1 h).1
theorem VB.below {cf : Cf} {down : Bool} (h : VB cf r g down b w) (hb : Below w.heap.size w w') : VB cf r g down b w' := by unfold VB; rw [hb.block b h.lt]; exact h
theorem VB.cell {cf : Cf} {down : Bool} (h : VB cf r g down b w) (i : Nat) : w.cell? ⟨b, i, none⟩ = (volA cf r g down)[i]? := by rw [cell_of_row _ b i _ _ (0, 0) h]
theorem VB.cells {cf : Cf} {down : Bool} (h : VB cf r g down b w) : w.cell? ⟨b, 0, none⟩ = some (.pointer (some ⟨r, 0, none⟩)) ∧ w.cell? ⟨b, 1, none⟩ = some (.int .i64 cf.id) ∧ w.cell? ⟨b, 2, none⟩ = some (.int .i64 cf.k) ∧ w.cell? ⟨b, 3, none⟩ = some (.int .i64 cf.n) ∧ w.cell? ⟨b, 4, none⟩ = some (.int .i64 cf.t) ∧ w.cell? ⟨b, 5, none⟩ = some (.int .i64 cf.s) ∧ w.cell? ⟨b, 6, none⟩ = some (.int .i64 g) ∧ w.cell? ⟨b, 7, none⟩ = some (.bool down) :=
 ⟨h.cell 0, h.cell 1, h.cell 2, h.cell 3, h.cell 4, h.cell 5, h.cell 6, h.cell 7⟩
theorem VB.free {cf : Cf} {down : Bool} (h : VB cf r g down b w) (i : Nat) : w.frozen? ⟨b, i, none⟩ = false := by
 unfold World.frozen?; unfold VB at h; simp only [h]; simp
theorem VB.setSeq {cf : Cf} {down : Bool} (h : VB cf r g down b w) (g' : Int) : VB cf r g' down b (w.setCell ⟨b, 6, none⟩ (.int .i64 g')) := by
 have := heap_setCell_same w b 6 _ _ (.int .i64 g') h
 unfold VB; rw [this]; rfl
theorem VB.setDown {cf : Cf} {down : Bool} (h : VB cf r g down b w) (d' : Bool) : VB cf r g d' b (w.setCell ⟨b, 7, none⟩ (.bool d')) := by
 have := heap_setCell_same w b 7 _ _ (.bool d') h
 unfold VB; rw [this]; rfl
structure RCV (c : Lc) (n b : Nat) (w w' : World) : Prop where
 os : w'.os = w.os
 tape : w'.tape = w.tape
 output : w'.output = w.output
 size : w.heap.size ≤ w'.heap.size
 block : ∀ k, k < w.heap.size → k ≠ c.r → k ≠ b → (∀ i, i < n → k ≠ c.d i ∧ k ≠ c.S i ∧ k ≠ c.M i) → w'.heap[k]? = w.heap[k]?
variable {w1 w2 : World}
theorem RCV.trans (h : RCV c n b w w1) (h2 : RCV c n b w1 w2) : RCV c n b w w2 :=
 ⟨h2.os.trans h.os, h2.tape.trans h.tape, h2.output.trans h.output, Nat.le_trans h.size h2.size, fun k hk a d e => (h2.block k (Nat.lt_of_lt_of_le hk h.size) a d e).trans (h.block k hk a d e)⟩
theorem RC.rcv (h : RC c n w w') (b : Nat) : RCV c n b w w' := ⟨h.os, h.tape, h.output, h.size, fun k hk a _ e => h.block k hk a e⟩
theorem RCV.set (c : Lc) (n b i : Nat) (v : Value) (w : World) : RCV c n b w (w.setCell ⟨b, i, none⟩ v) :=
 ⟨rfl, rfl, rfl, ((Below.refl 0 w).setCell (p := ⟨b, i, none⟩) (Nat.zero_le _) v).size, fun k _ _ hb _ => heap_setCell_other w ⟨b, i, none⟩ k v hb⟩
def FarV (b : Nat) (c : Lc) (n : Nat) : Prop := Far b c n ∧ c.P < b
theorem RackIn.farV (h : RackIn lo w c q) {b : Nat} (hb : w.heap.size ≤ b) : FarV b c q.n := ⟨h.far.mono hb, Nat.lt_of_lt_of_le h.lt.2.1 hb⟩
theorem RackIn.setV (h : RackIn lo w c q) (hf : FarV b c q.n) (i : Nat) (v : Value) : RackIn lo (w.setCell ⟨b, i, none⟩ v) c q :=
 h.keep (heap_setCell_other w ⟨b, i, none⟩ _ v (Nat.ne_of_lt hf.1.1)) (heap_setCell_other w ⟨b, i, none⟩ _ v (Nat.ne_of_lt hf.2)) fun j hj =>
  ⟨heap_setCell_other w ⟨b, i, none⟩ _ v (Nat.ne_of_lt (hf.1.2 j hj).1), heap_setCell_other w ⟨b, i, none⟩ _ v (Nat.ne_of_lt (hf.1.2 j hj).2.1), heap_setCell_other w ⟨b, i, none⟩ _ v (Nat.ne_of_lt (hf.1.2 j hj).2.2)⟩
theorem VB.rc {cf : Cf} {down : Bool} (h : VB cf r g down b w) (hf : Far b c n) (hc : RC c n w w') : VB cf r g down b w' := by
 unfold VB; rw [hc.block b h.lt (by have := hf.1; omega) (fun i hi => by have := hf.2 i hi; omega)]; exact h
variable {B e : Nat} {xs : List Value}
theorem own_rcv {k : Nat} (h : w.ownsRow B e k v m xs) (hf : Far B c n) (hc : RCV c n b w w') (hne : v.ownBlock ≠ some b) : w'.ownsRow B e k v m xs := by
 obtain ⟨h1, h2⟩ := h
 refine ⟨h1, ?_⟩
 rcases h2 with h2 | ⟨g, cap, cur, hv, hg, hh, r⟩
 ·exact Or.inl h2
 ·refine Or.inr ⟨g, cap, cur, hv, hg, ?_, r⟩
  rw [hc.block g (Array.getElem?_eq_some_iff.1 hh).1 (by have := hf.1; omega) (fun e => hne (by rw [hv, e]; rfl)) (fun i hi => by have := hf.2 i hi; omega)]; exact hh
theorem own_vb {k : Nat} {cf : Cf} {down : Bool} (h : w.ownsRow B e k v m xs) (hb : VB cf r g down b w) (ht : 96 ≠ e) : v.ownBlock ≠ some b := own_kind_ne h hb ht
theorem BkB.rcv {bs : List (List UInt8)} {cf : Cf} {down : Bool} (h : BkB B bs v w) (hf : Far B c n) (hb : VB cf r g down b w) (hc : RCV c n b w w') : BkB B bs v w' := ⟨h.is, own_rcv h.row hf hc (own_vb h.row hb (by decide))⟩
def VkR (lo : Nat) (c : Lc) (q : Rk) (cf : Cf) (g : Int) (down : Bool) (b : Nat) (w w' : World) : Prop := RackIn lo w' c q ∧ VB cf c.r g down b w' ∧ Below w.heap.size w w'
theorem VkR.then {cf : Cf} {down : Bool} (h : VkR lo c q cf g down b w w1) (hb : Below w1.heap.size w1 w2) : VkR lo c q cf g down b w w2 := ⟨h.1.below hb, h.2.1.below hb, bthen h.2.2 hb⟩
theorem VkR.drew {cf : Cf} {down : Bool} (h : VkR lo c q cf g down b w w1) : VkR lo c q cf g down b w w1.drew := h.then ((Below.refl _ _).drew)
theorem vfail_any (w : World) {cf : Cf} {r b : Nat} {g : Int} {down : Bool} (h : VB cf r g down b w) : Calls Tryz.prog 79 #[.pointer (some ⟨b, 0, none⟩)] w (fun e w' => e = .returned (.tuple #[]) ∧ w' = w.setCell ⟨b, 7, none⟩ (.bool true)) := by
 have c7 := h.cells.2.2.2.2.2.2.2
 have f7 := h.free 7
 have hlt := h.lt
 clear h
 go_enter Tryz.func79, Tryz.ntmps79
 go_wp2_with fail
 go_end0
 exact ⟨rfl, rfl⟩
theorem vseq_any (w : World) {cf : Cf} {r b : Nat} {g : Int} {down : Bool} (h : VB cf r g down b w) : Calls Tryz.prog 26 #[.pointer (some ⟨b, 0, none⟩)] w (NumSame g w) := by
 have c7 := h.cells.2.2.2.2.2.2.1
 clear h
 go_enter Tryz.func26, Tryz.ntmps26
 go_wp2_with fail
 go_ret
 exact ⟨rfl, rfl⟩
theorem vdown_any (w : World) {cf : Cf} {r b : Nat} {g : Int} {down : Bool} (h : VB cf r g down b w) : Calls Tryz.prog 30 #[.pointer (some ⟨b, 0, none⟩)] w (BitSame down w) := by
 have c7 := h.cells.2.2.2.2.2.2.2
 clear h
 go_enter Tryz.func30, Tryz.ntmps30
 go_wp2_with fail
 go_ret
 exact ⟨rfl, rfl⟩
def ReadOut (q : Rk) (cf : Cf) (s : Int) (w : World) (e : Ending) (w' : World) : Prop :=
 Below w.heap.size w w' ∧ ((tcode q cf s = 0 ∧ ∃ (v : Value) (bs : List (List UInt8)), e = .returned (.tuple #[v, .int .i64 (tnew q cf s), .nilIface]) ∧ w'.ownsRow w.heap.size 87 108 v bs.length (bs.map bytesV).flatten ∧ (∀ d ∈ bs, d.length = 108) ∧ BlocksOf cf.k.toNat 108 (chosen cf.k.toNat (tpts q cf s)) bs) ∨
  (tcode q cf s ≠ 0 ∧ ∃ v, KV (tcode q cf s) v ∧ e = .returned (.tuple #[.slice none 0 0, .int .i64 0, v])))
theorem vread_any (w : World) (h : RackIn lo w c q) {cf : Cf} {b : Nat} {g : Int} (hv : VB cf c.r g false b w) (s : Int) : Calls Tryz.prog 55 #[.pointer (some ⟨b, 0, none⟩), .int .i64 s] w (ReadOut q cf s w) := by
 have H1 := hI (show VkR lo c q cf g false b w w from ⟨h, hv, Below.refl _ _⟩)
 have CG := hI (fun w' (h' : VkR lo c q cf g false b w w') => tget_any w' h'.1 cf s)
 have hkv := tget_kv q cf s
 obtain ⟨c0, c1, c2, c3, c4, c5, c6, c7⟩ := hv.cells
 clear h hv
 go_enter Tryz.func55, Tryz.ntmps55
 go_wp2_with fail
 clear c0 c1 c2 c3 c4 c5 c6 c7
 have h2 := H1.out
 have d0 : ∀ w', VkR lo c q cf g false b w w' → w'.cell? ⟨b, 0, none⟩ = some (.pointer (some ⟨c.r, 0, none⟩)) := fun w' h => h.2.1.cell 0
 have d1 : ∀ w', VkR lo c q cf g false b w w' → w'.cell? ⟨b, 1, none⟩ = some (.int .i64 cf.id) := fun w' h => h.2.1.cell 1
 have d2 : ∀ w', VkR lo c q cf g false b w w' → w'.cell? ⟨b, 2, none⟩ = some (.int .i64 cf.k) := fun w' h => h.2.1.cell 2
 have d3 : ∀ w', VkR lo c q cf g false b w w' → w'.cell? ⟨b, 3, none⟩ = some (.int .i64 cf.n) := fun w' h => h.2.1.cell 3
 have d4 : ∀ w', VkR lo c q cf g false b w w' → w'.cell? ⟨b, 4, none⟩ = some (.int .i64 cf.t) := fun w' h => h.2.1.cell 4
 have d5 : ∀ w', VkR lo c q cf g false b w w' → w'.cell? ⟨b, 5, none⟩ = some (.int .i64 cf.s) := fun w' h => h.2.1.cell 5
 have d6 : ∀ w', VkR lo c q cf g false b w w' → w'.cell? ⟨b, 6, none⟩ = some (.int .i64 g) := fun w' h => h.2.1.cell 6
 have d7 : ∀ w', VkR lo c q cf g false b w w' → w'.cell? ⟨b, 7, none⟩ = some (.bool false) := fun w' h => h.2.1.cell 7
 by_cases hz : tcode q cf s = 0
 ·have HZ := hI hz
  clear hkv hz; refine wp_region_noPanic ?_; refine wp_region_held_drew (S := (fun w' => VkR lo c q cf g false b w w')) (by kernel_rfl) h2.drew (fun hHeld => ?_); refine hT 0 ⟨some 18, _, _, _, _, _⟩ rfl hHeld ?_; simp only [hP]; refine hT 1 ⟨some 19, _, _, _, _, _⟩ rfl hHeld ?_; simp only [hP]; refine hT 2 ⟨some 20, _, _, _, _, _⟩ rfl hHeld ?_; simp only [hP]; refine hT 3 ⟨some 21, _, _, _, _, _⟩ rfl hHeld ?_; simp only [hP]; refine hT 4 ⟨some 22, _, _, _, _, _⟩ rfl hHeld ?_; simp only [hP]; refine hT 5 ⟨some 23, _, _, _, _, _⟩ rfl hHeld ?_; simp only [hP]; refine hT 6 ⟨some 24, _, _, _, _, _⟩ rfl hHeld ?_; simp only [hP]; refine hT 7 ⟨some 25, _, _, _, _, _⟩ rfl hHeld ?_; simp only [hP]; refine hT 8 ⟨some 26, _, _, _, _, _⟩ rfl hHeld ?_; simp only [hP]
  refine hC 9 rfl fun K hK => ?_
  go_simp; refine (CG.out _ hHeld).mono ?_; rintro e w6 ⟨hb6, ⟨_, v6, bs6, rfl, ho6, his6, hB6⟩ | ⟨hne, _⟩⟩
  rotate_left
  ·exact absurd HZ.out hne
  have h6 := VkR.then hHeld (by first | exact hb6 | exact bthen (Below.drew (Below.refl _ _)) hb6)
  have HH6 := hI h6; have HO6 := hI ho6; have HIS := hI his6; have HBO := hI hB6; have HSZ := hI (show w.heap.size ≤ w.drew.heap.size from Nat.le_refl _); obtain ⟨ga, ca, rfl, -⟩ := own_slice' ho6; clear hb6 ho6 his6 hB6; refine hK.out _ _ h6 (fun _ => ?_); clear hK K; refine hT 10 ⟨some 17, _, _, _, _, _⟩ rfl h6 ?_; simp only [hP]; refine hT 11 ⟨some 28, _, _, _, _, _⟩ rfl h6 ?_; simp only [hP]; refine hT 12 ⟨some 29, _, _, _, _, _⟩ rfl h6 ?_; simp only [hP]; refine hT 13 ⟨some 30, _, _, _, _, _⟩ rfl h6 ?_; simp only [hP]; refine hT 14 ⟨some 7, _, _, _, _, _⟩ rfl h6 ?_; simp only [hP]; refine hT 15 ⟨some 8, _, _, _, _, _⟩ rfl h6 ?_; simp only [hP]; refine hT 16 ⟨some 9, _, _, _, _, _⟩ rfl h6 ?_; simp only [hP]; refine wpAnyH_done (by kernel_rfl) ?_ _; refine NoPanic.normal ?_; clear d0 d1 d2 d3 d4 d5 d6 d7; go_wp2_with fail; refine (wrap_nil _ _ _).mono ?_; rintro e w7 ⟨rfl, rfl⟩; go_wp2_with fail; refine bodyPost_ret (v := .tuple #[.slice ga bs6.length ca, .int .i64 (tnew q cf s), .nilIface]) (by simp [results, Tryz.results55, go_sem]) rfl ?_; exact ⟨HH6.out.2.2, Or.inl ⟨HZ.out, _, bs6, rfl, own_base HO6.out HSZ.out, HIS.out, HBO.out⟩⟩
 ·obtain ⟨T, u, hv, hkv⟩ := wrapV_ne hkv hz
  have HV := hI hv; have HKV := hI hkv; have HZ := hI hz; clear hkv hz hv; refine wp_region_noPanic ?_; refine wp_region_held_drew (S := (fun w' => VkR lo c q cf g false b w w')) (by kernel_rfl) h2.drew (fun hHeld => ?_); refine hT 0 ⟨some 18, _, _, _, _, _⟩ rfl hHeld ?_; simp only [hP]; refine hT 1 ⟨some 19, _, _, _, _, _⟩ rfl hHeld ?_; simp only [hP]; refine hT 2 ⟨some 20, _, _, _, _, _⟩ rfl hHeld ?_; simp only [hP]; refine hT 3 ⟨some 21, _, _, _, _, _⟩ rfl hHeld ?_; simp only [hP]; refine hT 4 ⟨some 22, _, _, _, _, _⟩ rfl hHeld ?_; simp only [hP]; refine hT 5 ⟨some 23, _, _, _, _, _⟩ rfl hHeld ?_; simp only [hP]; refine hT 6 ⟨some 24, _, _, _, _, _⟩ rfl hHeld ?_; simp only [hP]; refine hT 7 ⟨some 25, _, _, _, _, _⟩ rfl hHeld ?_; simp only [hP]; refine hT 8 ⟨some 26, _, _, _, _, _⟩ rfl hHeld ?_; simp only [hP]
  refine hC 9 rfl fun K hK => ?_
  go_simp; refine (CG.out _ hHeld).mono ?_; rintro e w6 ⟨hb6, ⟨h0, _⟩ | ⟨_, rfl⟩⟩
  ·exact absurd h0 HZ.out
  have h6 := VkR.then hHeld (by first | exact hb6 | exact bthen (Below.drew (Below.refl _ _)) hb6)
  have HH6 := hI h6; rw [HV.out]; clear hb6; refine hK.out _ _ h6 (fun _ => ?_); clear hK K; refine hT 10 ⟨some 17, _, _, _, _, _⟩ rfl h6 ?_; simp only [hP]; refine hT 11 ⟨some 28, _, _, _, _, _⟩ rfl h6 ?_; simp only [hP]; refine hT 12 ⟨some 29, _, _, _, _, _⟩ rfl h6 ?_; simp only [hP]; refine hT 13 ⟨some 30, _, _, _, _, _⟩ rfl h6 ?_; simp only [hP]; refine hT 14 ⟨some 7, _, _, _, _, _⟩ rfl h6 ?_; simp only [hP]; refine hT 15 ⟨some 8, _, _, _, _, _⟩ rfl h6 ?_; simp only [hP]; refine hT 16 ⟨some 9, _, _, _, _, _⟩ rfl h6 ?_; simp only [hP]; refine wpAnyH_done (by kernel_rfl) ?_ _; refine NoPanic.normal ?_; clear d0 d1 d2 d3 d4 d5 d6 d7; go_wp2_with fail; refine (wrap_kv HKV.out _ _ _).mono ?_; rintro e w7 ⟨⟨v7, rfl, hkv7⟩, rfl⟩; have HKV7 := hI hkv7; clear hkv7; go_wp2_with fail; refine bodyPost_ret (v := .tuple #[.slice none 0 0, .int .i64 0, v7]) (by simp [results, Tryz.results55, go_sem]) rfl ?_; exact ⟨HH6.out.2.2, Or.inr ⟨HZ.out, _, HKV7.out, rfl⟩⟩
end Go.Proofs.YtilljaneegbhlaaGreatDoor
namespace Go.Proofs.YtilljaneegbhlaaGreatDoor
open Go.RowKit Go.Deep Crc Dk Qk Go.Maps Hf
set_option maxHeartbeats 4000000
set_option maxRecDepth 100000
abbrev RcP := Rc × (Option Addr × (Nat × Nat))
def rpV (p : RcP) : Value := .slice p.2.1 p.2.2.1 p.2.2.2
def encRc (p : RcP) : List Value := [.int .i64 p.1.q, .int .i64 p.1.t, rpV p]
theorem encRc_len (p : RcP) : (encRc p).length = 3 := rfl
theorem encRc_one (p : RcP) : ∀ v ∈ encRc p, v.oneCell' = true := fun v hv => by
 simp [encRc] at hv; rcases hv with rfl | rfl | rfl <;> rfl
instance : Inhabited RcP := ⟨(zeroR, (none, (0, 0)))⟩
structure Recs (B : Nat) (ps : List RcP) (v : Value) (w : World) : Prop where
 row : w.ownsRow B 135 3 v ps.length (ps.map encRc).flatten
 each : ∀ p ∈ ps, BkB B p.1.b (rpV p) w
theorem recs_nil (B : Nat) (w : World) : Recs B [] (.slice none 0 0) w := ⟨World.ownsRow_nil _ _ _ _, fun p hp => (by cases hp)⟩
variable {B : Nat} {ps : List RcP} {v : Value} {w w' : World}
theorem Recs.below (h : Recs B ps v w) (hb : Below w.heap.size w w') : Recs B ps v w' := ⟨own_below h.row hb, fun p hp => (h.each p hp).below hb⟩
variable {n : Nat} {c : Lc}
theorem Recs.rc (h : Recs B ps v w) (hf : Far B c n) (hc : RC c n w w') : Recs B ps v w' := ⟨own_rc h.row hf hc, fun p hp => (h.each p hp).rc hf hc⟩
variable {B2 : Nat} {bs : List (List UInt8)} {u : Value}
theorem bkB_grew (h : BkB B bs v w) {m : Nat} {xs : List Value} {r' : Option Nat} (ho : w.ownsRow B2 135 3 u m xs) (hg : Grew w u.ownBlock w' r') : BkB B bs v w' := by
 refine ⟨h.is, World.ownsRow.kept h.row hg.by_ ?_⟩
 rcases h.row.2 with ⟨rfl, _⟩ | ⟨g, cap, cur, rfl, _, hgg, _⟩
 ·exact Or.inl rfl
 ·exact Or.inr fun e => own_kind_ne ho hgg (by decide) (e.symm.trans rfl)
theorem Tryz.infoRec : (Tryz.prog.info? 135).map (fun i => (i.zero, i.size, i.bytes)) = some (some (.agg #[.int .i64 0, .int .i64 0, .slice none 0 0]), 3, 40) := by kernel_rfl
theorem wpList_append_rec (w : World) {ops : Array Oper} {rest : List Oper} {o : Oper} {a : Act} {Q : Exit → Act → World → Prop} (hgd : o.guard = none) (s x : Operand)
  (ho : o.op = .call { callee := .builtin .append, args := #[s, x], argTypes := #[155, 155] })
  (base : Nat) (v : Value) (n : Nat) (xs : List Value) (hsv : a.eval s = v) (hown : w.ownsRow base 135 3 v n xs)
  (b : Nat) (cs : List Value) (hx : a.eval x = .slice (some ⟨b, 0, none⟩) 1 1) (hb0 : ∀ j u, cs[j]? = some u → w.cell? ⟨b, j, none⟩ = some u) (hl : cs.length = 3) (h1 : ∀ u ∈ cs, u.oneCell' = true) (h63 : n + 1 ≤ 100000) (hbase : base ≤ w.heap.size)
  (h : ∀ v' w', w'.ownsRow base 135 3 v' (n + 1) (xs ++ cs) → Grew w v.ownBlock w' v'.ownBlock → wpList Tryz.prog ops Q rest (a.put o.dst v') w') : wpList Tryz.prog ops Q (o :: rest) a w := by
 obtain ⟨i0, hi0, hz⟩ := Option.map_eq_some_iff.1 Tryz.infoRec
 simp only [Prod.mk.injEq] at hz
 obtain ⟨hz0, hz1, hz2⟩ := hz
 exact wpList_append_src w hgd s x 155 155 ho base 135 i0 (.agg #[.int .i64 0, .int .i64 0, .slice none 0 0]) 3 40 (by kernel_rfl) hi0 hz0 hz1 hz2 rfl v n xs hsv hown (.slice (some ⟨b, 0, none⟩) 1 1) 1 cs hx (src_cells (e := 135) (by kernel_rfl) hl hb0 h1) (by unfold maxLen; omega) (by omega) hbase fun v' w' h1 h2 _ => h v' w' h1 h2
theorem Recs.snoc {v' : Value} (h : Recs B ps v w) (p : RcP) (hp : BkB B p.1.b (rpV p) w) (hrow : w'.ownsRow B 135 3 v' (ps.length + 1) ((ps.map encRc).flatten ++ encRc p)) (hg : Grew w v.ownBlock w' v'.ownBlock) : Recs B (ps ++ [p]) v' w' where
 row := by
  rw [List.map_append, List.flatten_append, List.length_append]
  simpa using hrow
 each := fun p' hp' => by
  rcases List.mem_append.1 hp' with h1 | h1
  ·exact bkB_grew (h.each p' h1) h.row hg
  ·rw [List.mem_singleton] at h1; subst h1; exact bkB_grew hp h.row hg
structure OnlyB (b : Nat) (w w' : World) : Prop where
 os : w'.os = w.os
 tape : w'.tape = w.tape
 output : w'.output = w.output
 size : w.heap.size ≤ w'.heap.size
 block : ∀ k, k < w.heap.size → k ≠ b → w'.heap[k]? = w.heap[k]?
open Go.Sort in
theorem onlyB_sort {α : Type} [Inhabited α] (enc : α → List Value) (k b off n : Nat) (d : Array α) (os : Array Obj) (w : World) : OnlyB b w (sortWorldK enc k w b off n d os) where
 os := rfl
 tape := rfl
 output := rfl
 size := by show w.heap.size ≤ (grow (putRowK enc k (Sort.ahead w n) b off d) os).heap.size; rw [size_grow]; unfold putRowK; rw [size_putRow]; exact Nat.le_add_right _ _
 block := fun j hj hb => by
  show ((putRowK enc k (Sort.ahead w n) b off d).heap ++ os)[j]? = _
  have hs : (putRowK enc k (Sort.ahead w n) b off d).heap.size = w.heap.size := by unfold putRowK; rw [size_putRow]; rfl
  rw [Array.getElem?_append_left (by rw [hs]; exact hj)]
  show (w.heap.modify b _)[j]? = _
  rw [Array.getElem?_modify, if_neg (fun e => hb e.symm)]
structure RecR (B : Nat) (ps : List RcP) (v : Value) (w : World) : Prop where
 at_ : ps = [] ∨ ∃ b cap, v = .slice (some ⟨b, 0, none⟩) ps.length cap ∧ B ≤ b ∧ b < w.heap.size ∧ ∀ i j u, i < ps.length → (encRc (ps.getD i default))[j]? = some u → w.cell? ⟨b, i * 3 + j, none⟩ = some u
 len : ∃ a cap, v = .slice a ps.length cap
 each : ∀ p ∈ ps, BkB B p.1.b (rpV p) w
theorem cell_heap {a : Addr} (h : w'.heap[a.block]? = w.heap[a.block]?) : w'.cell? a = w.cell? a := by unfold World.cell?; rw [h]
theorem RecR.below (h : RecR B ps v w) (hb : Below w.heap.size w w') : RecR B ps v w' where
 at_ := by
  rcases h.at_ with h1 | ⟨b, cap, h1, h2, h3, h4⟩
  ·exact Or.inl h1
  ·exact Or.inr ⟨b, cap, h1, h2, Nat.lt_of_lt_of_le h3 hb.size, fun i j u hi hu => by rw [cell_heap (hb.block b h3)]; exact h4 i j u hi hu⟩
 len := h.len
 each := fun p hp => (h.each p hp).below hb
theorem RecR.rc (h : RecR B ps v w) (hf : Far B c n) (hc : RC c n w w') : RecR B ps v w' where
 at_ := by
  rcases h.at_ with h1 | ⟨b, cap, h1, h2, h3, h4⟩
  ·exact Or.inl h1
  ·exact Or.inr ⟨b, cap, h1, h2, Nat.lt_of_lt_of_le h3 hc.size, fun i j u hi hu => by rw [cell_heap (hc.block b h3 (by have := hf.1; omega) (fun i hi => by have := hf.2 i hi; omega))]; exact h4 i j u hi hu⟩
 len := h.len
 each := fun p hp => (h.each p hp).rc hf hc
theorem RecR.load (h : RecR B ps v w) {i : Nat} (hi : i < ps.length) : ∃ b cap, v = .slice (some ⟨b, 0, none⟩) ps.length cap ∧ (∀ j u, (encRc (ps.getD i default))[j]? = some u → w.cell? ⟨b, i * 3 + j, none⟩ = some u) ∧ BkB B (ps.getD i default).1.b (rpV (ps.getD i default)) w := by
 rcases h.at_ with h1 | ⟨b, cap, h1, _, _, h4⟩
 ·rw [h1] at hi; simp at hi
 ·exact ⟨b, cap, h1, fun j u hu => h4 i j u hi hu, h.each _ (by simp only [List.getD, List.getElem?_eq_getElem hi, Option.getD_some]; exact List.getElem_mem hi)⟩
def ltRc (x y : RcP) : Int := Lib.compareInt x.1.q y.1.q
open Go.Sort in
theorem ltRc_lt (x y : RcP) : ltOf ltRc x y = decide (x.1.q < y.1.q) := by
 unfold ltOf ltRc Lib.compareInt
 by_cases h1 : x.1.q < y.1.q
 ·simp [h1]
 ·by_cases h2 : y.1.q < x.1.q <;> simp [h1, h2]
open Go.Sort in
theorem ltRc_swo : SWO (ltOf ltRc) where
 irrefl x := by rw [ltRc_lt]; simp
 trans x y z h1 h2 := by rw [ltRc_lt] at *; simp at *; omega
 ntrans x y z h1 h2 := by rw [ltRc_lt] at *; simp at *; omega
open Go.Sort Go.RowKit in
theorem closureRc (x y : RcP) (W : World) : Calls Tryz.prog 118 #[.agg (encRc x).toArray, .agg (encRc y).toArray] W fun e w' => e = .returned (.int .i64 (ltRc x y)) ∧ ∃ q os', w' = grow (W.drewN q) os' := by
 have hcon := fun W' => AnyG.cmp_Compare_int Tryz.cmpInt x.1.q y.1.q W'
 change ∀ W', Calls Tryz.prog 119 _ _ _ at hcon
 unfold ltRc
 generalize Lib.compareInt x.1.q y.1.q = r at hcon ⊢
 unfold encRc rpV
 go_enter Tryz.func118, Tryz.ntmps118
 go_wp2_with (go_at_call 119; refine (hcon _).mono ?_; rintro e w' ⟨rfl, rfl⟩)
 go_ret
 exact ⟨rfl, 0, _, by rw [alloc_eq_grow, alloc_eq_grow, grow_grow]; rfl⟩
def SortOut (B : Nat) (ps : List RcP) (v : Value) (w : World) (e : Ending) (w' : World) : Prop :=
 e = .returned (.tuple #[]) ∧ ∃ ps' : List RcP, ps'.Perm ps ∧ (ps'.Pairwise fun x y => x.1.q ≤ y.1.q) ∧ RecR B ps' v w' ∧ ∃ b, B ≤ b ∧ OnlyB b w w' ∧ ∀ k cs T fz, w.heap[k]? = some (.cells cs T fz) → T ≠ 135 → k ≠ b
variable {b : Nat}
theorem own_onlyB {e k m : Nat} {xs : List Value} (h : w.ownsRow B e k v m xs) (ho : OnlyB b w w') (hne : v.ownBlock ≠ some b) : w'.ownsRow B e k v m xs := by
 obtain ⟨h1, h2⟩ := h
 refine ⟨h1, ?_⟩
 rcases h2 with h2 | ⟨g, cap, cur, hv, hg, hh, r⟩
 ·exact Or.inl h2
 ·refine Or.inr ⟨g, cap, cur, hv, hg, ?_, r⟩
  rw [ho.block g (Array.getElem?_eq_some_iff.1 hh).1 (fun e => hne (by rw [hv, e]; rfl))]; exact hh
variable {lo : Nat} {q : Rk}
theorem RackIn.onlyB (h : RackIn lo w c q) (hf : Far B c q.n) (hP : c.P < B) (hb : B ≤ b) (ho : OnlyB b w w') : RackIn lo w' c q :=
 h.keep (ho.block _ h.lt.1 (by have := hf.1; omega)) (ho.block _ h.lt.2.1 (by omega)) fun i hi => by
  have := hf.2 i hi; exact ⟨ho.block _ (h.disk i hi).lt.1 (by omega), ho.block _ (h.disk i hi).lt.2.1 (by omega), ho.block _ (h.disk i hi).lt.2.2 (by omega)⟩
theorem OnlyB.rc (h : OnlyB b w w') {w0 : World} (h0 : RC c n w0 w) (hb : w0.heap.size ≤ b) : RC c n w0 w' :=
 ⟨h.os.trans h0.os, h.tape.trans h0.tape, h.output.trans h0.output, Nat.le_trans h0.size h.size, fun k hk a d => (h.block k (Nat.lt_of_lt_of_le hk h0.size) (by omega)).trans (h0.block k hk a d)⟩
theorem rc_holds {g cap : Nat} (h : w.ownsRow B 135 3 (.slice (some ⟨g, 0, none⟩) ps.length cap) ps.length (ps.map encRc).flatten) : Go.Sort.HoldsK encRc 3 w g 0 ps.toArray ∧ B ≤ g ∧ g < w.heap.size := by
 obtain ⟨hl, h2⟩ := h
 rcases h2 with ⟨h2, _⟩ | ⟨g', cap', cur, hv, hg, hh, h3, h4, h5, h6⟩
 ·cases h2
 ·injection hv with e1 e2 e3
  injection e1 with e1; injection e1 with e1; subst e1 e3; refine ⟨fun j hj => ?_, hg, (Array.getElem?_eq_some_iff.1 hh).1⟩
  have hj' : j < ps.length * 3 := by simpa using hj
  rw [Go.Sort.get_flatK _ _ _ _ (by simpa using hj')]
  have hcur : cur[j]? = some ((encRc (ps.toArray[j / 3]!))[j % 3]!) := by
   have h7 : cur.toList[j]? = (ps.map encRc).flatten[j]? := by
    rw [← h6, List.getElem?_take, if_pos hj']
   rw [← Array.getElem?_toList, h7]
   have hd : j / 3 < ps.length := by omega
   have hm : j % 3 < 3 := Nat.mod_lt _ (by decide)
   have e : j = j / 3 * 3 + j % 3 := by omega
   have := flat_get (k := 3) (cs := ps.map encRc) (fun c hc => by obtain ⟨p, _, rfl⟩ := List.mem_map.1 hc; rfl) (i := j / 3) (j := j % 3) (u := (encRc (ps.toArray[j / 3]!))[j % 3]!) (by simpa using hd) (by
    rw [getD_map encRc hd [] default]
    have e2 : ps.getD (j / 3) default = ps.toArray[j / 3]! := by simp [List.getD, hd]
    rw [e2]
    have hlen : j % 3 < (encRc (ps.toArray[j / 3]!)).length := by rw [encRc_len]; exact hm
    rw [List.getElem?_eq_getElem hlen, getElem!_pos (encRc (ps.toArray[j / 3]!)) (j % 3) hlen])
   rw [← e] at this; exact this
  constructor
  ·unfold World.cell?
   rw [show (0 : Nat) + j = j from Nat.zero_add j]; simp only [hh]; exact hcur
  ·unfold World.frozen?
   simp only [hh]
   simp
open Go.Sort in
theorem rsort_any (h : Recs B ps v w) (hB : B ≤ w.heap.size) (hl : ps.length ≤ 100) : Calls Tryz.prog 117 #[v, .func (.func 118) #[] #[]] w (SortOut B ps v w) := by
 obtain ⟨a, cap, rfl, -⟩ := own_slice' h.row
 by_cases hne : ps = []
 ·subst hne
  refine (AnyF.slices_SortFunc_none Tryz.sortRec a cap (.func (.func 118) #[] #[]) w).mono ?_; rintro e w' ⟨rfl, rfl⟩; exact ⟨rfl, [], List.Perm.nil, List.Pairwise.nil, ⟨Or.inl rfl, ⟨a, cap, rfl⟩, fun p hp => (by cases hp)⟩, w'.heap.size, hB, ⟨rfl, rfl, rfl, Nat.le_refl _, fun _ _ _ => rfl⟩, fun k cs T fz hk _ => Nat.ne_of_lt (Array.getElem?_eq_some_iff.1 hk).1⟩
 ·obtain ⟨g, rfl⟩ : ∃ g, a = some ⟨g, 0, none⟩ := by
   rcases h.row.2 with ⟨h2, h3⟩ | ⟨g, cap', cur, hv, _⟩
   ·exact absurd (List.length_eq_zero_iff.1 h3) hne
   ·injection hv with e1; exact ⟨g, e1⟩
  obtain ⟨hH, hg1, hg2⟩ := rc_holds h.row
  have hsz : ps.toArray.size = ps.length := by simp
  have eg : ∀ args w, (callFunc 118 args).run Tryz.prog w = .ok (.enter 118 args) w := enters_of Tryz.func118 (by kernel_rfl) rfl; have hcon := AnyQ.slices_SortFunc Tryz.sortRec 3 Tryz.isAgg135 Tryz.sizeOf135 encRc encRc_len encRc_one ltRc ltRc_swo 118 #[] g 0 cap ps.toArray w eg (fun _ _ _ _ x y => closureRc x y _) hH hg2 (by rw [hsz]; omega); rw [hsz] at hcon; refine hcon.mono ?_; rintro e w' ⟨rfl, d', n, os, hp, hs, rfl⟩; obtain ⟨p1, _, p3⟩ := hp; rw [hsz] at p1; rw [← p1, Array.extract_size, p1] at p3
  have p3 : d'.toList.Perm ps := by
   have e : ps.toArray.extract 0 ps.length = ps.toArray := by rw [← hsz, Array.extract_size]
   rw [e] at p3; exact p3
  have hlen : d'.toList.length = ps.length := p3.length_eq; have hH' : HoldsK encRc 3 (sortWorldK encRc 3 w g 0 n d' os) g 0 d' := holdsK_grow encRc 3 _ os g 0 d' (by unfold putRowK; rw [size_putRow]; exact hg2) (holdsK_putRowK encRc 3 _ g 0 ps.toArray d' hH (by rw [hsz, p1])); have ho := onlyB_sort encRc 3 g 0 n d' os w; refine ⟨rfl, d'.toList, p3, ?_, ⟨Or.inr ⟨g, cap, by rw [hlen], hg1, Nat.lt_of_lt_of_le hg2 ho.size, fun i j u hi hu => ?_⟩, ⟨_, cap, by rw [hlen]⟩, fun p hp => ?_⟩, g, hg1, ho, fun k cs T fz hk hT e => own_kind_ne h.row (by rw [← e]; exact hk) hT rfl⟩
  ·rw [List.pairwise_iff_getElem]
   intro i j hi hj hij; have := hs i j (Nat.zero_le _) hij (by rw [← hlen]; exact hj); rw [ltRc_lt] at this; have this := of_decide_eq_false this; rw [getElem!_pos d' i (by simpa using hi), getElem!_pos d' j (by simpa using hj)] at this; simp only [Array.getElem_toList]; omega
  ·have hi' : i < d'.size := by simpa using hi
   have hj3 : j < 3 := by
    have := (List.getElem?_eq_some_iff.1 hu).1
    rwa [encRc_len] at this
   have := (hH'.cell hi' hj3).1; rw [Nat.zero_add] at this; rw [this]
   have e2 : d'.toList.getD i default = d'[i]! := by simp [List.getD, hi']
   rw [e2] at hu
   have hl3 : j < (encRc d'[i]!).length := by rw [encRc_len]; exact hj3
   rw [List.getElem?_eq_getElem hl3] at hu; rw [getElem!_pos (encRc d'[i]!) j hl3]; exact hu
  ·have hb := h.each p (p3.mem_iff.1 hp)
   refine ⟨hb.is, own_onlyB hb.row ho ?_⟩
   rcases hb.row.2 with ⟨h2, _⟩ | ⟨g2, cap2, cur2, h2, _, hgg, _⟩
   ·rw [h2]; exact fun e => by cases e
   ·rw [h2]
    intro e; have e : (some g2 : Option Nat) = some g := e; injection e with e; subst e; exact own_kind_ne h.row hgg (by decide) rfl
theorem gensN_stop {c : Cf} {q : Rk} {m : Nat} (h : (gensN c q m).2 ≠ 0) : ∀ j, gensN c q (m + j) = gensN c q m
 | 0 => rfl
 | j + 1 => by
  show (if (gensN c q (m + j)).2 = 0 then (if tcode q c (m + j : Nat) = 0 then (max (gensN c q (m + j)).1 (tnew q c (m + j : Nat)), 0) else ((gensN c q (m + j)).1, tcode q c (m + j : Nat))) else gensN c q (m + j)) = _
  rw [gensN_stop h j, if_neg h]
theorem settleN_stop {c : Cf} {q : Rk} {m : Nat} (h : (settleN c q m).e ≠ 0) : ∀ j, settleN c q (m + j) = settleN c q m
 | 0 => rfl
 | j + 1 => by
  show settle1 c (settleN c q (m + j)) (m + j) = _
  rw [settleN_stop h j, settle1_stop h]
def GensOut (q : Rk) (cf : Cf) (w : World) (e : Ending) (w' : World) : Prop :=
 Below w.heap.size w w' ∧ (((gensN cf q cf.t.toNat).2 = 0 ∧ e = .returned (.tuple #[.int .i64 (gensN cf q cf.t.toNat).1, .nilIface])) ∨ ((gensN cf q cf.t.toNat).2 ≠ 0 ∧ ∃ v, KV (gensN cf q cf.t.toNat).2 v ∧ e = .returned (.tuple #[.int .i64 0, v])))
def RelGg (T : Nat) (lo : Nat) (c : Lc) (q : Rk) (cf : Cf) (b : Nat) (w : World) (g i : Value) (wr : World) : Prop :=
 ∃ m : Nat, m ≤ T ∧ i = .int .i64 m ∧ g = .int .i64 (gensN cf q m).1 ∧ (gensN cf q m).2 = 0 ∧ TgS lo c q cf b w wr
theorem TgS.cells {cf : Cf} (h : TgS lo c q cf b w w') : w'.cell? ⟨b, 0, none⟩ = some (.int .i64 cf.id) ∧ w'.cell? ⟨b, 1, none⟩ = some (.int .i64 cf.k) ∧ w'.cell? ⟨b, 2, none⟩ = some (.int .i64 cf.n) ∧ w'.cell? ⟨b, 3, none⟩ = some (.int .i64 cf.t) ∧ w'.cell? ⟨b, 4, none⟩ = some (.int .i64 cf.s) := CfB.cells h.2.1
theorem gens_any (w : World) (h : RackIn lo w c q) (cf : Cf) (hr : CfRight cf) : Calls Tryz.prog 96 #[.pointer (some ⟨c.r, 0, none⟩), .agg (cfA cf)] w (GensOut q cf w) := by
 have H1 := hI (show TgS lo c q cf w.heap.size w (w.alloc (.cells (cfA cf) 24)) from ⟨h.below (one_below _ _), tcS_new w cf⟩)
 have hct : ((cf.t.toNat : Nat) : Int) = cf.t := by have := hr.2.2.2.2.2.1; omega
 have ht8 : cf.t.toNat ≤ 64 := by have := hr.2.2.2.2.2.2.1; omega
 obtain ⟨T, hTd⟩ : ∃ T : Nat, cf.t.toNat = T := ⟨_, rfl⟩
 rw [hTd] at hct ht8
 unfold GensOut
 rw [hTd]
 have HCT := hI hct
 clear hTd
 clear h hr hct
 go_enter Tryz.func96, Tryz.ntmps96
 obtain ⟨d0, d1, d2, d3, d4⟩ := H1.out.cells
 rw [← HCT.out] at d3
 go_wp2_with fail
 clear d0 d1 d2 d3 d4
 go_loopw [6, 13] (fun g i wr => RelGg T lo c q cf w.heap.size w g i wr) (fun _ i _ => T - (intOf i).toNat)
 case atStart => exact ⟨0, Nat.zero_le _, rfl, rfl, rfl, H1.out⟩
 case round =>
  obtain ⟨m, hm, rfl, rfl, he, hS⟩ := hrel
  by_cases hlt : m < T
  ·have HS := hI hS
   have CW := hI (tget_any wr hS.1 cf (m : Int)); obtain ⟨d0, d1, d2, d3, d4⟩ := hS.cells; have hkv := tget_kv q cf (m : Int)
   have HG := hI (show gensN cf q (m + 1) = if tcode q cf m = 0 then (max (gensN cf q m).1 (tnew q cf m), 0) else ((gensN cf q m).1, tcode q cf m) by
    show (if (gensN cf q m).2 = 0 then _ else _) = _; rw [if_pos he])
   clear hS
   by_cases hz : tcode q cf (m : Int) = 0
   ·rw [if_pos hz] at HG
    have HZ := hI hz; clear hkv he hz; go_wp2_with fail; refine CW.out.mono ?_; rintro e w2 ⟨hb2, ⟨_, v2, bs2, rfl, ho2, _⟩ | ⟨hne, _⟩⟩
    rotate_left
    ·exact absurd HZ.out hne
    have HS2 := hI (HS.out.then hb2); obtain ⟨ga, ca, rfl, -⟩ := own_slice' ho2; clear hb2 ho2 d0 d1 d2 d3 d4; go_wp2_with fail
    go_roundw
    case rel => exact ⟨m + 1, hlt, by go_num, by rw [HG.out], by rw [HG.out], HS2.out⟩
    case measure => simp [intOf]; omega
   ·rw [if_neg hz] at HG
    obtain ⟨T', x, hv, hkv⟩ := wrapV_ne hkv hz; have HKV := hI hkv; have HV := hI hv; have HZ := hI hz
    have HST := hI (show gensN cf q T = ((gensN cf q m).1, tcode q cf m) by
     have := gensN_stop (c := cf) (q := q) (m := m + 1) (by rw [HG.out]; exact hz) (T - (m + 1)); rw [show m + 1 + (T - (m + 1)) = T by omega] at this
     rw [this, HG.out])
    clear hkv hv hz he; go_wp2_with fail; refine CW.out.mono ?_; rintro e w2 ⟨hb2, ⟨h0, _⟩ | ⟨_, rfl⟩⟩
    ·exact absurd h0 HZ.out
    have HS2 := hI (HS.out.then hb2); clear hb2 d0 d1 d2 d3 d4; rw [HV.out]; go_wp2_with fail; refine bodyPost_ret (v := .tuple #[.int .i64 0, .iface T' x]) (by simp [results, Tryz.results96, go_sem]) rfl ?_; exact ⟨HS2.out.2.2.2, Or.inr ⟨by rw [HST.out]; exact HZ.out, _, by rw [HST.out]; exact HKV.out, rfl⟩⟩
  ·obtain rfl : T = m := by omega
   have HS := hI hS; have HE := hI he; clear hS he; go_wp2_with fail; exact bodyPost_ret (v := .tuple #[.int .i64 (gensN cf q T).1, .nilIface]) (by simp [results, Tryz.results96, go_sem]) rfl ⟨HS.out.2.2.2, Or.inl ⟨HE.out, rfl⟩⟩
def SettleOut (lo : Nat) (c : Lc) (q : Rk) (cf : Cf) (w : World) (e : Ending) (w' : World) : Prop :=
 RackIn lo w' c (settleN cf q cf.s.toNat).q ∧ RC c q.n w w' ∧ (((settleN cf q cf.s.toNat).e = 0 ∧ ∃ (v : Value) (ps : List RcP), e = .returned (.tuple #[v, .int .i64 (settleN cf q cf.s.toNat).g, .nilIface]) ∧ ps.map (·.1) = (settleN cf q cf.s.toNat).l ∧ Recs w.heap.size ps v w') ∨
  ((settleN cf q cf.s.toNat).e ≠ 0 ∧ ∃ v, KV (settleN cf q cf.s.toNat).e v ∧ e = .returned (.tuple #[.slice none 0 0, .int .i64 0, v])))
def RelSt (S : Nat) (lo : Nat) (c : Lc) (q : Rk) (cf : Cf) (w : World) (v g i : Value) (wr : World) : Prop :=
 ∃ (m : Nat) (ps : List RcP), m ≤ S ∧ i = .int .i64 m ∧ g = .int .i64 (settleN cf q m).g ∧ (settleN cf q m).e = 0 ∧ ps.map (·.1) = (settleN cf q m).l ∧ ps.length ≤ m ∧ Recs w.heap.size ps v wr ∧ CrS lo c q.n (settleN cf q m).q cf w.heap.size w wr
theorem recs_ne (h : Recs B ps v w) (hb : w.heap.size ≤ b) : v.ownBlock ≠ some b := by
 rcases h.row.2 with ⟨rfl, _⟩ | ⟨g, cap, cur, rfl, _, hgg, _⟩
 ·exact fun e => by cases e
 ·intro e
  have e : (some g : Option Nat) = some b := e; injection e with e; have := (Array.getElem?_eq_some_iff.1 hgg).1; omega
variable {x : Rc} {r' : Option Nat}
theorem rcB_grew (h : RcB B x v b w) (ho : Recs B2 ps u w) (hne : u.ownBlock ≠ some b) (hg : Grew w u.ownBlock w' r') : RcB B x v b w' :=
 ⟨h.is, h.le, by rw [hg.by_.block b h.lt (fun e => hne e.symm)]; exact h.top, (bkB_grew ⟨h.is, h.row⟩ ho.row hg).row⟩
variable {w0 : World}
theorem crS_grew {cf : Cf} (h : CrS lo c n q cf w0.heap.size w0 w) (ho : Recs w0.heap.size ps u w) (hf : Far w0.heap.size c n) (hP : c.P < w0.heap.size) (hg : Grew w u.ownBlock w' r') : CrS lo c n q cf w0.heap.size w0 w' := by
 have hk : ∀ k, k < w.heap.size → u.ownBlock ≠ some k → w'.heap[k]? = w.heap[k]? := fun k h1 h2 => hg.by_.block k h1 (fun e => h2 e.symm)
 have hown : ∀ k, k < w0.heap.size → u.ownBlock ≠ some k := fun k hkB => by
  rcases ho.row.2 with ⟨rfl, _⟩ | ⟨g, cap, cur, rfl, hgB, _⟩
  ·exact fun e => by cases e
  ·intro e
   have e : (some g : Option Nat) = some k := e; injection e with e; omega
 have hcf : u.ownBlock ≠ some w0.heap.size := own_kind_ne ho.row h.cfg (by decide)
 have hnn := h.rk.nn
 exact ⟨⟨h.rk.rack.keep (hk _ h.rk.rack.lt.1 (hown _ hf.1)) (hk _ h.rk.rack.lt.2.1 (hown _ hP)) fun i hi => by
   have := hf.2 i (by omega); have hl := (h.rk.rack.disk i hi).lt
   exact ⟨hk _ hl.1 (hown _ this.1), hk _ hl.2.1 (hown _ this.2.1), hk _ hl.2.2 (hown _ this.2.2)⟩, hnn,
  ⟨hg.by_.os.trans h.rk.rc.os, hg.by_.tape.trans h.rk.rc.tape, hg.by_.output.trans h.rk.rc.output, Nat.le_trans h.rk.rc.size hg.by_.size, fun k hkk a b => (hk k (Nat.lt_of_lt_of_le hkk h.rk.rc.size) (hown k hkk)).trans (h.rk.rc.block k hkk a b)⟩⟩,
  by have := hk _ h.lt hcf; unfold CfB; rw [this]; exact h.cfg, Nat.lt_of_lt_of_le h.lt hg.by_.size, h.far⟩
theorem settle_any (w : World) (h : RackIn lo w c q) (cf : Cf) (hr : CfRight cf) : Calls Tryz.prog 94 #[.pointer (some ⟨c.r, 0, none⟩), .agg (cfA cf)] w (SettleOut lo c q cf w) := by
 have H1 := hI (crS_new h cf)
 have hcs : ((cf.s.toNat : Nat) : Int) = cf.s := by have := hr.2.2.2.2.2.2.2.1; omega
 have hs8 : cf.s.toNat ≤ 4 := by have := hr.2.2.2.2.2.2.2.2; omega
 have HFAR := hI (show Far w.heap.size c q.n from h.far)
 have HP := hI h.lt.2.1
 obtain ⟨S, hSd⟩ : ∃ S : Nat, cf.s.toNat = S := ⟨_, rfl⟩
 rw [hSd] at hcs hs8
 unfold SettleOut
 rw [hSd]
 have HCS := hI hcs
 clear hSd
 clear h hr hcs
 go_enter Tryz.func94, Tryz.ntmps94
 obtain ⟨d0, d1, d2, d3, d4⟩ := H1.out.cells
 rw [← HCS.out] at d4
 go_wp2_with fail
 clear d0 d1 d2 d3 d4
 go_loopw [7, 8, 16] (fun v g i wr => RelSt S lo c q cf w v g i wr) (fun _ _ i _ => S - (intOf i).toNat)
 case atStart => exact ⟨0, [], Nat.zero_le _, rfl, rfl, rfl, rfl, Nat.le_refl _, recs_nil _ _, H1.out⟩
 case round =>
  obtain ⟨m, ps, hm, rfl, rfl, he, hps, hpl, hR, hS⟩ := hrel
  by_cases hlt : m < S
  ·have HS := hI hS
   have HR := hI hR; have HPS := hI hps; have CW := hI (jslot_any wr hS.rk.rack cf (m : Int)); obtain ⟨d0, d1, d2, d3, d4⟩ := hS.cells; have hkv := jslot_kv (settleN cf q m).q cf (m : Int); have HG := hI (show settleN cf q (m + 1) = settle1 cf (settleN cf q m) m from rfl)
   have HST := hI (fun (hne : (settleN cf q (m + 1)).e ≠ 0) => show settleN cf q S = settleN cf q (m + 1) by
    have := settleN_stop (c := cf) (q := q) hne (S - (m + 1))
    rwa [show m + 1 + (S - (m + 1)) = S by omega] at this)
   obtain ⟨av, cv, rfl, -⟩ := own_slice' hR.row; clear hS hR hps; generalize settleN cf q m = p at *; unfold settle1 at HG; rw [if_pos he] at HG
   by_cases hz : jcode p.q cf (m : Int) = 0
   ·rw [if_pos hz] at HG
    have HNIL := hI (hkv.nil hz); clear hkv hz; go_wp2_with fail; refine CW.out.mono ?_; rintro e w3 ⟨v3, rfl, ho3, hb3⟩; have HS3 := hI (HS.out.then hb3); have HR3 := hI (HR.out.below hb3); have HX := hI (rcB_new (B := w.heap.size) (x := jrecR p.q cf m) (jrecR_is _ _ _) (by have := HS3.out.lt; omega) (own_base ho3 (by have := HS.out.lt; omega))); have HA := hI (HS3.out.then (one_below w3 (.cells (rcA (jrecR p.q cf m).q (jrecR p.q cf m).t v3) 135))); have HRA := hI (HR3.out.below (one_below w3 (.cells (rcA (jrecR p.q cf m).q (jrecR p.q cf m).t v3) 135))); have HNE := hI (recs_ne HR3.out (Nat.le_refl _)); obtain ⟨ax, cx, rfl, -⟩ := own_slice' ho3; rw [HNIL.out]; clear hb3 ho3 d0 d1 d2 d3 d4; obtain ⟨d0, d1, d2, d3, d4⟩ := HA.out.cells; obtain ⟨x0, x1, x2⟩ := HX.out.cells; generalize jrecR p.q cf m = rec_ at *; generalize jnewest p.q cf m = nw at *
    cases hwh : jwhole p.q cf m with
    | false =>
     rw [if_neg (by rw [hwh]; decide)] at HG; clear hwh; have CW2 := hI (fun w' (h1 : CrS lo c q.n p.q cf w.heap.size w w') => jblank_any w' h1.rk.rack cf (m : Int)); have hkv := jblank_kv p.q cf (m : Int)
     by_cases hz : Rk.jblankC p.q cf (m : Int) = 0
     ·rw [hkv.nil hz] at CW2
      have HE := hI (show (settleN cf q (m + 1)).e = 0 by rw [HG.out]; exact hz); have HGQ := hI (show (settleN cf q (m + 1)).q = Rk.jblank p.q cf m ∧ (settleN cf q (m + 1)).l = p.l ∧ (settleN cf q (m + 1)).g = max p.g nw by rw [HG.out]; exact ⟨rfl, rfl, rfl⟩); clear hkv hz; go_wp2_with fail; refine (CW2.out _ HA.out).mono ?_; rintro e w4 ⟨rfl, hR4, hC4⟩; have HS4 := hI (HA.out.next hR4 (jblank_n _ _ _) hC4); have HR4 := hI (HRA.out.rc HFAR.out (by have := hC4; rw [HA.out.rk.nn] at this; exact this)); clear hR4 hC4 d0 d1 d2 d3 d4 x0 x1 x2; go_wp2_with fail
      go_roundw
      case rel => exact ⟨m + 1, ps, hlt, by go_num, by rw [HGQ.out.2.2], HE.out, by rw [HGQ.out.2.1]; exact HPS.out, by omega, HR4.out, by rw [HGQ.out.1]; exact HS4.out⟩
      case measure => simp [intOf]; omega
     ·obtain ⟨T, u, hv, hkv⟩ := wrapV_ne hkv hz
      rw [hv] at CW2; have HKV := hI hkv; have HE := hI (show (settleN cf q (m + 1)).e ≠ 0 by rw [HG.out]; exact hz); have HFIN := hI (HST.out HE.out); have HGQ := hI (show (settleN cf q (m + 1)).q = Rk.jblank p.q cf m ∧ (settleN cf q (m + 1)).e = Rk.jblankC p.q cf m by rw [HG.out]; exact ⟨rfl, rfl⟩); clear hkv hz hv; go_wp2_with fail; refine (CW2.out _ HA.out).mono ?_; rintro e w4 ⟨rfl, hR4, hC4⟩; have HS4 := hI (HA.out.next hR4 (jblank_n _ _ _) hC4); clear hR4 hC4 d0 d1 d2 d3 d4 x0 x1 x2; go_wp2_with fail; refine bodyPost_ret (v := .tuple #[.slice none 0 0, .int .i64 0, .iface T u]) (by simp [results, Tryz.results94, go_sem]) rfl ?_; exact ⟨by rw [HFIN.out, HGQ.out.1]; exact HS4.out.rk.rack, HS4.out.rk.rc, Or.inr ⟨by rw [HFIN.out]; exact HE.out, _, by rw [HFIN.out, HGQ.out.2]; exact HKV.out, rfl⟩⟩
    | true =>
     rw [if_pos hwh] at HG; clear hwh
     by_cases h1q : 1 < rec_.q
     ·rw [if_pos h1q] at HG
      have h1q' : rec_.q > 1 := h1q; have CW2 := hI (fun w' (h1 : CrS lo c q.n p.q cf w.heap.size w w') (v' : Value) (h2 : BkB w.heap.size rec_.b v' w') => jlog_any w' h1.rk.rack cf rec_ v' h2.is h2.slk); have hkv := jlog_kv p.q cf rec_
      by_cases hz : Rk.jlogC p.q cf rec_ = 0
      ·rw [hkv.nil hz] at CW2
       have HE := hI (show (settleN cf q (m + 1)).e = 0 by rw [HG.out]; exact hz); have HGQ := hI (show (settleN cf q (m + 1)).q = Rk.jlog p.q cf rec_ ∧ (settleN cf q (m + 1)).l = p.l ++ [rec_] ∧ (settleN cf q (m + 1)).g = max p.g nw by rw [HG.out]; exact ⟨rfl, rfl, rfl⟩); clear hkv hz; go_wp2_with (at_builtin; refine wpList_append_rec _ rfl (.tmp 43) (.tmp 45) rfl w.heap.size _ ps.length (ps.map encRc).flatten rfl (own_below HRA.out.row (one_below _ _)) _ (encRc (rec_, ax, rec_.b.length, cx)) rfl ?_ rfl (encRc_one _) ?_ ?_ ?_; (intro j u hu; exact new_cells1 _ _ _ _ _ _ hu); omega; (have := HA.out.lt; simp at this ⊢; omega); intro v5 w5 hown5 hg5; have HR5 := hI ((HRA.out.below (one_below _ _)).snoc (rec_, ax, rec_.b.length, cx) (BkB.below ⟨HX.out.is, HX.out.row⟩ (one_below _ _)) hown5 hg5); have HS5 := hI (crS_grew (HA.out.then (one_below _ _)) (HRA.out.below (one_below _ _)) HFAR.out HP.out hg5); have HX5 := hI (rcB_grew (HX.out.below (one_below _ _)) (HRA.out.below (one_below _ _)) HNE.out hg5); obtain ⟨g5, cap5, rfl, -⟩ := own_slice' hown5; clear hown5 hg5 d0 d1 d2 d3 d4 x0 x1 x2; obtain ⟨d0, d1, d2, d3, d4⟩ := HS5.out.cells; obtain ⟨x0, x1, x2⟩ := HX5.out.cells); refine (CW2.out _ HS5.out _ ⟨HX5.out.is, HX5.out.row⟩).mono ?_; rintro e w6 ⟨rfl, hR6, hC6⟩; have HS6 := hI (HS5.out.next hR6 (jlog_n _ _ _) hC6); have HR6 := hI (HR5.out.rc HFAR.out (by have := hC6; rw [HS5.out.rk.nn] at this; exact this)); clear hR6 hC6 d0 d1 d2 d3 d4 x0 x1 x2
       go_wp2_with fail
       go_roundw
       case rel => exact ⟨m + 1, ps ++ [(rec_, ax, rec_.b.length, cx)], hlt, by go_num, by rw [HGQ.out.2.2], HE.out, by rw [HGQ.out.2.1, List.map_append, HPS.out]; rfl, by rw [List.length_append, List.length_singleton]; omega, HR6.out, by rw [HGQ.out.1]; exact HS6.out⟩
       case measure => simp [intOf]; omega
      ·obtain ⟨T, u, hv, hkv⟩ := wrapV_ne hkv hz
       rw [hv] at CW2; have HKV := hI hkv; have HE := hI (show (settleN cf q (m + 1)).e ≠ 0 by rw [HG.out]; exact hz); have HFIN := hI (HST.out HE.out); have HGQ := hI (show (settleN cf q (m + 1)).q = Rk.jlog p.q cf rec_ ∧ (settleN cf q (m + 1)).e = Rk.jlogC p.q cf rec_ by rw [HG.out]; exact ⟨rfl, rfl⟩); clear hkv hz hv; go_wp2_with (at_builtin; refine wpList_append_rec _ rfl (.tmp 43) (.tmp 45) rfl w.heap.size _ ps.length (ps.map encRc).flatten rfl (own_below HRA.out.row (one_below _ _)) _ (encRc (rec_, ax, rec_.b.length, cx)) rfl ?_ rfl (encRc_one _) ?_ ?_ ?_; (intro j u hu; exact new_cells1 _ _ _ _ _ _ hu); omega; (have := HA.out.lt; simp at this ⊢; omega); intro v5 w5 hown5 hg5; have HR5 := hI ((HRA.out.below (one_below _ _)).snoc (rec_, ax, rec_.b.length, cx) (BkB.below ⟨HX.out.is, HX.out.row⟩ (one_below _ _)) hown5 hg5); have HS5 := hI (crS_grew (HA.out.then (one_below _ _)) (HRA.out.below (one_below _ _)) HFAR.out HP.out hg5); have HX5 := hI (rcB_grew (HX.out.below (one_below _ _)) (HRA.out.below (one_below _ _)) HNE.out hg5); obtain ⟨g5, cap5, rfl, -⟩ := own_slice' hown5; clear hown5 hg5 d0 d1 d2 d3 d4 x0 x1 x2; obtain ⟨d0, d1, d2, d3, d4⟩ := HS5.out.cells; obtain ⟨x0, x1, x2⟩ := HX5.out.cells); refine (CW2.out _ HS5.out _ ⟨HX5.out.is, HX5.out.row⟩).mono ?_; rintro e w6 ⟨rfl, hR6, hC6⟩; have HS6 := hI (HS5.out.next hR6 (jlog_n _ _ _) hC6); clear hR6 hC6 d0 d1 d2 d3 d4 x0 x1 x2; go_wp2_with fail
       refine bodyPost_ret (v := .tuple #[.slice none 0 0, .int .i64 0, .iface T u]) (by simp [results, Tryz.results94, go_sem]) rfl ?_; exact ⟨by rw [HFIN.out, HGQ.out.1]; exact HS6.out.rk.rack, HS6.out.rk.rc, Or.inr ⟨by rw [HFIN.out]; exact HE.out, _, by rw [HFIN.out, HGQ.out.2]; exact HKV.out, rfl⟩⟩
     ·rw [if_neg h1q] at HG
      have h1q' : ¬ rec_.q > 1 := h1q; have HE := hI (show (settleN cf q (m + 1)).e = 0 by rw [HG.out]); have HGQ := hI (show (settleN cf q (m + 1)).q = p.q ∧ (settleN cf q (m + 1)).l = p.l ∧ (settleN cf q (m + 1)).g = max p.g nw by rw [HG.out]; exact ⟨rfl, rfl, rfl⟩); go_wp2_with fail
      go_roundw
      case rel => exact ⟨m + 1, ps, hlt, by go_num, by rw [HGQ.out.2.2], HE.out, by rw [HGQ.out.2.1]; exact HPS.out, by omega, HRA.out, by rw [HGQ.out.1]; exact HA.out⟩
      case measure => simp [intOf]; omega
   ·rw [if_neg hz] at HG
    obtain ⟨T, u, hv, hkv⟩ := wrapV_ne hkv hz; have HV := hI hv; have HKV := hI hkv; have HE := hI (show (settleN cf q (m + 1)).e ≠ 0 by rw [HG.out]; exact hz); have HFIN := hI (HST.out HE.out); have HGQ := hI (show (settleN cf q (m + 1)).q = p.q ∧ (settleN cf q (m + 1)).e = jcode p.q cf m by rw [HG.out]; exact ⟨rfl, rfl⟩); clear hkv hv hz; go_wp2_with fail; refine CW.out.mono ?_; rintro e w3 ⟨v3, rfl, ho3, hb3⟩; have HS3 := hI (HS.out.then hb3); obtain ⟨ax, cx, rfl, -⟩ := own_slice' ho3; have HA := hI (HS3.out.then (one_below w3 (.cells (rcA (jrecR p.q cf m).q (jrecR p.q cf m).t (.slice ax (jrecR p.q cf m).b.length cx)) 135))); rw [HV.out]; clear hb3 ho3 d0 d1 d2 d3 d4; generalize jrecR p.q cf m = rec_ at *; go_wp2_with fail; refine bodyPost_ret (v := .tuple #[.slice none 0 0, .int .i64 0, .iface T u]) (by simp [results, Tryz.results94, go_sem]) rfl ?_; exact ⟨by rw [HFIN.out, HGQ.out.1]; exact HA.out.rk.rack, HA.out.rk.rc, Or.inr ⟨by rw [HFIN.out]; exact HE.out, _, by rw [HFIN.out, HGQ.out.2]; exact HKV.out, rfl⟩⟩
  ·obtain rfl : S = m := by omega
   have HS := hI hS; have HR := hI hR; have HE := hI he; have HPS := hI hps; obtain ⟨av, cv, rfl, -⟩ := own_slice' hR.row; clear hS hR he hps; go_wp2_with fail; exact bodyPost_ret (v := .tuple #[.slice av ps.length cv, .int .i64 (settleN cf q S).g, .nilIface]) (by simp [results, Tryz.results94, go_sem]) rfl ⟨HS.out.rk.rack, HS.out.rk.rc, Or.inl ⟨HE.out, _, ps, rfl, HPS.out, HR.out⟩⟩
structure KpR (B : Nat) (w w' : World) : Prop where
 keep : ∀ k cs T fz, B ≤ k → w.heap[k]? = some (.cells cs T fz) → T ≠ 135 → w'.heap[k]? = w.heap[k]?
variable {w1 : World}
theorem KpR.trans {w2 : World} (h : KpR B w w1) (h2 : KpR B w1 w2) : KpR B w w2 := ⟨fun k cs T fz hk h0 hT => (h2.keep k cs T fz hk ((h.keep k cs T fz hk h0 hT).trans h0) hT).trans (h.keep k cs T fz hk h0 hT)⟩
theorem KpR.of_below (h : Below w.heap.size w w') : KpR B w w' := ⟨fun k _ _ _ _ h0 _ => h.block k (Array.getElem?_eq_some_iff.1 h0).1⟩
theorem KpR.of_rc (h : RC c n w w') (hf : Far B c n) : KpR B w w' := ⟨fun k _ _ _ hk h0 _ => h.block k (Array.getElem?_eq_some_iff.1 h0).1 (by have := hf.1; omega) (fun i hi => by have := hf.2 i hi; omega)⟩
theorem KpR.of_only (h : OnlyB b w w') (hk : ∀ k cs T fz, w.heap[k]? = some (.cells cs T fz) → T ≠ 135 → k ≠ b) : KpR B w w' := ⟨fun k cs T fz _ h0 hT => h.block k (Array.getElem?_eq_some_iff.1 h0).1 (hk k cs T fz h0 hT)⟩
def RelRp (lo : Nat) (c : Lc) (q : Rk) (cf : Cf) (b n : Nat) (ps : List RcP) (v : Value) (w0 w : World) (i : Value) (wr : World) : Prop :=
 ∃ (m : Nat) (r : Rk), m ≤ ps.length ∧ i = .int .i64 m ∧ replayL cf q (ps.map (·.1)) = replayL cf r ((ps.map (·.1)).drop m) ∧ CrS lo c n r cf b w0 wr ∧ RecR w0.heap.size ps v wr ∧ KpR w0.heap.size w wr
def ReplayOut (lo : Nat) (c : Lc) (n : Nat) (q : Rk) (cf : Cf) (ps : List RcP) (w0 w : World) (e : Ending) (w' : World) : Prop :=
 ∃ (l : List Rc) (v : Value), e = .returned v ∧ l.Perm (ps.map (·.1)) ∧ RSorted l ∧ RackIn lo w' c (replayL cf q l).1 ∧ KV (replayL cf q l).2 v ∧ RC c n w0 w' ∧ KpR w0.heap.size w w'
theorem replay_any (w0 w : World) (h : RkS lo c n q w0 w) (cf : Cf) (v : Value) (ps : List RcP) (hR : Recs w0.heap.size ps v w) (hl : ps.length ≤ 100) (hf : Far w0.heap.size c n) (hP : c.P < w0.heap.size) : Calls Tryz.prog 95 #[.pointer (some ⟨c.r, 0, none⟩), .agg (cfA cf), v] w (ReplayOut lo c n q cf ps w0 w) := by
 obtain ⟨av, cv, rfl, -⟩ := own_slice' hR.row
 have hsz : w0.heap.size ≤ w.heap.size := h.rc.size
 have H1 := hI (show CrS lo c n q cf w.heap.size w0 (w.alloc (.cells (cfA cf) 24)) from ⟨h.then (one_below _ _), cfB_new w cf, by simp, hf.mono hsz⟩)
 have HR1 := hI (hR.below (one_below w (.cells (cfA cf) 24)))
 have CS := hI (rsort_any HR1.out (by simp; omega) hl)
 have HF := hI hf
 have HP := hI hP
 have HSZ := hI hsz
 have HL := hI hl
 clear h hR hf hP hsz
 go_enter Tryz.func95, Tryz.ntmps95
 go_wp2_with fail
 refine CS.out.mono ?_
 rintro e w2 ⟨rfl, ps', hperm, hsort, hRR, bb, hbb, hob, hkind⟩
 have hlen : ps'.length = ps.length := hperm.length_eq
 have H2 := hI (show CrS lo c n q cf w.heap.size w0 w2 from by
  have h1 := H1.out; refine ⟨⟨h1.rk.rack.onlyB (by rw [h1.rk.nn]; exact HF.out) HP.out hbb hob, h1.rk.nn, hob.rc h1.rk.rc hbb⟩, ?_, Nat.lt_of_lt_of_le h1.lt hob.size, h1.far⟩; have := hob.block _ h1.lt (hkind _ _ _ _ h1.cfg (by decide))
  unfold CfB; rw [this]; exact h1.cfg)
 have HRR := hI hRR
 have HPM := hI (show (ps'.map (·.1)).Perm (ps.map (·.1)) from hperm.map _)
 have HK2 := hI (show KpR w0.heap.size w w2 from (KpR.of_below (one_below w (.cells (cfA cf) 24))).trans (KpR.of_only hob hkind))
 have HSO := hI (show RSorted (ps'.map (·.1)) from List.pairwise_map.2 hsort)
 rw [← hlen] at HL HRR
 rw [← hlen]
 clear hperm hsort hRR hbb hob hkind hlen hl
 have hl := HL.out
 go_wp2_with fail
 go_loopw [16] (fun i wr => RelRp lo c q cf w.heap.size n ps' (.slice av ps'.length cv) w0 w i wr) (fun i _ => ps'.length - (intOf i).toNat)
 case atStart => exact ⟨0, q, Nat.zero_le _, rfl, rfl, H2.out, HRR.out, HK2.out⟩
 case round =>
  obtain ⟨m, r, hm, rfl, hrun, hS, hRx, hK⟩ := hrel; have HK := hI hK; clear hK
  by_cases hlt : m < ps'.length
  ·obtain ⟨bk, cap, hs, hcell, hbk⟩ := hRx.load hlt
   injection hs with hs1 hs2 hs3; subst hs1 hs3; clear hs2; have HS := hI hS; have HRx := hI hRx
   have hdrop : (ps'.map (·.1)).drop m = (ps'.getD m default).1 :: (ps'.map (·.1)).drop (m + 1) := by
    rw [List.drop_eq_getElem_cons (by simpa using hlt)]
    simp [List.getD, hlt]
   have HRN := hI (show replayL cf q (ps'.map (·.1)) = replayL cf r ((ps'.getD m default).1 :: (ps'.map (·.1)).drop (m + 1)) by rw [hrun, hdrop]); have x0 := hcell 0 _ rfl; rw [Nat.add_zero] at x0; have x1 := hcell 1 _ rfl; have x2 := hcell 2 _ rfl; unfold rpV at x2; have HBK := hI hbk; generalize ps'.getD m default = pp at *; obtain ⟨x, ax, nx, cx⟩ := pp; clear hcell hdrop hrun hS hRx hbk; simp only at x0 x1 x2; have HX := hI (rcB_new (B := w0.heap.size) (x := x) (w := wr) HBK.out.is (Nat.le_trans HSZ.out (Nat.le_trans (Nat.le_of_lt (by have := HS.out.lt; exact this)) (Nat.le_refl _))) HBK.out.row); have HA := hI (HS.out.then (one_below wr (.cells (rcA x.q x.t (rpV (x, ax, nx, cx))) 135))); have HRA := hI (HRx.out.below (one_below wr (.cells (rcA x.q x.t (rpV (x, ax, nx, cx))) 135))); unfold rpV at HX HA HRA; simp only at HX HA HRA; obtain ⟨y0, y1, y2⟩ := HX.out.cells; obtain ⟨d0, d1, d2, d3, d4⟩ := HA.out.cells; have HKA := hI (HK.out.trans (KpR.of_below (one_below wr (.cells (rcA x.q x.t (.slice ax nx cx)) 135)))); have HBA := hI (HBK.out.below (one_below wr (.cells (rcA x.q x.t (.slice ax nx cx)) 135))); have CL := hI (tlook_any _ HA.out.rk.rack cf x.t); go_wp2_with fail; generalize wr.alloc (.cells (rcA x.q x.t (.slice ax nx cx)) 135) = wA at *; refine CL.out.mono ?_; rintro e w3 ⟨v3, rfl, hv3, hb3⟩; have HS3 := hI (HA.out.then hb3); have HR3 := hI (HRA.out.below hb3); have HX3 := hI (HX.out.below hb3)
   have HK3 := hI (HKA.out.trans (KpR.of_below hb3)); have HB3 := hI (HBA.out.below hb3); obtain ⟨a3, c3, rfl, -⟩ := hv3.len; clear hb3 hv3 d0 d1 d2 d3 d4 y0 y1 y2 x0 x1 x2; obtain ⟨y0, y1, y2⟩ := HX3.out.cells; obtain ⟨d0, d1, d2, d3, d4⟩ := HS3.out.cells
   by_cases hsk : x.q < tnew r cf x.t
   ·have HN := hI (show replayL cf q (ps'.map (·.1)) = replayL cf r ((ps'.map (·.1)).drop (m + 1)) by
     rw [HRN.out]
     show (if x.q < tnew r cf x.t then _ else _) = _
     rw [if_pos hsk])
    have hsk2 : tnew r cf x.t > x.q := hsk; go_wp2_with fail
    go_roundw
    case rel => exact ⟨m + 1, r, hlt, by go_num, HN.out, HS3.out, HR3.out, HK3.out⟩
    case measure => simp [intOf]; omega
   ·have hsk2 : ¬ tnew r cf x.t > x.q := hsk
    have HN := hI (show replayL cf q (ps'.map (·.1)) = if Rk.tputC r cf x.t x.q x.b = 0 then replayL cf (Rk.tput r cf x.t x.q x.b) ((ps'.map (·.1)).drop (m + 1)) else (Rk.tput r cf x.t x.q x.b, Rk.tputC r cf x.t x.q x.b) by
     rw [HRN.out]
     show (if x.q < tnew r cf x.t then _ else _) = _
     rw [if_neg hsk])
    have CW := hI (fun w' (h1 : CrS lo c n r cf w.heap.size w0 w') (h2 : BkB w0.heap.size x.b (.slice ax nx cx) w') => tput_any w' h1.rk.rack cf x.t x.q x.b (.slice ax nx cx) h2.slk); have hkv := tput_kv r cf x.t x.q x.b
    by_cases hz : Rk.tputC r cf x.t x.q x.b = 0
    ·rw [hkv.nil hz] at CW
     rw [if_pos hz] at HN; clear hkv hz; go_wp2_with fail; refine (CW.out _ HS3.out HB3.out).mono ?_; rintro e w4 ⟨rfl, hR4, hC4⟩; have HS4 := hI (HS3.out.next hR4 (tput_n _ _ _ _ _) hC4)
     have hC4' : RC c n w3 w4 := by have := hC4; rw [HS3.out.rk.nn] at this; exact this
     have HR4 := hI (HR3.out.rc HF.out hC4'); have HK4 := hI (HK3.out.trans (KpR.of_rc hC4' HF.out)); clear hR4 hC4 hC4' d0 d1 d2 d3 d4 y0 y1 y2; go_wp2_with fail
     go_roundw
     case rel => exact ⟨m + 1, _, hlt, by go_num, HN.out, HS4.out, HR4.out, HK4.out⟩
     case measure => simp [intOf]; omega
    ·obtain ⟨T, u, hv, hkv⟩ := wrapV_ne hkv hz
     rw [hv] at CW; rw [if_neg hz] at HN; have HKV := hI hkv; clear hkv hz hv; go_wp2_with fail; refine (CW.out _ HS3.out HB3.out).mono ?_; rintro e w4 ⟨rfl, hR4, hC4⟩; have HS4 := hI (HS3.out.next hR4 (tput_n _ _ _ _ _) hC4)
     have hC4' : RC c n w3 w4 := by have := hC4; rw [HS3.out.rk.nn] at this; exact this
     have HK4 := hI (HK3.out.trans (KpR.of_rc hC4' HF.out)); clear hR4 hC4 hC4' d0 d1 d2 d3 d4 y0 y1 y2; go_wp2_with fail; go_ret; exact ⟨_, _, rfl, HPM.out, HSO.out, by rw [HN.out]; exact HS4.out.rk.rack, by rw [HN.out]; exact HKV.out, HS4.out.rk.rc, HK4.out⟩
  ·obtain rfl : m = ps'.length := by omega
   have HS := hI hS
   have HE := hI (show replayL cf q (ps'.map (·.1)) = (r, 0) by
    rw [hrun, List.drop_eq_nil_of_le (by simp)]; rfl)
   clear hS hrun; go_wp2_with fail; go_ret; exact ⟨_, _, rfl, HPM.out, HSO.out, by rw [HE.out]; exact HS.out.rk.rack, by rw [HE.out]; exact KV.zero, HS.out.rk.rc, HK.out⟩
def OpenOut (lo : Nat) (c : Lc) (q : Rk) (w : World) (e : Ending) (w' : World) : Prop :=
 ∃ (q' : Rk) (e' g : Int), OpensTo q q' e' g ∧ RackIn lo w' c q' ∧ RC c q.n w w' ∧ ((e' = 0 ∧ ∃ b, e = .returned (.tuple #[.pointer (some ⟨b, 0, none⟩), .nilIface]) ∧ w.heap.size ≤ b ∧ VB (fndC q) c.r g false b w') ∨
  (e' ≠ 0 ∧ ∃ v, KV e' v ∧ e = .returned (.tuple #[.pointer none, v])))
theorem opens_off (h : q.off = true) (g : Int) : OpensTo q q 5 g := by unfold OpensTo; rw [if_pos h]; exact ⟨rfl, rfl⟩
theorem opens_no (h : q.off = false) (hf : fndOk q = false) (g : Int) : OpensTo q q 7 g := by unfold OpensTo; rw [if_neg (by rw [h]; decide), if_pos hf]; exact ⟨rfl, rfl⟩
theorem opens_few (h : q.off = false) (hf : fndOk q = true) (hu : ((ups q).length : Int) < (fndC q).k) (g : Int) : OpensTo q q 7 g := by unfold OpensTo; rw [if_neg (by rw [h]; decide), if_neg (by rw [hf]; decide), if_pos hu]; exact ⟨rfl, rfl⟩
theorem opens_settle (h : q.off = false) (hf : fndOk q = true) (hu : ¬ ((ups q).length : Int) < (fndC q).k) (he : (settleN (fndC q) q (fndC q).s.toNat).e ≠ 0) (g : Int) : OpensTo q (settleN (fndC q) q (fndC q).s.toNat).q (settleN (fndC q) q (fndC q).s.toNat).e g := by
 unfold OpensTo; rw [if_neg (by rw [h]; decide), if_neg (by rw [hf]; decide), if_neg hu, if_neg he]; exact ⟨rfl, rfl⟩
theorem opens_replay (h : q.off = false) (hf : fndOk q = true) (hu : ¬ ((ups q).length : Int) < (fndC q).k) (he : (settleN (fndC q) q (fndC q).s.toNat).e = 0) {l : List Rc} (hl : l.Perm (settleN (fndC q) q (fndC q).s.toNat).l) (hs : RSorted l) (hr : (replayL (fndC q) (settleN (fndC q) q (fndC q).s.toNat).q l).2 ≠ 0) (g : Int) :
  OpensTo q (replayL (fndC q) (settleN (fndC q) q (fndC q).s.toNat).q l).1 (replayL (fndC q) (settleN (fndC q) q (fndC q).s.toNat).q l).2 g := by
 unfold OpensTo; rw [if_neg (by rw [h]; decide), if_neg (by rw [hf]; decide), if_neg hu, if_pos he]
 exact ⟨l, hl, hs, rfl, by rw [if_neg hr]⟩
variable {q' : Rk}
theorem opens_yes (h : q.off = false) (hf : fndOk q = true) (hu : ¬ ((ups q).length : Int) < (fndC q).k) (he : (settleN (fndC q) q (fndC q).s.toNat).e = 0) {l : List Rc} (hl : l.Perm (settleN (fndC q) q (fndC q).s.toNat).l) (hs : RSorted l) (hr : (replayL (fndC q) (settleN (fndC q) q (fndC q).s.toNat).q l).2 = 0) (hq : q' = (replayL (fndC q) (settleN (fndC q) q (fndC q).s.toNat).q l).1) {e g : Int} (hE : e = (gensN (fndC q) q' (fndC q).t.toNat).2) (hg : g = max (settleN (fndC q) q (fndC q).s.toNat).g (gensN (fndC q) q' (fndC q).t.toNat).1) :
  OpensTo q q' e g := by
 unfold OpensTo; rw [if_neg (by rw [h]; decide), if_neg (by rw [hf]; decide), if_neg hu, if_pos he]
 exact ⟨l, hl, hs, hq, by rw [if_pos hr]; exact ⟨hE, hg⟩⟩
theorem settle1_n (c : Cf) (p : Stl) (m : Nat) : (settle1 c p m).q.n = p.q.n ∧ (settle1 c p m).l.length ≤ p.l.length + 1 := by
 unfold settle1
 split
 ·split
  ·split
   ·split
    ·exact ⟨jlog_n _ _ _, by show (p.l ++ [_]).length ≤ _; simp⟩
    ·exact ⟨rfl, Nat.le_succ _⟩
   ·exact ⟨jblank_n _ _ _, Nat.le_succ _⟩
  ·exact ⟨rfl, Nat.le_succ _⟩
 ·exact ⟨rfl, Nat.le_succ _⟩
theorem settle_n (c : Cf) (q : Rk) : ∀ m, (settleN c q m).q.n = q.n
 | 0 => rfl
 | m + 1 => (settle1_n c (settleN c q m) m).1.trans (settle_n c q m)
theorem settle_len (c : Cf) (q : Rk) : ∀ m, (settleN c q m).l.length ≤ m
 | 0 => Nat.le_refl _
 | m + 1 => by have h1 := (settle1_n c (settleN c q m) m).2; have h2 := settle_len c q m; show (settle1 c (settleN c q m) m).l.length ≤ m + 1; omega
theorem replay_n (c : Cf) : ∀ (l : List Rc) (q : Rk), (replayL c q l).1.n = q.n
 | [], _ => rfl
 | x :: l, q => by
  unfold replayL
  split
  ·exact replay_n c l q
  ·split
   ·rw [replay_n c l _, tput_n]
   ·exact tput_n _ _ _ _ _
theorem run_build_vol (r : Nat) (cf : Cf) (g : Int) (W : World) : (Instr.build 96 #[(0, .pointer (some ⟨r, 0, none⟩)), (1, .agg (cfA cf)), (2, .int .i64 g)]).run Tryz.prog W = .ok (.agg (volA cf r g false)) W := by kernel_rfl
theorem open_any (w : World) (h : RackIn lo w c q) : Calls Tryz.prog 66 #[.pointer (some ⟨c.r, 0, none⟩)] w (OpenOut lo c q w) := by
 have HR0 := hI h
 have CO := hI (qoff_any w h)
 have CF := hI (sfind_any w h)
 have HFAR := hI (show Far w.heap.size c q.n from h.far)
 have HP := hI h.lt.2.1
 clear h
 cases ho : q.off with
 | true =>
  rw [ho] at CO; have HO := hI (opens_off ho); clear ho
  go_enter Tryz.func66, Tryz.ntmps66
  go_wp2_with fail; refine CO.out.mono ?_; rintro e w1 ⟨rfl, hw⟩; subst hw; go_wp2_with fail; refine bodyPost_ret (v := .tuple #[.pointer none, errV 5]) (by simp [results, Tryz.results66, go_sem, errV]) rfl ?_; exact ⟨q, 5, 0, HO.out 0, HR0.out, RC.refl _ _ _, Or.inr ⟨by decide, _, KV.err (by decide), rfl⟩⟩
 | false =>
  rw [ho] at CO; have HO := hI ho; clear ho; have hkv := ferr_kv q
  cases hf : fndOk q with
  | false =>
   have HN := hI (opens_no HO.out hf); have hc7 : fcodeF q = 7 := if_neg (by rw [hf]; decide); rw [hc7] at hkv; obtain ⟨T, x, hv, hkv⟩ := wrapV_ne hkv (by decide); rw [hv] at CF; have HKV := hI hkv; clear hkv hv hf hc7
   go_enter Tryz.func66, Tryz.ntmps66
   go_wp2_with fail; refine CO.out.mono ?_; rintro e w1 ⟨rfl, hw⟩; subst hw; go_wp2_with fail; refine CF.out.mono ?_; rintro e w1 ⟨rfl, hb1⟩; have HB1 := hI hb1; clear hb1; generalize fndC q = cf at *; go_wp2_with fail; refine bodyPost_ret (v := .tuple #[.pointer none, .iface T x]) (by simp [results, Tryz.results66, go_sem]) rfl ?_; have hb := balloc HB1.out (.cells (cfA cf) 24); exact ⟨q, 7, 0, HN.out 0, HR0.out.below hb, RC.of_below hb, Or.inr ⟨by decide, _, HKV.out, rfl⟩⟩
  | true =>
   have HF := hI hf; have hc0 : fcodeF q = 0 := if_pos hf; rw [hkv.nil hc0] at CF
   have hr : CfRight (fndC q) := by
    have h1 : fndC q = (fnd q q.n).1 := if_pos hf; unfold fndOk at hf; rw [h1]; exact (fits_right (Bool.and_eq_true_iff.1 hf).2).1
   have HCR := hI hr
   have hs4 : (fndC q).s.toNat ≤ 4 := by have := hr.2.2.2.2.2.2.2.2; omega
   clear hkv hf hc0 hr
   go_enter Tryz.func66, Tryz.ntmps66
   go_wp2_with fail; refine CO.out.mono ?_; rintro e w1 ⟨rfl, hw⟩; subst hw; go_wp2_with fail; refine CF.out.mono ?_; rintro e w1 ⟨rfl, hb1⟩; have HB1 := hI hb1; clear hb1; have HCF := hI (show fndC q = fndC q from rfl); generalize hcf : fndC q = cf at HB1 HCR HCF ⊢; rw [hcf] at hs4; have HEQ := hI hcf; clear hcf HCF
   have HC1 := hI (show CrS lo c q.n q cf w1.heap.size w (w1.alloc (.cells (cfA cf) 24)) from
    ⟨(RkS.start HR0.out).then (balloc HB1.out _), cfB_new w1 cf, by simp, HFAR.out.mono HB1.out.size⟩)
   have HBB := hI (show w.heap.size ≤ w1.heap.size from HB1.out.size); obtain ⟨d0, d1, d2, d3, d4⟩ := HC1.out.cells; have CA := hI (avail_any _ HC1.out.rk.rack cf)
   by_cases hu : cf.k ≤ ((ups q).length : Int)
   rotate_left
   ·rw [decide_eq_false hu] at CA
    have HN := hI (opens_few HO.out HF.out (by rw [HEQ.out]; omega)); clear hu; go_wp2_with fail; refine CA.out.mono ?_; rintro e w3 ⟨rfl, hb3⟩; have HC3 := hI (HC1.out.then hb3); clear hb3 d0 d1 d2 d3 d4; go_wp2_with fail; refine bodyPost_ret (v := .tuple #[.pointer none, errV 7]) (by simp [results, Tryz.results66, go_sem, errV]) rfl ?_; exact ⟨q, 7, 0, HN.out 0, HC3.out.rk.rack, HC3.out.rk.rc, Or.inr ⟨by decide, _, KV.err (by decide), rfl⟩⟩
   rw [decide_eq_true hu] at CA; have HU := hI (show (fndC q).k ≤ ((ups q).length : Int) by rw [HEQ.out]; exact hu); clear hu; go_wp2_with fail; refine CA.out.mono ?_; rintro e w3 ⟨rfl, hb3⟩; have HC3 := hI (HC1.out.then hb3); clear hb3 d0 d1 d2 d3 d4; obtain ⟨d0, d1, d2, d3, d4⟩ := HC3.out.cells; have CS := hI (settle_any w3 HC3.out.rk.rack cf HCR.out); go_wp2_with fail; refine CS.out.mono ?_; rintro e w4 ⟨hr4, hc4, ⟨he4, v4, ps4, rfl, hps4, hR4⟩ | ⟨he4, v4, hkv4, rfl⟩⟩
   rotate_left
   ·obtain ⟨T, x, rfl, hkv⟩ := wrapV_ne hkv4 he4
    have HKV := hI hkv; have HN := hI (opens_settle HO.out HF.out (Int.not_lt.2 HU.out) (by rw [HEQ.out]; exact he4)); rw [HEQ.out] at HN; have HC4 := hI (HC3.out.nextE hr4 (settle_n ..) hc4); have HE := hI he4; clear hkv hkv4 hr4 hc4 he4 d0 d1 d2 d3 d4; go_wp2_with fail; refine bodyPost_ret (v := .tuple #[.pointer none, .iface T x]) (by simp [results, Tryz.results66, go_sem]) rfl ?_; exact ⟨_, _, 0, HN.out 0, HC4.out.rk.rack, HC4.out.rk.rc, Or.inr ⟨HE.out, _, HKV.out, rfl⟩⟩
   have HE4 := hI he4; have HC4 := hI (HC3.out.nextE hr4 (settle_n ..) hc4); have HPS := hI hps4
   have HL4 := hI (show ps4.length ≤ 100 by
    have := congrArg List.length hps4; rw [List.length_map] at this; have := settle_len cf q cf.s.toNat
    omega)
   have HR4 := hI (show Recs w.heap.size ps4 v4 w4 from ⟨own_base hR4.row HC3.out.rk.rc.size, fun p hp => ⟨(hR4.each p hp).is, own_base (hR4.each p hp).row HC3.out.rk.rc.size⟩⟩); obtain ⟨a4, c4, rfl, -⟩ := own_slice' hR4.row; clear he4 hr4 hc4 hps4 hR4 d0 d1 d2 d3 d4; obtain ⟨d0, d1, d2, d3, d4⟩ := HC4.out.cells; have CR := hI (replay_any w w4 HC4.out.rk cf _ ps4 HR4.out HL4.out HFAR.out HP.out); go_wp2_with fail; refine CR.out.mono ?_; rintro e w5 ⟨l, v5, rfl, hl5, hs5, hr5, hkv5, hc5, hk5⟩; rw [HPS.out] at hl5; have hb5 := hk5.keep w1.heap.size _ _ _ HBB.out HC4.out.cfg (by decide)
   have HC5 := hI (show CrS lo c q.n (replayL cf (settleN cf q cf.s.toNat).q l).1 cf w1.heap.size w w5 from
    ⟨⟨hr5, by rw [replay_n, settle_n], hc5⟩, hb5.trans HC4.out.cfg, (Array.getElem?_eq_some_iff.1 (hb5.trans HC4.out.cfg)).1, HC4.out.far⟩)
   have HL5 := hI hl5; have HS5 := hI hs5; clear hl5 hs5 hr5 hc5 hk5 hb5 d0 d1 d2 d3 d4
   by_cases hz5 : (replayL cf (settleN cf q cf.s.toNat).q l).2 = 0
   rotate_left
   ·obtain ⟨T, x, rfl, hkv⟩ := wrapV_ne hkv5 hz5
    have HKV := hI hkv; have HN := hI (opens_replay HO.out HF.out (Int.not_lt.2 HU.out) (by rw [HEQ.out]; exact HE4.out) (l := l) (by rw [HEQ.out]; exact HL5.out) HS5.out (by rw [HEQ.out]; exact hz5)); rw [HEQ.out] at HN; have HE := hI hz5; clear hkv hkv5 hz5; go_wp2_with fail; refine bodyPost_ret (v := .tuple #[.pointer none, .iface T x]) (by simp [results, Tryz.results66, go_sem]) rfl ?_; exact ⟨_, _, 0, HN.out 0, HC5.out.rk.rack, HC5.out.rk.rc, Or.inr ⟨HE.out, _, HKV.out, rfl⟩⟩
   obtain rfl := hkv5.nil hz5; have HZ5 := hI hz5; clear hkv5 hz5; obtain ⟨d0, d1, d2, d3, d4⟩ := HC5.out.cells; have CG := hI (gens_any w5 HC5.out.rk.rack cf HCR.out)
   obtain ⟨r5, hr5⟩ : ∃ r5, r5 = (replayL cf (settleN cf q cf.s.toNat).q l).1 := ⟨_, rfl⟩
   rw [← hr5] at HC5 CG; have HR5 := hI hr5; clear hr5; go_wp2_with fail; refine CG.out.mono ?_; rintro e w6 ⟨hb6, ⟨he6, rfl⟩ | ⟨he6, v6, hkv6, rfl⟩⟩
   ·have HC6 := hI (HC5.out.then hb6)
    have HE6 := hI he6; clear hb6 he6 d0 d1 d2 d3 d4; obtain ⟨d0, d1, d2, d3, d4⟩ := HC6.out.cells
    have hbv := fun W => run_build_vol c.r cf (max (settleN cf q cf.s.toNat).g (gensN cf r5 cf.t.toNat).1) W
    unfold volA cfA at hbv; go_wp2_with fail; refine bodyPost_ret (v := .tuple #[.pointer (some ⟨w6.heap.size, 0, none⟩), .nilIface]) (by simp [results, Tryz.results66, go_sem]) rfl ?_; have hop : OpensTo q r5 0 (max (settleN cf q cf.s.toNat).g (gensN cf r5 cf.t.toNat).1) := opens_yes HO.out HF.out (Int.not_lt.2 HU.out) (by rw [HEQ.out]; exact HE4.out) (l := l) (by rw [HEQ.out]; exact HL5.out) HS5.out (by rw [HEQ.out]; exact HZ5.out) (by rw [HEQ.out]; exact HR5.out) (by rw [HEQ.out]; exact HE6.out.symm) (by rw [HEQ.out]); have hb7 := one_below w6 (.cells (volA cf c.r (max (settleN cf q cf.s.toNat).g (gensN cf r5 cf.t.toNat).1) false) 96); exact ⟨r5, 0, _, hop, HC6.out.rk.rack.below hb7, HC6.out.rk.rc.trans (RC.of_below hb7), Or.inl ⟨rfl, _, rfl, HC6.out.rk.rc.size, by rw [HEQ.out]; exact heap_alloc_new _ _⟩⟩
   ·obtain ⟨T, x, rfl, hkv⟩ := wrapV_ne hkv6 he6
    have HKV := hI hkv; have HE6 := hI he6; have HC6 := hI (HC5.out.then hb6); clear hkv hkv6 he6 hb6 d0 d1 d2 d3 d4; go_wp2_with fail; refine bodyPost_ret (v := .tuple #[.pointer none, .iface T x]) (by simp [results, Tryz.results66, go_sem]) rfl ?_; have hop : OpensTo q r5 (gensN cf r5 cf.t.toNat).2 (max (settleN cf q cf.s.toNat).g (gensN cf r5 cf.t.toNat).1) := opens_yes HO.out HF.out (Int.not_lt.2 HU.out) (by rw [HEQ.out]; exact HE4.out) (l := l) (by rw [HEQ.out]; exact HL5.out) HS5.out (by rw [HEQ.out]; exact HZ5.out) (by rw [HEQ.out]; exact HR5.out) (by rw [HEQ.out]) (by rw [HEQ.out]); exact ⟨r5, _, _, hop, HC6.out.rk.rack, HC6.out.rk.rc, Or.inr ⟨HE6.out, _, HKV.out, rfl⟩⟩
theorem vopen_any (w : World) (h : RackIn lo w c q) : Calls Tryz.prog 38 #[.pointer (some ⟨c.r, 0, none⟩)] w (OpenOut lo c q w) := by
 have CO := hI (open_any w h)
 clear h
 go_enter Tryz.func38, Tryz.ntmps38
 go_wp2_with fail
 refine CO.out.mono ?_
 rintro e w1 ⟨q', e', g, h1, h2, h3, ⟨h4, b, rfl, h5, h6⟩ | ⟨h4, v, hkv, rfl⟩⟩
 ·go_wp2_with fail
  refine (wrap_nil _ _ _).mono ?_; rintro e w2 ⟨rfl, rfl⟩; go_wp2_with fail; refine bodyPost_ret (v := .tuple #[.pointer (some ⟨b, 0, none⟩), .nilIface]) (by simp [results, Tryz.results38, go_sem]) rfl ?_; exact ⟨q', e', g, h1, h2, h3, Or.inl ⟨h4, b, rfl, h5, h6⟩⟩
 ·go_wp2_with fail
  refine (wrap_kv hkv _ _ _).mono ?_; rintro e w2 ⟨⟨v', rfl, hkv'⟩, rfl⟩; go_wp2_with fail; refine bodyPost_ret (v := .tuple #[.pointer none, v']) (by simp [results, Tryz.results38, go_sem]) rfl ?_; exact ⟨q', e', g, h1, h2, h3, Or.inr ⟨h4, v', hkv', rfl⟩⟩
def SxV (cf : Cf) (r : Nat) (g : Int) (down : Bool) (b : Nat) (x : Rc) (v0 : Value) (xb : Nat) (w : World) : Prop := VB cf r g down b w ∧ w.heap[xb]? = some (.cells (rcA x.q x.t v0) 135 (0, 0))
variable {g : Int} {v0 : Value} {xb : Nat}
theorem SxV.xcell {cf : Cf} {r : Nat} {down : Bool} (h : SxV cf r g down b x v0 xb w) (i : Nat) : w.cell? ⟨xb, i, none⟩ = (rcA x.q x.t v0)[i]? := by rw [cell_of_row _ xb i _ _ (0, 0) h.2]
structure StS (lo : Nat) (c : Lc) (n : Nat) (q : Rk) (cf : Cf) (g : Int) (down : Bool) (b : Nat) (x : Rc) (v0 : Value) (B xb : Nat) (w0 w : World) : Prop where
 rk : RkS lo c n q w0 w
 sx : SxV cf c.r g down b x v0 xb w
 farb : Far b c n
 bk : BkB B x.b v0 w
 farB : Far B c n
 farx : Far xb c n
theorem StS.then {cf : Cf} {down : Bool} (h : StS lo c n q cf g down b x v0 B xb w0 w) (hb : Below w.heap.size w w') : StS lo c n q cf g down b x v0 B xb w0 w' :=
 ⟨h.rk.then hb, ⟨h.sx.1.below hb, (hb.block _ (Array.getElem?_eq_some_iff.1 h.sx.2).1).trans h.sx.2⟩, h.farb, h.bk.below hb, h.farB, h.farx⟩
theorem StS.drew {cf : Cf} {down : Bool} (h : StS lo c n q cf g down b x v0 B xb w0 w) : StS lo c n q cf g down b x v0 B xb w0 w.drew := h.then ((Below.refl _ _).drew)
theorem StS.next {cf : Cf} {down : Bool} (h : StS lo c n q cf g down b x v0 B xb w0 w) (hr : RackIn lo w' c q') (hn : q'.n = q.n) (hc : RC c q.n w w') : StS lo c n q' cf g down b x v0 B xb w0 w' := by
 have hc' : RC c n w w' := by have := hc; rw [h.rk.nn] at this; exact this
 exact ⟨h.rk.next hr hn hc, ⟨h.sx.1.rc h.farb hc', (hc'.block _ (Array.getElem?_eq_some_iff.1 h.sx.2).1 (by have := h.farx.1; omega) (fun i hi => by have := h.farx.2 i hi; omega)).trans h.sx.2⟩, h.farb, h.bk.rc h.farB hc', h.farB, h.farx⟩
theorem vstore_any (w : World) (h : RackIn lo w c q) {cf : Cf} {b : Nat} {g : Int} {down : Bool} (hv : VB cf c.r g down b w) (hfb : Far b c q.n) (x : Rc) (v0 : Value) {B : Nat} (hb : BkB B x.b v0 w) (hfB : Far B c q.n) :
  Calls Tryz.prog 78 #[.pointer (some ⟨b, 0, none⟩), .agg (rcA x.q x.t v0)] w (NextE lo c q.n (storeS cf q x) (storeC cf q x) w) := by
 obtain ⟨a0, c0, rfl, -⟩ := own_slice' hb.row
 have H1 := hI (show StS lo c q.n q cf g down b x (.slice a0 x.b.length c0) B w.heap.size w (w.alloc (.cells (rcA x.q x.t (.slice a0 x.b.length c0)) 135)) from
  ⟨(RkS.start h).then (one_below _ _), ⟨hv.below (one_below _ _), heap_alloc_new _ _⟩, hfb, hb.below (one_below _ _), hfB, h.far⟩)
 have CL := hI (fun w' (h' : StS lo c q.n q cf g down b x (.slice a0 x.b.length c0) B w.heap.size w w') => jlog_any w' h'.rk.rack cf x _ h'.bk.is h'.bk.slk)
 have CT := hI (fun (r : Rk) w' (h' : StS lo c q.n r cf g down b x (.slice a0 x.b.length c0) B w.heap.size w w') => tput_any w' h'.rk.rack cf x.t x.q x.b _ h'.bk.slk)
 have hkv := jlog_kv q cf x
 have HSS := hI (show storeS cf q x = (if Rk.jlogC q cf x = 0 then Rk.tput (Rk.jlog q cf x) cf x.t x.q x.b else Rk.jlog q cf x) ∧ storeC cf q x = (if Rk.jlogC q cf x = 0 then Rk.tputC (Rk.jlog q cf x) cf x.t x.q x.b else Rk.jlogC q cf x) from ⟨rfl, rfl⟩)
 clear h hv hfb hb hfB
 go_enter Tryz.func78, Tryz.ntmps78
 go_wp2_with fail
 generalize w.alloc (.cells (rcA x.q x.t (.slice a0 x.b.length c0)) 135) = w1 at *
 generalize hbb : w.heap.size = xb at *
 have h2 := H1.out.drew.sx
 have d0 : ∀ w', SxV cf c.r g down b x (.slice a0 x.b.length c0) xb w' → w'.cell? ⟨b, 0, none⟩ = some (.pointer (some ⟨c.r, 0, none⟩)) := fun w' h => h.1.cell 0
 have d1 : ∀ w', SxV cf c.r g down b x (.slice a0 x.b.length c0) xb w' → w'.cell? ⟨b, 1, none⟩ = some (.int .i64 cf.id) := fun w' h => h.1.cell 1
 have d2 : ∀ w', SxV cf c.r g down b x (.slice a0 x.b.length c0) xb w' → w'.cell? ⟨b, 2, none⟩ = some (.int .i64 cf.k) := fun w' h => h.1.cell 2
 have d3 : ∀ w', SxV cf c.r g down b x (.slice a0 x.b.length c0) xb w' → w'.cell? ⟨b, 3, none⟩ = some (.int .i64 cf.n) := fun w' h => h.1.cell 3
 have d4 : ∀ w', SxV cf c.r g down b x (.slice a0 x.b.length c0) xb w' → w'.cell? ⟨b, 4, none⟩ = some (.int .i64 cf.t) := fun w' h => h.1.cell 4
 have d5 : ∀ w', SxV cf c.r g down b x (.slice a0 x.b.length c0) xb w' → w'.cell? ⟨b, 5, none⟩ = some (.int .i64 cf.s) := fun w' h => h.1.cell 5
 have d6 : ∀ w', SxV cf c.r g down b x (.slice a0 x.b.length c0) xb w' → w'.cell? ⟨b, 6, none⟩ = some (.int .i64 g) := fun w' h => h.1.cell 6
 have d7 : ∀ w', SxV cf c.r g down b x (.slice a0 x.b.length c0) xb w' → w'.cell? ⟨b, 7, none⟩ = some (.bool down) := fun w' h => h.1.cell 7
 have x0 : ∀ w', SxV cf c.r g down b x (.slice a0 x.b.length c0) xb w' → w'.cell? ⟨xb, 0, none⟩ = some (.int .i64 x.q) := fun w' h => h.xcell 0
 have x1 : ∀ w', SxV cf c.r g down b x (.slice a0 x.b.length c0) xb w' → w'.cell? ⟨xb, 1, none⟩ = some (.int .i64 x.t) := fun w' h => h.xcell 1
 have x2 : ∀ w', SxV cf c.r g down b x (.slice a0 x.b.length c0) xb w' → w'.cell? ⟨xb, 2, none⟩ = some (.slice a0 x.b.length c0) := fun w' h => h.xcell 2
 by_cases hz : Rk.jlogC q cf x = 0
 ·rw [hkv.nil hz] at CL
  rw [if_pos hz, if_pos hz] at HSS; clear hkv hz; refine wp_region_noPanic ?_; refine wp_region_held_drew (S := (fun w' => SxV cf c.r g down b x (.slice a0 x.b.length c0) xb w')) (by kernel_rfl) h2 (fun hHeld => ?_); refine hT 0 ⟨some 6, _, _, _, _, _⟩ rfl hHeld ?_; simp only [hP]; refine hT 1 ⟨some 7, _, _, _, _, _⟩ rfl hHeld ?_; simp only [hP]; refine hT 2 ⟨some 8, _, _, _, _, _⟩ rfl hHeld ?_; simp only [hP]; refine hT 3 ⟨some 9, _, _, _, _, _⟩ rfl hHeld ?_; simp only [hP]; refine hT 4 ⟨some 10, _, _, _, _, _⟩ rfl hHeld ?_; simp only [hP]; refine hT 5 ⟨some 11, _, _, _, _, _⟩ rfl hHeld ?_; simp only [hP]; refine hT 6 ⟨some 12, _, _, _, _, _⟩ rfl hHeld ?_; simp only [hP]; refine hT 7 ⟨some 13, _, _, _, _, _⟩ rfl hHeld ?_; simp only [hP]; refine hT 8 ⟨some 14, _, _, _, _, _⟩ rfl hHeld ?_; simp only [hP]
  refine hC 9 rfl fun K hK => ?_
  go_simp; refine (CL.out _ H1.out.drew).mono ?_; rintro e w5 ⟨rfl, hR5, hC5⟩; have HH5 := hI (H1.out.drew.next hR5 (jlog_n _ _ _) hC5); have h5 := HH5.out.sx; clear hR5 hC5; refine hK.out _ _ h5 (fun _ => ?_); clear hK K; refine hT 10 ⟨some 5, _, _, _, _, _⟩ rfl h5 ?_; simp only [hP]; refine wpAnyH_done (by kernel_rfl) ?_ _; refine NoPanic.normal ?_; go_wp2_with fail; have hkv := tput_kv (Rk.jlog q cf x) cf x.t x.q x.b; have h2' := HH5.out.drew.sx
  by_cases hz : Rk.tputC (Rk.jlog q cf x) cf x.t x.q x.b = 0
  ·have HV := hI (hkv.nil hz)
   have HZ := hI hz; clear hkv hz; refine wp_region_noPanic ?_; refine wp_region_held_drew (S := (fun w' => SxV cf c.r g down b x (.slice a0 x.b.length c0) xb w')) (by kernel_rfl) h2' (fun hHeld2 => ?_); refine hT 0 ⟨some 19, _, _, _, _, _⟩ rfl hHeld2 ?_; simp only [hP]; refine hT 1 ⟨some 20, _, _, _, _, _⟩ rfl hHeld2 ?_; simp only [hP]; refine hT 2 ⟨some 21, _, _, _, _, _⟩ rfl hHeld2 ?_; simp only [hP]; refine hT 3 ⟨some 22, _, _, _, _, _⟩ rfl hHeld2 ?_; simp only [hP]; refine hT 4 ⟨some 23, _, _, _, _, _⟩ rfl hHeld2 ?_; simp only [hP]; refine hT 5 ⟨some 24, _, _, _, _, _⟩ rfl hHeld2 ?_; simp only [hP]; refine hT 6 ⟨some 25, _, _, _, _, _⟩ rfl hHeld2 ?_; simp only [hP]; refine hT 7 ⟨some 26, _, _, _, _, _⟩ rfl hHeld2 ?_; simp only [hP]; refine hT 8 ⟨some 27, _, _, _, _, _⟩ rfl hHeld2 ?_; simp only [hP]; refine hT 9 ⟨some 28, _, _, _, _, _⟩ rfl hHeld2 ?_; simp only [hP]; refine hT 10 ⟨some 29, _, _, _, _, _⟩ rfl hHeld2 ?_; simp only [hP]; refine hT 11 ⟨some 30, _, _, _, _, _⟩ rfl hHeld2 ?_; simp only [hP]; refine hT 12 ⟨some 31, _, _, _, _, _⟩ rfl hHeld2 ?_; simp only [hP]; refine hT 13 ⟨some 32, _, _, _, _, _⟩ rfl hHeld2 ?_; simp only [hP]
   refine hC 14 rfl fun K hK => ?_
   go_simp; have CT' := CT.out _ _ HH5.out.drew; rw [HV.out] at CT'; refine CT'.mono ?_; rintro e w6 ⟨rfl, hR6, hC6⟩; have HH6 := hI (HH5.out.drew.next hR6 (tput_n _ _ _ _ _) hC6); have h6 := HH6.out.sx; clear hR6 hC6 CT'; refine hK.out _ _ h6 (fun _ => ?_); clear hK K; refine hT 15 ⟨some 4, _, _, _, _, _⟩ rfl h6 ?_; simp only [hP]; refine wpAnyH_done (by kernel_rfl) ?_ _; refine NoPanic.normal ?_; clear d0 d1 d2 d3 d4 d5 d6 d7 x0 x1 x2; go_wp2_with fail; rw [HSS.out.1, HSS.out.2, HZ.out]; go_ret; exact ⟨_, rfl, KV.zero, HH6.out.rk.rack, HH6.out.rk.rc⟩
  ·obtain ⟨T, u, hv, hkv⟩ := wrapV_ne hkv hz
   have HV := hI hv; have HKV := hI hkv; clear hkv hz hv; refine wp_region_noPanic ?_; refine wp_region_held_drew (S := (fun w' => SxV cf c.r g down b x (.slice a0 x.b.length c0) xb w')) (by kernel_rfl) h2' (fun hHeld2 => ?_); refine hT 0 ⟨some 19, _, _, _, _, _⟩ rfl hHeld2 ?_; simp only [hP]; refine hT 1 ⟨some 20, _, _, _, _, _⟩ rfl hHeld2 ?_; simp only [hP]; refine hT 2 ⟨some 21, _, _, _, _, _⟩ rfl hHeld2 ?_; simp only [hP]; refine hT 3 ⟨some 22, _, _, _, _, _⟩ rfl hHeld2 ?_; simp only [hP]; refine hT 4 ⟨some 23, _, _, _, _, _⟩ rfl hHeld2 ?_; simp only [hP]; refine hT 5 ⟨some 24, _, _, _, _, _⟩ rfl hHeld2 ?_; simp only [hP]; refine hT 6 ⟨some 25, _, _, _, _, _⟩ rfl hHeld2 ?_; simp only [hP]; refine hT 7 ⟨some 26, _, _, _, _, _⟩ rfl hHeld2 ?_; simp only [hP]; refine hT 8 ⟨some 27, _, _, _, _, _⟩ rfl hHeld2 ?_; simp only [hP]; refine hT 9 ⟨some 28, _, _, _, _, _⟩ rfl hHeld2 ?_; simp only [hP]; refine hT 10 ⟨some 29, _, _, _, _, _⟩ rfl hHeld2 ?_; simp only [hP]; refine hT 11 ⟨some 30, _, _, _, _, _⟩ rfl hHeld2 ?_; simp only [hP]; refine hT 12 ⟨some 31, _, _, _, _, _⟩ rfl hHeld2 ?_; simp only [hP]; refine hT 13 ⟨some 32, _, _, _, _, _⟩ rfl hHeld2 ?_; simp only [hP]
   refine hC 14 rfl fun K hK => ?_
   go_simp; have CT' := CT.out _ _ HH5.out.drew; rw [HV.out] at CT'; refine CT'.mono ?_; rintro e w6 ⟨rfl, hR6, hC6⟩; have HH6 := hI (HH5.out.drew.next hR6 (tput_n _ _ _ _ _) hC6); have h6 := HH6.out.sx; clear hR6 hC6 CT'; refine hK.out _ _ h6 (fun _ => ?_); clear hK K; refine hT 15 ⟨some 4, _, _, _, _, _⟩ rfl h6 ?_; simp only [hP]; refine wpAnyH_done (by kernel_rfl) ?_ _; refine NoPanic.normal ?_; clear d0 d1 d2 d3 d4 d5 d6 d7 x0 x1 x2; go_wp2_with fail; rw [HSS.out.1, HSS.out.2]; go_ret; exact ⟨_, rfl, HKV.out, HH6.out.rk.rack, HH6.out.rk.rc⟩
 ·obtain ⟨T, u, hv, hkv⟩ := wrapV_ne hkv hz
  rw [hv] at CL; rw [if_neg hz, if_neg hz] at HSS; have HKV := hI hkv; clear hkv hz hv; refine wp_region_noPanic ?_; refine wp_region_held_drew (S := (fun w' => SxV cf c.r g down b x (.slice a0 x.b.length c0) xb w')) (by kernel_rfl) h2 (fun hHeld => ?_); refine hT 0 ⟨some 6, _, _, _, _, _⟩ rfl hHeld ?_; simp only [hP]; refine hT 1 ⟨some 7, _, _, _, _, _⟩ rfl hHeld ?_; simp only [hP]; refine hT 2 ⟨some 8, _, _, _, _, _⟩ rfl hHeld ?_; simp only [hP]; refine hT 3 ⟨some 9, _, _, _, _, _⟩ rfl hHeld ?_; simp only [hP]; refine hT 4 ⟨some 10, _, _, _, _, _⟩ rfl hHeld ?_; simp only [hP]; refine hT 5 ⟨some 11, _, _, _, _, _⟩ rfl hHeld ?_; simp only [hP]; refine hT 6 ⟨some 12, _, _, _, _, _⟩ rfl hHeld ?_; simp only [hP]; refine hT 7 ⟨some 13, _, _, _, _, _⟩ rfl hHeld ?_; simp only [hP]; refine hT 8 ⟨some 14, _, _, _, _, _⟩ rfl hHeld ?_; simp only [hP]
  refine hC 9 rfl fun K hK => ?_
  go_simp; refine (CL.out _ H1.out.drew).mono ?_; rintro e w5 ⟨rfl, hR5, hC5⟩; have HH5 := hI (H1.out.drew.next hR5 (jlog_n _ _ _) hC5); have h5 := HH5.out.sx; clear hR5 hC5; refine hK.out _ _ h5 (fun _ => ?_); clear hK K; refine hT 10 ⟨some 5, _, _, _, _, _⟩ rfl h5 ?_; simp only [hP]; refine wpAnyH_done (by kernel_rfl) ?_ _; refine NoPanic.normal ?_; clear d0 d1 d2 d3 d4 d5 d6 d7 x0 x1 x2; go_wp2_with fail; rw [HSS.out.1, HSS.out.2]; go_ret; exact ⟨_, rfl, HKV.out, HH5.out.rk.rack, HH5.out.rk.rc⟩
def CommitOut (lo : Nat) (c : Lc) (q : Rk) (cf : Cf) (g : Int) (down : Bool) (b : Nat) (s : Int) (bs : List (List UInt8)) (w : World) (e : Ending) (w' : World) : Prop :=
 (refused cf q down g s bs ≠ 0 ∧ ∃ v, KV (refused cf q down g s bs) v ∧ e = .returned v ∧ RackIn lo w' c q ∧ VB cf c.r g down b w' ∧ Below w.heap.size w w') ∨
 (refused cf q down g s bs = 0 ∧ ∃ v, KV (if storeC cf q (cRec g s bs) = 0 then 0 else 5) v ∧ e = .returned v ∧ RackIn lo w' c (storeS cf q (cRec g s bs)) ∧ VB cf c.r (g + 1) (decide (storeC cf q (cRec g s bs) ≠ 0)) b w' ∧ RCV c q.n b w w')
theorem storeS_n (c : Cf) (q : Rk) (x : Rc) : (storeS c q x).n = q.n := by
 unfold storeS; split
 ·rw [tput_n, jlog_n]
 ·exact jlog_n _ _ _
variable {s : Int}
theorem refused_bad {cf : Cf} {down : Bool} (h : s < 0 ∨ cf.t ≤ s ∨ (bs.length : Int) ≠ cf.k) : refused cf q down g s bs = 1 := by
 unfold refused
 rw [if_pos]
 unfold badArgs
 rcases h with h | h | h
 ·rw [decide_eq_true h]; rfl
 ·rw [decide_eq_true h]; simp
 ·rw [decide_eq_false h]; simp
theorem refused_ok {cf : Cf} {down : Bool} (h1 : ¬ s < 0) (h2 : ¬ cf.t ≤ s) (h3 : (bs.length : Int) = cf.k) : refused cf q down g s bs = if (down || q.off) = true then 5 else if ((ups q).length : Int) < cf.k then 7 else if g = 1152921504606846976 then 8 else tcode q cf s := by
 unfold refused
 rw [if_neg]
 unfold badArgs
 rw [decide_eq_false h1, decide_eq_false h2, decide_eq_true h3]; decide
theorem commit_any (w : World) (h : RackIn lo w c q) {cf : Cf} {b : Nat} {g : Int} {down : Bool} (hv : VB cf c.r g down b w) (hfb : FarV b c q.n) (hg : 1 ≤ g ∧ g ≤ 1152921504606846976) (s : Int) (bs : List (List UInt8)) (v0 : Value) {B : Nat} (hb : BkB B bs v0 w) (hfB : Far B c q.n) :
  Calls Tryz.prog 49 #[.pointer (some ⟨b, 0, none⟩), .int .i64 s, v0] w (CommitOut lo c q cf g down b s bs w) := by
 obtain ⟨a0, c0, rfl, -⟩ := own_slice' hb.row
 have HR := hI h
 have HV0 := hI hv
 obtain ⟨c0_, c1_, c2_, c3_, c4_, c5_, c6_, c7_⟩ := hv.cells
 have CO := hI (qoff_any w h)
 have HFB := hI hfb
 have HBK := hI hb
 have HFBB := hI hfB
 have hlt := hv.lt
 have HLT := hI hlt
 by_cases hbad : s < 0 ∨ cf.t ≤ s ∨ (bs.length : Int) ≠ cf.k
 ·have HREF := hI (refused_bad (q := q) (down := down) (g := g) hbad)
  clear h hv hfb hb hfB hlt
  by_cases b1 : s < 0
  ·clear hbad
   go_enter Tryz.func49, Tryz.ntmps49
   go_wp2_with fail; refine bodyPost_ret (v := errV 1) (by simp [results, Tryz.results49, go_sem, errV]) rfl ?_; exact Or.inl ⟨by rw [HREF.out]; decide, _, by rw [HREF.out]; exact KV.err (by decide), rfl, HR.out, HV0.out, Below.refl _ _⟩
  ·by_cases b2 : cf.t ≤ s
   ·have b2' : s ≥ cf.t := b2
    clear hbad
    go_enter Tryz.func49, Tryz.ntmps49
    go_wp2_with fail; refine bodyPost_ret (v := errV 1) (by simp [results, Tryz.results49, go_sem, errV]) rfl ?_; exact Or.inl ⟨by rw [HREF.out]; decide, _, by rw [HREF.out]; exact KV.err (by decide), rfl, HR.out, HV0.out, Below.refl _ _⟩
   ·have b2' : ¬ s ≥ cf.t := b2
    have b3 : ¬ (bs.length : Int) = cf.k := by
     rcases hbad with h1 | h1 | h1
     ·exact absurd h1 b1
     ·exact absurd h1 b2
     ·exact h1
    have b3' : ((bs.length : Int) != cf.k) = true := by simpa using b3
    clear hbad
    go_enter Tryz.func49, Tryz.ntmps49
    go_wp2_with fail; refine bodyPost_ret (v := errV 1) (by simp [results, Tryz.results49, go_sem, errV]) rfl ?_; exact Or.inl ⟨by rw [HREF.out]; decide, _, by rw [HREF.out]; exact KV.err (by decide), rfl, HR.out, HV0.out, Below.refl _ _⟩
 have b1 : ¬ s < 0 := fun e => hbad (Or.inl e)
 have b2 : ¬ cf.t ≤ s := fun e => hbad (Or.inr (Or.inl e))
 have b3 : (bs.length : Int) = cf.k := Classical.byContradiction fun e => hbad (Or.inr (Or.inr e))
 have b2' : ¬ s ≥ cf.t := b2
 have b3' : ((bs.length : Int) != cf.k) = false := by simpa using b3
 have HREF := hI (refused_ok (q := q) (down := down) (g := g) b1 b2 b3)
 have B3 := hI b3
 clear hbad b3
 cases hdn : down with
 | true =>
  rw [hdn] at c7_ HREF HV0; rw [show (true || q.off) = true from rfl, if_pos rfl] at HREF; clear h hv hfb hb hfB hdn hlt
  go_enter Tryz.func49, Tryz.ntmps49
  go_wp2_with fail; refine bodyPost_ret (v := errV 5) (by simp [results, Tryz.results49, go_sem, errV]) rfl ?_; exact Or.inl ⟨by rw [HREF.out]; decide, _, by rw [HREF.out]; exact KV.err (by decide), rfl, HR.out, HV0.out, Below.refl _ _⟩
 | false =>
  rw [hdn] at c7_ HREF HV0; rw [show (false || q.off) = q.off from rfl] at HREF; clear hdn
  cases hof : q.off with
  | true =>
   rw [hof] at CO HREF; rw [if_pos rfl] at HREF; clear h hv hfb hb hfB hof hlt
   go_enter Tryz.func49, Tryz.ntmps49
   go_wp2_with fail; refine CO.out.mono ?_; rintro e w1 ⟨rfl, hw⟩; subst hw; go_wp2_with fail; refine bodyPost_ret (v := errV 5) (by simp [results, Tryz.results49, go_sem, errV]) rfl ?_; exact Or.inl ⟨by rw [HREF.out]; decide, _, by rw [HREF.out]; exact KV.err (by decide), rfl, HR.out, HV0.out, Below.refl _ _⟩
  | false =>
   rw [hof] at CO HREF; rw [if_neg (by decide)] at HREF; have H2 := hI (show VkR lo c q cf g false b w w from ⟨HR.out, HV0.out, Below.refl _ _⟩); have CA := hI (fun w' (h' : VkR lo c q cf g false b w w') => avail_any w' h'.1 cf); have CG := hI (fun w' (h' : VkR lo c q cf g false b w w') => tget_any w' h'.1 cf s); have HG := hI hg; clear h hv hfb hb hfB hof hlt
   go_enter Tryz.func49, Tryz.ntmps49
   go_wp2_with fail; refine CO.out.mono ?_; rintro e w1 ⟨rfl, hw⟩; subst hw; go_wp2_with fail; clear c0_ c1_ c2_ c3_ c4_ c5_ c6_ c7_; have h2 := H2.out
   have d0 : ∀ w', VkR lo c q cf g false b w w' → w'.cell? ⟨b, 0, none⟩ = some (.pointer (some ⟨c.r, 0, none⟩)) := fun w' h => h.2.1.cell 0
   have d1 : ∀ w', VkR lo c q cf g false b w w' → w'.cell? ⟨b, 1, none⟩ = some (.int .i64 cf.id) := fun w' h => h.2.1.cell 1
   have d2 : ∀ w', VkR lo c q cf g false b w w' → w'.cell? ⟨b, 2, none⟩ = some (.int .i64 cf.k) := fun w' h => h.2.1.cell 2
   have d3 : ∀ w', VkR lo c q cf g false b w w' → w'.cell? ⟨b, 3, none⟩ = some (.int .i64 cf.n) := fun w' h => h.2.1.cell 3
   have d4 : ∀ w', VkR lo c q cf g false b w w' → w'.cell? ⟨b, 4, none⟩ = some (.int .i64 cf.t) := fun w' h => h.2.1.cell 4
   have d5 : ∀ w', VkR lo c q cf g false b w w' → w'.cell? ⟨b, 5, none⟩ = some (.int .i64 cf.s) := fun w' h => h.2.1.cell 5
   have d6 : ∀ w', VkR lo c q cf g false b w w' → w'.cell? ⟨b, 6, none⟩ = some (.int .i64 g) := fun w' h => h.2.1.cell 6
   have d7 : ∀ w', VkR lo c q cf g false b w w' → w'.cell? ⟨b, 7, none⟩ = some (.bool false) := fun w' h => h.2.1.cell 7
   by_cases hu : cf.k ≤ ((ups q).length : Int)
   rotate_left
   ·rw [decide_eq_false hu] at CA
    rw [if_pos (Int.not_le.1 hu)] at HREF; clear hu; refine wp_region_noPanic ?_; refine wp_region_held_drew (S := (fun w' => VkR lo c q cf g false b w w')) (by kernel_rfl) h2.drew (fun hHeld => ?_); refine hT 0 ⟨some 44, _, _, _, _, _⟩ rfl hHeld ?_; simp only [hP]; refine hT 1 ⟨some 45, _, _, _, _, _⟩ rfl hHeld ?_; simp only [hP]; refine hT 2 ⟨some 46, _, _, _, _, _⟩ rfl hHeld ?_; simp only [hP]; refine hT 3 ⟨some 47, _, _, _, _, _⟩ rfl hHeld ?_; simp only [hP]; refine hT 4 ⟨some 48, _, _, _, _, _⟩ rfl hHeld ?_; simp only [hP]; refine hT 5 ⟨some 49, _, _, _, _, _⟩ rfl hHeld ?_; simp only [hP]; refine hT 6 ⟨some 50, _, _, _, _, _⟩ rfl hHeld ?_; simp only [hP]; refine hT 7 ⟨some 51, _, _, _, _, _⟩ rfl hHeld ?_; simp only [hP]
    refine hC 8 rfl fun K hK => ?_
    go_simp; refine (CA.out _ hHeld).mono ?_; rintro e w5 ⟨rfl, hb5⟩
    have h5 := VkR.then hHeld (by first | exact hb5 | exact bthen (Below.drew (Below.refl _ _)) hb5)
    clear hb5; refine hK.out _ _ h5 (fun _ => ?_); clear hK K; refine hT 9 ⟨some 53, _, _, _, _, _⟩ rfl h5 ?_; simp only [hP]; refine wpAnyH_done (by kernel_rfl) ?_ _; refine NoPanic.normal ?_; clear d0 d1 d2 d3 d4 d5 d6 d7; go_wp2_with fail; refine bodyPost_ret (v := errV 7) (by simp [results, Tryz.results49, go_sem, errV]) rfl ?_; exact Or.inl ⟨by rw [HREF.out]; decide, _, by rw [HREF.out]; exact KV.err (by decide), rfl, h5.1, h5.2.1, h5.2.2⟩
   rw [decide_eq_true hu] at CA; rw [if_neg (Int.not_lt.2 hu)] at HREF; clear hu; refine wp_region_noPanic ?_; refine wp_region_held_drew (S := (fun w' => VkR lo c q cf g false b w w')) (by kernel_rfl) h2.drew (fun hHeld => ?_); refine hT 0 ⟨some 44, _, _, _, _, _⟩ rfl hHeld ?_; simp only [hP]; refine hT 1 ⟨some 45, _, _, _, _, _⟩ rfl hHeld ?_; simp only [hP]; refine hT 2 ⟨some 46, _, _, _, _, _⟩ rfl hHeld ?_; simp only [hP]; refine hT 3 ⟨some 47, _, _, _, _, _⟩ rfl hHeld ?_; simp only [hP]; refine hT 4 ⟨some 48, _, _, _, _, _⟩ rfl hHeld ?_; simp only [hP]; refine hT 5 ⟨some 49, _, _, _, _, _⟩ rfl hHeld ?_; simp only [hP]; refine hT 6 ⟨some 50, _, _, _, _, _⟩ rfl hHeld ?_; simp only [hP]; refine hT 7 ⟨some 51, _, _, _, _, _⟩ rfl hHeld ?_; simp only [hP]
   refine hC 8 rfl fun K hK => ?_
   go_simp; refine (CA.out _ hHeld).mono ?_; rintro e w5 ⟨rfl, hb5⟩
   have h5 := VkR.then hHeld (by first | exact hb5 | exact bthen (Below.drew (Below.refl _ _)) hb5)
   clear hb5; refine hK.out _ _ h5 (fun _ => ?_); clear hK K; refine hT 9 ⟨some 53, _, _, _, _, _⟩ rfl h5 ?_; simp only [hP]; refine wpAnyH_done (by kernel_rfl) ?_ _; refine NoPanic.normal ?_; have e6 := d6 _ h5
   by_cases hfull : g = 1152921504606846976
   ·rw [if_pos hfull] at HREF
    have hfull' : (g == 1152921504606846976) = true := by simpa using hfull
    clear d0 d1 d2 d3 d4 d5 d6 d7; go_wp2_with fail; refine bodyPost_ret (v := errV 8) (by simp [results, Tryz.results49, go_sem, errV]) rfl ?_; exact Or.inl ⟨by rw [HREF.out]; decide, _, by rw [HREF.out]; exact KV.err (by decide), rfl, h5.1, h5.2.1, h5.2.2⟩
   rw [if_neg hfull] at HREF
   have hfull' : (g == 1152921504606846976) = false := by simpa using hfull
   go_wp2_with fail; clear e6; have h5d := h5.drew; have hkv := tget_kv q cf s
   by_cases hz : tcode q cf s = 0
   rotate_left
   ·obtain ⟨T, u, hv, hkv⟩ := wrapV_ne hkv hz
    have HV := hI hv; have HKV := hI hkv; have HZ := hI hz; clear hkv hz hv; refine wp_region_noPanic ?_; refine wp_region_held_drew (S := (fun w' => VkR lo c q cf g false b w w')) (by kernel_rfl) h5d (fun hHeld9 => ?_); refine hT 0 ⟨some 62, _, _, _, _, _⟩ rfl hHeld9 ?_; simp only [hP]; refine hT 1 ⟨some 63, _, _, _, _, _⟩ rfl hHeld9 ?_; simp only [hP]; refine hT 2 ⟨some 64, _, _, _, _, _⟩ rfl hHeld9 ?_; simp only [hP]; refine hT 3 ⟨some 65, _, _, _, _, _⟩ rfl hHeld9 ?_; simp only [hP]; refine hT 4 ⟨some 66, _, _, _, _, _⟩ rfl hHeld9 ?_; simp only [hP]; refine hT 5 ⟨some 67, _, _, _, _, _⟩ rfl hHeld9 ?_; simp only [hP]; refine hT 6 ⟨some 68, _, _, _, _, _⟩ rfl hHeld9 ?_; simp only [hP]; refine hT 7 ⟨some 69, _, _, _, _, _⟩ rfl hHeld9 ?_; simp only [hP]; refine hT 8 ⟨some 70, _, _, _, _, _⟩ rfl hHeld9 ?_; simp only [hP]
    refine hC 9 rfl fun K hK => ?_
    go_simp; refine (CG.out _ hHeld9).mono ?_; rintro e w6 ⟨hb6, ⟨h0, _⟩ | ⟨_, rfl⟩⟩
    ·exact absurd h0 HZ.out
    have h6 := VkR.then hHeld9 (by first | exact hb6 | exact bthen (Below.drew (Below.refl _ _)) hb6)
    have HH6 := hI h6; rw [HV.out]; clear hb6; refine hK.out _ _ h6 (fun _ => ?_); clear hK K; refine hT 10 ⟨some 61, _, _, _, _, _⟩ rfl h6 ?_; simp only [hP]; refine hT 11 ⟨some 72, _, _, _, _, _⟩ rfl h6 ?_; simp only [hP]; refine hT 12 ⟨some 73, _, _, _, _, _⟩ rfl h6 ?_; simp only [hP]; refine hT 13 ⟨some 74, _, _, _, _, _⟩ rfl h6 ?_; simp only [hP]; refine hT 14 ⟨some 7, _, _, _, _, _⟩ rfl h6 ?_; simp only [hP]; refine hT 15 ⟨some 8, _, _, _, _, _⟩ rfl h6 ?_; simp only [hP]; refine hT 16 ⟨some 9, _, _, _, _, _⟩ rfl h6 ?_; simp only [hP]; refine wpAnyH_done (by kernel_rfl) ?_ _; refine NoPanic.normal ?_; clear d0 d1 d2 d3 d4 d5 d6 d7; go_wp2_with fail; go_ret; exact Or.inl ⟨by rw [HREF.out]; exact HZ.out, _, by rw [HREF.out]; exact HKV.out, rfl, HH6.out.1, HH6.out.2.1, HH6.out.2.2⟩
   have HZ := hI hz; rw [hz] at HREF; clear hkv hz; refine wp_region_noPanic ?_; refine wp_region_held_drew (S := (fun w' => VkR lo c q cf g false b w w')) (by kernel_rfl) h5d (fun hHeld9 => ?_); refine hT 0 ⟨some 62, _, _, _, _, _⟩ rfl hHeld9 ?_; simp only [hP]; refine hT 1 ⟨some 63, _, _, _, _, _⟩ rfl hHeld9 ?_; simp only [hP]; refine hT 2 ⟨some 64, _, _, _, _, _⟩ rfl hHeld9 ?_; simp only [hP]; refine hT 3 ⟨some 65, _, _, _, _, _⟩ rfl hHeld9 ?_; simp only [hP]; refine hT 4 ⟨some 66, _, _, _, _, _⟩ rfl hHeld9 ?_; simp only [hP]; refine hT 5 ⟨some 67, _, _, _, _, _⟩ rfl hHeld9 ?_; simp only [hP]; refine hT 6 ⟨some 68, _, _, _, _, _⟩ rfl hHeld9 ?_; simp only [hP]; refine hT 7 ⟨some 69, _, _, _, _, _⟩ rfl hHeld9 ?_; simp only [hP]; refine hT 8 ⟨some 70, _, _, _, _, _⟩ rfl hHeld9 ?_; simp only [hP]
   refine hC 9 rfl fun K hK => ?_
   go_simp; refine (CG.out _ hHeld9).mono ?_; rintro e w6 ⟨hb6, ⟨_, v6, bs6, rfl, ho6, -⟩ | ⟨hne, _⟩⟩
   rotate_left
   ·exact absurd HZ.out hne
   have h6 := VkR.then hHeld9 (by first | exact hb6 | exact bthen (Below.drew (Below.refl _ _)) hb6)
   have HH6 := hI h6; obtain ⟨ga, ca, rfl, -⟩ := own_slice' ho6; clear hb6 ho6; refine hK.out _ _ h6 (fun _ => ?_); clear hK K; refine hT 10 ⟨some 61, _, _, _, _, _⟩ rfl h6 ?_; simp only [hP]; refine hT 11 ⟨some 72, _, _, _, _, _⟩ rfl h6 ?_; simp only [hP]; refine hT 12 ⟨some 73, _, _, _, _, _⟩ rfl h6 ?_; simp only [hP]; refine hT 13 ⟨some 74, _, _, _, _, _⟩ rfl h6 ?_; simp only [hP]; refine hT 14 ⟨some 7, _, _, _, _, _⟩ rfl h6 ?_; simp only [hP]; refine hT 15 ⟨some 8, _, _, _, _, _⟩ rfl h6 ?_; simp only [hP]; refine hT 16 ⟨some 9, _, _, _, _, _⟩ rfl h6 ?_; simp only [hP]; refine wpAnyH_done (by kernel_rfl) ?_ _; refine NoPanic.normal ?_; obtain ⟨c0_, c1_, c2_, c3_, c4_, c5_, c6_, c7_⟩ := HH6.out.2.1.cells; have f6 := HH6.out.2.1.free 6; have hlt6 := HH6.out.2.1.lt; have hg0 := HG.out; clear d0 d1 d2 d3 d4 d5 d6 d7 h6 h5 h5d hHeld hHeld9 h2; have HR7 := hI (HH6.out.1.setV HFB.out 6 (.int .i64 (g + 1))); have HV7 := hI (HH6.out.2.1.setSeq (g + 1)); have HB7 := hI ((HBK.out.below HH6.out.2.2).rcv HFBB.out HH6.out.2.1 (RCV.set c q.n b 6 (.int .i64 (g + 1)) w6)); have HC7 := hI (((RC.of_below (c := c) (n := q.n) HH6.out.2.2).rcv b).trans (RCV.set c q.n b 6 (.int .i64 (g + 1)) w6)); have CS := hI (vstore_any _ HR7.out HV7.out HFB.out.1 (cRec g s bs) _ HB7.out HFBB.out); obtain ⟨n0, n1, n2, n3, n4, n5, n6, n7⟩ := HV7.out.cells; go_wp2_with fail; refine CS.out.mono ?_; rintro e w8 ⟨v8, rfl, hkv8, hr8, hc8⟩; have HR8 := hI hr8; have HV8 := hI (HV7.out.rc HFB.out.1 hc8)
   have HC8 := hI (HC7.out.trans (hc8.rcv b)); clear hr8 hc8 c0_ c1_ c2_ c3_ c4_ c5_ c6_ c7_ n0 n1 n2 n3 n4 n5 n6 n7
   by_cases hz8 : storeC cf q (cRec g s bs) = 0
   ·obtain rfl := hkv8.nil hz8
    have HZ8 := hI hz8; clear hkv8 hz8; go_wp2_with fail; go_ret; exact Or.inr ⟨HREF.out, _, by rw [if_pos HZ8.out]; exact KV.zero, rfl, HR8.out, by rw [decide_eq_false (fun e => e HZ8.out)]; exact HV8.out, HC8.out⟩
   ·obtain ⟨T, u, rfl, -⟩ := wrapV_ne hkv8 hz8
    have HZ8 := hI hz8; clear hkv8 hz8; go_wp2_with fail; refine (vfail_any _ HV8.out).mono ?_; rintro e w9 ⟨rfl, rfl⟩; go_wp2_with fail; refine bodyPost_ret (v := errV 5) (by simp [results, Tryz.results49, go_sem, errV]) rfl ?_; exact Or.inr ⟨HREF.out, _, by rw [if_neg HZ8.out]; exact KV.err (by decide), rfl, HR8.out.setV (by rw [storeS_n]; exact HFB.out) _ _, by rw [decide_eq_true HZ8.out]; exact HV8.out.setDown true, HC8.out.trans (RCV.set _ _ _ _ _ _)⟩
theorem vcommit_any (w : World) (h : RackIn lo w c q) {cf : Cf} {b : Nat} {g : Int} {down : Bool} (hv : VB cf c.r g down b w) (hfb : FarV b c q.n) (hg : 1 ≤ g ∧ g ≤ 1152921504606846976) (s : Int) (bs : List (List UInt8)) (v0 : Value) {B : Nat} (hb : BkB B bs v0 w) (hfB : Far B c q.n) :
  Calls Tryz.prog 22 #[.pointer (some ⟨b, 0, none⟩), .int .i64 s, v0] w (CommitOut lo c q cf g down b s bs w) := by
 have CC := hI (commit_any w h hv hfb hg s bs v0 hb hfB)
 obtain ⟨a0, c0, rfl, -⟩ := own_slice' hb.row
 clear h hv hfb hg hb hfB
 go_enter Tryz.func22, Tryz.ntmps22
 go_wp2_with fail
 refine CC.out.mono ?_
 rintro e w1 (⟨h1, v, hkv, rfl, h2, h3, h4⟩ | ⟨h1, v, hkv, rfl, h2, h3, h4⟩)
 ·go_wp2_with fail
  refine (wrap_kv hkv _ _ _).mono ?_; rintro e w2 ⟨⟨v', rfl, hkv'⟩, rfl⟩; go_wp2_with fail; go_ret; exact Or.inl ⟨h1, v', hkv', rfl, h2, h3, h4⟩
 ·go_wp2_with fail
  refine (wrap_kv hkv _ _ _).mono ?_; rintro e w2 ⟨⟨v', rfl, hkv'⟩, rfl⟩; go_wp2_with fail; go_ret; exact Or.inr ⟨h1, v', hkv', rfl, h2, h3, h4⟩
structure VW (w1 : World) (c : Lc) (cf : Cf) (n : Nat) (q : Rk) (g : Int) (down : Bool) (b : Nat) (w : World) : Prop where
 qs : QS w1 c q w
 nn : q.n = n
 vb : VB cf c.r g down b w
 farv : FarV b c n
 le : w1.heap.size ≤ b
theorem VW.below {cf : Cf} {down : Bool} (h : VW w1 c cf n q g down b w) (hb : Below w.heap.size w w') : VW w1 c cf n q g down b w' := ⟨h.qs.below hb, h.nn, h.vb.below hb, h.farv, h.le⟩
theorem VW.drew {cf : Cf} {down : Bool} (h : VW w1 c cf n q g down b w) : VW w1 c cf n q g down b w.drew := h.below ((Below.refl _ _).drew)
theorem VW.rc {cf : Cf} {down : Bool} (h : VW w1 c cf n q g down b w) (hr : RackIn w1.heap.size w' c q') (hn : q'.n = q.n) (hc : RC c n w w') : VW w1 c cf n q' g down b w' :=
 ⟨h.qs.next hr (by rw [h.nn]; exact hc), hn.trans h.nn, h.vb.rc h.farv.1 hc, h.farv, h.le⟩
def VN (w1 : World) (c : Lc) (cf : Cf) (n : Nat) (q' : Rk) (g : Int) (down : Bool) (b : Nat) (v : Value) (w : World) (e : Ending) (w' : World) : Prop := e = .returned v ∧ VW w1 c cf n q' g down b w' ∧ RC c n w w'
theorem VW.step {cf : Cf} {down : Bool} {f : Nat} {args : Array Value} (h : VW w1 c cf n q g down b w) (hc : Calls Tryz.prog f args w (NextR w1.heap.size c q.n q' v w)) (hn : q'.n = q.n) : Calls Tryz.prog f args w (VN w1 c cf n q' g down b v w) := by
 refine hc.mono ?_
 rintro e w' ⟨rfl, hr, hrc⟩
 rw [h.nn] at hrc
 exact ⟨rfl, h.rc hr hn hrc, hrc⟩
theorem VW.boot {cf : Cf} {down : Bool} (h : VW w1 c cf n q g down b w) (v : Value) (l : List Nat) {B : Nat} (hv : SlU B w v l) (hB : B ≤ w.heap.size) (hl : ∀ x, x < l.length → l.getD x 0 < 18446744073709551616) : Calls Tryz.prog 56 #[.pointer (some ⟨c.r, 0, none⟩), v] w (VN w1 c cf n (q.boot fun i => l.getD i 0) g down b (.tuple #[]) w) :=
 h.step (qboot_any w h.qs.rack v l hv hB hl) rfl
theorem VW.die {cf : Cf} {down : Bool} (h : VW w1 c cf n q g down b w) (i : Int) : Calls Tryz.prog 27 #[.pointer (some ⟨c.r, 0, none⟩), .int .i64 i] w (VN w1 c cf n (Rk.dying q i true) g down b (.bool (decide (q.has i))) w) :=
 h.step (qdie_any w h.qs.rack i) (dying_rem q i true).2.1
theorem VW.row {cf : Cf} {down : Bool} (h : VW w1 c cf n q g down b w) (hv : BkB B bs v w) (hf : Far B c n) (hc : RCV c n b w w') : BkB B bs v w' := hv.rcv hf h.vb hc
def VCm (w1 : World) (c : Lc) (cf : Cf) (n : Nat) (V : Vl) (P : Nat → Bool) (q : Rk) (g : Int) (b s : Nat) (bs : List (List UInt8)) (w : World) (e : Ending) (w' : World) : Prop :=
 ∃ (v : Value) (q' : Rk), e = .returned v ∧ RCV c n b w w' ∧ q'.n = q.n ∧ q'.k = q.k ∧ ((v = .nilIface ∧ Free q q' ∧ VW w1 c cf n q' (g + 1) false b w' ∧ Live cf (addY cf V (cRec g s bs)) P q' (g + 1)) ∨
  (KV 5 v ∧ q.rem ≠ -1 ∧ VW w1 c cf n q' (g + 1) true b w' ∧ q'.off = true ∧ Down cf V (some (cRec g s bs)) P q' (g + 1)))
theorem rcv_below (h : RCV c n b w w') (hr : RackIn lo w c q) (hn : q.n = n) (hb : Below lo w0 w) (hl : lo ≤ w.heap.size) (hlb : lo ≤ b) : Below lo w0 w' :=
 hb.trans ⟨h.os, h.tape, h.output, h.size, fun k hk => h.block k (by omega) (by have := hr.lr; omega) (by omega) (fun i hi => by have := hr.ld i (by omega); omega)⟩
variable {V : Vl} {P : Nat → Bool}
theorem VW.commits {cf : Cf} (h : VW w1 c cf n q g false b w) (hL : Live cf V P q g) (hP : Enough cf P q.n) (hg : g < 1152921504606846976) {s : Nat} (hs : (s : Int) < cf.t) {bs : List (List UInt8)} (hl : bs.length = cf.k.toNat) {v0 : Value} {B : Nat} (hb : BkB B bs v0 w) (hf : Far B c n) :
  Calls Tryz.prog 22 #[.pointer (some ⟨b, 0, none⟩), .int .i64 s, v0] w (VCm w1 c cf n V P q g b s bs w) := by
 obtain ⟨r1, r2, r3, r4⟩ := hL.commits hP hs hg hl hb.is
 refine (vcommit_any w h.qs.rack h.vb (by rw [h.nn]; exact h.farv) ⟨hL.s1, Int.le_of_lt hg⟩ (s : Int) bs v0 hb (by rw [h.nn]; exact hf)).mono ?_
 rintro e w' (⟨k1, _⟩ | ⟨_, v, hkv, rfl, hr, hv, hc⟩)
 ·exact absurd r1 k1
 ·rw [h.nn] at hc
  have hb' := rcv_below hc h.qs.rack h.nn h.qs.base h.qs.base.size h.le; refine ⟨v, _, rfl, hc, r2, r3, ?_⟩
  rcases r4 with ⟨a1, a2, a3⟩ | ⟨a1, a2, a3, a4⟩
  ·rw [if_pos a1] at hkv
   rw [decide_eq_false (fun e => e a1)] at hv; exact Or.inl ⟨hkv.nil rfl, a2, ⟨⟨hr, hb'⟩, r2.trans h.nn, hv, h.farv, h.le⟩, a3⟩
  ·rw [if_neg (by rw [a1]; decide)] at hkv
   rw [decide_eq_true (by rw [a1]; decide)] at hv; exact Or.inr ⟨hkv, a2, ⟨⟨hr, hb'⟩, r2.trans h.nn, hv, h.farv, h.le⟩, a3, a4⟩
def VOp (w1 : World) (c : Lc) (cf : Cf) (n : Nat) (V : Vl) (Y : Option Rc) (P : Nat → Bool) (q : Rk) (M : Int) (w : World) (e : Ending) (w' : World) : Prop :=
 ∃ q' : Rk, RC c n w w' ∧ RackIn w1.heap.size w' c q' ∧ q'.n = q.n ∧ q'.k = q.k ∧ ((∃ (b : Nat) (g : Int) (V' : Vl), e = .returned (.tuple #[.pointer (some ⟨b, 0, none⟩), .nilIface]) ∧ VW w1 c cf n q' g false b w' ∧ w.heap.size ≤ b ∧ Free q q' ∧ Live cf V' P q' g ∧ Evo cf V Y V' none ∧ g ≤ M) ∨
  (∃ v, KV 5 v ∧ e = .returned (.tuple #[.pointer none, v]) ∧ q.rem ≠ -1 ∧ q'.off = true ∧ ∃ V' Y', Down cf V' Y' P q' M ∧ Evo cf V Y V' Y'))
theorem qs_opens {cf : Cf} {Y : Option Rc} {M : Int} (h : QS w1 c q w) (hn : q.n = n) (hR : Raw cf V Y P q M) (hP : Enough cf P q.n) : Calls Tryz.prog 38 #[.pointer (some ⟨c.r, 0, none⟩)] w (VOp w1 c cf n V Y P q M w) := by
 refine (vopen_any w h.rack).mono ?_
 rintro e w' ⟨q', e', g, ho, hr, hc, hout⟩
 obtain ⟨⟨f1, f2⟩, n1, k1, r⟩ := hR.opens hP ho
 have hc0 := hc
 rw [hn] at hc
 refine ⟨q', hc, hr, n1, k1, ?_⟩
 rcases r with ⟨a1, a2, V', a3, a4, a5⟩ | ⟨a1, a2, a3, a4⟩
 ·rcases hout with ⟨_, b, rfl, hb, hv⟩ | ⟨h0, _⟩
  ·rw [f2] at hv
   exact Or.inl ⟨b, g, V', rfl, ⟨h.next hr hc0, n1.trans hn, hv, by rw [← hn]; exact h.rack.farV hb, Nat.le_trans h.base.size hb⟩, hb, a2, a3, a4, a5⟩
  ·exact absurd a1 h0
 ·rcases hout with ⟨h0, _⟩ | ⟨_, v, hkv, rfl⟩
  ·rw [h0] at a1; cases a1
  ·rw [a1] at hkv
   exact Or.inr ⟨v, hkv, rfl, a2, a3, a4⟩
theorem VW.reads {cf : Cf} (h : VW w1 c cf n q g false b w) (hi : Inv cf V none P q) (ho : On q cf) {t : Nat} (ht : (t : Int) < cf.t) (h0 : tcode q cf t = 0) :
  Calls Tryz.prog 55 #[.pointer (some ⟨b, 0, none⟩), .int .i64 t] w (GotB (V.G t) (V.B t) w) := by
 refine (vread_any w h.qs.rack h.vb (t : Int)).mono ?_
 rintro e w' ⟨hb, ⟨_, v, bs, rfl, hown, his, hB⟩ | ⟨h1, _⟩⟩
 ·rcases hi.readAny ho ht with ⟨_, e2, e3⟩ | e1 | e1
  ·have := e3 bs hB
   subst this; rw [e2]; exact ⟨v, rfl, hown, hb⟩
  ·rw [h0] at e1; cases e1
  ·rw [h0] at e1; cases e1
 ·exact absurd h0 h1
theorem Live.is {cf : Cf} (h : Live cf V P q g) {t : Nat} (ht : (t : Int) < cf.t) : (∀ d ∈ V.B t, d.length = 108) ∧ (V.B t).length = cf.k.toNat := ⟨(h.inv.v.g t ht).is, (h.inv.v.g t ht).len⟩
def OpdB (cf : Cf) (w : World) (e : Ending) (w' : World) : Prop :=
 ∃ (c : Lc) (b : Nat) (q : Rk) (w1 : World), e = .returned (.tuple #[.pointer (some ⟨c.r, 0, none⟩), .pointer (some ⟨b, 0, none⟩)]) ∧ VW w1 c cf q.n q 1 false b w' ∧ Below w.heap.size w w1 ∧ Live cf (V0 cf) (allP q) q 1 ∧ q.rem = -1 ∧ Alive q ∧ (q.k : Int) = cf.secs ∧ (q.n : Int) = cf.n
theorem allP_alive {cf : Cf} (h : Live cf V (allP q) q g) : Alive q := fun d hd => (h.inv.p d (decide_eq_true hd)).2
theorem fresh_on {cf : Cf} (h : CfgOk cf) : On (newRk cf.n.toNat cf.secs.toNat) cf ∧ Alive (newRk cf.n.toNat cf.secs.toNat) ∧ ((cf.n.toNat : Nat) : Int) = cf.n ∧ ((cf.secs.toNat : Nat) : Int) = cf.secs ∧ 1 ≤ cf.n.toNat ∧ cf.n.toNat ≤ 6 ∧ 1 ≤ cf.secs.toNat ∧ cf.secs.toNat ≤ 128 := by
 obtain ⟨x1, x2, _⟩ := h.right.secs
 have hn : 1 ≤ cf.n ∧ cf.n ≤ 6 := by have := h.2.1; have := h.2.2.2.1; have := h.2.2.2.2.1; omega
 have hf : cf.fits (newRk cf.n.toNat cf.secs.toNat) = true := by
  unfold Cf.fits
  have e1 : ((newRk cf.n.toNat cf.secs.toNat).n : Int) = cf.n := by show ((cf.n.toNat : Nat) : Int) = _; omega
  have e2 : ((newRk cf.n.toNat cf.secs.toNat).k : Int) = cf.secs := by show ((cf.secs.toNat : Nat) : Int) = _; omega
  rw [show cfRightB cf = true from decide_eq_true h.right, e1, e2, decide_eq_true rfl, decide_eq_true (Int.le_refl _)]; rfl
 exact ⟨(pl_new (by omega) (by omega) (by omega) (by omega) hf).on, fun _ _ => rfl, by omega, by omega, by omega, by omega, by omega, by omega⟩
theorem make_free {cf : Cf} (h : On q cf) (ha : Alive q) (hrem : q.rem = -1) (hn : (q.n : Int) = cf.n) : Rk.vmakeC q cf = 0 ∧ Raw cf (V0 cf) none (allP (Rk.vmake q cf)) (Rk.vmake q cf) 1 ∧ (Rk.vmake q cf).rem = -1 := by
 rcases make_told h ha hn with ⟨a1, a2⟩ | ⟨_, a2⟩
 ·refine ⟨a1, ?_, a2.free hrem⟩
  have := a2.raw
  rwa [show allP q = allP (Rk.vmake q cf) by unfold allP; rw [vmake_n]] at this
 ·exact absurd hrem a2.burnt
theorem opened_any (w : World) (cf : Cf) (hok : CfgOk cf) : Calls Tryz.prog 24 #[.agg (cfA cf)] w (OpdB cf w) := by
 obtain ⟨f1, f2, hn, hsec, n1, n6, s1, s128⟩ := fresh_on hok
 have CS := hI (fun w => ksectors_any cf w hok.right)
 have CN := hI (fun w => show Calls Tryz.prog 8 #[.int .i64 cf.n, .int .i64 cf.secs] w (QNew w cf.n.toNat cf.secs.toNat) by
  have := qs_new cf.n.toNat cf.secs.toNat w n1 (by omega) s1 s128
  rwa [hn, hsec] at this)
 have HMF := hI (make_free f1 f2 rfl hn)
 have HK := hI (show ((Rk.vmake (newRk cf.n.toNat cf.secs.toNat) cf).n : Int) = cf.n ∧ ((Rk.vmake (newRk cf.n.toNat cf.secs.toNat) cf).k : Int) = cf.secs by rw [vmake_n, vmake_k]; exact ⟨hn, hsec⟩)
 have HFIT := hI f1.fits
 clear hok f1 f2 hn hsec n1 n6 s1 s128
 have H2 := hI (show JfS cf w.heap.size w (w.alloc (.cells (cfA cf) 24)) from ⟨cfB_new w cf, by simp, one_below _ _⟩)
 go_enter Tryz.func24, Tryz.ntmps24
 go_wp2_with fail
 have h2 := H2.out
 generalize w.alloc (.cells (cfA cf) 24) = w2 at *
 generalize w.heap.size = b at *
 have d0 : ∀ w', JfS cf b w w' → w'.cell? ⟨b, 0, none⟩ = some (.int .i64 cf.id) := fun w' h => h.1.cell 0
 have d1 : ∀ w', JfS cf b w w' → w'.cell? ⟨b, 1, none⟩ = some (.int .i64 cf.k) := fun w' h => h.1.cell 1
 have d2 : ∀ w', JfS cf b w w' → w'.cell? ⟨b, 2, none⟩ = some (.int .i64 cf.n) := fun w' h => h.1.cell 2
 have d3 : ∀ w', JfS cf b w w' → w'.cell? ⟨b, 3, none⟩ = some (.int .i64 cf.t) := fun w' h => h.1.cell 3
 have d4 : ∀ w', JfS cf b w w' → w'.cell? ⟨b, 4, none⟩ = some (.int .i64 cf.s) := fun w' h => h.1.cell 4
 refine wp_region_noPanic ?_
 refine wp_region_held_drew (S := (fun w' => JfS cf b w w')) (by kernel_rfl) h2.drew (fun hHeld => ?_)
 refine hT 0 ⟨some 9, _, _, _, _, _⟩ rfl hHeld ?_
 simp only [hP]
 refine hT 1 ⟨some 10, _, _, _, _, _⟩ rfl hHeld ?_
 simp only [hP]
 refine hT 2 ⟨some 11, _, _, _, _, _⟩ rfl hHeld ?_
 simp only [hP]
 refine hC 3 rfl fun K hK => ?_
 go_simp
 refine (CS.out _).mono ?_
 rintro e w3 ⟨rfl, hb3⟩
 have h3 := JfS.then hHeld hb3
 clear hb3
 refine hK.out _ _ h3 (fun _ => ?_)
 clear hK K
 refine hC 4 rfl fun K hK => ?_
 go_simp
 refine (CN.out _).mono ?_
 rintro e w4 ⟨c, rfl, h4⟩
 have H4 := hI h4
 have H3 := hI h3
 have h5 := JfS.made h3 h4
 clear h4
 refine hK.out _ _ h5 (fun _ => ?_)
 clear hK K
 refine hT 5 ⟨some 8, _, _, _, _, _⟩ rfl h5 ?_
 simp only [hP]
 refine hT 6 ⟨some 14, _, _, _, _, _⟩ rfl h5 ?_
 simp only [hP]
 refine hT 7 ⟨some 15, _, _, _, _, _⟩ rfl h5 ?_
 simp only [hP]
 refine hT 8 ⟨some 4, _, _, _, _, _⟩ rfl h5 ?_
 simp only [hP]
 refine hT 9 ⟨some 5, _, _, _, _, _⟩ rfl h5 ?_
 simp only [hP]
 refine wpAnyH_done (by kernel_rfl) ?_ _
 refine NoPanic.normal ?_
 have HJ5 := hI h5
 obtain ⟨e0, e1, e2, e3, e4⟩ := CfB.cells h5.1
 clear d0 d1 d2 d3 d4 h2 hHeld h3 h5
 generalize newRk cf.n.toNat cf.secs.toNat = q0 at *
 have CM := hI (vmake_any w4 H4.out.rack cf)
 go_wp2_with fail
 refine CM.out.mono ?_
 rintro e w5 ⟨v5, rfl, hkv5, hr5, hc5⟩
 obtain rfl := hkv5.nil HMF.out.1
 have HQ5 := hI (H4.out.next hr5 hc5)
 have CO := hI (qs_opens HQ5.out rfl HMF.out.2.1 (allP_enough HMF.out.2.1.tnt.on.fits))
 clear hkv5 hr5 hc5 e0 e1 e2 e3 e4
 go_wp2_with fail
 refine CO.out.mono ?_
 rintro e w6 ⟨q', hc6, hr6, hn6, hk6, ⟨b', g', V', rfl, hvw, _, hfree, hlive, hevo, hg'⟩ | ⟨v6, _, _, hne, _⟩⟩
 rotate_left
 ·exact absurd HMF.out.2.2 hne
 have hV : V' = V0 cf := by
  rcases hevo with ⟨h1, _⟩ | ⟨y, h1, _⟩
  ·exact h1
  ·cases h1
 have hg1 : g' = 1 := by have := hlive.s1; omega
 subst hV hg1
 have hall : allP (Rk.vmake q0 cf) = allP q' := by unfold allP; rw [hn6]
 rw [hall] at hlive
 have HRES := hI (show VW w3 c cf q'.n q' 1 false b' w6 ∧ Live cf (V0 cf) (allP q') q' 1 ∧ q'.rem = -1 ∧ (q'.k : Int) = cf.secs ∧ (q'.n : Int) = cf.n from
  ⟨by rw [hn6]; exact hvw, hlive, hfree HMF.out.2.2, by rw [hk6]; exact HK.out.2, by rw [hn6]; exact HK.out.1⟩)
 clear hc6 hr6 hn6 hk6 hvw hfree hlive hevo hg' hall
 go_wp2_with fail
 refine bodyPost_ret (v := .tuple #[.pointer (some ⟨c.r, 0, none⟩), .pointer (some ⟨b', 0, none⟩)]) (by simp [results, Tryz.results24, go_sem]) rfl ?_
 exact ⟨c, b', q', w3, rfl, HRES.out.1, H3.out.2.2, HRES.out.2.1, HRES.out.2.2.1, allP_alive HRES.out.2.1, HRES.out.2.2.2.1, HRES.out.2.2.2.2⟩
end Go.Proofs.YtilljaneegbhlaaGreatDoor
namespace Go.Proofs.YtilljaneegbhlaaGreatDoor
open Go.RowKit Go.Deep Crc Dk Qk Go.Maps Hf
def cV : Cf := ⟨9, 2, 3, 2, 1⟩
theorem cV_on : On (newRk 3 5) cV := (pl_new (by decide) (by decide) (by decide) (by decide) (by decide)).on
variable {c : Cf}
theorem opens_less {Q : Nat → Bool} {q q' : Rk} {e g : Int} (hs : Sup c Q q) (ho : On q c) (hu : ((ups q).length : Int) < c.k) (hop : OpensTo q q' e g) : e = 7 ∧ q' = q := by
 unfold OpensTo at hop
 rw [if_neg (by rw [ho.off]; decide)] at hop
 rcases hs.foundAny ho with ⟨f1, f2⟩ | f1
 ·rw [if_neg (by rw [f1]; decide), f2, if_pos hu] at hop; exact ⟨hop.2, hop.1⟩
 ·rw [if_pos f1] at hop; exact ⟨hop.2, hop.1⟩
theorem slU_nil (B : Nat) (w : World) : SlU B w (.slice none 0 0) [] := Or.inl ⟨rfl, _, _, rfl⟩
theorem evo_none {V V' : Vl} (h : Evo c V none V' none) : V' = V := by
 rcases h with ⟨h1, _⟩ | ⟨y, h1, _⟩
 ·exact h1
 ·cases h1
set_option maxHeartbeats 4000000 in
set_option maxRecDepth 100000 in
theorem runs_any (w : World) (hT : Typ w) : Calls Tryz.prog 31 #[] w (Bit true w) := by
 have HT := hI hT
 obtain ⟨w1, hw1⟩ : ∃ w1, w1 = w.alloc (.cells (cfA cV) 24) := ⟨_, rfl⟩
 have H1 := hI (show CfB cV w.heap.size w1 ∧ w.heap.size < w1.heap.size ∧ Below w.heap.size w w1 by rw [hw1]; exact ⟨cfB_new w cV, by simp, one_below _ _⟩)
 have HN := hI (show Calls Tryz.prog 8 #[.int .i64 3, .int .i64 5] w1 (QNew w1 3 5) from qs_new 3 5 w1 (by omega) (by omega) (by omega) (by omega))
 have HMF := hI (make_free cV_on (fun _ _ => rfl) rfl (by decide))
 have hcR : (w.alloc (.cells #[.int .i64 9, .int .i64 2, .int .i64 3, .int .i64 2, .int .i64 1] 24)) = w1 := hw1.symm
 clear hw1 hT
 go_enter Tryz.func31, Tryz.ntmps31
 go_wp2_with fail
 clear hcR
 refine HN.out.mono ?_
 rintro e w2 ⟨c, rfl, h2⟩
 have HC2 := hI (CfB.below H1.out.1 H1.out.2.1 h2.base)
 have CM := hI (show Calls Tryz.prog 10 #[.pointer (some ⟨c.r, 0, none⟩), .agg #[.int .i64 9, .int .i64 2, .int .i64 3, .int .i64 2, .int .i64 1]] w2 _ from vmake_any w2 h2.rack cV)
 have H2 := hI h2
 clear h2
 obtain ⟨d0, d1, d2, d3, d4⟩ : w2.cell? ⟨w.heap.size, 0, none⟩ = some (.int .i64 9) ∧ w2.cell? ⟨w.heap.size, 1, none⟩ = some (.int .i64 2) ∧ w2.cell? ⟨w.heap.size, 2, none⟩ = some (.int .i64 3) ∧ w2.cell? ⟨w.heap.size, 3, none⟩ = some (.int .i64 2) ∧ w2.cell? ⟨w.heap.size, 4, none⟩ = some (.int .i64 1) := CfB.cells HC2.out
 go_wp2_with fail
 refine CM.out.mono ?_
 rintro e w3 ⟨v3, rfl, hkv3, hr3, hc3⟩
 obtain rfl := hkv3.nil HMF.out.1
 have HQ3 := hI (H2.out.next hr3 hc3)
 have CO := hI (qs_opens HQ3.out (show (Rk.vmake (newRk 3 5) cV).n = 3 from vmake_n _ _) HMF.out.2.1 (allP_enough HMF.out.2.1.tnt.on.fits))
 clear hkv3 hr3 hc3 d0 d1 d2 d3 d4
 have HQN := hI (show (Rk.vmake (newRk 3 5) cV).n = 3 from vmake_n _ _)
 generalize Rk.vmake (newRk 3 5) cV = q3 at *
 go_wp2_with fail
 refine CO.out.mono ?_
 rintro e w4 ⟨q4, _, _, hn4, _, ⟨b4, g4, V4, rfl, hvw4, _, hf4, hl4, hev4, hg4⟩ | ⟨v4, _, _, hne, _⟩⟩
 rotate_left
 ·exact absurd HMF.out.2.2 hne
 obtain rfl := evo_none hev4
 obtain rfl : g4 = 1 := by have := hl4.s1; omega
 have HW4 := hI hvw4
 have HL4 := hI hl4
 have HR4 := hI (hf4 HMF.out.2.2)
 have HE4 := hI (show Enough cV (allP q3) q4.n by rw [hn4]; exact allP_enough HMF.out.2.1.tnt.on.fits)
 have CSQ := hI (vseq_any w4 hvw4.vb)
 clear hn4 hvw4 hf4 hl4 hev4 hg4
 go_wp2_with fail
 refine CSQ.out.mono ?_
 rintro e w5 ⟨rfl, hw⟩
 subst hw
 have CA := hI (fun w3 => show Calls Tryz.prog 25 #[.int .i64 2, .int .i64 4] w3 (BlksNew (blks 4 2) w3) from blocks_any 2 4 w3 (by decide))
 have hlA : (blks 4 2).length = 2 := blks_length 4 2
 have HIA := hI (blks_is 4 2)
 go_wp2_with fail
 refine (CA.out w4).mono ?_
 rintro e w5 ⟨va, rfl, hva, hb5⟩
 have HA5 := hI (show BkB w4.heap.size (blks 4 2) va w5 from bkB_of hva (Nat.le_refl _))
 have HW5 := hI (HW4.out.below hb5)
 have HSZ5 := hI hb5.size
 have HFA := hI (show Far w4.heap.size c 3 from by have := HW4.out.qs.rack.far; rwa [HW4.out.nn] at this)
 obtain ⟨ga, ca, rfl, -⟩ := own_slice' hva
 generalize blks 4 2 = A at *
 clear hva hb5
 have CC := hI (show Calls Tryz.prog 22 #[.pointer (some ⟨b4, 0, none⟩), .int .i64 1, .slice ga A.length ca] w5 _ from HW5.out.commits HL4.out HE4.out (by decide) (s := 1) (by decide) (by rw [hlA]; rfl) HA5.out HFA.out)
 rw [hlA] at CC
 rw [hlA]
 go_wp2_with fail
 refine CC.out.mono ?_
 rintro e w6 ⟨v6, q6, rfl, hrc6, hn6, _, ⟨rfl, hf6, hvw6, hl6⟩ | ⟨_, hne, _⟩⟩
 rotate_left
 ·exact absurd HR4.out hne
 have HW6 := hI hvw6
 have HL6 := hI hl6
 have HR6 := hI (hf6 HR4.out)
 have HSZ6 := hI (show w4.heap.size ≤ w6.heap.size from Nat.le_trans HSZ5.out hrc6.size)
 have HA6 := hI (HW5.out.row HA5.out HFA.out hrc6)
 have HE6 := hI (show Enough cV (allP q3) q6.n by rw [hn6]; exact HE4.out)
 obtain ⟨V6, hV6⟩ : ∃ V6, V6 = addY cV (V0 cV) (cRec 1 (1 : Nat) A) := ⟨_, rfl⟩
 have HG6 := hI (show V6.G 1 = 2 ∧ V6.B 1 = A by rw [hV6]; exact ⟨rfl, rfl⟩)
 rw [← hV6] at HL6
 have CR := hI (show Calls Tryz.prog 55 #[.pointer (some ⟨b4, 0, none⟩), .int .i64 1] w6 (GotB (V6.G 1) (V6.B 1) w6) from HW6.out.reads HL6.out.inv HL6.out.on (t := 1) (by decide) (HL6.out.read HE6.out (t := 1) (by decide)).1)
 rw [HG6.out.1, HG6.out.2] at CR
 clear hrc6 hn6 hf6 hvw6 hl6 hV6
 go_wp2_with fail
 refine CR.out.mono ?_
 rintro e w7 ⟨vx, rfl, hx7, hb7⟩
 have HW7 := hI (HW6.out.below hb7)
 have HA7 := hI (HA6.out.below hb7)
 have HB67 := hI hb7.size
 have HX7 := hI (show BkB w4.heap.size A vx w7 from ⟨HIA.out, own_base hx7 HSZ6.out⟩)
 have HL6' := hI (HL6.out.down.boot fun i => ([] : List Nat).getD i 0)
 obtain ⟨gx, cx, rfl, -⟩ := own_slice' hx7
 rw [hlA] at HX7
 rw [hlA]
 clear hx7 hb7
 have CB := hI (HW7.out.boot (.slice none 0 0) [] (slU_nil w7.heap.size w7) (Nat.le_refl _) (fun x hx => absurd hx (by simp)))
 go_wp2_with fail
 refine CB.out.mono ?_
 rintro e w8 ⟨rfl, hvw8, hrc8⟩
 have HW8 := hI hvw8
 have HA8 := hI (HA7.out.rc HFA.out hrc8)
 have HX8 := hI (HX7.out.rc HFA.out hrc8)
 have HSZ8 := hI (show w4.heap.size ≤ w8.heap.size from Nat.le_trans (Nat.le_trans HSZ6.out HB67.out) hrc8.size)
 have HE8 := hI (show Enough cV (allP q3) (q6.boot fun i => ([] : List Nat).getD i 0).n by rw [HL6'.out.2.2.1]; exact HE6.out)
 have CO2 := hI (qs_opens HW8.out.qs HW8.out.nn HL6'.out.1 HE8.out)
 have HR8 := hI HL6'.out.2.1
 clear hvw8 hrc8
 generalize (q6.boot fun i => ([] : List Nat).getD i 0) = q8 at *
 go_wp2_with fail
 refine CO2.out.mono ?_
 rintro e w9 ⟨q9, hrc9, _, hn9, _, ⟨b9, g9, V9, rfl, hvw9, _, hf9, hl9, hev9, _⟩ | ⟨v9, _, _, hne, _⟩⟩
 rotate_left
 ·exact absurd HR8.out hne
 obtain rfl := evo_none hev9
 have HW9 := hI hvw9
 have HL9 := hI hl9
 have HA9 := hI (HA8.out.rc HFA.out hrc9)
 have HX9 := hI (HX8.out.rc HFA.out hrc9)
 have HSZ9 := hI (Nat.le_trans HSZ8.out hrc9.size)
 have HE9 := hI (show Enough cV (allP q3) q9.n by rw [hn9]; exact HE8.out)
 have CR2 := hI (show Calls Tryz.prog 55 #[.pointer (some ⟨b9, 0, none⟩), .int .i64 1] w9 (GotB (V9.G 1) (V9.B 1) w9) from HW9.out.reads HL9.out.inv HL9.out.on (t := 1) (by decide) (HL9.out.read HE9.out (t := 1) (by decide)).1)
 rw [HG6.out.1, HG6.out.2] at CR2
 clear hrc9 hn9 hf9 hvw9 hl9 hev9
 go_wp2_with fail
 refine CR2.out.mono ?_
 rintro e w10 ⟨vy, rfl, hy10, hb10⟩
 have HW10 := hI (HW9.out.below hb10)
 have HA10 := hI (HA9.out.below hb10)
 have HX10 := hI (HX9.out.below hb10)
 have HY10 := hI (show BkB w4.heap.size A vy w10 from ⟨HIA.out, own_base hy10 HSZ9.out⟩)
 obtain ⟨gy, cy, rfl, -⟩ := own_slice' hy10
 rw [hlA] at HY10
 rw [hlA]
 clear hy10 hb10
 have hq9 : q9.n = 3 := HW9.out.nn
 have HWO1 := hI (HL9.out.wore (d := 0) (q' := Rk.dying q9 (0 : Nat) true) (by unfold allP; rw [HQN.out]; decide) .die)
 have HWO2 := hI (HWO1.out.1.wore (d := 1) (q' := Rk.dying (Rk.dying q9 (0 : Nat) true) (1 : Nat) true) (by unfold PD allP; rw [HQN.out]; decide) .die)
 have HUP := hI (show ((ups (Rk.dying (Rk.dying q9 (0 : Nat) true) (1 : Nat) true)).length : Int) < cV.k by
  have e1 : ∀ q : Rk, ∀ d : Nat, d < q.n → ∀ j, ((Rk.dying q d true).s j).dead = if j = d then true else (q.s j).dead := fun q d hd j => by
   unfold Rk.dying; rw [if_pos (show q.has (d : Int) from ⟨by omega, by omega⟩)]
   show (Dk.upd q.s d _ j).dead = _
   unfold Dk.upd
   split
   ·rfl
   ·rfl
  unfold ups upsN; rw [HWO2.out.2.1, HWO1.out.2.1, hq9]
  show (((([0, 1, 2] : List Nat).filter fun i => !((Rk.dying (Rk.dying q9 (0 : Nat) true) (1 : Nat) true).s i).dead).length : Nat) : Int) < 2
  have h0 : (!((Rk.dying (Rk.dying q9 (0 : Nat) true) (1 : Nat) true).s 0).dead) = false := by
   rw [e1 _ 1 (by rw [HWO1.out.2.1, hq9]; decide), if_neg (by decide), e1 _ 0 (by rw [hq9]; decide), if_pos rfl]; rfl
  have h1 : (!((Rk.dying (Rk.dying q9 (0 : Nat) true) (1 : Nat) true).s 1).dead) = false := by
   rw [e1 _ 1 (by rw [HWO1.out.2.1, hq9]; decide), if_pos rfl]; rfl
  rw [List.filter_cons, if_neg (by rw [h0]; decide), List.filter_cons, if_neg (by rw [h1]; decide)]; have := List.length_filter_le (fun i => !((Rk.dying (Rk.dying q9 (0 : Nat) true) (1 : Nat) true).s i).dead) [2]; have h2 : ([2] : List Nat).length = 1 := rfl
  omega)
 have CD1 := hI (show Calls Tryz.prog 27 #[.pointer (some ⟨c.r, 0, none⟩), .int .i64 0] w10 _ from HW10.out.die ((0 : Nat) : Int))
 go_wp2_with fail
 refine CD1.out.mono ?_
 rintro e w11 ⟨rfl, hvw11, hrc11⟩
 have HA11 := hI (HA10.out.rc HFA.out hrc11)
 have HX11 := hI (HX10.out.rc HFA.out hrc11)
 have HY11 := hI (HY10.out.rc HFA.out hrc11)
 have CD2 := hI (show Calls Tryz.prog 27 #[.pointer (some ⟨c.r, 0, none⟩), .int .i64 1] w11 _ from hvw11.die ((1 : Nat) : Int))
 clear hvw11 hrc11
 go_wp2_with fail
 refine CD2.out.mono ?_
 rintro e w12 ⟨rfl, hvw12, hrc12⟩
 have HW12 := hI hvw12
 have HA12 := hI (HA11.out.rc HFA.out hrc12)
 have HX12 := hI (HX11.out.rc HFA.out hrc12)
 have HY12 := hI (HY11.out.rc HFA.out hrc12)
 have HL12 := hI HWO2.out.1
 clear hvw12 hrc12
 generalize (Rk.dying (Rk.dying q9 (0 : Nat) true) (1 : Nat) true) = q12 at *
 have CO3 := hI (vopen_any w12 HW12.out.qs.rack)
 go_wp2_with fail
 refine CO3.out.mono ?_
 rintro e w13 ⟨q13, e13, g13, hop, hr13, hrc13, hout⟩
 obtain ⟨e7, rfl⟩ := opens_less HL12.out.sup HL12.out.on HUP.out hop
 have HB13 := hI (hrc13.below HW12.out.qs.rack HW12.out.qs.base HW12.out.qs.base.size)
 rw [HW12.out.nn] at hrc13
 rcases hout with ⟨h0, _⟩ | ⟨_, v13, hkv13, rfl⟩
 ·rw [h0] at e7; cases e7
 rw [e7] at hkv13
 have HKV := hI hkv13
 have HA13 := hI (HA12.out.rc HFA.out hrc13)
 have HX13 := hI (HX12.out.rc HFA.out hrc13)
 have HY13 := hI (HY12.out.rc HFA.out hrc13)
 clear hop hr13 hrc13 hkv13 e7
 go_wp2_with fail
 refine (CA.out w13).mono ?_
 rintro e w14 ⟨vz, rfl, hz14, hb14⟩
 have HX14 := hI (HX13.out.below hb14)
 have HY14 := hI (HY13.out.below hb14)
 have HZ14 := hI (show SlK w14.heap.size w14 vz A from slK_own hz14 HIA.out rfl)
 have HB14 := hI (bthen HB13.out hb14)
 obtain ⟨gz, cz, rfl, -⟩ := own_slice' hz14
 rw [hlA] at HZ14
 rw [hlA]
 clear hz14 hb14
 have S1 := hI (same_blocks _ _ A A w14 HX14.out.slk HZ14.out (by rw [hlA]; decide))
 rw [decide_eq_true rfl] at S1
 go_wp2_with fail
 refine S1.out.mono ?_
 rintro e w15 ⟨rfl, hb15⟩
 have S2 := hI (same_blocks _ _ A A w15 (HY14.out.below hb15).slk (HX14.out.below hb15).slk (by rw [hlA]; decide))
 rw [decide_eq_true rfl] at S2
 have HB15 := hI (bthen HB14.out hb15)
 clear hb15
 go_wp2_with fail
 refine S2.out.mono ?_
 rintro e w16 ⟨rfl, hb16⟩
 have HB16 := hI (show Below w.heap.size w w16 from bthen H1.out.2.2 (bthen HB15.out hb16))
 clear hb16
 go_wp2_with fail
 refine (kind_kv HKV.out w16 (HT.out.below HB16.out)).mono ?_
 rintro e w17 ⟨rfl, hb17⟩
 have HB17 := hI (bthen HB16.out hb17)
 clear hb17
 go_wp2_with fail
 go_ret
 exact bit rfl HB17.out
end Go.Proofs.YtilljaneegbhlaaGreatDoor
