import Derived.Test.YtilljaneegbhlaaGreatDoorZDHas
import Derived.Test.YtilljaneegbhlaaGreatDoorZDStill
namespace Go.Proofs.YtilljaneegbhlaaGreatDoor
open Go.RowKit Go.Deep Dk Go.Maps
set_option maxHeartbeats 1000000
set_option maxRecDepth 100000
variable {d M : Nat} {s : St}
theorem read_dead {S : Nat} (w : World) (h : DiskIn w d S M s) (hd : s.dead = true) (i : Int) : Calls Tryz.prog 54 #[.pointer (some ⟨d, 0, none⟩), .int .i64 i] w (Err2 (.slice none 0 0) opRead 5 i w) := by
 have c2 := h.c2
 rw [hd] at c2
 clear h hd
 go_enter Tryz.func54, Tryz.ntmps54
 go_wp2_with (go_at_call 32; refine (wrap_some _ _ _ _ _).mono ?_; rintro e w' ⟨rfl, rfl⟩)
 exact bodyPost_ret (v := .tuple #[.slice none 0 0, wrapV opRead i (errV 5)]) (by simp [results, Tryz.results54, go_sem, wrapV, errV, opRead]) rfl ⟨rfl, rfl⟩
theorem read_no {S : Nat} (w : World) (h : DiskIn w d S M s) (hd : s.dead = false) (i : Int) (hno : ¬ (0 ≤ i ∧ i < s.n)) : Calls Tryz.prog 54 #[.pointer (some ⟨d, 0, none⟩), .int .i64 i] w (Err2 (.slice none 0 0) opRead 1 i w) := by
 have c2 := h.c2
 rw [hd] at c2
 have HH := hI (has_any w h i)
 rw [decide_eq_false hno] at HH
 clear h hd hno
 go_enter Tryz.func54, Tryz.ntmps54
 go_wp2_with (first
  | (go_at_call 75; refine HH.out.mono ?_; rintro e w' ⟨rfl, rfl⟩)
  | (go_at_call 32; refine (wrap_some _ _ _ _ _).mono ?_; rintro e w' ⟨rfl, rfl⟩))
 exact bodyPost_ret (v := .tuple #[.slice none 0 0, wrapV opRead i (errV 1)]) (by simp [results, Tryz.results54, go_sem, wrapV, errV, opRead]) rfl ⟨rfl, rfl⟩
def NewRow (l : List UInt8) (w : World) (v : Value) (w' : World) : Prop := ∃ g, v = .slice (some ⟨g, 0, none⟩) l.length l.length ∧ w.heap.size ≤ g ∧ g < w'.heap.size ∧ Holds w' g (bytesV l)
variable {l : List UInt8} {w w' : World} {v : Value}
theorem NewRow.slb (h : NewRow l w v w') : SlB w'.heap.size w' v l := by
 obtain ⟨g, rfl, _, h2, h3⟩ := h
 exact slb_lit h3 h2 (Nat.le_refl _)
def Reads (l : List UInt8) (w : World) (e : Ending) (w' : World) : Prop := ∃ v, e = .returned (.tuple #[v, .nilIface]) ∧ NewRow l w v w' ∧ Below w.heap.size w w'
theorem reads_new (w : World) {l rd : List UInt8} (hl : l.length = 128) (e : rd = l) : Reads rd w (.returned (.tuple #[.slice (some ⟨w.heap.size, 0, none⟩) 128 128, .nilIface])) (w.alloc (.cells (bytesV l).toArray 129)) := by
 subst e
 exact ⟨_, rfl, ⟨w.heap.size, by rw [hl], Nat.le_refl _, by simp, holds_new w _ _ _ (by simp)⟩, one_below _ _⟩
theorem wpList_store_new_sec {P : Program} {ops : Array Oper} {rest : List Oper} {o : Oper} {a : Act} {Q : Exit → Act → World → Prop} (hg : o.guard = none) (x y : Operand) (t : TypeId) (ho : o.op = .store t x y)
  (hsz : (P.info? t).map (·.size) = some 128) (c c' : List UInt8) (hc : c.length = 128) (hc' : c'.length = 128) (hx : a.eval x = .pointer (some ⟨w.heap.size, 0, none⟩)) (hy : a.eval y = .agg (bytesV c').toArray)
  (h : wpList P ops Q rest (a.put o.dst undef) (w.alloc (.cells (bytesV c').toArray t))) : wpList P ops Q (o :: rest) a (w.alloc (.cells (bytesV c).toArray t)) :=
 wpList_plain hg fun _ hK => by
  have hr := run_storeVar_new (P := P) w t (bytesV c).toArray (bytesV c').toArray (by rw [hsz]; simp [bytesV_length, hc']) (by simp [bytesV_length, hc, hc']) (all_oneCell_toArray (bytesV_one c')); unfold Oper.wp execOp; simp only [ho, hx, hy, Instr.storeAt, Instr.sureAddr, Sem.run_bind, Sem.run_pure, Result.andThen_ok, hr]; exact hK _ _ h
theorem wpList_lookup_sec (w : World) {ops : Array Oper} {rest : List Oper} {o : Oper} {a : Act} {Q : Exit → Act → World → Prop} (hg : o.guard = none) (m x : Operand) (hop : o.op = Op.lookup 105 m x true)
  {M n i : Nat} {f : Nat → Option Sec} {D : DataW Unit} (hm : a.eval m = .map (some M)) (hx : a.eval x = .int .i64 (i : Int)) (hM : MapIn w M n f D) (hi : i < n) (hn : n ≤ 128)
  (hK : wpList Tryz.prog ops Q rest (a.put o.dst (.tuple #[.agg (bytesV ((f i).getD zer)).toArray, .bool (f i).isSome])) w) : wpList Tryz.prog ops Q (o :: rest) a w := by
 refine wpList_lookup_own_ok w hg m x 105 hop 3 129 keyed Tryz.underlying105 secR (zero_sec w) _ [] (secR_mk zer_length) M (Maps.size D) D hm hM.own _ (kI i) hx (key_kI (by omega)) fun v ps hv => ?_
 rw [hM.told hi hv, hM.has i hi]
 exact hK
theorem DiskIn.range {S : Nat} (h : DiskIn w d S M s) {i : Nat} (hi : i < s.n) : w.rangeAt S (i * 129) (bytesV (s.st i)) := fun j v hv => by
 have hj : j < 128 := by have := (List.getElem?_eq_some_iff.1 hv).1; rwa [bytesV_length, h.ok.st] at this
 rw [cell_of_row w S _ _ _ _ h.secs, Nat.mul_comm]
 have hf : ∀ i, (secV (s.st i) (s.rot i)).length = 129 := fun i => secV_length (h.ok.st i) _
 show (secsV s.n s.st s.rot).toArray[129 * i + j]? = _
 rw [List.getElem?_toArray]
 unfold secsV
 rw [flat_at hf (by omega) hi]
 unfold secV
 rw [List.getElem?_append_left (by rw [bytesV_length, h.ok.st]; exact hj)]
 exact hv
theorem read_yes {S : Nat} (w : World) (h : DiskIn w d S M s) (hd : s.dead = false) (i : Nat) (hi : i < s.n) :
  Calls Tryz.prog 54 #[.pointer (some ⟨d, 0, none⟩), .int .i64 (i : Int)] w (Reads (s.read i) w) := by
 have c0 := h.c0
 have c1 := h.c1
 have c2 := h.c2
 rw [hd] at c2
 have HH := hI (has_any w h i)
 rw [decide_eq_true (by omega)] at HH
 obtain ⟨D, hm⟩ := h.map_
 have HR := hI (fun o => World.rangeAt_alloc (h.range hi) o)
 have HL := hI (h.ok.st i)
 have HZ := hI (show ((s.wt i).getD zer).length = 128 by
  cases e : s.wt i with
  | none => exact zer_length
  | some b => exact (h.ok.wt i b e).2)
 have HM := hI hm
 have hn := h.ok.n
 have hzero := zero_sec
 have hlt := h.lt
 have HE := hI (show s.read i = (s.wt i).getD (s.st i) from rfl)
 generalize s.read i = rd at HE ⊢
 clear h hm hd
 cases hw : s.wt i with
 | none =>
  have HW := hI hw; clear hw
  go_enter Tryz.func54, Tryz.ntmps54
  go_wp2_with (first
   | (go_at_call 75; refine HH.out.mono ?_; rintro e w' ⟨rfl, rfl⟩)
   | (at_lookup; refine wpList_lookup_sec _ rfl _ _ rfl rfl rfl HM.out hi (by omega) ?_; rw [HW.out])
   | (refine wpList_store_new_sec rfl _ _ 129 rfl size_sec zer _ zer_length (by first | exact zer_length | exact HL.out) rfl rfl ?_)
   | (refine wpList_load_mid rfl 129 _ rfl S (i * 129) rfl (bytesV (s.st i)) _ (HR.out _) Tryz.underlying129 rfl (by rw [bytesV_length, HL.out]; exact size_sec) ?_))
  exact bodyPost_ret (v := .tuple #[.slice (some ⟨w.heap.size, 0, none⟩) 128 128, .nilIface]) (by simp [results, Tryz.results54, go_sem]) rfl (reads_new w HL.out (by rw [HE.out, HW.out]; rfl))
 | some b =>
  have HW := hI hw; clear hw; have HB := hI (show b.length = 128 by have := HZ.out; rw [HW.out] at this; exact this)
  go_enter Tryz.func54, Tryz.ntmps54
  go_wp2_with (first
   | (go_at_call 75; refine HH.out.mono ?_; rintro e w' ⟨rfl, rfl⟩)
   | (at_lookup; refine wpList_lookup_sec _ rfl _ _ rfl rfl rfl HM.out hi (by omega) ?_; rw [HW.out])
   | (refine wpList_store_new_sec rfl _ _ 129 rfl size_sec zer _ zer_length (by first | exact zer_length | exact HL.out | exact HB.out) rfl rfl ?_))
  exact bodyPost_ret (v := .tuple #[.slice (some ⟨w.heap.size, 0, none⟩) 128 128, .nilIface]) (by simp [results, Tryz.results54, go_sem]) rfl (reads_new w HB.out (by rw [HE.out, HW.out]; rfl))
def NextD (d S M : Nat) (s' : St) (v : Value) (w : World) (e : Ending) (w' : World) : Prop := e = .returned v ∧ DiskIn w' d S M s' ∧ Chg d S M w w'
variable {B : Nat}
theorem SlB.range (h : SlB B w v l) (h0 : 0 < l.length) : ∃ b o cap, v = .slice (some ⟨b, o, none⟩) l.length cap ∧ w.rangeAt b o (bytesV l) := by
 rcases h with ⟨rfl, _⟩ | ⟨b, o, cap, h1, _, h3, _, _⟩
 ·simp at h0
 ·refine ⟨b, o, cap, h1, fun j v hv => ?_⟩
  have hj : j < l.length := by have := (List.getElem?_eq_some_iff.1 hv).1; rwa [bytesV_length] at this
  rw [h3 j hj, ← hv, bytesV_at hj]
theorem slice_array (a : Addr) (cap : Nat) (W : World) : (Instr.arrayAt 129 (.slice (some a) 128 cap)).run Tryz.prog W = .ok (.pointer (some a)) W := by
 simp [Instr.arrayAt, run_underlying Tryz.underlying129]
theorem DiskIn.put {S m i : Nat} {l : Sec} {D : DataW Unit} (h : DiskIn w d S M s) (hm : MapIn w M s.n s.wt D) (hi : i < s.n) (hl : l.length = 128) (hw : w'.ownsMap Tryz.prog 3 secR M m (D.put (kI i) (.lit (.string l)))) (hg : w.grownBy w' (some M)) :
  DiskIn w' d S M (s.write i l) := by
 obtain ⟨a1, a2, a3⟩ := h.apart
 obtain ⟨b1, b2, b3⟩ := h.lt
 exact ⟨h.ok.write hi hl, h.pos, (hg.block d b1 (by simpa using a2)).trans h.top, (hg.block S b2 (by simpa using a3)).trans h.secs, _, hm.put hi hw⟩
theorem write_yes {S : Nat} (w : World) (h : DiskIn w d S M s) (hd : s.dead = false) (i : Nat) (v : Value) (l : Sec) (hi : i < s.n) (hv : SlB B w v l) (hl : l.length = 128) :
  Calls Tryz.prog 106 #[.pointer (some ⟨d, 0, none⟩), .int .i64 (i : Int), v] w (NextD d S M (s.write i l) .nilIface w) := by
 have c1 := h.c1
 have c2 := h.c2
 rw [hd] at c2
 have HH := hI (has_any w h i)
 rw [decide_eq_true (by omega)] at HH
 obtain ⟨b, o, cap, rfl, hr⟩ := hv.range (by omega)
 obtain ⟨D, hm⟩ := h.map_
 rw [hl]
 have hsa := slice_array ⟨b, o, none⟩ cap
 have hown := hm.own
 have hsz := hm.size
 have hn := h.ok.n
 have HP := hI (fun w' hw hg => DiskIn.put (w' := w') (m := Maps.size D + 1) h hm hi hl hw hg)
 have hown : World.ownsMap w.drew Tryz.prog 3 secR M (Maps.size D) D := hown.drew
 have hsec := secR_mk hl
 have HR := hI (show World.rangeAt w.drew b o _ from (World.rangeAt_drew w b o _).2 hr)
 clear h hm hd hr
 go_enter Tryz.func106, Tryz.ntmps106
 go_wp2_with (go_at_call 75; refine HH.out.mono ?_; rintro e w' ⟨rfl, rfl⟩)
 refine wp_region_still_tail 8 (by kernel_rfl) (by kernel_rfl) ?_
 simp only [List.take_succ_cons, List.take_zero, List.drop_succ_cons, List.drop_zero]
 iterate 7 still_step
 refine wpStill_load_mid rfl _ _ rfl b o rfl (bytesV l) _ HR.out Tryz.underlying129 rfl (by rw [bytesV_length, hl]; exact size_sec) ?_
 refine wpStill_nil ?_
 change wpList _ _ _ _ _ w.drew
 go_wp2_with (at_mapUpdate; refine wpList_mapUpdate_own _ rfl _ _ _ 105 rfl 3 129 keyed Tryz.underlying105 secR M (Maps.size D) D rfl hown (by unfold maxLen; omega) _ _ (kI i) rfl rfl (key_kI (by omega)) _ [] hsec ?_; intro w1 hown1 hg1)
 have HQ := hI (HP.out w1 hown1 ⟨hg1.os, hg1.tape, hg1.output, hg1.size, hg1.block⟩)
 have HG := hI (show Chg d S M w w1 from Chg.of_grown ⟨hg1.os, hg1.tape, hg1.output, hg1.size, hg1.block⟩ (Or.inr (Or.inr rfl)))
 go_ret
 exact ⟨rfl, HQ.out, HG.out⟩
end Go.Proofs.YtilljaneegbhlaaGreatDoor
