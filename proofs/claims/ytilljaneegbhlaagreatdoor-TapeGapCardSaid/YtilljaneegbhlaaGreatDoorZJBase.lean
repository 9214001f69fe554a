import Derived.Test.YtilljaneegbhlaaGreatDoorZQKit
import Derived.Test.YtilljaneegbhlaaGreatDoorZCRows
import Derived.Test.YtilljaneegbhlaaGreatDoorZSFind
import Derived.Test.YtilljaneegbhlaaGreatDoorZQS
namespace Go.Proofs.YtilljaneegbhlaaGreatDoor
open Go.RowKit Go.Deep Dk Qk Go.Maps
def upsN (q : Rk) (m : Nat) : List Nat := (List.range m).filter fun i => !(q.s i).dead
def ups (q : Rk) : List Nat := upsN q q.n
variable {q : Rk} {m : Nat}
theorem upsN_yes (h : (q.s m).dead = false) : upsN q (m + 1) = upsN q m ++ [m] := by
 unfold upsN; rw [List.range_succ, List.filter_append]; simp [h]
theorem upsN_no (h : (q.s m).dead = true) : upsN q (m + 1) = upsN q m := by
 unfold upsN; rw [List.range_succ, List.filter_append]; simp [h]
theorem upsN_length (q : Rk) (m : Nat) : (upsN q m).length ≤ m := by
 have := List.length_filter_le (fun i => !(q.s i).dead) (List.range m)
 simpa [upsN] using this
def NumsNew (l : List Nat) (w : World) (e : Ending) (w' : World) : Prop := ∃ v, e = .returned v ∧ w'.ownsRow w.heap.size 3 1 v l.length (numsV l) ∧ Below w.heap.size w w'
def RelQO (q : Rk) (w0 : World) (i v : Value) (wr : World) : Prop :=
 ∃ m : Nat, m ≤ q.n ∧ i = .int .i64 m ∧ wr.ownsRow w0.heap.size 3 1 v (upsN q m).length (numsV (upsN q m)) ∧ Below w0.heap.size w0 wr
set_option maxHeartbeats 2000000 in
set_option maxRecDepth 100000 in
theorem qonline_any {lo : Nat} {c : Lc} (w : World) (h : RackIn lo w c q) : Calls Tryz.prog 36 #[.pointer (some ⟨c.r, 0, none⟩)] w (NumsNew (ups q) w) := by
 have c0 := h.c0
 have hn8 := h.ok.n8
 have HQ := hI h
 clear h
 go_enter Tryz.func36, Tryz.ntmps36
 go_wp2_with fail
 go_loopw [10, 3] (fun i v wr => RelQO q w i v wr) (fun i _ _ => q.n - (intOf i).toNat)
 case atStart => exact ⟨0, Nat.zero_le _, rfl, ⟨rfl, Or.inl ⟨rfl, rfl⟩⟩, Below.refl _ _⟩
 case round =>
  obtain ⟨m, hm, rfl, hown, hb⟩ := hrel; have HO := hI hown; have HB := hI hb
  by_cases hlt : m < q.n
  ·have i1 : (m : Int) < q.n := by omega
   have HU := hI (qup_any wr (HQ.out.below (hb.mono (Nat.le_refl _))) (m : Int)); rw [up_at hlt] at HU; have HLN := hI (upsN_length q m); clear hown hb
   cases hd : (q.s m).dead with
   | false =>
    rw [hd] at HU; have HY := hI (upsN_yes hd); clear hd
    go_wp2_with (first
     | (go_at_call 61; refine HU.out.mono ?_; rintro e w' ⟨rfl, rfl⟩)
     | (at_builtin; refine wpList_append_num _ rfl (.tmp 16) (.tmp 18) rfl w.heap.size _ _ _ rfl (own_below HO.out (one_below _ _)) wr.heap.size (.int .i64 (m : Int)) rfl ?_ rfl ?_ ?_ ?_; simp; (have := HLN.out; omega); (have := HB.out.size; simp; omega); intro va wa howna hga; have HOA := hI howna; have HGA := hI hga; obtain ⟨ga, ca, rfl, -⟩ := own_slice howna; clear howna hga))
    go_roundw
    case rel =>
     refine ⟨m + 1, by omega, by go_num, ?_, ?_⟩
     ·rw [HY.out, List.length_append]
      have := HOA.out
      simpa [numsV] using this
     ·exact (balloc HB.out _).trans (HGA.out.below (balloc HB.out _).size fun k hk => (own_block HO.out hk).1)
    case measure => simp [intOf]; omega
   | true =>
    rw [hd] at HU; have HY := hI (upsN_no hd); clear hd; obtain ⟨ga, ca, rfl, -⟩ := own_slice HO.out; go_wp2_with (go_at_call 61; refine HU.out.mono ?_; rintro e w' ⟨rfl, rfl⟩)
    go_roundw
    case rel => exact ⟨m + 1, by omega, by go_num, by rw [HY.out]; exact HO.out, HB.out⟩
    case measure => simp [intOf]; omega
  ·obtain rfl : m = q.n := by omega
   obtain ⟨ga, ca, rfl, -⟩ := own_slice hown; clear hown hb
   go_wp2
   go_ret; exact ⟨_, rfl, HO.out, HB.out⟩
end Go.Proofs.YtilljaneegbhlaaGreatDoor
namespace Go.Proofs.YtilljaneegbhlaaGreatDoor
open Go.RowKit Go.Deep Crc Dk Qk Go.Maps Hf
inductive Rop where
 | w (i sec : Int) (l : List UInt8)
 | f (i : Int)
def Rop.code (q : Rk) : Rop → Int
 | .w i sec l => q.wcode i sec l.length
 | .f i => q.fcode i
def Rop.next (q : Rk) : Rop → Rk
 | .w i sec l => q.write i sec l
 | .f i => q.flush i
def Rop.op : Rop → ByteArray
 | .w _ _ _ => opQWrite
 | .f _ => opQFlush
def Rop.at_ : Rop → Int
 | .w i _ _ => i
 | .f i => i
def Rop.ev (q : Rk) (o : Rop) : Value := evs o.op (o.code q) o.at_
def runS (q : Rk) : List Rop → Rk
 | [] => q
 | o :: L => if o.code q = 0 then runS (o.next q) L else o.next q
def runC (q : Rk) : List Rop → Int
 | [] => 0
 | o :: L => if o.code q = 0 then runC (o.next q) L else o.code q
def runE (q : Rk) : List Rop → Value
 | [] => .nilIface
 | o :: L => if o.code q = 0 then runE (o.next q) L else o.ev q
theorem runE_form : ∀ (L : List Rop) (q : Rk), (runC q L = 0 ∧ runE q L = .nilIface) ∨ (runC q L ≠ 0 ∧ ∃ op i, runE q L = wrapV op i (errV (runC q L)))
 | [], q => Or.inl ⟨rfl, rfl⟩
 | o :: L, q => by
  unfold runC runE
  by_cases h : o.code q = 0
  ·rw [if_pos h, if_pos h]; exact runE_form L _
  ·rw [if_neg h, if_neg h]; exact Or.inr ⟨h, _, _, evs_some _ _ h⟩
theorem next_n (q : Rk) (o : Rop) : (o.next q).n = q.n := by
 cases o with
 | w i s l => exact write_n q i s l
 | f i => exact flush_n q i
theorem next_k (q : Rk) (o : Rop) : (o.next q).k = q.k := by
 cases o with
 | w i s l => exact write_k q i s l
 | f i => exact flush_k q i
theorem runS_n : ∀ (L : List Rop) (q : Rk), (runS q L).n = q.n
 | [], _ => rfl
 | o :: L, q => by
  unfold runS; split
  ·rw [runS_n L]; exact next_n q o
  ·exact next_n q o
theorem runS_k : ∀ (L : List Rop) (q : Rk), (runS q L).k = q.k
 | [], _ => rfl
 | o :: L, q => by
  unfold runS; split
  ·rw [runS_k L]; exact next_k q o
  ·exact next_k q o
theorem next_dead (q : Rk) (o : Rop) (j : Nat) : ((o.next q).s j).dead = (q.s j).dead := by
 have turn : ∀ (q : Rk) (i : Nat) (t : St), t.dead = (q.s i).dead → ((q.turn i t).s j).dead = (q.s j).dead := fun q i t ht => by
  by_cases e : j = i
  ·subst e; rw [turn_at]; exact ht
  ·rw [turn_off q t e]
 cases o with
 | w i s l =>
  show ((q.write i s l).s j).dead = _
  unfold Rk.write
  split
  ·split
   ·rw [spent_s]
   ·rw [turn _ _ _ (by rw [spent_s]; rfl), spent_s]
  ·rfl
 | f i =>
  show ((q.flush i).s j).dead = _
  unfold Rk.flush
  split
  ·split
   ·rw [spent_s]
   ·rw [turn _ _ _ (by rw [spent_s]; exact flushed_dead _), spent_s]
  ·rfl
variable {q r : Rk}
theorem ups_congr (hn : r.n = q.n) (hd : ∀ j, (r.s j).dead = (q.s j).dead) : ups r = ups q := by
 unfold ups upsN
 rw [hn]
 exact congrArg (fun p => List.filter p (List.range q.n)) (funext fun i => by rw [hd i])
theorem next_ups (q : Rk) (o : Rop) : ups (o.next q) = ups q := ups_congr (next_n q o) (next_dead q o)
theorem runS_ups : ∀ (L : List Rop) (q : Rk), ups (runS q L) = ups q
 | [], _ => rfl
 | o :: L, q => by
  unfold runS; split
  ·rw [runS_ups L]; exact next_ups q o
  ·exact next_ups q o
structure RunTo (q : Rk) (L : List Rop) (r : Rk) (M : List Rop) : Prop where
 s : runS q L = runS r M
 c : runC q L = runC r M
 e : runE q L = runE r M
 n : r.n = q.n
 k : r.k = q.k
 u : ups r = ups q
theorem RunTo.refl (q : Rk) (L : List Rop) : RunTo q L q L := ⟨rfl, rfl, rfl, rfl, rfl, rfl⟩
variable {L M : List Rop} {o : Rop}
theorem RunTo.next (h : RunTo q L r (o :: M)) (h0 : o.code r = 0) : RunTo q L (o.next r) M :=
 ⟨h.s.trans (if_pos h0), h.c.trans (if_pos h0), h.e.trans (if_pos h0), (next_n r o).trans h.n, (next_k r o).trans h.k, (next_ups r o).trans h.u⟩
theorem RunTo.fail (h : RunTo q L r (o :: M)) (h0 : o.code r ≠ 0) : runS q L = o.next r ∧ runC q L = o.code r ∧ runE q L = o.ev r :=
 ⟨h.s.trans (if_neg h0), h.c.trans (if_neg h0), h.e.trans (if_neg h0)⟩
theorem RunTo.done (h : RunTo q L r []) : runS q L = r ∧ runC q L = 0 ∧ runE q L = .nilIface := ⟨h.s, h.c, h.e⟩
theorem RunTo.congr {M' : List Rop} (h : RunTo q L r M) (e : M = M') : RunTo q L r M' := e ▸ h
def dops (base : Int) (F : List (List UInt8)) (d m : Nat) : List Rop := (List.range' m (F.length - m)).map fun (i : Nat) => .w (d : Int) (base + i) (F.getD i [])
def wops (base : Int) (F : List (List UInt8)) (U : List Nat) (m : Nat) : List Rop := (U.drop m).flatMap fun (d : Nat) => dops base F d 0
def fops (U : List Nat) (m : Nat) : List Rop := (U.drop m).map fun (d : Nat) => .f (d : Int)
variable {F : List (List UInt8)} {d m : Nat}
theorem dops_next {base : Int} (h : m < F.length) : dops base F d m = .w (d : Int) (base + m) (F.getD m []) :: dops base F d (m + 1) := by
 unfold dops
 rw [show F.length - m = (F.length - (m + 1)) + 1 by omega, List.range'_succ]; rfl
theorem dops_end (base : Int) (F : List (List UInt8)) (d : Nat) : dops base F d F.length = [] := by unfold dops; simp
variable {U : List Nat}
theorem drop_at (h : m < U.length) : U.drop m = U.getD m 0 :: U.drop (m + 1) := by
 rw [List.drop_eq_getElem_cons h]; simp [List.getD, h]
theorem wops_next {base : Int} (h : m < U.length) : wops base F U m = dops base F (U.getD m 0) 0 ++ wops base F U (m + 1) := by
 unfold wops; rw [drop_at h]; rfl
theorem wops_end (base : Int) (F : List (List UInt8)) (U : List Nat) : wops base F U U.length = [] := by unfold wops; simp
theorem fops_next (h : m < U.length) : fops U m = .f (U.getD m 0 : Nat) :: fops U (m + 1) := by
 unfold fops; rw [drop_at h]; rfl
theorem fops_end (U : List Nat) : fops U U.length = [] := by unfold fops; simp
def jops (base : Int) (F : List (List UInt8)) (U : List Nat) : List Rop := wops base F U 0 ++ fops U 0
theorem CfB.rc {cf : Cf} {b n : Nat} {w w' : World} {c : Lc} (h : CfB cf b w) (hf : Far b c n) (hb : b < w.heap.size) (hc : RC c n w w') : CfB cf b w' := by
 unfold CfB
 rw [hc.block b hb (by have := hf.1; omega) (fun i hi => by have := hf.2 i hi; omega)]
 exact h
def Rop.on (s : Nat → St) : Rop → Nat → St
 | .w i sec l => Dk.upd s i.toNat ((s i.toNat).write sec.toNat l)
 | .f i => Dk.upd s i.toNat ((s i.toNat).flush)
def ons (s : Nat → St) (L : List Rop) : Nat → St := L.foldl Rop.on s
theorem ons_nil (s : Nat → St) : ons s [] = s := rfl
theorem ons_cons (s : Nat → St) (o : Rop) (L : List Rop) : ons s (o :: L) = ons (o.on s) L := rfl
theorem ons_append (s : Nat → St) (L M : List Rop) : ons s (L ++ M) = ons (ons s L) M := by unfold ons; rw [List.foldl_append]
def Rop.fit (n k : Nat) (D : Nat → Bool) : Rop → Prop
 | .w i sec l => ∃ a b : Nat, i = a ∧ sec = b ∧ a < n ∧ b < k ∧ l.length = 128 ∧ D a = false
 | .f i => ∃ a : Nat, i = a ∧ a < n ∧ D a = false
theorem fit_code (h : o.fit q.n q.k fun j => (q.s j).dead) (ho : q.off = false) : o.code q = if q.rem = 0 then 5 else 0 := by
 cases o with
 | w i sec l =>
  obtain ⟨a, b, rfl, rfl, ha, hb, hl, hd⟩ := h
  show q.wcode a b l.length = _
  unfold Rk.wcode; rw [if_pos (ready_ok ha ho hd), if_pos (show q.fits b l.length from ⟨by omega, by omega, hl⟩)]
 | f i =>
  obtain ⟨a, rfl, ha, hd⟩ := h
  show q.fcode a = _
  unfold Rk.fcode; rw [if_pos (ready_ok ha ho hd)]
theorem fit_next (h : o.fit q.n q.k fun j => (q.s j).dead) (ho : q.off = false) : o.next q = if q.rem = 0 then q.spent else { q.spent with s := o.on q.s } := by
 cases o with
 | w i sec l =>
  obtain ⟨a, b, rfl, rfl, ha, hb, hl, hd⟩ := h
  show q.write a b l = _
  unfold Rk.write; rw [if_pos ⟨ready_ok ha ho hd, (⟨by omega, by omega, hl⟩ : q.fits b l.length)⟩]
  by_cases h0 : q.rem = 0
  ·rw [if_pos h0, if_pos h0]
  ·rw [if_neg h0, if_neg h0]
   unfold Rk.turn; rw [spent_s]; rfl
 | f i =>
  obtain ⟨a, rfl, ha, hd⟩ := h
  show q.flush a = _
  unfold Rk.flush; rw [if_pos (ready_ok ha ho hd)]
  by_cases h0 : q.rem = 0
  ·rw [if_pos h0, if_pos h0]
  ·rw [if_neg h0, if_neg h0]
   unfold Rk.turn; rw [spent_s]; rfl
theorem on_dead (s : Nat → St) (o : Rop) (j : Nat) : (o.on s j).dead = (s j).dead := by
 cases o with
 | w i sec l =>
  show (Dk.upd s i.toNat _ j).dead = _
  by_cases e : j = i.toNat
  ·subst e; rw [upd_same]; rfl
  ·rw [upd_other _ _ e]
 | f i =>
  show (Dk.upd s i.toNat _ j).dead = _
  by_cases e : j = i.toNat
  ·subst e; rw [upd_same]; exact flushed_dead _
  ·rw [upd_other _ _ e]
theorem on_n (s : Nat → St) (o : Rop) (j : Nat) : (o.on s j).n = (s j).n := by
 cases o with
 | w i sec l =>
  show (Dk.upd s i.toNat _ j).n = _
  by_cases e : j = i.toNat
  ·subst e; rw [upd_same]; rfl
  ·rw [upd_other _ _ e]
 | f i =>
  show (Dk.upd s i.toNat _ j).n = _
  by_cases e : j = i.toNat
  ·subst e; rw [upd_same]; exact flushed_n _
  ·rw [upd_other _ _ e]
variable {k : Nat}
theorem fit_congr {n : Nat} {D E : Nat → Bool} (h : ∀ j, D j = E j) {o : Rop} (ho : o.fit n k D) : o.fit n k E := by
 rwa [show E = D from (funext h).symm]
theorem run_fit : ∀ (L : List Rop) (q : Rk), q.off = false → -1 ≤ q.rem → (∀ o ∈ L, o.fit q.n q.k fun j => (q.s j).dead) →
  (q.rem < 0 → runC q L = 0 ∧ runS q L = { q with s := ons q.s L }) ∧
  (0 ≤ q.rem → (L.length : Int) ≤ q.rem → runC q L = 0 ∧ runS q L = { q with s := ons q.s L, rem := q.rem - L.length }) ∧
  (0 ≤ q.rem → q.rem < L.length → runC q L = 5 ∧ runS q L = { q with s := ons q.s (L.take q.rem.toNat), off := true, rem := 0 })
 | [], q, ho, hr, _ => by
  refine ⟨fun h => ⟨rfl, rfl⟩, fun h1 h2 => ⟨rfl, ?_⟩, fun h1 h2 => ?_⟩
  ·show q = { q with s := q.s, rem := q.rem - ((0 : Nat) : Int) }
   rw [show q.rem - ((0 : Nat) : Int) = q.rem by omega]
  ·have : q.rem < ((0 : Nat) : Int) := h2
   omega
 | o :: L, q, ho, hr, hf => by
  have hof := hf o (List.mem_cons_self ..); have hc := fit_code hof ho; have hn := fit_next hof ho
  have hlen : ((o :: L).length : Int) = (L.length : Int) + 1 := by simp
  by_cases h0 : q.rem = 0
  ·rw [if_pos h0] at hc hn
   have hcn : ¬ o.code q = 0 := by rw [hc]; decide
   refine ⟨fun h => by omega, fun h1 h2 => by omega, fun h1 h2 => ⟨(if_neg hcn).trans hc, (if_neg hcn).trans ?_⟩⟩; rw [hn, h0]; unfold Rk.spent; rw [if_pos h0]
   show ({ q with off := true } : Rk) = { q with s := q.s, off := true, rem := 0 }
   rw [← h0]
  ·rw [if_neg h0] at hc hn
   have e1 : runC q (o :: L) = runC (o.next q) L := if_pos hc; have e2 : runS q (o :: L) = runS (o.next q) L := if_pos hc; obtain ⟨so, sr⟩ := spent_goes h0; rw [e1, e2, hn]
   have ih := run_fit L { q.spent with s := o.on q.s } (so.trans ho) (by show -1 ≤ q.spent.rem; rw [sr]; split <;> omega) (fun o' ho' => by
    have := hf o' (List.mem_cons_of_mem _ ho')
    show o'.fit q.spent.n q.spent.k _
    rw [spent_n, spent_k]
    exact fit_congr (fun j => (on_dead q.s o j).symm) this)
   obtain ⟨i1, i2, i3⟩ := ih
   by_cases hp : 0 < q.rem
   ·rw [if_pos hp] at sr
    have hsp : q.spent = { q with rem := q.rem - 1 } := by unfold Rk.spent; rw [if_neg h0, if_pos hp]
    refine ⟨fun h => by omega, fun h1 h2 => ?_, fun h1 h2 => ?_⟩
    ·obtain ⟨a, b⟩ := i2 (by show 0 ≤ q.spent.rem; rw [sr]; omega) (by show _ ≤ q.spent.rem; rw [sr]; omega)
     refine ⟨a, b.trans ?_⟩; rw [hsp]
     show ({ q with s := ons (o.on q.s) L, rem := q.rem - 1 - L.length } : Rk) = { q with s := ons q.s (o :: L), rem := q.rem - ((o :: L).length : Nat) }
     rw [ons_cons, hlen, show q.rem - 1 - (L.length : Int) = q.rem - ((L.length : Int) + 1) by omega]
    ·obtain ⟨a, b⟩ := i3 (by show 0 ≤ q.spent.rem; rw [sr]; omega) (by show q.spent.rem < _; rw [sr]; omega)
     refine ⟨a, b.trans ?_⟩; rw [hsp]
     show ({ q with s := ons (o.on q.s) (L.take (q.rem - 1).toNat), off := true, rem := 0 } : Rk) = { q with s := ons q.s ((o :: L).take q.rem.toNat), off := true, rem := 0 }
     rw [show q.rem.toNat = (q.rem - 1).toNat + 1 by omega, List.take_succ_cons, ons_cons]
   ·rw [if_neg hp] at sr
    have hsp : q.spent = q := by unfold Rk.spent; rw [if_neg h0, if_neg hp]
    refine ⟨fun h => ?_, fun h1 h2 => by omega, fun h1 h2 => by omega⟩; obtain ⟨a, b⟩ := i1 (by show q.spent.rem < 0; rw [sr]; omega); refine ⟨a, b.trans ?_⟩; rw [hsp]; rfl
theorem mem_dops {base : Int} (h : o ∈ dops base F d m) : ∃ i : Nat, m ≤ i ∧ i < F.length ∧ o = .w (d : Int) (base + i) (F.getD i []) := by
 unfold dops at h
 obtain ⟨i, hi, rfl⟩ := List.mem_map.1 h
 obtain ⟨h1, h2⟩ := List.mem_range'_1.1 hi
 exact ⟨i, h1, by omega, rfl⟩
theorem mem_wops {base : Int} (h : o ∈ wops base F U m) : ∃ d i : Nat, d ∈ U ∧ i < F.length ∧ o = .w (d : Int) (base + i) (F.getD i []) := by
 unfold wops at h
 obtain ⟨d, hd, ho⟩ := List.mem_flatMap.1 h
 obtain ⟨i, _, hi, rfl⟩ := mem_dops ho
 exact ⟨d, i, List.mem_of_mem_drop hd, hi, rfl⟩
theorem mem_fops (h : o ∈ fops U m) : ∃ d : Nat, d ∈ U ∧ o = .f (d : Int) := by
 unfold fops at h
 obtain ⟨d, hd, rfl⟩ := List.mem_map.1 h
 exact ⟨d, List.mem_of_mem_drop hd, rfl⟩
theorem mem_ups : d ∈ ups q ↔ d < q.n ∧ (q.s d).dead = false := by
 unfold ups upsN
 simp [List.mem_filter]
theorem mem_jops {base : Int} (h : o ∈ jops base F U) : (∃ d i : Nat, d ∈ U ∧ i < F.length ∧ o = .w (d : Int) (base + i) (F.getD i [])) ∨ ∃ d : Nat, d ∈ U ∧ o = .f (d : Int) := by
 rcases List.mem_append.1 h with h | h
 ·exact Or.inl (mem_wops h)
 ·exact Or.inr (mem_fops h)
theorem jops_fit {base : Nat} (hb : base + F.length ≤ q.k) (hF : ∀ i, i < F.length → (F.getD i []).length = 128) :
  ∀ o ∈ jops base F (ups q), o.fit q.n q.k fun j => (q.s j).dead := fun o ho => by
 rcases mem_jops ho with ⟨d, i, hd, hi, rfl⟩ | ⟨d, hd, rfl⟩
 ·obtain ⟨h1, h2⟩ := mem_ups.1 hd
  exact ⟨d, base + i, rfl, by omega, h1, by omega, hF i hi, h2⟩
 ·obtain ⟨h1, h2⟩ := mem_ups.1 hd
  exact ⟨d, rfl, h1, h2⟩
def wr (s : St) (base : Nat) (F : List (List UInt8)) : Nat → St
 | 0 => s
 | m + 1 => (wr s base F m).write (base + m) (F.getD m [])
theorem ons_dops (base : Nat) (F : List (List UInt8)) (d : Nat) : ∀ (j m : Nat) (s : Nat → St) (s0 : St), m + j = F.length → s d = wr s0 base F m → ons s (dops base F d m) = Dk.upd s d (wr s0 base F F.length)
 | 0, m, s, s0, hm, hs => by
  have : m = F.length := by omega
  subst this; rw [dops_end, ons_nil, ← hs]
  funext x
  by_cases e : x = d
  ·subst e; rw [upd_same]
  ·rw [upd_other _ _ e]
 | j + 1, m, s, s0, hm, hs => by
  rw [dops_next (by omega), ons_cons]
  have e1 : (Rop.w d ((base : Int) + m) (F.getD m [])).on s = Dk.upd s d ((s d).write (base + m) (F.getD m [])) := by
   show Dk.upd s (d : Int).toNat ((s (d : Int).toNat).write ((base : Int) + m).toNat _) = _
   rw [Int.toNat_natCast, show ((base : Int) + m).toNat = base + m by omega]
  rw [e1, ons_dops base F d j (m + 1) _ s0 (by omega) (by rw [upd_same, hs]; rfl), Dk.upd_upd]
theorem ons_wops (base : Nat) (F : List (List UInt8)) : ∀ (U : List Nat) (s : Nat → St), U.Nodup → ∀ d, ons s (U.flatMap fun d => dops base F d 0) d = if d ∈ U then wr (s d) base F F.length else s d
 | [], s, _, d => by simp [ons_nil]
 | u :: U, s, hn, d => by
  obtain ⟨h1, h2⟩ := List.nodup_cons.1 hn; rw [List.flatMap_cons, ons_append, ons_dops base F u F.length 0 s (s u) (by omega) rfl, ons_wops base F U _ h2]
  by_cases e : d = u
  ·subst e
   rw [if_neg h1, upd_same, if_pos (List.mem_cons_self ..)]
  ·rw [upd_other _ _ e]
   by_cases hm : d ∈ U
   ·rw [if_pos hm, if_pos (List.mem_cons_of_mem _ hm)]
   ·rw [if_neg hm, if_neg (by rw [List.mem_cons]; exact fun h => h.elim e hm)]
theorem ons_fops : ∀ (U : List Nat) (s : Nat → St), U.Nodup → ∀ d, ons s (U.map fun d => Rop.f (d : Nat)) d = if d ∈ U then (s d).flush else s d
 | [], s, _, d => by simp [ons_nil]
 | u :: U, s, hn, d => by
  obtain ⟨h1, h2⟩ := List.nodup_cons.1 hn; rw [List.map_cons, ons_cons]
  have e1 : (Rop.f (u : Nat)).on s = Dk.upd s u (s u).flush := by
   show Dk.upd s (u : Int).toNat ((s (u : Int).toNat).flush) = _
   rw [Int.toNat_natCast]
  rw [e1, ons_fops U _ h2]
  by_cases e : d = u
  ·subst e
   rw [if_neg h1, upd_same, if_pos (List.mem_cons_self ..)]
  ·rw [upd_other _ _ e]
   by_cases hm : d ∈ U
   ·rw [if_pos hm, if_pos (List.mem_cons_of_mem _ hm)]
   ·rw [if_neg hm, if_neg (by rw [List.mem_cons]; exact fun h => h.elim e hm)]
theorem ups_nodup (q : Rk) : (ups q).Nodup := List.Nodup.sublist List.filter_sublist List.nodup_range
theorem ons_jops (base : Nat) (F : List (List UInt8)) (U : List Nat) (s : Nat → St) (hU : U.Nodup) (d : Nat) : ons s (jops base F U) d = if d ∈ U then (wr (s d) base F F.length).flush else s d := by
 unfold jops wops fops
 rw [List.drop_zero, ons_append, ons_fops U _ hU, ons_wops base F U s hU]
 by_cases h : d ∈ U
 ·rw [if_pos h, if_pos h, if_pos h]
 ·rw [if_neg h, if_neg h, if_neg h]
theorem wr_n (s : St) (base : Nat) (F : List (List UInt8)) : ∀ m, (wr s base F m).n = s.n ∧ (wr s base F m).dead = s.dead ∧ (wr s base F m).st = s.st
 | 0 => ⟨rfl, rfl, rfl⟩
 | m + 1 => wr_n s base F m
theorem wr_ok {s : St} (h : s.Ok) {base : Nat} {F : List (List UInt8)} (hF : ∀ i, i < F.length → (F.getD i []).length = 128) : ∀ m, m ≤ F.length → base + m ≤ s.n → (wr s base F m).Ok
 | 0, _, _ => h
 | m + 1, h1, h2 => (wr_ok h hF m (by omega) (by omega)).write (by rw [(wr_n s base F m).1]; omega) (hF m (by omega))
theorem wr_read (s : St) (base : Nat) (F : List (List UInt8)) (x : Nat) : ∀ m, (wr s base F m).read x = if base ≤ x ∧ x < base + m then F.getD (x - base) [] else s.read x
 | 0 => by rw [if_neg (by omega)]; rfl
 | m + 1 => by
  have ih := wr_read s base F x m
  by_cases e : x = base + m
  ·subst e
   rw [if_pos (by omega), show base + m - base = m by omega]
   show ((Dk.upd _ (base + m) (some (F.getD m []))) (base + m)).getD _ = _
   rw [upd_same]; rfl
  ·have e1 : (wr s base F (m + 1)).read x = (wr s base F m).read x := by
    show ((Dk.upd (wr s base F m).wt (base + m) (some (F.getD m []))) x).getD _ = ((wr s base F m).wt x).getD _
    rw [upd_other _ _ e]; rfl
   rw [e1, ih]
   by_cases h : base ≤ x ∧ x < base + m
   ·rw [if_pos h, if_pos (by omega)]
   ·rw [if_neg h, if_neg (by omega)]
structure Rc where
 q : Int
 t : Int
 b : List (List UInt8)
theorem Rc.same : ∀ {x y : Rc}, x.q = y.q → x.t = y.t → x.b = y.b → x = y
 | ⟨_, _, _⟩, ⟨_, _, _⟩, rfl, rfl, rfl => rfl
instance : DecidableEq Rc := fun a b =>
 decidable_of_iff (a.q = b.q ∧ a.t = b.t ∧ a.b = b.b) ⟨fun ⟨h1, h2, h3⟩ => Rc.same h1 h2 h3, fun h => by subst h; exact ⟨rfl, rfl, rfl⟩⟩
def zeroR : Rc := ⟨0, 0, []⟩
def Rc.is (x : Rc) : Prop := ∀ d ∈ x.b, d.length = 108
def z108 : List UInt8 := List.replicate 108 0
def jF (x : Rc) (i : Nat) : Fr := ⟨2, i, x.t, x.q, x.b.getD i z108⟩
variable {x : Rc}
theorem jF_is (h : x.is) (i : Nat) : (jF x i).is := by
 show (x.b.getD i z108).length = 108
 by_cases hi : i < x.b.length
 ·simp only [List.getD, List.getElem?_eq_getElem hi, Option.getD_some]; exact h _ (List.getElem_mem hi)
 ·simp only [List.getD, List.getElem?_eq_none (Nat.le_of_not_lt hi), Option.getD_none]; simp [z108]
def jFs (x : Rc) : List (List UInt8) := (List.range x.b.length).map fun i => put (jF x i)
theorem jFs_length (x : Rc) : (jFs x).length = x.b.length := by simp [jFs]
variable {i : Nat}
theorem jFs_getD (h : i < x.b.length) : (jFs x).getD i [] = put (jF x i) := by simp [jFs, List.getD, h]
def jFl (x : Rc) : List Fr := (List.range x.b.length).map (jF x)
theorem jFl_length (x : Rc) : (jFl x).length = x.b.length := by simp [jFl]
theorem jFs_jFl (x : Rc) : jFs x = (jFl x).map put := by simp [jFs, jFl, Function.comp_def]
theorem jFl_is (h : x.is) : ∀ f ∈ jFl x, f.is := fun f hf => by
 obtain ⟨i, _, rfl⟩ := List.mem_map.1 hf
 exact jF_is h i
theorem jFl_take (h : i < x.b.length) : (jFl x).take (i + 1) = (jFl x).take i ++ [jF x i] := by
 rw [List.take_succ_eq_append_getElem (by rw [jFl_length]; exact h)]; simp [jFl]
def jright (c : Cf) (x : Rc) : Bool := decide (2 ≤ x.q) && decide (x.q ≤ 1152921504606846976) && (decide (0 ≤ x.t) && decide (x.t < c.t)) && decide ((x.b.length : Int) = c.k)
variable {c : Cf}
theorem jright_iff : jright c x = true ↔ 2 ≤ x.q ∧ x.q ≤ 1152921504606846976 ∧ 0 ≤ x.t ∧ x.t < c.t ∧ (x.b.length : Int) = c.k := by
 unfold jright; simp [and_assoc]
def jhasSlot (c : Cf) (q : Rk) (s : Int) : Bool := c.fits q && (decide (0 ≤ s) && decide (s < c.s))
theorem jF_right (hc : CfRight c) (h1 : 0 ≤ x.q) (h2 : x.q ≤ 1152921504606846976) (h3 : 0 ≤ x.t) (h4 : x.t < c.t) (hi : (i : Int) < c.k) : rightB (jF x i) = true :=
 decide_eq_true (show (1 : Int) ≤ 2 ∧ (2 : Int) ≤ 3 ∧ 0 ≤ (i : Int) ∧ (i : Int) < 8 ∧ 0 ≤ x.t ∧ x.t < 64 ∧ 0 ≤ x.q ∧ x.q ≤ 1152921504606846976 from by
  obtain ⟨_, _, a3, a4, a5, a6, a7, _, _⟩ := hc
  exact ⟨by decide, by decide, by omega, by omega, h3, by omega, h1, h2⟩)
def jbase (c : Cf) (s : Int) : Int := 1 + s * c.k
theorem mul_lt_slots {s k S : Int} (h0 : 0 ≤ s) (h1 : s < S) (hk : 0 ≤ k) : 0 ≤ s * k ∧ s * k + k ≤ S * k := by
 refine ⟨Int.mul_nonneg h0 hk, ?_⟩
 have : (s + 1) * k ≤ S * k := Int.mul_le_mul_of_nonneg_right (by omega) hk
 rw [Int.add_mul, Int.one_mul] at this
 exact this
def slotOps (c : Cf) (s : Int) (x : Rc) (q : Rk) : List Rop := jops (jbase c s) (jFs x) (ups q)
def blankR (c : Cf) : Rc := ⟨0, 0, List.replicate c.k.toNat z108⟩
theorem blankR_is (c : Cf) : (blankR c).is := fun d hd => by rw [List.eq_of_mem_replicate hd]; simp [z108]
def Rk.jlog (q : Rk) (c : Cf) (x : Rc) : Rk := if (c.fits q && jright c x) = true then runS q (slotOps c (x.q % c.s) x q) else q
def Rk.jlogC (q : Rk) (c : Cf) (x : Rc) : Int := if (c.fits q && jright c x) = true then runC q (slotOps c (x.q % c.s) x q) else 1
def Rk.jblank (q : Rk) (c : Cf) (s : Int) : Rk := if jhasSlot c q s = true then runS q (slotOps c s (blankR c) q) else q
def Rk.jblankC (q : Rk) (c : Cf) (s : Int) : Int := if jhasSlot c q s = true then runC q (slotOps c s (blankR c) q) else 1
def jgood (c : Cf) (s : Int) (f : Fr) : Bool := (decide (0 ≤ f.t) && decide (f.t < c.t)) && (decide (f.g = 0) || (decide (2 ≤ f.g) && decide (f.g % c.s = s)))
def jfr (q : Rk) (c : Cf) (s : Int) (i d : Nat) : Option Fr :=
 if (qfound q d (jbase c s + i) 2 i (-1) && jgood c s (qgot q d (jbase c s + i) 2 i (-1))) = true then some (qgot q d (jbase c s + i) 2 i (-1)) else none
def jlN (q : Rk) (c : Cf) (s : Int) (i : Nat) (U : List Nat) (m : Nat) : List Fr := (U.take m).filterMap (jfr q c s i)
def jl (q : Rk) (c : Cf) (s : Int) (i : Nat) : List Fr := (ups q).filterMap (jfr q c s i)
theorem jlN_all (q : Rk) (c : Cf) (s : Int) (i : Nat) : jlN q c s i (ups q) (ups q).length = jl q c s i := by unfold jlN jl; rw [List.take_length]
theorem take_snoc' (h : m < U.length) : U.take (m + 1) = U.take m ++ [U.getD m 0] := by
 rw [List.take_succ_eq_append_getElem h]; simp [List.getD, h]
variable {f : Fr}
theorem jlN_yes {s : Int} (h : m < U.length) (hf : jfr q c s i (U.getD m 0) = some f) : jlN q c s i U (m + 1) = jlN q c s i U m ++ [f] := by
 unfold jlN; rw [take_snoc' h, List.filterMap_append, List.filterMap_cons, hf]; rfl
theorem jlN_no {s : Int} (h : m < U.length) (hf : jfr q c s i (U.getD m 0) = none) : jlN q c s i U (m + 1) = jlN q c s i U m := by
 unfold jlN; rw [take_snoc' h, List.filterMap_append, List.filterMap_cons, hf]; simp
theorem jlN_length (q : Rk) (c : Cf) (s : Int) (i : Nat) (U : List Nat) (m : Nat) : (jlN q c s i U m).length ≤ m :=
 Nat.le_trans (List.length_filterMap_le ..) (List.length_take_le ..)
def topG (n : Int) (l : List Fr) : Int := l.foldl (fun n f => max n f.g) n
theorem topG_snoc (n : Int) (l : List Fr) (f : Fr) : topG n (l ++ [f]) = max (topG n l) f.g := by unfold topG; rw [List.foldl_append]; rfl
def jnew (L : Nat → List Fr) : Nat → Int
 | 0 => 0
 | i + 1 => topG (jnew L i) (L i)
def jfits (n t : Int) (i : Nat) (f : Fr) : Bool := decide (f.g = n) && (decide (i = 0) || decide (f.t = t))
def jpick (n t : Int) (i : Nat) (l : List Fr) : Option Fr := l.find? (jfits n t i)
def jrec (L : Nat → List Fr) (n : Int) : Nat → Option Rc
 | 0 => some ⟨n, 0, []⟩
 | i + 1 => match jrec L n i with
  | none => none
  | some x => match jpick n x.t i (L i) with
   | none => none
   | some f => some ⟨n, f.t, x.b ++ [f.d]⟩
def jall (L : Nat → List Fr) (k : Nat) : Prop := ∀ i, i < k → L i ≠ []
instance (L : Nat → List Fr) (k : Nat) : Decidable (jall L k) := by unfold jall; infer_instance
theorem jrec_down {L : Nat → List Fr} {n : Int} : ∀ {k : Nat} (j : Nat), jrec L n k = none → jrec L n (k + j) = none
 | _, 0, h => h
 | k, j + 1, h => by
  have ih := jrec_down (k := k) j h
  show jrec L n ((k + j) + 1) = none
  unfold jrec; rw [ih]
theorem jrec_len {L : Nat → List Fr} {n : Int} : ∀ {k : Nat} {x : Rc}, jrec L n k = some x → x.b.length = k ∧ x.q = n
 | 0, x, h => by unfold jrec at h; injection h with h; subst h; exact ⟨rfl, rfl⟩
 | k + 1, x, h => by
  unfold jrec at h
  cases hr : jrec L n k with
  | none => rw [hr] at h; cases h
  | some y =>
   rw [hr] at h
   cases hp : jpick n y.t k (L k) with
   | none => simp only [hp] at h; cases h
   | some f =>
    simp only [hp] at h; injection h with h; subst h; refine ⟨?_, rfl⟩
    show (y.b ++ [f.d]).length = k + 1
    rw [List.length_append, (jrec_len hr).1]; rfl
def jw (q : Rk) (c : Cf) (s : Int) : Prop := jhasSlot c q s = true ∧ jall (jl q c s) c.k.toNat
instance (q : Rk) (c : Cf) (s : Int) : Decidable (jw q c s) := by unfold jw; infer_instance
def jnewest (q : Rk) (c : Cf) (s : Int) : Int := if jw q c s then jnew (jl q c s) c.k.toNat else 0
def jrecO (q : Rk) (c : Cf) (s : Int) : Option Rc := if jw q c s then jrec (jl q c s) (jnewest q c s) c.k.toNat else none
def jrecR (q : Rk) (c : Cf) (s : Int) : Rc := (jrecO q c s).getD zeroR
def jwhole (q : Rk) (c : Cf) (s : Int) : Bool := (jrecO q c s).isSome
def jcode (q : Rk) (c : Cf) (s : Int) : Int := if jhasSlot c q s = true then (if jall (jl q c s) c.k.toNat then 0 else 6) else 1
theorem topG_ge : ∀ (l : List Fr) (n : Int), n ≤ topG n l ∧ ∀ f ∈ l, f.g ≤ topG n l
 | [], n => ⟨Int.le_refl _, fun f hf => by cases hf⟩
 | a :: l, n => by
  obtain ⟨h1, h2⟩ := topG_ge l (max n a.g); have e : topG n (a :: l) = topG (max n a.g) l := rfl; rw [e]; refine ⟨by omega, fun f hf => ?_⟩
  rcases List.mem_cons.1 hf with rfl | hf
  ·omega
  ·exact h2 f hf
theorem topG_le : ∀ (l : List Fr) (n M : Int), n ≤ M → (∀ f ∈ l, f.g ≤ M) → topG n l ≤ M
 | [], n, M, h, _ => h
 | a :: l, n, M, h, hl => topG_le l (max n a.g) M (by have := hl a (List.mem_cons_self ..); omega) fun f hf => hl f (List.mem_cons_of_mem _ hf)
theorem jnew_ge (L : Nat → List Fr) : ∀ (k : Nat), 0 ≤ jnew L k ∧ ∀ i, i < k → ∀ f ∈ L i, f.g ≤ jnew L k
 | 0 => ⟨Int.le_refl _, fun i hi => absurd hi (by omega)⟩
 | k + 1 => by
  obtain ⟨h1, h2⟩ := jnew_ge L k; obtain ⟨g1, g2⟩ := topG_ge (L k) (jnew L k); have e : jnew L (k + 1) = topG (jnew L k) (L k) := rfl; rw [e]; refine ⟨by omega, fun i hi f hf => ?_⟩
  by_cases hk : i = k
  ·subst hk; exact g2 f hf
  ·have := h2 i (by omega) f hf; omega
theorem jnew_le (L : Nat → List Fr) {M : Int} (h0 : 0 ≤ M) : ∀ (k : Nat), (∀ i, i < k → ∀ f ∈ L i, f.g ≤ M) → jnew L k ≤ M
 | 0, _ => h0
 | k + 1, h => topG_le _ _ _ (jnew_le L h0 k fun i hi => h i (by omega)) (h k (by omega))
variable {n t : Int} {l : List Fr}
theorem jpick_some {F : Fr} (h : ∀ f ∈ l, f.g = n → f = F) (he : ∃ f ∈ l, f.g = n) (ht : i = 0 ∨ F.t = t) : jpick n t i l = some F := by
 unfold jpick
 cases hp : l.find? (jfits n t i) with
 | none =>
  obtain ⟨f, hf, e⟩ := he; have h1 := List.find?_eq_none.1 hp f hf; have e2 := h f hf e; refine absurd ?_ h1; unfold jfits; rw [e2] at e ⊢
  rcases ht with ht | ht
  ·simp [e, ht]
  ·simp [e, ht]
 | some f =>
  have h1 := List.find?_some hp; have h2 := List.mem_of_find?_eq_some hp; unfold jfits at h1; simp only [Bool.and_eq_true, decide_eq_true_eq] at h1; rw [h f h2 h1.1]
theorem jpick_none (h : ∀ f ∈ l, f.g ≠ n) : jpick n t i l = none := by
 unfold jpick
 refine List.find?_eq_none.2 fun f hf => ?_
 unfold jfits
 simp [h f hf]
theorem jrec_some {L : Nat → List Fr} {x : Rc} : ∀ {k : Nat}, k ≤ x.b.length → (∀ i, i < k → (∀ f ∈ L i, f.g = x.q → f = jF x i) ∧ ∃ f ∈ L i, f.g = x.q) → ∃ t, jrec L x.q k = some ⟨x.q, t, x.b.take k⟩ ∧ (k = 0 ∨ t = x.t)
 | 0, _, _ => ⟨0, by simp [jrec], Or.inl rfl⟩
 | k + 1, hk, h => by
  obtain ⟨t, e1, e2⟩ := jrec_some (L := L) (x := x) (k := k) (by omega) fun i hi => h i (by omega)
  obtain ⟨h1, h2⟩ := h k (by omega); have hp : jpick x.q t k (L k) = some (jF x k) := jpick_some h1 h2 (by rcases e2 with e2 | e2; exact Or.inl e2; exact Or.inr e2.symm); refine ⟨x.t, ?_, Or.inr rfl⟩; unfold jrec; rw [e1]; simp only [hp]
  show some (⟨x.q, x.t, x.b.take k ++ [x.b.getD k z108]⟩ : Rc) = _
  rw [List.take_succ_eq_append_getElem (by omega)]
  simp [List.getD, show k < x.b.length by omega]
theorem jrec_none {L : Nat → List Fr} (hi : i < k) (h : ∀ f ∈ L i, f.g ≠ n) : jrec L n k = none := by
 have h1 : jrec L n (i + 1) = none := by
  unfold jrec
  cases jrec L n i with
  | none => rfl
  | some x => simp only [jpick_none h]
 have := jrec_down (L := L) (n := n) (k := i + 1) (k - (i + 1)) h1
 rwa [show i + 1 + (k - (i + 1)) = k by omega] at this
variable {sec : Nat} {kind : Int}
theorem get_put {slot stripe : Int} (hq : q.Ok) (hd : d < q.n) (ho : q.off = false) (hl : (q.s d).dead = false) (hs : sec < q.k) (hv : (q.s d).read sec = put f) (hf : f.is) (hr : rightB f = true) (ha : asked f kind slot stripe = true) :
  qfound q d sec kind slot stripe = true ∧ qgot q d sec kind slot stripe = f := by
 have hh : q.has (d : Int) := ⟨by omega, by omega⟩
 have hn : inN (q.s d) sec := ⟨by omega, by have := hq.k d hd; omega⟩
 have e1 : qval q (d : Int) sec = put f := by
  unfold qval; rw [if_pos ⟨hh, ho⟩]; unfold rval; rw [Int.toNat_natCast, if_pos ⟨hl, hn⟩, Int.toNat_natCast]; exact hv
 have e2 : qrcode q (d : Int) sec = 0 := by
  unfold qrcode; rw [if_pos hh, ho, if_neg (show ¬ false = true by decide)]; unfold rcode; rw [Int.toNat_natCast, hl, if_neg (show ¬ false = true by decide), if_pos hn]
 obtain ⟨g1, g2⟩ := got_put hf hr
 have hF : qfound q d sec kind slot stripe = true := by
  unfold qfound; rw [e1, e2, g1, g2, ha]; rfl
 refine ⟨hF, ?_⟩
 unfold qgot
 rw [if_pos hF, e1, g2]
theorem get_bad {slot stripe : Int} (h : q.off = true ∨ (q.s d).dead = true ∨ goodB ((q.s d).read sec) = false) : qfound q d sec kind slot stripe = false := by
 unfold qfound
 by_cases hc : qrcode q (d : Int) sec = 0
 ·have hh : q.has (d : Int) := by
   by_cases hh : q.has (d : Int)
   ·exact hh
   ·unfold qrcode at hc; rw [if_neg hh] at hc; cases hc
  unfold qrcode at hc; rw [if_pos hh] at hc
  cases ho : q.off with
  | true => rw [ho, if_pos rfl] at hc; cases hc
  | false =>
   rw [ho, if_neg (show ¬ false = true by decide)] at hc; unfold rcode at hc; rw [Int.toNat_natCast] at hc
   cases hd : (q.s d).dead with
   | true => rw [hd, if_pos rfl] at hc; cases hc
   | false =>
    rw [hd, if_neg (show ¬ false = true by decide)] at hc
    by_cases hn : inN (q.s d) sec
    ·have e1 : qval q (d : Int) sec = (q.s d).read sec := by
      unfold qval; rw [if_pos ⟨hh, ho⟩]; unfold rval; rw [Int.toNat_natCast, if_pos ⟨hd, hn⟩]
      rfl
     rcases h with h | h | h
     ·rw [ho] at h; cases h
     ·rw [hd] at h; cases h
     ·rw [e1, h]; simp
    ·rw [if_neg hn] at hc; cases hc
 ·rw [decide_eq_false hc]; rfl
def jsec (c : Cf) (s i : Nat) : Nat := 1 + s * c.k.toNat + i
theorem jsec_eq (hk : 0 ≤ c.k) (s i : Nat) : jbase c s + i = ((jsec c s i : Nat) : Int) := by
 obtain ⟨k, hk⟩ := Int.eq_ofNat_of_zero_le hk
 unfold jbase jsec
 rw [hk]
 simp
variable {s : Nat}
theorem jsec_lt (hf : c.fits q = true) (hs : (s : Int) < c.s) (hi : (i : Int) < c.k) : jsec c s i < q.k := by
 obtain ⟨hr, _, hk⟩ := fits_right hf
 have h1 := mul_lt_slots (s := (s : Int)) (by omega) hs (show 0 ≤ c.k by have := hr.2.2.1; omega)
 have h2 := jsec_eq (c := c) (show 0 ≤ c.k by have := hr.2.2.1; omega) s i
 have ht := hr.2.2.2.2.2.1
 unfold Cf.secs at hk
 unfold jbase at h2
 omega
theorem jsec_inj {s' i' : Nat} (hi : (i : Int) < c.k) (hi' : (i' : Int) < c.k) (h : jsec c s i = jsec c s' i') : s = s' ∧ i = i' := by
 unfold jsec at h
 have hk : i < c.k.toNat := by omega
 have hk' : i' < c.k.toNat := by omega
 have key : ∀ (s s' i i' k : Nat), i < k → i' < k → s < s' → s * k + i < s' * k + i' := fun s s' i i' k h1 h2 h3 => by
  have : (s + 1) * k ≤ s' * k := Nat.mul_le_mul_right k h3; rw [Nat.succ_mul] at this; omega
 rcases Nat.lt_trichotomy s s' with h1 | h1 | h1
 ·have := key s s' i i' _ hk hk' h1; omega
 ·subst h1; exact ⟨rfl, by omega⟩
 ·have := key s' s i' i _ hk' hk h1; omega
theorem asked_jF (x : Rc) (i : Nat) : asked (jF x i) 2 i (-1) = true := by unfold asked jF; simp
theorem jfr_put (hq : q.Ok) (hf : c.fits q = true) (hs : (s : Int) < c.s) (hi : (i : Int) < c.k) (hd : d < q.n) (ho : q.off = false) (hl : (q.s d).dead = false) (hx : x.is) (h1 : 0 ≤ x.q) (h2 : x.q ≤ 1152921504606846976) (h3 : 0 ≤ x.t) (h4 : x.t < c.t)
  (hg : x.q = 0 ∨ 2 ≤ x.q ∧ x.q % c.s = s) (hv : (q.s d).read (jsec c s i) = put (jF x i)) : jfr q c s i d = some (jF x i) := by
 have hr := (fits_right hf).1
 obtain ⟨e1, e2⟩ := get_put (kind := 2) (slot := i) (stripe := -1) hq hd ho hl (jsec_lt hf hs hi) hv (jF_is hx i) (jF_right hr h1 h2 h3 h4 hi) (asked_jF x i)
 unfold jfr
 rw [jsec_eq (by have := hr.2.2.1; omega), e1, e2]
 have hG : jgood c s (jF x i) = true := by
  unfold jgood
  show ((decide (0 ≤ x.t) && decide (x.t < c.t)) && (decide (x.q = 0) || (decide (2 ≤ x.q) && decide (x.q % c.s = s)))) = true
  rcases hg with h | h
  ·simp [h3, h4, h]
  ·simp [h3, h4, h.1, h.2]
 rw [hG]; rfl
theorem jfr_bad (hk : 0 ≤ c.k) (h : q.off = true ∨ (q.s d).dead = true ∨ goodB ((q.s d).read (jsec c s i)) = false) : jfr q c s i d = none := by
 unfold jfr
 rw [jsec_eq hk, get_bad h]
 rfl
theorem mem_jl {s : Int} : f ∈ jl q c s i ↔ ∃ d, d < q.n ∧ (q.s d).dead = false ∧ jfr q c s i d = some f := by
 unfold jl
 rw [List.mem_filterMap]
 constructor
 ·rintro ⟨d, hd, h⟩; exact ⟨d, (mem_ups.1 hd).1, (mem_ups.1 hd).2, h⟩
 ·rintro ⟨d, h1, h2, h3⟩; exact ⟨d, mem_ups.2 ⟨h1, h2⟩, h3⟩
theorem slot_lost {s : Int} (hh : jhasSlot c q s = true) (hi : (i : Int) < c.k) (h : ∀ d, d < q.n → (q.s d).dead = false → jfr q c s i d = none) : jcode q c s = 6 ∧ ¬ jall (jl q c s) c.k.toNat := by
 have hno : ¬ jall (jl q c s) c.k.toNat := fun ha => by
  have h1 := ha i (by omega); obtain ⟨f, hf⟩ := List.exists_mem_of_ne_nil _ h1; obtain ⟨d, h2, h3, h4⟩ := mem_jl.1 hf; rw [h d h2 h3] at h4
  cases h4
 refine ⟨?_, hno⟩
 unfold jcode
 rw [if_pos hh, if_neg hno]
theorem slot_all {s : Int} (hh : jhasSlot c q s = true) (hs : ∀ i : Nat, (i : Int) < c.k → ∃ d f, d < q.n ∧ (q.s d).dead = false ∧ jfr q c s i d = some f) : jw q c s ∧ jcode q c s = 0 := by
 have ha : jall (jl q c s) c.k.toNat := fun i hi e => by
  obtain ⟨d, f, h1, h2, h3⟩ := hs i (by omega); have : f ∈ jl q c s i := mem_jl.2 ⟨d, h1, h2, h3⟩; rw [e] at this; cases this
 refine ⟨⟨hh, ha⟩, ?_⟩
 unfold jcode
 rw [if_pos hh, if_pos ha]
theorem slot_whole {s : Int} (hw : jw q c s) (hn : jnew (jl q c s) c.k.toNat = x.q) (hk : 1 ≤ c.k) (hx : x.b.length = c.k.toNat)
  (h : ∀ i : Nat, (i : Int) < c.k → (∀ f ∈ jl q c s i, f.g = x.q → f = jF x i) ∧ ∃ f ∈ jl q c s i, f.g = x.q) : jnewest q c s = x.q ∧ jwhole q c s = true ∧ jrecR q c s = x := by
 have e1 : jnewest q c s = x.q := (if_pos hw).trans hn
 obtain ⟨t, e2, e3⟩ := jrec_some (L := jl q c s) (x := x) (k := c.k.toNat) (by omega) fun i hi => h i (by omega)
 have e4 : jrecO q c s = some x := by
  unfold jrecO; rw [if_pos hw, e1, e2]
  congr 1
  refine Rc.same rfl ?_ ?_
  ·rcases e3 with e3 | e3
   ·omega
   ·exact e3
  ·show x.b.take c.k.toNat = x.b
   rw [← hx, List.take_length]
 refine ⟨e1, ?_, ?_⟩
 ·unfold jwhole; rw [e4]; rfl
 ·unfold jrecR; rw [e4]; rfl
theorem slot_torn {s : Int} (hw : jw q c s) (hn : jnew (jl q c s) c.k.toNat = n) (hi : (i : Int) < c.k) (h : ∀ f ∈ jl q c s i, f.g ≠ n) : jnewest q c s = n ∧ jwhole q c s = false ∧ jrecR q c s = zeroR := by
 have e1 : jnewest q c s = n := (if_pos hw).trans hn
 have e4 : jrecO q c s = none := by
  unfold jrecO; rw [if_pos hw, e1]; exact jrec_none (by omega) h
 refine ⟨e1, ?_, ?_⟩
 ·unfold jwhole; rw [e4]; rfl
 ·unfold jrecR; rw [e4]; rfl
structure RcIn (c : Cf) (s : Nat) (x : Rc) : Prop where
 is : x.is
 len : x.b.length = c.k.toNat
 q0 : 0 ≤ x.q
 q1 : x.q ≤ 1152921504606846976
 t0 : 0 ≤ x.t
 t1 : x.t < c.t
 slot : x.q = 0 ∨ 2 ≤ x.q ∧ x.q % c.s = s
theorem RcIn.frame (h : RcIn c s x) (hc : CfRight c) {i : Nat} (hi : (i : Int) < c.k) : rightB (jF x i) = true := jF_right hc h.q0 h.q1 h.t0 h.t1 hi
theorem RcIn.jr (h : RcIn c s x) (h2 : 2 ≤ x.q) (hk : 0 ≤ c.k) : jright c x = true := jright_iff.2 ⟨h2, h.q1, h.t0, h.t1, by rw [h.len]; omega⟩
theorem base_nat (hk : 0 ≤ c.k) (s : Nat) : jbase c s = ((jsec c s 0 : Nat) : Int) := by
 have := jsec_eq hk s 0
 simpa using this
theorem jsec_add (c : Cf) (s i : Nat) : jsec c s 0 + i = jsec c s i := by unfold jsec; omega
theorem jsec_last (hf : c.fits q = true) (hs : (s : Int) < c.s) : jsec c s 0 + c.k.toNat ≤ q.k := by
 have hr := (fits_right hf).1
 have h1 := jsec_lt (c := c) (q := q) (s := s) (i := c.k.toNat - 1) hf hs (by have := hr.2.2.1; omega)
 unfold jsec at *
 have := hr.2.2.1
 omega
theorem jFs_128 (h : RcIn c s x) (hc : CfRight c) : ∀ i, i < (jFs x).length → ((jFs x).getD i []).length = 128 := fun i hi => by
 rw [jFs_length] at hi
 rw [jFs_getD hi]
 exact put_len (jF_is h.is i) (h.frame hc (by have := h.len; omega))
theorem slotS_facts {t : St} (ht : t.Ok) {base : Nat} {F : List (List UInt8)} (hF : ∀ i, i < F.length → (F.getD i []).length = 128) (hb : base + F.length ≤ t.n) :
  (wr t base F F.length).flush.dead = t.dead ∧ (wr t base F F.length).flush.n = t.n ∧ (wr t base F F.length).flush.Ok ∧ (∀ p, (wr t base F F.length).flush.wt p = none) ∧
  (∀ p, (wr t base F F.length).flush.read p = if base ≤ p ∧ p < base + F.length then F.getD (p - base) [] else t.read p) ∧ (∀ p, t.rot p = false ∨ base ≤ p ∧ p < base + F.length → (wr t base F F.length).flush.rot p = false) := by
 have hwo := wr_ok ht hF F.length (Nat.le_refl _) hb
 obtain ⟨f1, f2, f3⟩ := wr_n t base F F.length
 refine ⟨(flushed_dead _).trans f2, (flushed_n _).trans f1, hwo.stores, St.flush_wt hwo, fun p => by rw [St.flush_read hwo, wr_read], fun p hp => ?_⟩
 show ((wr t base F F.length).stores (wr t base F F.length).ks).rot p = false
 rw [St.stores_rot]
 have hrot : ∀ m, (wr t base F m).rot = t.rot := fun m => by induction m with
  | zero => rfl
  | succ m ih => exact ih
 split
 ·rfl
 ·rename_i hn
  rw [hrot]
  rcases hp with hp | hp
  ·exact hp
  ·exfalso
   refine hn ((St.mem_ks hwo).2 ?_)
   have key : ∀ m, base ≤ p → p < base + m → ((wr t base F m).wt p).isSome = true := fun m h1 h2 => by
    induction m with
    | zero => omega
    | succ m ih =>
     by_cases e : p = base + m
     ·subst e
      show ((Dk.upd (wr t base F m).wt (base + m) (some (F.getD m []))) (base + m)).isSome = true
      rw [upd_same]; rfl
     ·show ((Dk.upd (wr t base F m).wt (base + m) (some (F.getD m []))) p).isSome = true
      rw [upd_other _ _ e]; exact ih (by omega)
   exact key F.length hp.1 hp.2
theorem has_slot (hf : c.fits q = true) (hs : (s : Int) < c.s) : jhasSlot c q s = true := by
 unfold jhasSlot; rw [hf]; simp [hs]
theorem blank_in (hc : CfRight c) (s : Nat) : RcIn c s (blankR c) :=
 ⟨blankR_is c, by simp [blankR], Int.le_refl _, by show (0 : Int) ≤ _; decide, Int.le_refl _, by have := hc.2.2.2.2.2.1; show 0 < c.t; omega, Or.inl rfl⟩
theorem rot_bad (hf : f.is) (hr : rightB f = true) {a x : Nat} (ha : a ≤ 124) (h0 : x ≠ 0) (hx : x < 2 ^ 32) : goodB (rotL (put f) a x 4) = false := by
 have hl := put_len hf hr
 rw [rotL_turn hl a x 4 (by omega)]
 have hb := (burst hf hr a x ha hx).1
 cases hg : goodB (turnL (put f) a x 4) with
 | false => rfl
 | true => exact absurd (hb.1 hg) h0
end Go.Proofs.YtilljaneegbhlaaGreatDoor
