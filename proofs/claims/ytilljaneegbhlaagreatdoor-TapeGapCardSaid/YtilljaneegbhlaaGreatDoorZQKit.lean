import Derived.Test.YtilljaneegbhlaaGreatDoorZDFlat
import Derived.Test.YtilljaneegbhlaaGreatDoorZDEv
namespace Qk
open Dk
set_option maxHeartbeats 1000000
set_option maxRecDepth 100000
structure Rk where
 n : Nat
 k : Nat
 s : Nat → St
 off : Bool
 rem : Int
structure Rk.Ok (q : Rk) : Prop where
 n0 : 1 ≤ q.n
 n8 : q.n ≤ 8
 k0 : 1 ≤ q.k
 k8 : q.k ≤ 128
 k : ∀ i, i < q.n → (q.s i).n = q.k
 low : -9223372036854775808 ≤ q.rem
 high : q.rem < 9223372036854775808
def Rk.has (q : Rk) (i : Int) : Prop := 0 ≤ i ∧ i < q.n
instance (q : Rk) (i : Int) : Decidable (q.has i) := by unfold Rk.has; infer_instance
def Rk.up (q : Rk) (i : Int) : Bool := decide (q.has i) && !(q.s i.toNat).dead
def Rk.ready (q : Rk) (i : Int) : Int := if q.has i then (if (q.off || (q.s i.toNat).dead) = true then 5 else 0) else 1
def Rk.spent (q : Rk) : Rk := if q.rem = 0 then { q with off := true } else if 0 < q.rem then { q with rem := q.rem - 1 } else q
def Rk.turn (q : Rk) (i : Nat) (t : St) : Rk := { q with s := upd q.s i t }
def Rk.fits (q : Rk) (sec : Int) (len : Nat) : Prop := 0 ≤ sec ∧ sec < q.k ∧ len = 128
instance (q : Rk) (sec : Int) (len : Nat) : Decidable (q.fits sec len) := by unfold Rk.fits; infer_instance
def Rk.wcode (q : Rk) (i sec : Int) (len : Nat) : Int := if q.ready i = 0 then (if q.fits sec len then (if q.rem = 0 then 5 else 0) else 1) else q.ready i
def Rk.write (q : Rk) (i sec : Int) (l : List UInt8) : Rk :=
 if q.ready i = 0 ∧ q.fits sec l.length then (if q.rem = 0 then q.spent else q.spent.turn i.toNat ((q.s i.toNat).write sec.toNat l)) else q
def Rk.fcode (q : Rk) (i : Int) : Int := if q.ready i = 0 then (if q.rem = 0 then 5 else 0) else q.ready i
def Rk.flush (q : Rk) (i : Int) : Rk := if q.ready i = 0 then (if q.rem = 0 then q.spent else q.spent.turn i.toNat (q.s i.toNat).flush) else q
def Rk.arm (q : Rk) (n : Int) : Rk := { q with rem := n }
def Rk.crashed (q : Rk) (bits : Nat → Nat) (m : Nat) : Rk := { q with s := fun i => if i < m then (q.s i).crash (bits i) else q.s i }
def Rk.boot (q : Rk) (bits : Nat → Nat) : Rk := { (q.crashed bits q.n) with off := false, rem := -1 }
def Rk.wipe (q : Rk) (i : Nat) (dead : Bool) : Rk := q.turn i ((q.s i).wipe dead)
def newRk (n k : Nat) : Rk := ⟨n, k, fun _ => new k, false, -1⟩
theorem newRk_ok {n k : Nat} (h1 : 1 ≤ n) (h2 : n ≤ 8) (h3 : 1 ≤ k) (h4 : k ≤ 128) : (newRk n k).Ok :=
 ⟨h1, h2, h3, h4, fun _ _ => rfl, by show (-9223372036854775808 : Int) ≤ -1; omega, by show (-1 : Int) < 9223372036854775808; omega⟩
variable {q : Rk}
theorem Rk.Ok.spent (h : q.Ok) : q.spent.Ok := by
 have hl := h.low
 have hh := h.high
 unfold Rk.spent
 split
 ·exact ⟨h.n0, h.n8, h.k0, h.k8, h.k, hl, hh⟩
 ·split
  ·exact ⟨h.n0, h.n8, h.k0, h.k8, h.k, by show _ ≤ q.rem - 1; omega, by show q.rem - 1 < _; omega⟩
  ·exact h
theorem Rk.Ok.turn (h : q.Ok) {i : Nat} {t : St} (ht : t.n = q.k) : (q.turn i t).Ok :=
 ⟨h.n0, h.n8, h.k0, h.k8, fun j hj => by
  show (upd q.s i t j).n = q.k
  by_cases e : j = i
  ·subst e; rw [upd_same]; exact ht
  ·rw [upd_other _ _ e]; exact h.k j hj, h.low, h.high⟩
theorem spent_n (q : Rk) : q.spent.n = q.n := by unfold Rk.spent; split; rfl; split; rfl; rfl
theorem spent_k (q : Rk) : q.spent.k = q.k := by unfold Rk.spent; split; rfl; split; rfl; rfl
theorem spent_s (q : Rk) : q.spent.s = q.s := by unfold Rk.spent; split; rfl; split; rfl; rfl
theorem turn_at (q : Rk) (i : Nat) (t : St) : (q.turn i t).s i = t := upd_same ..
theorem turn_off (q : Rk) {i j : Nat} (t : St) (h : j ≠ i) : (q.turn i t).s j = q.s j := upd_other _ _ h
theorem write_n (q : Rk) (i sec : Int) (l : List UInt8) : (q.write i sec l).n = q.n := by
 unfold Rk.write; split
 ·split
  ·exact spent_n q
  ·exact spent_n q
 ·rfl
theorem write_k (q : Rk) (i sec : Int) (l : List UInt8) : (q.write i sec l).k = q.k := by
 unfold Rk.write; split
 ·split
  ·exact spent_k q
  ·exact spent_k q
 ·rfl
theorem flush_n (q : Rk) (i : Int) : (q.flush i).n = q.n := by
 unfold Rk.flush; split
 ·split
  ·exact spent_n q
  ·exact spent_n q
 ·rfl
theorem flush_k (q : Rk) (i : Int) : (q.flush i).k = q.k := by
 unfold Rk.flush; split
 ·split
  ·exact spent_k q
  ·exact spent_k q
 ·rfl
end Qk
namespace Go.Proofs.YtilljaneegbhlaaGreatDoor
open Go.RowKit Go.Deep Dk Qk Go.Maps
set_option maxHeartbeats 1000000
set_option maxRecDepth 100000
structure Lc where
 r : Nat
 P : Nat
 cap : Nat
 d : Nat → Nat
 S : Nat → Nat
 M : Nat → Nat
structure RackIn (lo : Nat) (w : World) (c : Lc) (q : Rk) : Prop where
 ok : q.Ok
 lr : lo ≤ c.r
 lP : lo ≤ c.P
 ld : ∀ i, i < q.n → lo ≤ c.d i ∧ lo ≤ c.S i ∧ lo ≤ c.M i
 cap : q.n ≤ c.cap
 top : w.heap[c.r]? = some (.cells #[.slice (some ⟨c.P, 0, none⟩) q.n c.cap, .bool q.off, .int .i64 q.rem] 69 (0, 0))
 row : ∃ cs, w.heap[c.P]? = some (.cells cs 70 (0, 0)) ∧ ∀ i, i < q.n → cs[i]? = some (.pointer (some ⟨c.d i, 0, none⟩))
 disk : ∀ i, i < q.n → DiskIn w (c.d i) (c.S i) (c.M i) (q.s i)
 inj : ∀ i j, i < q.n → j < q.n → i ≠ j → c.d i ≠ c.d j ∧ c.S i ≠ c.S j ∧ c.M i ≠ c.M j
structure RC (c : Lc) (n : Nat) (w w' : World) : Prop where
 os : w'.os = w.os
 tape : w'.tape = w.tape
 output : w'.output = w.output
 size : w.heap.size ≤ w'.heap.size
 block : ∀ k, k < w.heap.size → k ≠ c.r → (∀ i, i < n → k ≠ c.d i ∧ k ≠ c.S i ∧ k ≠ c.M i) → w'.heap[k]? = w.heap[k]?
theorem RC.refl (c : Lc) (n : Nat) (w : World) : RC c n w w := ⟨rfl, rfl, rfl, Nat.le_refl _, fun _ _ _ _ => rfl⟩
variable {c : Lc} {n : Nat} {w : World}
theorem RC.trans {w1 w2 : World} (h : RC c n w w1) (h2 : RC c n w1 w2) : RC c n w w2 :=
 ⟨h2.os.trans h.os, h2.tape.trans h.tape, h2.output.trans h.output, Nat.le_trans h.size h2.size, fun k hk a b => (h2.block k (Nat.lt_of_lt_of_le hk h.size) a b).trans (h.block k hk a b)⟩
variable {w' : World}
theorem RC.of_below (h : Below w.heap.size w w') : RC c n w w' := ⟨h.os, h.tape, h.output, h.size, fun k hk _ _ => h.block k hk⟩
theorem RC.of_chg {i : Nat} (h : Chg (c.d i) (c.S i) (c.M i) w w') (hi : i < n) : RC c n w w' :=
 ⟨h.os, h.tape, h.output, h.size, fun k hk _ b => h.block k hk (b i hi).1 (b i hi).2.1 (b i hi).2.2⟩
theorem RC.set (c : Lc) (n i : Nat) (v : Value) (w : World) : RC c n w (w.setCell ⟨c.r, i, none⟩ v) :=
 ⟨rfl, rfl, rfl, ((Below.refl 0 w).setCell (p := ⟨c.r, i, none⟩) (Nat.zero_le _) v).size, fun k _ hr _ => heap_setCell_other w ⟨c.r, i, none⟩ k v hr⟩
variable {lo : Nat} {q : Rk}
theorem RC.below {w0 : World} (h : RC c q.n w w') (hr : RackIn lo w c q) (hb : Below lo w0 w) (hl : lo ≤ w.heap.size) : Below lo w0 w' :=
 hb.trans ⟨h.os, h.tape, h.output, h.size, fun k hk => h.block k (by omega) (by have := hr.lr; omega) (fun i hi => by have := hr.ld i hi; omega)⟩
variable {a b : Nat} {x : Array Value} {t : TypeId}
theorem cells_ne {y : Array Value} {u : TypeId} {f g : Nat × Nat} (h1 : w.heap[a]? = some (.cells x t f)) (h2 : w.heap[b]? = some (.cells y u g)) (ht : t ≠ u) : a ≠ b := fun e => by
 subst e; rw [h1] at h2; injection h2 with h2; injection h2 with _ h2 _; exact ht h2
variable {k : Nat}
theorem cells_map_ne {f : Nat × Nat} {es : Array MapEntry} (h1 : w.heap[a]? = some (.cells x t f)) (h2 : w.heap[b]? = some (.map es k)) : a ≠ b := fun e => by
 subst e; rw [h1] at h2; cases h2
variable {d M : Nat} {s : St}
theorem DiskIn.mapObj {S : Nat} (h : DiskIn w d S M s) : ∃ es k, w.heap[M]? = some (.map es k) := by
 obtain ⟨D, hm⟩ := h.map_
 obtain ⟨es, clock, hb, _⟩ := hm.own
 exact ⟨es, clock, hb⟩
theorem DiskIn.apart2 {S d' S' M' : Nat} {s' : St} (h : DiskIn w d S M s) (h' : DiskIn w d' S' M' s') (hd : d ≠ d') (hS : S ≠ S') (hM : M ≠ M') :
  (d ≠ d' ∧ d ≠ S' ∧ d ≠ M') ∧ (S ≠ d' ∧ S ≠ S' ∧ S ≠ M') ∧ (M ≠ d' ∧ M ≠ S' ∧ M ≠ M') := by
 obtain ⟨es, k, hm⟩ := h.mapObj
 obtain ⟨es', k', hm'⟩ := h'.mapObj
 exact ⟨⟨hd, cells_ne h.top h'.secs (by decide), cells_map_ne h.top hm'⟩, ⟨cells_ne h.secs h'.top (by decide), hS, cells_map_ne h.secs hm'⟩, ⟨(cells_map_ne h'.top hm).symm, (cells_map_ne h'.secs hm).symm, hM⟩⟩
theorem RackIn.lt (h : RackIn lo w c q) : c.r < w.heap.size ∧ c.P < w.heap.size ∧ c.r ≠ c.P := by
 obtain ⟨cs, hr, _⟩ := h.row
 exact ⟨(Array.getElem?_eq_some_iff.1 h.top).1, (Array.getElem?_eq_some_iff.1 hr).1, cells_ne h.top hr (by decide)⟩
theorem RackIn.off_disk (h : RackIn lo w c q) {i : Nat} (hi : i < q.n) : (c.r ≠ c.d i ∧ c.r ≠ c.S i ∧ c.r ≠ c.M i) ∧ (c.P ≠ c.d i ∧ c.P ≠ c.S i ∧ c.P ≠ c.M i) := by
 obtain ⟨cs, hr, _⟩ := h.row
 have hd := h.disk i hi
 obtain ⟨es, k, hm⟩ := hd.mapObj
 exact ⟨⟨cells_ne h.top hd.top (by decide), cells_ne h.top hd.secs (by decide), cells_map_ne h.top hm⟩, ⟨cells_ne hr hd.top (by decide), cells_ne hr hd.secs (by decide), cells_map_ne hr hm⟩⟩
theorem RackIn.c0 (h : RackIn lo w c q) : w.cell? ⟨c.r, 0, none⟩ = some (.slice (some ⟨c.P, 0, none⟩) q.n c.cap) := by rw [cell_of_row w c.r 0 _ _ _ h.top]; rfl
theorem RackIn.c1 (h : RackIn lo w c q) : w.cell? ⟨c.r, 1, none⟩ = some (.bool q.off) := by rw [cell_of_row w c.r 1 _ _ _ h.top]; rfl
theorem RackIn.c2 (h : RackIn lo w c q) : w.cell? ⟨c.r, 2, none⟩ = some (.int .i64 q.rem) := by rw [cell_of_row w c.r 2 _ _ _ h.top]; rfl
theorem RackIn.fz (h : RackIn lo w c q) (i : Nat) : w.frozen? ⟨c.r, i, none⟩ = false := frozen_of_row w c.r i _ _ h.top
theorem RackIn.at_ (h : RackIn lo w c q) {i : Nat} (hi : i < q.n) : w.cell? ⟨c.P, i, none⟩ = some (.pointer (some ⟨c.d i, 0, none⟩)) := by
 obtain ⟨cs, hr, hc⟩ := h.row
 rw [cell_of_row w c.P i _ _ _ hr]
 exact hc i hi
theorem RackIn.keep (h : RackIn lo w c q) (h1 : w'.heap[c.r]? = w.heap[c.r]?) (h2 : w'.heap[c.P]? = w.heap[c.P]?)
  (h3 : ∀ i, i < q.n → w'.heap[c.d i]? = w.heap[c.d i]? ∧ w'.heap[c.S i]? = w.heap[c.S i]? ∧ w'.heap[c.M i]? = w.heap[c.M i]?) : RackIn lo w' c q := by
 obtain ⟨cs, hr, hc⟩ := h.row
 exact ⟨h.ok, h.lr, h.lP, h.ld, h.cap, h1.trans h.top, ⟨cs, h2.trans hr, hc⟩, fun i hi => (h.disk i hi).keep (h3 i hi).1 (h3 i hi).2.1 (h3 i hi).2.2, h.inj⟩
theorem RackIn.below (h : RackIn lo w c q) (hb : Below w.heap.size w w') : RackIn lo w' c q :=
 h.keep (hb.block _ h.lt.1) (hb.block _ h.lt.2.1) fun i hi => ⟨hb.block _ (h.disk i hi).lt.1, hb.block _ (h.disk i hi).lt.2.1, hb.block _ (h.disk i hi).lt.2.2⟩
theorem RackIn.drewN (h : RackIn lo w c q) (m : Nat) : RackIn lo (w.drewN m) c q := h.keep rfl rfl fun _ _ => ⟨rfl, rfl, rfl⟩
theorem RackIn.turned (h : RackIn lo w c q) {i : Nat} (hi : i < q.n) {t : St} (ht : t.n = q.k) (hd : DiskIn w' (c.d i) (c.S i) (c.M i) t) (hc : Chg (c.d i) (c.S i) (c.M i) w w') : RackIn lo w' c (q.turn i t) := by
 obtain ⟨b1, b2, b3⟩ := h.lt
 obtain ⟨⟨a1, a2, a3⟩, a4, a5, a6⟩ := h.off_disk hi
 obtain ⟨cs, hr, hcs⟩ := h.row
 refine ⟨h.ok.turn ht, h.lr, h.lP, h.ld, h.cap, (hc.block _ b1 a1 a2 a3).trans h.top, ⟨cs, (hc.block _ b2 a4 a5 a6).trans hr, hcs⟩, fun j hj => ?_, h.inj⟩
 by_cases e : j = i
 ·subst e; rw [turn_at]; exact hd
 ·rw [turn_off q t e]
  obtain ⟨e1, e2, e3⟩ := h.inj j i hj hi e; obtain ⟨⟨x1, x2, x3⟩, ⟨y1, y2, y3⟩, z1, z2, z3⟩ := (h.disk j hj).apart2 (h.disk i hi) e1 e2 e3; obtain ⟨l1, l2, l3⟩ := (h.disk j hj).lt; exact (h.disk j hj).keep (hc.block _ l1 x1 x2 x3) (hc.block _ l2 y1 y2 y3) (hc.block _ l3 z1 z2 z3)
theorem RackIn.setTop {q' : Rk} (h : RackIn lo w c q) {i : Nat} {v : Value} (hok : q'.Ok) (hn : q'.n = q.n) (hs : q'.s = q.s)
  (e : (#[.slice (some ⟨c.P, 0, none⟩) q.n c.cap, .bool q.off, .int .i64 q.rem] : Array Value).setIfInBounds i v = #[.slice (some ⟨c.P, 0, none⟩) q.n c.cap, .bool q'.off, .int .i64 q'.rem]) : RackIn lo (w.setCell ⟨c.r, i, none⟩ v) c q' := by
 have oth : ∀ k, k ≠ c.r → (w.setCell ⟨c.r, i, none⟩ v).heap[k]? = w.heap[k]? := fun k hk => heap_setCell_other _ ⟨c.r, i, none⟩ k _ hk
 obtain ⟨cs, hr, hcs⟩ := h.row
 refine ⟨hok, h.lr, h.lP, fun j hj => h.ld j (by omega), by rw [hn]; exact h.cap, ?_, ⟨cs, (oth _ h.lt.2.2.symm).trans hr, fun j hj => hcs j (by omega)⟩, fun j hj => ?_, fun j k hj hk => h.inj j k (by omega) (by omega)⟩
 ·rw [heap_setCell_same w c.r i _ _ v h.top, e, hn]
 ·have hj' : j < q.n := by omega
  obtain ⟨⟨a1, a2, a3⟩, _⟩ := h.off_disk hj'; rw [hs]; exact (h.disk j hj').keep (oth _ a1.symm) (oth _ a2.symm) (oth _ a3.symm)
theorem RackIn.setOff (h : RackIn lo w c q) (b : Bool) : RackIn lo (w.setCell ⟨c.r, 1, none⟩ (.bool b)) c { q with off := b } :=
 h.setTop ⟨h.ok.n0, h.ok.n8, h.ok.k0, h.ok.k8, h.ok.k, h.ok.low, h.ok.high⟩ rfl rfl rfl
theorem RackIn.setRem (h : RackIn lo w c q) (n : Int) (h1 : -9223372036854775808 ≤ n) (h2 : n < 9223372036854775808) : RackIn lo (w.setCell ⟨c.r, 2, none⟩ (.int .i64 n)) c { q with rem := n } :=
 h.setTop ⟨h.ok.n0, h.ok.n8, h.ok.k0, h.ok.k8, h.ok.k, h1, h2⟩ rfl rfl rfl
def NextR (lo : Nat) (c : Lc) (n : Nat) (q' : Rk) (v : Value) (w : World) (e : Ending) (w' : World) : Prop := e = .returned v ∧ RackIn lo w' c q' ∧ RC c n w w'
def opQWrite : ByteArray := ⟨#[114, 97, 99, 107, 46, 87, 114, 105, 116, 101]⟩
def opQRead : ByteArray := ⟨#[114, 97, 99, 107, 46, 82, 101, 97, 100]⟩
def opQFlush : ByteArray := ⟨#[114, 97, 99, 107, 46, 70, 108, 117, 115, 104]⟩
theorem qhas_any (w : World) (h : RackIn lo w c q) (i : Int) : Calls Tryz.prog 47 #[.pointer (some ⟨c.r, 0, none⟩), .int .i64 i] w (BitSame (decide (q.has i)) w) := by
 have c0 := h.c0
 clear h
 have HD := hI (show decide (q.has i) = decide (0 ≤ i ∧ i < q.n) from rfl)
 by_cases h0 : 0 ≤ i
 ·by_cases h1 : i < q.n
  ·have hd : decide (q.has i) = true := by rw [HD.out]; simp; omega
   have HE := hI hd; clear hd
   go_enter Tryz.func47, Tryz.ntmps47
   go_wp2
   go_ret; exact bitSame HE.out.symm
  ·have hd : decide (q.has i) = false := by rw [HD.out]; simp; omega
   have HE := hI hd; clear hd
   go_enter Tryz.func47, Tryz.ntmps47
   go_wp2
   go_ret; exact bitSame HE.out.symm
 ·have hd : decide (q.has i) = false := by rw [HD.out]; simp; omega
  have HE := hI hd; clear hd
  go_enter Tryz.func47, Tryz.ntmps47
  go_wp2
  go_ret; exact bitSame HE.out.symm
theorem up_no {i : Int} (h : ¬ q.has i) : q.up i = false := by unfold Rk.up; rw [decide_eq_false h]; rfl
theorem up_at (h : k < q.n) : q.up (k : Int) = !(q.s k).dead := by
 unfold Rk.up; rw [decide_eq_true (show q.has (k : Int) from ⟨by omega, by omega⟩)]; rfl
theorem qup_any (w : World) (h : RackIn lo w c q) (i : Int) : Calls Tryz.prog 61 #[.pointer (some ⟨c.r, 0, none⟩), .int .i64 i] w (BitSame (q.up i) w) := by
 have c0 := h.c0
 have HH := hI (qhas_any w h i)
 by_cases hi : q.has i
 ·rw [decide_eq_true hi] at HH
  obtain ⟨k, rfl⟩ := Int.eq_ofNat_of_zero_le hi.1
  have hk : k < q.n := by have := hi.2; omega
  have c1 := h.at_ hk; have HU := hI (up_at hk); have HD := hI (dead_any w (h.disk k hk))
  have i1 : (k : Int) < q.n := by omega
  have i2 : (0 : Int) ≤ k := by omega
  clear h hi; generalize (q.s k).dead = b at HU HD; generalize q.up (k : Int) = u at HU ⊢
  go_enter Tryz.func61, Tryz.ntmps61
  go_wp2_with (first
   | (go_at_call 47; refine HH.out.mono ?_; rintro e w' ⟨rfl, rfl⟩)
   | (go_at_call 82; refine HD.out.mono ?_; rintro e w' ⟨rfl, rfl⟩))
  go_ret; exact bitSame HU.out.symm
 ·rw [decide_eq_false hi] at HH
  have HU := hI (up_no hi); clear h hi; generalize q.up i = u at HU ⊢
  go_enter Tryz.func61, Tryz.ntmps61
  go_wp2_with (go_at_call 47; refine HH.out.mono ?_; rintro e w' ⟨rfl, rfl⟩); go_ret; exact bitSame HU.out.symm
def NumSame (k : Int) (w : World) (e : Ending) (w' : World) : Prop := e = .returned (.int .i64 k) ∧ w = w'
theorem qsectors_any (w : World) (h : RackIn lo w c q) : Calls Tryz.prog 28 #[.pointer (some ⟨c.r, 0, none⟩)] w (NumSame (q.k : Int) w) := by
 have c0 := h.c0
 have hn := h.ok.n0
 have c1 := h.at_ (i := 0) (by omega)
 have hk := h.ok.k 0 (by omega)
 have HS := hI (sectors_any w (h.disk 0 (by omega)))
 rw [hk] at HS
 clear h hk
 have i1 : (0 : Int) < q.n := by omega
 go_enter Tryz.func28, Tryz.ntmps28
 go_wp2_with (go_at_call 53; refine HS.out.mono ?_; rintro e w' ⟨rfl, rfl⟩)
 go_ret
 exact ⟨rfl, rfl⟩
def ErrSame (op : ByteArray) (code at_ : Int) (w : World) (e : Ending) (w' : World) : Prop := e = .returned (evs op code at_) ∧ w = w'
theorem evs_zero (op : ByteArray) (n : Int) : evs op 0 n = .nilIface := if_pos rfl
theorem evs_some (op : ByteArray) {k : Int} (n : Int) (h : k ≠ 0) : evs op k n = wrapV op n (errV k) := if_neg h
theorem qready_any (w : World) (h : RackIn lo w c q) (op : ByteArray) (i : Int) : Calls Tryz.prog 104 #[.pointer (some ⟨c.r, 0, none⟩), .string op, .int .i64 i] w (ErrSame op (q.ready i) i w) := by
 have c1 := h.c1
 have HH := hI (qhas_any w h i)
 have HU := hI (qup_any w h i)
 clear h
 by_cases hi : q.has i
 ·rw [decide_eq_true hi] at HH
  have hu : q.up i = !(q.s i.toNat).dead := by unfold Rk.up; rw [decide_eq_true hi]; rfl
  rw [hu] at HU; have HR := hI (show q.ready i = if (q.off || (q.s i.toNat).dead) = true then 5 else 0 from if_pos hi); clear hi hu; generalize q.ready i = rd at HR ⊢; generalize (q.s i.toNat).dead = b at HU HR; generalize q.off = o at c1 HR
  cases o with
  | true =>
   go_enter Tryz.func104, Tryz.ntmps104
   go_wp2_with (first
    | (go_at_call 47; refine HH.out.mono ?_; rintro e w' ⟨rfl, rfl⟩)
    | (go_at_call 32; refine (wrap_some _ _ _ _ _).mono ?_; rintro e w' ⟨rfl, rfl⟩))
   have e : rd = 5 := HR.out; subst e; exact bodyPost_ret (v := wrapV op i (errV 5)) (by simp [results, Tryz.results104, go_sem, wrapV, errV]) rfl ⟨rfl, rfl⟩
  | false =>
   cases b with
   | true =>
    go_enter Tryz.func104, Tryz.ntmps104
    go_wp2_with (first
     | (go_at_call 47; refine HH.out.mono ?_; rintro e w' ⟨rfl, rfl⟩)
     | (go_at_call 61; refine HU.out.mono ?_; rintro e w' ⟨rfl, rfl⟩)
     | (go_at_call 32; refine (wrap_some _ _ _ _ _).mono ?_; rintro e w' ⟨rfl, rfl⟩))
    have e : rd = 5 := HR.out; subst e; exact bodyPost_ret (v := wrapV op i (errV 5)) (by simp [results, Tryz.results104, go_sem, wrapV, errV]) rfl ⟨rfl, rfl⟩
   | false =>
    go_enter Tryz.func104, Tryz.ntmps104
    go_wp2_with (first
     | (go_at_call 47; refine HH.out.mono ?_; rintro e w' ⟨rfl, rfl⟩)
     | (go_at_call 61; refine HU.out.mono ?_; rintro e w' ⟨rfl, rfl⟩))
    have e : rd = 0 := HR.out; subst e; exact bodyPost_ret (v := .nilIface) (by simp [results, Tryz.results104, go_sem]) rfl ⟨rfl, rfl⟩
 ·rw [decide_eq_false hi] at HH
  have HR := hI (show q.ready i = 1 from if_neg hi); clear hi HU; generalize q.ready i = rd at HR ⊢
  go_enter Tryz.func104, Tryz.ntmps104
  go_wp2_with (first
   | (go_at_call 47; refine HH.out.mono ?_; rintro e w' ⟨rfl, rfl⟩)
   | (go_at_call 32; refine (wrap_some _ _ _ _ _).mono ?_; rintro e w' ⟨rfl, rfl⟩))
  have e : rd = 1 := HR.out; subst e; exact bodyPost_ret (v := wrapV op i (errV 1)) (by simp [results, Tryz.results104, go_sem, wrapV, errV]) rfl ⟨rfl, rfl⟩
def SpentR (lo : Nat) (c : Lc) (q : Rk) (b : Bool) (w : World) (e : Ending) (w' : World) : Prop :=
 NextR lo c q.n q.spent (.bool b) w e w' ∧ w'.heap.size = w.heap.size ∧ ∀ k, k ≠ c.r → w'.heap[k]? = w.heap[k]?
theorem set_only (r i : Nat) (v : Value) (w : World) : (w.setCell ⟨r, i, none⟩ v).heap.size = w.heap.size ∧ ∀ k, k ≠ r → (w.setCell ⟨r, i, none⟩ v).heap[k]? = w.heap[k]? :=
 ⟨by simp, fun k hk => heap_setCell_other w ⟨r, i, none⟩ k v hk⟩
theorem qspend_any (w : World) (h : RackIn lo w c q) : Calls Tryz.prog 105 #[.pointer (some ⟨c.r, 0, none⟩)] w (SpentR lo c q (decide (q.rem ≠ 0)) w) := by
 show Calls _ _ _ _ (fun e w' => NextR lo c q.n q.spent (.bool (decide (q.rem ≠ 0))) w e w' ∧ w'.heap.size = w.heap.size ∧ ∀ k, k ≠ c.r → w'.heap[k]? = w.heap[k]?)
 have c1 := h.c1
 have c2 := h.c2
 have f1 := h.fz 1
 have f2 := h.fz 2
 have hlow := h.ok.low
 have hhigh := h.ok.high
 by_cases h0 : q.rem = 0
 ·have HS := hI (show q.spent = { q with off := true } from if_pos h0)
  have HR := hI (h.setOff true); have HD := hI (show decide (q.rem ≠ 0) = false by simp [h0]); rw [h0] at c2; clear h h0 hlow hhigh; generalize decide (q.rem ≠ 0) = dd at HD ⊢; generalize q.spent = q' at HS ⊢
  go_enter Tryz.func105, Tryz.ntmps105
  go_wp2
  go_ret; rw [HS.out, HD.out]; exact ⟨⟨rfl, HR.out, RC.set _ _ _ _ _⟩, set_only _ _ _ _⟩
 ·have HD := hI (show decide (q.rem ≠ 0) = true by simp [h0])
  by_cases h1 : 0 < q.rem
  ·have HS := hI (show q.spent = { q with rem := q.rem - 1 } by unfold Rk.spent; rw [if_neg h0, if_pos h1])
   have HR := hI (h.setRem (q.rem - 1) (by omega) (by omega)); clear h; generalize decide (q.rem ≠ 0) = dd at HD ⊢; generalize q.spent = q' at HS ⊢
   go_enter Tryz.func105, Tryz.ntmps105
   go_wp2
   go_ret; rw [HS.out, HD.out]; exact ⟨⟨rfl, HR.out, RC.set _ _ _ _ _⟩, set_only _ _ _ _⟩
  ·have HS := hI (show q.spent = q by unfold Rk.spent; rw [if_neg h0, if_neg h1])
   have HR := hI h; clear h; generalize decide (q.rem ≠ 0) = dd at HD ⊢; generalize q.spent = q' at HS ⊢
   go_enter Tryz.func105, Tryz.ntmps105
   go_wp2
   go_ret; rw [HS.out, HD.out]; exact ⟨⟨rfl, HR.out, RC.refl _ _ _⟩, rfl, fun _ _ => rfl⟩
theorem qoff_any (w : World) (h : RackIn lo w c q) : Calls Tryz.prog 35 #[.pointer (some ⟨c.r, 0, none⟩)] w (BitSame q.off w) := by
 have c1 := h.c1
 clear h
 go_enter Tryz.func35, Tryz.ntmps35
 go_wp2
 go_ret
 exact bitSame rfl
end Go.Proofs.YtilljaneegbhlaaGreatDoor
