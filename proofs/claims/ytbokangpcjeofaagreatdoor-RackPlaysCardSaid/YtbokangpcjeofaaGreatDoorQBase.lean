/-
  A rack in numbers: its disks, the power, how many operations remain.
-/
import Derived.Test.YtbokangpcjeofaaGreatDoorDFlat
import Derived.Test.YtbokangpcjeofaaGreatDoorDCrash2
import Derived.Deep.RegionLaw
import Derived.Deep.DrawnRows
namespace Qk
open Dk
structure Rk where
  n : Nat
  k : Nat
  s : Nat → St
  off : Bool
  rem : Int
structure Rk.Ok (q : Rk) : Prop where
  n0 : 1 ≤ q.n
  n8 : q.n ≤ 8
  k0 : 1 ≤ q.k
  k8 : q.k ≤ 128
  k : ∀ i, i < q.n → (q.s i).n = q.k
  low : -9223372036854775808 ≤ q.rem
  high : q.rem < 9223372036854775808
def Rk.has (q : Rk) (i : Int) : Prop := 0 ≤ i ∧ i < q.n
instance (q : Rk) (i : Int) : Decidable (q.has i) := by unfold Rk.has; infer_instance
def Rk.up (q : Rk) (i : Int) : Bool := decide (q.has i) && !(q.s i.toNat).dead
/-- The error if nothing can be done on disk i; 0: none. -/
def Rk.ready (q : Rk) (i : Int) : Int := if q.has i then (if (q.off || (q.s i.toNat).dead) = true then 5 else 0) else 1
/-- An operation begins. -/
def Rk.spent (q : Rk) : Rk := if q.rem = 0 then { q with off := true } else if 0 < q.rem then { q with rem := q.rem - 1 } else q
def Rk.turn (q : Rk) (i : Nat) (t : St) : Rk := { q with s := upd q.s i t }
def Rk.fits (q : Rk) (sec : Int) (len : Nat) : Prop := 0 ≤ sec ∧ sec < q.k ∧ len = 128
instance (q : Rk) (sec : Int) (len : Nat) : Decidable (q.fits sec len) := by unfold Rk.fits; infer_instance
def Rk.wcode (q : Rk) (i sec : Int) (len : Nat) : Int := if q.ready i = 0 then (if q.fits sec len then (if q.rem = 0 then 5 else 0) else 1) else q.ready i
def Rk.write (q : Rk) (i sec : Int) (l : List UInt8) : Rk :=
  if q.ready i = 0 ∧ q.fits sec l.length then (if q.rem = 0 then q.spent else q.spent.turn i.toNat ((q.s i.toNat).write sec.toNat l)) else q
def Rk.fcode (q : Rk) (i : Int) : Int := if q.ready i = 0 then (if q.rem = 0 then 5 else 0) else q.ready i
def Rk.flush (q : Rk) (i : Int) : Rk := if q.ready i = 0 then (if q.rem = 0 then q.spent else q.spent.turn i.toNat (q.s i.toNat).flush) else q
def Rk.arm (q : Rk) (n : Int) : Rk := { q with rem := n }
/-- The first m disks have crashed. -/
def Rk.crashed (q : Rk) (bits : Nat → Nat) (m : Nat) : Rk := { q with s := fun i => if i < m then (q.s i).crash (bits i) else q.s i }
def Rk.boot (q : Rk) (bits : Nat → Nat) : Rk := { (q.crashed bits q.n) with off := false, rem := -1 }
def Rk.wipe (q : Rk) (i : Nat) (dead : Bool) : Rk := q.turn i ((q.s i).wipe dead)
def newRk (n k : Nat) : Rk := ⟨n, k, fun _ => new k, false, -1⟩
theorem newRk_ok {n k : Nat} (h1 : 1 ≤ n) (h2 : n ≤ 8) (h3 : 1 ≤ k) (h4 : k ≤ 128) : (newRk n k).Ok :=
  ⟨h1, h2, h3, h4, fun _ _ => rfl, by show (-9223372036854775808 : Int) ≤ -1; omega, by show (-1 : Int) < 9223372036854775808; omega⟩
theorem Rk.Ok.spent {q : Rk} (h : q.Ok) : q.spent.Ok := by
  have hl := h.low
  have hh := h.high
  unfold Rk.spent
  split
  · exact ⟨h.n0, h.n8, h.k0, h.k8, h.k, hl, hh⟩
  · split
    · exact ⟨h.n0, h.n8, h.k0, h.k8, h.k, by show _ ≤ q.rem - 1; omega, by show q.rem - 1 < _; omega⟩
    · exact h
theorem Rk.Ok.turn {q : Rk} (h : q.Ok) {i : Nat} {t : St} (ht : t.n = q.k) : (q.turn i t).Ok :=
  ⟨h.n0, h.n8, h.k0, h.k8, fun j hj => by
    show (upd q.s i t j).n = q.k
    by_cases e : j = i
    · subst e; rw [upd_same]; exact ht
    · rw [upd_other _ _ e]; exact h.k j hj, h.low, h.high⟩
theorem spent_n (q : Rk) : q.spent.n = q.n := by unfold Rk.spent; split; rfl; split; rfl; rfl
theorem spent_k (q : Rk) : q.spent.k = q.k := by unfold Rk.spent; split; rfl; split; rfl; rfl
theorem spent_s (q : Rk) : q.spent.s = q.s := by unfold Rk.spent; split; rfl; split; rfl; rfl
theorem turn_at (q : Rk) (i : Nat) (t : St) : (q.turn i t).s i = t := upd_same ..
theorem turn_off (q : Rk) {i j : Nat} (t : St) (h : j ≠ i) : (q.turn i t).s j = q.s j := upd_other _ _ h
theorem write_n (q : Rk) (i sec : Int) (l : List UInt8) : (q.write i sec l).n = q.n := by
  unfold Rk.write; split
  · split
    · exact spent_n q
    · exact spent_n q
  · rfl
theorem write_k (q : Rk) (i sec : Int) (l : List UInt8) : (q.write i sec l).k = q.k := by
  unfold Rk.write; split
  · split
    · exact spent_k q
    · exact spent_k q
  · rfl
theorem flush_n (q : Rk) (i : Int) : (q.flush i).n = q.n := by
  unfold Rk.flush; split
  · split
    · exact spent_n q
    · exact spent_n q
  · rfl
theorem flush_k (q : Rk) (i : Int) : (q.flush i).k = q.k := by
  unfold Rk.flush; split
  · split
    · exact spent_k q
    · exact spent_k q
  · rfl
end Qk
/-
  A rack in memory: its struct, the row of its disks, each disk; what may turn when it is worked on.
-/
namespace Go.Proofs.YtbokangpcjeofaaGreatDoor
open Go.RowKit Go.Deep Dk Qk Go.Maps
/-- Where a rack lies. -/
structure Lc where
  r : Nat
  P : Nat
  cap : Nat
  d : Nat → Nat
  S : Nat → Nat
  M : Nat → Nat
structure RackIn (lo : Nat) (w : World) (c : Lc) (q : Rk) : Prop where
  ok : q.Ok
  lr : lo ≤ c.r
  lP : lo ≤ c.P
  ld : ∀ i, i < q.n → lo ≤ c.d i ∧ lo ≤ c.S i ∧ lo ≤ c.M i
  cap : q.n ≤ c.cap
  top : w.heap[c.r]? = some (.cells #[.slice (some ⟨c.P, 0, none⟩) q.n c.cap, .bool q.off, .int .i64 q.rem] 82 (0, 0))
  row : ∃ cs, w.heap[c.P]? = some (.cells cs 83 (0, 0)) ∧ ∀ i, i < q.n → cs[i]? = some (.pointer (some ⟨c.d i, 0, none⟩))
  disk : ∀ i, i < q.n → DiskIn w (c.d i) (c.S i) (c.M i) (q.s i)
  inj : ∀ i j, i < q.n → j < q.n → i ≠ j → c.d i ≠ c.d j ∧ c.S i ≠ c.S j ∧ c.M i ≠ c.M j
/-- What turns when a rack is worked on: its struct and its disks' blocks alone, and what is new. -/
structure RC (c : Lc) (n : Nat) (w w' : World) : Prop where
  os : w'.os = w.os
  tape : w'.tape = w.tape
  output : w'.output = w.output
  size : w.heap.size ≤ w'.heap.size
  block : ∀ k, k < w.heap.size → k ≠ c.r → (∀ i, i < n → k ≠ c.d i ∧ k ≠ c.S i ∧ k ≠ c.M i) → w'.heap[k]? = w.heap[k]?
theorem RC.refl (c : Lc) (n : Nat) (w : World) : RC c n w w := ⟨rfl, rfl, rfl, Nat.le_refl _, fun _ _ _ _ => rfl⟩
theorem RC.trans {c : Lc} {n : Nat} {w w1 w2 : World} (h : RC c n w w1) (h2 : RC c n w1 w2) : RC c n w w2 :=
  ⟨h2.os.trans h.os, h2.tape.trans h.tape, h2.output.trans h.output, Nat.le_trans h.size h2.size, fun k hk a b => (h2.block k (Nat.lt_of_lt_of_le hk h.size) a b).trans (h.block k hk a b)⟩
theorem RC.of_below {c : Lc} {n : Nat} {w w' : World} (h : Below w.heap.size w w') : RC c n w w' := ⟨h.os, h.tape, h.output, h.size, fun k hk _ _ => h.block k hk⟩
theorem RC.of_chg {c : Lc} {n i : Nat} {w w' : World} (h : Chg (c.d i) (c.S i) (c.M i) w w') (hi : i < n) : RC c n w w' :=
  ⟨h.os, h.tape, h.output, h.size, fun k hk _ b => h.block k hk (b i hi).1 (b i hi).2.1 (b i hi).2.2⟩
theorem RC.set (c : Lc) (n i : Nat) (v : Value) (w : World) : RC c n w (w.setCell ⟨c.r, i, none⟩ v) :=
  ⟨rfl, rfl, rfl, ((Below.refl 0 w).setCell (p := ⟨c.r, i, none⟩) (Nat.zero_le _) v).size, fun k _ hr _ => heap_setCell_other w ⟨c.r, i, none⟩ k v hr⟩
theorem RC.drewN {c : Lc} {n : Nat} {w w' : World} (h : RC c n w w') (m : Nat) : RC c n w (w'.drewN m) := ⟨h.os, h.tape, h.output, h.size, h.block⟩
theorem RC.below {lo : Nat} {c : Lc} {q : Rk} {w0 w w' : World} (h : RC c q.n w w') (hr : RackIn lo w c q) (hb : Below lo w0 w) (hl : lo ≤ w.heap.size) : Below lo w0 w' :=
  hb.trans ⟨h.os, h.tape, h.output, h.size, fun k hk => h.block k (by omega) (by have := hr.lr; omega) (fun i hi => by have := hr.ld i hi; omega)⟩
theorem cells_ne {w : World} {a b : Nat} {x y : Array Value} {t u : TypeId} {f g : Nat × Nat} (h1 : w.heap[a]? = some (.cells x t f)) (h2 : w.heap[b]? = some (.cells y u g)) (ht : t ≠ u) : a ≠ b := fun e => by
  subst e; rw [h1] at h2; injection h2 with h2; injection h2 with _ h2 _; exact ht h2
theorem cells_map_ne {w : World} {a b : Nat} {x : Array Value} {t : TypeId} {f : Nat × Nat} {es : Array MapEntry} {k : Nat} (h1 : w.heap[a]? = some (.cells x t f)) (h2 : w.heap[b]? = some (.map es k)) : a ≠ b := fun e => by
  subst e; rw [h1] at h2; cases h2
theorem DiskIn.mapObj {w : World} {d S M : Nat} {s : St} (h : DiskIn w d S M s) : ∃ es k, w.heap[M]? = some (.map es k) := by
  obtain ⟨D, hm⟩ := h.map_
  obtain ⟨es, clock, hb, _⟩ := hm.own
  exact ⟨es, clock, hb⟩
/-- Two disks that share none of the same kind share nothing. -/
theorem DiskIn.apart2 {w : World} {d S M d' S' M' : Nat} {s s' : St} (h : DiskIn w d S M s) (h' : DiskIn w d' S' M' s') (hd : d ≠ d') (hS : S ≠ S') (hM : M ≠ M') :
    (d ≠ d' ∧ d ≠ S' ∧ d ≠ M') ∧ (S ≠ d' ∧ S ≠ S' ∧ S ≠ M') ∧ (M ≠ d' ∧ M ≠ S' ∧ M ≠ M') := by
  obtain ⟨es, k, hm⟩ := h.mapObj
  obtain ⟨es', k', hm'⟩ := h'.mapObj
  exact ⟨⟨hd, cells_ne h.top h'.secs (by decide), cells_map_ne h.top hm'⟩, ⟨cells_ne h.secs h'.top (by decide), hS, cells_map_ne h.secs hm'⟩, ⟨(cells_map_ne h'.top hm).symm, (cells_map_ne h'.secs hm).symm, hM⟩⟩
theorem RackIn.lt {lo : Nat} {w : World} {c : Lc} {q : Rk} (h : RackIn lo w c q) : c.r < w.heap.size ∧ c.P < w.heap.size ∧ c.r ≠ c.P := by
  obtain ⟨cs, hr, _⟩ := h.row
  exact ⟨(Array.getElem?_eq_some_iff.1 h.top).1, (Array.getElem?_eq_some_iff.1 hr).1, cells_ne h.top hr (by decide)⟩
theorem RackIn.off_disk {lo : Nat} {w : World} {c : Lc} {q : Rk} (h : RackIn lo w c q) {i : Nat} (hi : i < q.n) : (c.r ≠ c.d i ∧ c.r ≠ c.S i ∧ c.r ≠ c.M i) ∧ (c.P ≠ c.d i ∧ c.P ≠ c.S i ∧ c.P ≠ c.M i) := by
  obtain ⟨cs, hr, _⟩ := h.row
  have hd := h.disk i hi
  obtain ⟨es, k, hm⟩ := hd.mapObj
  exact ⟨⟨cells_ne h.top hd.top (by decide), cells_ne h.top hd.secs (by decide), cells_map_ne h.top hm⟩, ⟨cells_ne hr hd.top (by decide), cells_ne hr hd.secs (by decide), cells_map_ne hr hm⟩⟩
theorem RackIn.c0 {lo : Nat} {w : World} {c : Lc} {q : Rk} (h : RackIn lo w c q) : w.cell? ⟨c.r, 0, none⟩ = some (.slice (some ⟨c.P, 0, none⟩) q.n c.cap) := by rw [cell_of_row w c.r 0 _ _ _ h.top]; rfl
theorem RackIn.c1 {lo : Nat} {w : World} {c : Lc} {q : Rk} (h : RackIn lo w c q) : w.cell? ⟨c.r, 1, none⟩ = some (.bool q.off) := by rw [cell_of_row w c.r 1 _ _ _ h.top]; rfl
theorem RackIn.c2 {lo : Nat} {w : World} {c : Lc} {q : Rk} (h : RackIn lo w c q) : w.cell? ⟨c.r, 2, none⟩ = some (.int .i64 q.rem) := by rw [cell_of_row w c.r 2 _ _ _ h.top]; rfl
theorem RackIn.fz {lo : Nat} {w : World} {c : Lc} {q : Rk} (h : RackIn lo w c q) (i : Nat) : w.frozen? ⟨c.r, i, none⟩ = false := frozen_of_row w c.r i _ _ h.top
theorem RackIn.at_ {lo : Nat} {w : World} {c : Lc} {q : Rk} (h : RackIn lo w c q) {i : Nat} (hi : i < q.n) : w.cell? ⟨c.P, i, none⟩ = some (.pointer (some ⟨c.d i, 0, none⟩)) := by
  obtain ⟨cs, hr, hc⟩ := h.row
  rw [cell_of_row w c.P i _ _ _ hr]
  exact hc i hi
/-- Where its blocks stay, the rack does. -/
theorem RackIn.keep {lo : Nat} {w w' : World} {c : Lc} {q : Rk} (h : RackIn lo w c q) (h1 : w'.heap[c.r]? = w.heap[c.r]?) (h2 : w'.heap[c.P]? = w.heap[c.P]?)
    (h3 : ∀ i, i < q.n → w'.heap[c.d i]? = w.heap[c.d i]? ∧ w'.heap[c.S i]? = w.heap[c.S i]? ∧ w'.heap[c.M i]? = w.heap[c.M i]?) : RackIn lo w' c q := by
  obtain ⟨cs, hr, hc⟩ := h.row
  exact ⟨h.ok, h.lr, h.lP, h.ld, h.cap, h1.trans h.top, ⟨cs, h2.trans hr, hc⟩, fun i hi => (h.disk i hi).keep (h3 i hi).1 (h3 i hi).2.1 (h3 i hi).2.2, h.inj⟩
theorem RackIn.below {lo : Nat} {w w' : World} {c : Lc} {q : Rk} (h : RackIn lo w c q) (hb : Below w.heap.size w w') : RackIn lo w' c q :=
  h.keep (hb.block _ h.lt.1) (hb.block _ h.lt.2.1) fun i hi => ⟨hb.block _ (h.disk i hi).lt.1, hb.block _ (h.disk i hi).lt.2.1, hb.block _ (h.disk i hi).lt.2.2⟩
theorem RackIn.drewN {lo : Nat} {w : World} {c : Lc} {q : Rk} (h : RackIn lo w c q) (m : Nat) : RackIn lo (w.drewN m) c q := h.keep rfl rfl fun _ _ => ⟨rfl, rfl, rfl⟩
theorem RackIn.lower {lo lo' : Nat} {w : World} {c : Lc} {q : Rk} (h : RackIn lo w c q) (hl : lo' ≤ lo) : RackIn lo' w c q :=
  ⟨h.ok, by have := h.lr; omega, by have := h.lP; omega, fun i hi => by have := h.ld i hi; omega, h.cap, h.top, h.row, h.disk, h.inj⟩
/-- One disk is in another state. -/
theorem RackIn.turned {lo : Nat} {w w' : World} {c : Lc} {q : Rk} (h : RackIn lo w c q) {i : Nat} (hi : i < q.n) {t : St} (ht : t.n = q.k) (hd : DiskIn w' (c.d i) (c.S i) (c.M i) t) (hc : Chg (c.d i) (c.S i) (c.M i) w w') : RackIn lo w' c (q.turn i t) := by
  obtain ⟨b1, b2, b3⟩ := h.lt
  obtain ⟨⟨a1, a2, a3⟩, a4, a5, a6⟩ := h.off_disk hi
  obtain ⟨cs, hr, hcs⟩ := h.row
  refine ⟨h.ok.turn ht, h.lr, h.lP, h.ld, h.cap, (hc.block _ b1 a1 a2 a3).trans h.top, ⟨cs, (hc.block _ b2 a4 a5 a6).trans hr, hcs⟩, fun j hj => ?_, h.inj⟩
  by_cases e : j = i
  · subst e; rw [turn_at]; exact hd
  · rw [turn_off q t e]
    obtain ⟨e1, e2, e3⟩ := h.inj j i hj hi e
    obtain ⟨⟨x1, x2, x3⟩, ⟨y1, y2, y3⟩, z1, z2, z3⟩ := (h.disk j hj).apart2 (h.disk i hi) e1 e2 e3
    obtain ⟨l1, l2, l3⟩ := (h.disk j hj).lt
    exact (h.disk j hj).keep (hc.block _ l1 x1 x2 x3) (hc.block _ l2 y1 y2 y3) (hc.block _ l3 z1 z2 z3)
theorem RackIn.setTop {lo : Nat} {w : World} {c : Lc} {q q' : Rk} (h : RackIn lo w c q) {i : Nat} {v : Value} (hok : q'.Ok) (hn : q'.n = q.n) (hs : q'.s = q.s)
    (e : (#[.slice (some ⟨c.P, 0, none⟩) q.n c.cap, .bool q.off, .int .i64 q.rem] : Array Value).setIfInBounds i v = #[.slice (some ⟨c.P, 0, none⟩) q.n c.cap, .bool q'.off, .int .i64 q'.rem]) : RackIn lo (w.setCell ⟨c.r, i, none⟩ v) c q' := by
  have oth : ∀ k, k ≠ c.r → (w.setCell ⟨c.r, i, none⟩ v).heap[k]? = w.heap[k]? := fun k hk => heap_setCell_other _ ⟨c.r, i, none⟩ k _ hk
  obtain ⟨cs, hr, hcs⟩ := h.row
  refine ⟨hok, h.lr, h.lP, fun j hj => h.ld j (by omega), by rw [hn]; exact h.cap, ?_, ⟨cs, (oth _ h.lt.2.2.symm).trans hr, fun j hj => hcs j (by omega)⟩, fun j hj => ?_, fun j k hj hk => h.inj j k (by omega) (by omega)⟩
  · rw [heap_setCell_same w c.r i _ _ v h.top, e, hn]
  · have hj' : j < q.n := by omega
    obtain ⟨⟨a1, a2, a3⟩, _⟩ := h.off_disk hj'
    rw [hs]
    exact (h.disk j hj').keep (oth _ a1.symm) (oth _ a2.symm) (oth _ a3.symm)
theorem RackIn.setOff {lo : Nat} {w : World} {c : Lc} {q : Rk} (h : RackIn lo w c q) (b : Bool) : RackIn lo (w.setCell ⟨c.r, 1, none⟩ (.bool b)) c { q with off := b } :=
  h.setTop ⟨h.ok.n0, h.ok.n8, h.ok.k0, h.ok.k8, h.ok.k, h.ok.low, h.ok.high⟩ rfl rfl rfl
theorem RackIn.setRem {lo : Nat} {w : World} {c : Lc} {q : Rk} (h : RackIn lo w c q) (n : Int) (h1 : -9223372036854775808 ≤ n) (h2 : n < 9223372036854775808) : RackIn lo (w.setCell ⟨c.r, 2, none⟩ (.int .i64 n)) c { q with rem := n } :=
  h.setTop ⟨h.ok.n0, h.ok.n8, h.ok.k0, h.ok.k8, h.ok.k, h1, h2⟩ rfl rfl rfl
/-- What a call on a rack leaves. -/
def NextR (lo : Nat) (c : Lc) (n : Nat) (q' : Rk) (v : Value) (w : World) (e : Ending) (w' : World) : Prop := e = .returned v ∧ RackIn lo w' c q' ∧ RC c n w w'
end Go.Proofs.YtbokangpcjeofaaGreatDoor
/-
  A rack's small functions: has, Up, N's kin, ready, spend, Off, Arm.
-/
namespace Go.Proofs.YtbokangpcjeofaaGreatDoor
open Go.RowKit Go.Deep Dk Qk Go.Maps
def opQNew : ByteArray := ⟨#[114, 97, 99, 107, 46, 78, 101, 119]⟩
def opQWrite : ByteArray := ⟨#[114, 97, 99, 107, 46, 87, 114, 105, 116, 101]⟩
def opQRead : ByteArray := ⟨#[114, 97, 99, 107, 46, 82, 101, 97, 100]⟩
def opQFlush : ByteArray := ⟨#[114, 97, 99, 107, 46, 70, 108, 117, 115, 104]⟩
set_option maxHeartbeats 1000000 in
set_option maxRecDepth 100000 in
theorem qhas_any {lo : Nat} {c : Lc} {q : Rk} (w : World) (h : RackIn lo w c q) (i : Int) : Calls Tryz.prog 63 #[.pointer (some ⟨c.r, 0, none⟩), .int .i64 i] w (BitSame (decide (q.has i)) w) := by
  have c0 := h.c0
  clear h
  have HD := Lib.hid (show decide (q.has i) = decide (0 ≤ i ∧ i < q.n) from rfl)
  by_cases h0 : 0 ≤ i
  · by_cases h1 : i < q.n
    · have hd : decide (q.has i) = true := by rw [HD.out]; simp; omega
      have HE := Lib.hid hd; clear hd
      go_enter Tryz.func63, Tryz.ntmps63
      go_wp2
      go_ret
      exact bitSame HE.out.symm
    · have hd : decide (q.has i) = false := by rw [HD.out]; simp; omega
      have HE := Lib.hid hd; clear hd
      go_enter Tryz.func63, Tryz.ntmps63
      go_wp2
      go_ret
      exact bitSame HE.out.symm
  · have hd : decide (q.has i) = false := by rw [HD.out]; simp; omega
    have HE := Lib.hid hd; clear hd
    go_enter Tryz.func63, Tryz.ntmps63
    go_wp2
    go_ret
    exact bitSame HE.out.symm
theorem up_no {q : Rk} {i : Int} (h : ¬ q.has i) : q.up i = false := by unfold Rk.up; rw [decide_eq_false h]; rfl
theorem up_at {q : Rk} {k : Nat} (h : k < q.n) : q.up (k : Int) = !(q.s k).dead := by
  unfold Rk.up; rw [decide_eq_true (show q.has (k : Int) from ⟨by omega, by omega⟩)]; rfl
set_option maxHeartbeats 1000000 in
set_option maxRecDepth 100000 in
theorem qup_any {lo : Nat} {c : Lc} {q : Rk} (w : World) (h : RackIn lo w c q) (i : Int) : Calls Tryz.prog 28 #[.pointer (some ⟨c.r, 0, none⟩), .int .i64 i] w (BitSame (q.up i) w) := by
  have c0 := h.c0
  have HH := Lib.hid (qhas_any w h i)
  by_cases hi : q.has i
  · rw [decide_eq_true hi] at HH
    obtain ⟨k, rfl⟩ := Int.eq_ofNat_of_zero_le hi.1
    have hk : k < q.n := by have := hi.2; omega
    have c1 := h.at_ hk
    have HU := Lib.hid (up_at hk)
    have HD := Lib.hid (dead_any w (h.disk k hk))
    have i1 : (k : Int) < q.n := by omega
    have i2 : (0 : Int) ≤ k := by omega
    clear h hi
    generalize (q.s k).dead = b at HU HD
    generalize q.up (k : Int) = u at HU ⊢
    go_enter Tryz.func28, Tryz.ntmps28
    go_wp2_with (first
      | (go_at_call 63; refine HH.out.mono ?_; rintro e w' ⟨rfl, rfl⟩)
      | (go_at_call 69; refine HD.out.mono ?_; rintro e w' ⟨rfl, rfl⟩))
    go_ret
    exact bitSame HU.out.symm
  · rw [decide_eq_false hi] at HH
    have HU := Lib.hid (up_no hi)
    clear h hi
    generalize q.up i = u at HU ⊢
    go_enter Tryz.func28, Tryz.ntmps28
    go_wp2_with (go_at_call 63; refine HH.out.mono ?_; rintro e w' ⟨rfl, rfl⟩)
    go_ret
    exact bitSame HU.out.symm
/-- A number, and the world as it was. -/
def NumSame (k : Int) (w : World) (e : Ending) (w' : World) : Prop := e = .returned (.int .i64 k) ∧ w = w'
set_option maxHeartbeats 1000000 in
set_option maxRecDepth 100000 in
theorem qsectors_any {lo : Nat} {c : Lc} {q : Rk} (w : World) (h : RackIn lo w c q) : Calls Tryz.prog 38 #[.pointer (some ⟨c.r, 0, none⟩)] w (NumSame (q.k : Int) w) := by
  have c0 := h.c0
  have hn := h.ok.n0
  have c1 := h.at_ (i := 0) (by omega)
  have hk := h.ok.k 0 (by omega)
  have HS := Lib.hid (sectors_any w (h.disk 0 (by omega)))
  rw [hk] at HS
  clear h hk
  have i1 : (0 : Int) < q.n := by omega
  go_enter Tryz.func38, Tryz.ntmps38
  go_wp2_with (go_at_call 74; refine HS.out.mono ?_; rintro e w' ⟨rfl, rfl⟩)
  go_ret
  exact ⟨rfl, rfl⟩
/-- An error or none, and the world as it was. -/
def ErrSame (op : ByteArray) (code at_ : Int) (w : World) (e : Ending) (w' : World) : Prop := e = .returned (evs op code at_) ∧ w = w'
theorem evs_zero (op : ByteArray) (n : Int) : evs op 0 n = .nilIface := if_pos rfl
theorem evs_some (op : ByteArray) {k : Int} (n : Int) (h : k ≠ 0) : evs op k n = wrapV op n (errV k) := if_neg h
set_option maxHeartbeats 1000000 in
set_option maxRecDepth 100000 in
theorem qready_any {lo : Nat} {c : Lc} {q : Rk} (w : World) (h : RackIn lo w c q) (op : ByteArray) (i : Int) : Calls Tryz.prog 52 #[.pointer (some ⟨c.r, 0, none⟩), .string op, .int .i64 i] w (ErrSame op (q.ready i) i w) := by
  have c1 := h.c1
  have HH := Lib.hid (qhas_any w h i)
  have HU := Lib.hid (qup_any w h i)
  clear h
  by_cases hi : q.has i
  · rw [decide_eq_true hi] at HH
    have hu : q.up i = !(q.s i.toNat).dead := by unfold Rk.up; rw [decide_eq_true hi]; rfl
    rw [hu] at HU
    have HR := Lib.hid (show q.ready i = if (q.off || (q.s i.toNat).dead) = true then 5 else 0 from if_pos hi)
    clear hi hu
    generalize q.ready i = rd at HR ⊢
    generalize (q.s i.toNat).dead = b at HU HR
    generalize q.off = o at c1 HR
    cases o with
    | true =>
      go_enter Tryz.func52, Tryz.ntmps52
      go_wp2_with (first
        | (go_at_call 63; refine HH.out.mono ?_; rintro e w' ⟨rfl, rfl⟩)
        | (go_at_call 43; refine (wrap_some _ _ _ _ _).mono ?_; rintro e w' ⟨rfl, rfl⟩))
      have e : rd = 5 := HR.out
      subst e
      exact bodyPost_ret (v := wrapV op i (errV 5)) (by simp [results, Tryz.results52, go_sem, wrapV, errV]) rfl ⟨rfl, rfl⟩
    | false =>
      cases b with
      | true =>
        go_enter Tryz.func52, Tryz.ntmps52
        go_wp2_with (first
          | (go_at_call 63; refine HH.out.mono ?_; rintro e w' ⟨rfl, rfl⟩)
          | (go_at_call 28; refine HU.out.mono ?_; rintro e w' ⟨rfl, rfl⟩)
          | (go_at_call 43; refine (wrap_some _ _ _ _ _).mono ?_; rintro e w' ⟨rfl, rfl⟩))
        have e : rd = 5 := HR.out
        subst e
        exact bodyPost_ret (v := wrapV op i (errV 5)) (by simp [results, Tryz.results52, go_sem, wrapV, errV]) rfl ⟨rfl, rfl⟩
      | false =>
        go_enter Tryz.func52, Tryz.ntmps52
        go_wp2_with (first
          | (go_at_call 63; refine HH.out.mono ?_; rintro e w' ⟨rfl, rfl⟩)
          | (go_at_call 28; refine HU.out.mono ?_; rintro e w' ⟨rfl, rfl⟩))
        have e : rd = 0 := HR.out
        subst e
        exact bodyPost_ret (v := .nilIface) (by simp [results, Tryz.results52, go_sem]) rfl ⟨rfl, rfl⟩
  · rw [decide_eq_false hi] at HH
    have HR := Lib.hid (show q.ready i = 1 from if_neg hi)
    clear hi HU
    generalize q.ready i = rd at HR ⊢
    go_enter Tryz.func52, Tryz.ntmps52
    go_wp2_with (first
      | (go_at_call 63; refine HH.out.mono ?_; rintro e w' ⟨rfl, rfl⟩)
      | (go_at_call 43; refine (wrap_some _ _ _ _ _).mono ?_; rintro e w' ⟨rfl, rfl⟩))
    have e : rd = 1 := HR.out
    subst e
    exact bodyPost_ret (v := wrapV op i (errV 1)) (by simp [results, Tryz.results52, go_sem, wrapV, errV]) rfl ⟨rfl, rfl⟩
/-- An operation has begun, or the power failed: the rack's struct alone has turned. -/
def SpentR (lo : Nat) (c : Lc) (q : Rk) (b : Bool) (w : World) (e : Ending) (w' : World) : Prop :=
  NextR lo c q.n q.spent (.bool b) w e w' ∧ w'.heap.size = w.heap.size ∧ ∀ k, k ≠ c.r → w'.heap[k]? = w.heap[k]?
theorem set_only (r i : Nat) (v : Value) (w : World) : (w.setCell ⟨r, i, none⟩ v).heap.size = w.heap.size ∧ ∀ k, k ≠ r → (w.setCell ⟨r, i, none⟩ v).heap[k]? = w.heap[k]? :=
  ⟨by simp, fun k hk => heap_setCell_other w ⟨r, i, none⟩ k v hk⟩
set_option maxHeartbeats 1000000 in
set_option maxRecDepth 100000 in
theorem qspend_any {lo : Nat} {c : Lc} {q : Rk} (w : World) (h : RackIn lo w c q) : Calls Tryz.prog 53 #[.pointer (some ⟨c.r, 0, none⟩)] w (SpentR lo c q (decide (q.rem ≠ 0)) w) := by
  show Calls _ _ _ _ (fun e w' => NextR lo c q.n q.spent (.bool (decide (q.rem ≠ 0))) w e w' ∧ w'.heap.size = w.heap.size ∧ ∀ k, k ≠ c.r → w'.heap[k]? = w.heap[k]?)
  have c1 := h.c1
  have c2 := h.c2
  have f1 := h.fz 1
  have f2 := h.fz 2
  have hlow := h.ok.low
  have hhigh := h.ok.high
  by_cases h0 : q.rem = 0
  · have HS := Lib.hid (show q.spent = { q with off := true } from if_pos h0)
    have HR := Lib.hid (h.setOff true)
    have HD := Lib.hid (show decide (q.rem ≠ 0) = false by simp [h0])
    rw [h0] at c2
    clear h h0 hlow hhigh
    generalize decide (q.rem ≠ 0) = dd at HD ⊢
    generalize q.spent = q' at HS ⊢
    go_enter Tryz.func53, Tryz.ntmps53
    go_wp2
    go_ret
    rw [HS.out, HD.out]
    exact ⟨⟨rfl, HR.out, RC.set _ _ _ _ _⟩, set_only _ _ _ _⟩
  · have HD := Lib.hid (show decide (q.rem ≠ 0) = true by simp [h0])
    by_cases h1 : 0 < q.rem
    · have HS := Lib.hid (show q.spent = { q with rem := q.rem - 1 } by unfold Rk.spent; rw [if_neg h0, if_pos h1])
      have HR := Lib.hid (h.setRem (q.rem - 1) (by omega) (by omega))
      clear h
      generalize decide (q.rem ≠ 0) = dd at HD ⊢
      generalize q.spent = q' at HS ⊢
      go_enter Tryz.func53, Tryz.ntmps53
      go_wp2
      go_ret
      rw [HS.out, HD.out]
      exact ⟨⟨rfl, HR.out, RC.set _ _ _ _ _⟩, set_only _ _ _ _⟩
    · have HS := Lib.hid (show q.spent = q by unfold Rk.spent; rw [if_neg h0, if_neg h1])
      have HR := Lib.hid h
      clear h
      generalize decide (q.rem ≠ 0) = dd at HD ⊢
      generalize q.spent = q' at HS ⊢
      go_enter Tryz.func53, Tryz.ntmps53
      go_wp2
      go_ret
      rw [HS.out, HD.out]
      exact ⟨⟨rfl, HR.out, RC.refl _ _ _⟩, rfl, fun _ _ => rfl⟩
set_option maxHeartbeats 1000000 in
set_option maxRecDepth 100000 in
theorem qoff_any {lo : Nat} {c : Lc} {q : Rk} (w : World) (h : RackIn lo w c q) : Calls Tryz.prog 34 #[.pointer (some ⟨c.r, 0, none⟩)] w (BitSame q.off w) := by
  have c1 := h.c1
  clear h
  go_enter Tryz.func34, Tryz.ntmps34
  go_wp2
  go_ret
  exact bitSame rfl
set_option maxHeartbeats 1000000 in
set_option maxRecDepth 100000 in
theorem qarm_any {lo : Nat} {c : Lc} {q : Rk} (w : World) (h : RackIn lo w c q) (n : Int) (h1 : -9223372036854775808 ≤ n) (h2 : n < 9223372036854775808) : Calls Tryz.prog 17 #[.pointer (some ⟨c.r, 0, none⟩), .int .i64 n] w (NextR lo c q.n (q.arm n) (.tuple #[]) w) := by
  have f2 := h.fz 2
  have c2 := h.c2
  have HR := Lib.hid (h.setRem n h1 h2)
  clear h h1 h2
  go_enter Tryz.func17, Tryz.ntmps17
  go_wp2
  go_end0
  exact ⟨rfl, HR.out, RC.set _ _ _ _ _⟩
end Go.Proofs.YtbokangpcjeofaaGreatDoor
/-
  (*rack.Rack).Write, Flush, Read.
-/
namespace Go.Proofs.YtbokangpcjeofaaGreatDoor
open Go.RowKit Go.Deep Dk Qk Go.Maps
theorem ready_yes {q : Rk} {i : Int} (h : q.ready i = 0) : ∃ k : Nat, i = (k : Int) ∧ k < q.n ∧ q.off = false ∧ (q.s k).dead = false := by
  unfold Rk.ready at h
  by_cases hi : q.has i
  · rw [if_pos hi] at h
    obtain ⟨k, rfl⟩ := Int.eq_ofNat_of_zero_le hi.1
    refine ⟨k, rfl, by have := hi.2; omega, ?_⟩
    cases ho : q.off
    · cases hd : (q.s k).dead
      · exact ⟨rfl, rfl⟩
      · rw [ho, Int.toNat_natCast, hd] at h; exact absurd h (by decide)
    · rw [ho, Bool.true_or] at h; exact absurd h (by decide)
  · rw [if_neg hi] at h; cases h
theorem RackIn.nocell {lo : Nat} {w : World} {c : Lc} {q : Rk} (h : RackIn lo w c q) (i : Nat) (x : Int) : w.cell? ⟨c.r, i, none⟩ ≠ some (.int .u8 x) := by
  rw [cell_of_row w c.r i _ _ _ h.top]
  match i with
  | 0 => intro e; cases e
  | 1 => intro e; cases e
  | 2 => intro e; cases e
  | i + 3 => intro e; simp at e
/-- Bytes lie off the rack's struct. -/
theorem SlB.spent {lo B : Nat} {w w' : World} {c : Lc} {q : Rk} {v : Value} {l : List UInt8} (h : SlB B w v l) (hr : RackIn lo w c q) (hw : ∀ k, k ≠ c.r → w'.heap[k]? = w.heap[k]?) : SlB B w' v l := by
  rcases h with h0 | ⟨b, o, cap, h1, h2, h3, h4, h5⟩
  · exact Or.inl h0
  · have hne : b ≠ c.r := fun e => by
      subst e
      exact hr.nocell _ _ (h3 0 h4)
    exact Or.inr ⟨b, o, cap, h1, h2, fun x hx => (World.cell?_of_block (a := ⟨b, o + x, none⟩) (hw b hne)).trans (h3 x hx), h4, h5⟩
theorem write_wait {q : Rk} {i sec : Int} {l : List UInt8} (h : ¬ q.ready i = 0) : q.write i sec l = q ∧ q.wcode i sec l.length = q.ready i := ⟨if_neg fun e => h e.1, if_neg h⟩
theorem write_odd {q : Rk} {i sec : Int} {l : List UInt8} (h : q.ready i = 0) (hf : ¬ q.fits sec l.length) : q.write i sec l = q ∧ q.wcode i sec l.length = 1 :=
  ⟨if_neg fun e => hf e.2, by unfold Rk.wcode; rw [if_pos h, if_neg hf]⟩
theorem write_last {q : Rk} {i sec : Int} {l : List UInt8} (h : q.ready i = 0) (hf : q.fits sec l.length) (h0 : q.rem = 0) : q.write i sec l = q.spent ∧ q.wcode i sec l.length = 5 :=
  ⟨by unfold Rk.write; rw [if_pos ⟨h, hf⟩, if_pos h0], by unfold Rk.wcode; rw [if_pos h, if_pos hf, if_pos h0]⟩
theorem write_goes {q : Rk} {i sec : Int} {l : List UInt8} (h : q.ready i = 0) (hf : q.fits sec l.length) (h0 : ¬ q.rem = 0) : q.write i sec l = q.spent.turn i.toNat ((q.s i.toNat).write sec.toNat l) ∧ q.wcode i sec l.length = 0 :=
  ⟨by unfold Rk.write; rw [if_pos ⟨h, hf⟩, if_neg h0], by unfold Rk.wcode; rw [if_pos h, if_pos hf, if_neg h0]⟩
set_option maxHeartbeats 2000000 in
set_option maxRecDepth 100000 in
theorem qwrite_wait {lo : Nat} {c : Lc} {q : Rk} (w : World) (h : RackIn lo w c q) (i sec : Int) (v : Value) (hr : ¬ q.ready i = 0) :
    Calls Tryz.prog 13 #[.pointer (some ⟨c.r, 0, none⟩), .int .i64 i, .int .i64 sec, v] w (ErrSame opQWrite (q.ready i) i w) := by
  have HR := Lib.hid (qready_any w h opQWrite i)
  unfold ErrSame at HR ⊢
  rw [evs_some _ _ hr] at HR ⊢
  clear h hr
  generalize q.ready i = rd at *
  unfold wrapV errV at HR
  go_enter Tryz.func13, Tryz.ntmps13
  go_wp2_with (go_at_call 52; refine HR.out.mono ?_; rintro e w' ⟨rfl, rfl⟩)
  exact bodyPost_ret (v := wrapV opQWrite i (errV rd)) (by simp [results, Tryz.results13, go_sem, wrapV, errV, opQWrite]) rfl ⟨rfl, rfl⟩
set_option maxHeartbeats 2000000 in
set_option maxRecDepth 100000 in
theorem qwrite_lo {lo : Nat} {c : Lc} {q : Rk} (w : World) (h : RackIn lo w c q) (i sec : Int) (a : Option Addr) (len cap : Nat) (hr : q.ready i = 0) (hx : sec < 0) :
    Calls Tryz.prog 13 #[.pointer (some ⟨c.r, 0, none⟩), .int .i64 i, .int .i64 sec, .slice a len cap] w (ErrSame opQWrite 1 i w) := by
  have HR := Lib.hid (qready_any w h opQWrite i)
  have HS := Lib.hid (qsectors_any w h)
  unfold ErrSame at HR ⊢
  rw [hr, evs_zero] at HR
  rw [evs_some _ _ (by decide)]
  clear h hr
  go_enter Tryz.func13, Tryz.ntmps13
  go_wp2_with (first
    | (go_at_call 52; refine HR.out.mono ?_; rintro e w' ⟨rfl, rfl⟩)
    | (go_at_call 38; refine HS.out.mono ?_; rintro e w' ⟨rfl, rfl⟩)
    | (go_at_call 43; refine (wrap_some _ _ _ _ _).mono ?_; rintro e w' ⟨rfl, rfl⟩))
  exact bodyPost_ret (v := wrapV opQWrite i (errV 1)) (by simp [results, Tryz.results13, go_sem, wrapV, errV, opQWrite]) rfl ⟨rfl, rfl⟩
set_option maxHeartbeats 2000000 in
set_option maxRecDepth 100000 in
theorem qwrite_hi {lo : Nat} {c : Lc} {q : Rk} (w : World) (h : RackIn lo w c q) (i sec : Int) (a : Option Addr) (len cap : Nat) (hr : q.ready i = 0) (hx : 0 ≤ sec) (hy : sec ≥ q.k) :
    Calls Tryz.prog 13 #[.pointer (some ⟨c.r, 0, none⟩), .int .i64 i, .int .i64 sec, .slice a len cap] w (ErrSame opQWrite 1 i w) := by
  have HR := Lib.hid (qready_any w h opQWrite i)
  have HS := Lib.hid (qsectors_any w h)
  unfold ErrSame at HR ⊢
  rw [hr, evs_zero] at HR
  rw [evs_some _ _ (by decide)]
  have i1 : ¬ sec < 0 := by omega
  clear h hr
  go_enter Tryz.func13, Tryz.ntmps13
  go_wp2_with (first
    | (go_at_call 52; refine HR.out.mono ?_; rintro e w' ⟨rfl, rfl⟩)
    | (go_at_call 38; refine HS.out.mono ?_; rintro e w' ⟨rfl, rfl⟩)
    | (go_at_call 43; refine (wrap_some _ _ _ _ _).mono ?_; rintro e w' ⟨rfl, rfl⟩))
  exact bodyPost_ret (v := wrapV opQWrite i (errV 1)) (by simp [results, Tryz.results13, go_sem, wrapV, errV, opQWrite]) rfl ⟨rfl, rfl⟩
set_option maxHeartbeats 2000000 in
set_option maxRecDepth 100000 in
theorem qwrite_len {lo : Nat} {c : Lc} {q : Rk} (w : World) (h : RackIn lo w c q) (i sec : Int) (a : Option Addr) (len cap : Nat) (hr : q.ready i = 0) (hx : 0 ≤ sec) (hy : sec < q.k) (hl : len ≠ 128) :
    Calls Tryz.prog 13 #[.pointer (some ⟨c.r, 0, none⟩), .int .i64 i, .int .i64 sec, .slice a len cap] w (ErrSame opQWrite 1 i w) := by
  have HR := Lib.hid (qready_any w h opQWrite i)
  have HS := Lib.hid (qsectors_any w h)
  unfold ErrSame at HR ⊢
  rw [hr, evs_zero] at HR
  rw [evs_some _ _ (by decide)]
  have i1 : ¬ sec < 0 := by omega
  have i2 : ¬ sec ≥ q.k := by omega
  have i3 : ¬ (len : Int) = 128 := by omega
  have i4 : ((len : Int) != 128) = true := by simpa using i3
  have i5 : ((len : Int) == 128) = false := by simpa using i3
  clear hx hy
  clear h hr
  go_enter Tryz.func13, Tryz.ntmps13
  go_wp2_with (first
    | (go_at_call 52; refine HR.out.mono ?_; rintro e w' ⟨rfl, rfl⟩)
    | (go_at_call 38; refine HS.out.mono ?_; rintro e w' ⟨rfl, rfl⟩)
    | (go_at_call 43; refine (wrap_some _ _ _ _ _).mono ?_; rintro e w' ⟨rfl, rfl⟩))
  exact bodyPost_ret (v := wrapV opQWrite i (errV 1)) (by simp [results, Tryz.results13, go_sem, wrapV, errV, opQWrite]) rfl ⟨rfl, rfl⟩
set_option maxHeartbeats 2000000 in
set_option maxRecDepth 100000 in
theorem qwrite_last {lo : Nat} {c : Lc} {q : Rk} (w : World) (h : RackIn lo w c q) (i sec : Int) (a : Option Addr) (len cap : Nat) (hr : q.ready i = 0) (hf : q.fits sec len) (h0 : q.rem = 0) :
    Calls Tryz.prog 13 #[.pointer (some ⟨c.r, 0, none⟩), .int .i64 i, .int .i64 sec, .slice a len cap] w (NextR lo c q.n q.spent (evs opQWrite 5 i) w) := by
  have HR := Lib.hid (qready_any w h opQWrite i)
  have HS := Lib.hid (qsectors_any w h)
  have HP := Lib.hid (qspend_any w h)
  unfold ErrSame at HR
  rw [hr, evs_zero] at HR
  rw [decide_eq_false (show ¬ q.rem ≠ 0 from fun e => e h0)] at HP
  rw [evs_some _ _ (by decide)]
  obtain ⟨f1, f2, rfl⟩ := hf
  obtain ⟨m, rfl⟩ := Int.eq_ofNat_of_zero_le f1
  have i1 : ¬ (m : Int) < 0 := by omega
  have i2 : ¬ q.k ≤ m := by omega
  have i3 : decide (q.k ≤ m) = false := by simpa using i2
  clear h hr f1 f2 h0
  go_enter Tryz.func13, Tryz.ntmps13
  go_wp2_with (first
    | (go_at_call 52; refine HR.out.mono ?_; rintro e w' ⟨rfl, rfl⟩)
    | (go_at_call 38; refine HS.out.mono ?_; rintro e w' ⟨rfl, rfl⟩)
    | (go_at_call 53; refine HP.out.mono ?_; rintro e w1 ⟨⟨rfl, hR1, hC1⟩, _, _⟩)
    | (go_at_call 43; refine (wrap_some _ _ _ _ _).mono ?_; rintro e w' ⟨rfl, rfl⟩))
  exact bodyPost_ret (v := wrapV opQWrite i (errV 5)) (by simp [results, Tryz.results13, go_sem, wrapV, errV, opQWrite]) rfl ⟨rfl, hR1, hC1⟩
set_option maxHeartbeats 2000000 in
set_option maxRecDepth 100000 in
theorem qwrite_goes {lo : Nat} {c : Lc} {q : Rk} (w : World) (h : RackIn lo w c q) (k m : Nat) (v : Value) (l : List UInt8) (hv : SlB w.heap.size w v l) (hr : q.ready (k : Int) = 0) (hm : m < q.k) (hl : l.length = 128) (h0 : ¬ q.rem = 0) :
    Calls Tryz.prog 13 #[.pointer (some ⟨c.r, 0, none⟩), .int .i64 (k : Int), .int .i64 (m : Int), v] w (NextR lo c q.n (q.spent.turn k ((q.s k).write m l)) .nilIface w) := by
  have HR := Lib.hid (qready_any w h opQWrite k)
  have HS := Lib.hid (qsectors_any w h)
  have HP := Lib.hid (qspend_any w h)
  unfold ErrSame at HR
  rw [hr, evs_zero] at HR
  rw [decide_eq_true (show q.rem ≠ 0 from h0)] at HP
  obtain ⟨k', e, hk, _, hdead⟩ := ready_yes hr
  obtain rfl : k = k' := by omega
  clear e
  obtain ⟨a, cap, rfl, _⟩ := hv.len
  rw [hl]
  rw [hl] at hv
  have i1 : ¬ (m : Int) < 0 := by omega
  have i2 : ¬ q.k ≤ m := by omega
  have i3 : decide (q.k ≤ m) = false := by simpa using i2
  have HQ := Lib.hid h
  have HV := Lib.hid hv
  have HF3 := Lib.hid hl
  have HDD := Lib.hid hdead
  clear h hr hv hl h0 hdead
  go_enter Tryz.func13, Tryz.ntmps13
  go_wp2_with (first
    | (go_at_call 52; refine HR.out.mono ?_; rintro e w' ⟨rfl, rfl⟩)
    | (go_at_call 38; refine HS.out.mono ?_; rintro e w' ⟨rfl, rfl⟩)
    | fail)
  refine HP.out.mono ?_
  rintro e w1 ⟨⟨rfl, hR1, hC1⟩, hsz, hoth⟩
  have hn1 : q.spent.n = q.n := spent_n q
  have hs1 := spent_s q
  have hk1 := spent_k q
  have c0 := hR1.c0
  have c1 := hR1.at_ (i := k) (by omega)
  have hD1 := hR1.disk k (by omega)
  rw [hs1] at hD1
  have hok := hR1.ok.k k (by omega)
  rw [hs1, hk1] at hok
  have HW := Lib.hid (write_yes w1 hD1 HDD.out m (.slice a 128 cap) l (by omega) (HV.out.spent HQ.out hoth) HF3.out)
  have HR1 := Lib.hid hR1
  have HC1 := Lib.hid hC1
  have HN := Lib.hid hok
  rw [hn1] at c0
  have j1 : (k : Int) < q.n := by omega
  have j2 : (0 : Int) ≤ k := by omega
  have HH := Lib.hid (show k < q.spent.n ∧ q.spent.k = q.k ∧ q.spent.n = q.n from ⟨by omega, hk1, hn1⟩)
  clear hR1 hC1 hD1 hok hsz hoth hn1 hs1 hk1
  go_wp2_with (first
    | (go_at_call 54; refine HW.out.mono ?_; rintro e w2 ⟨rfl, hD2, hC2⟩)
    | (go_at_call 43; refine (wrap_nil _ _ _).mono ?_; rintro e w' ⟨rfl, rfl⟩))
  go_ret
  exact ⟨rfl, HR1.out.turned HH.out.1 (by rw [HH.out.2.1]; exact HN.out) hD2 hC2, HC1.out.trans (RC.of_chg hC2 (by have := HH.out; omega))⟩
theorem qwrite_any {lo : Nat} {c : Lc} {q : Rk} (w : World) (h : RackIn lo w c q) (i sec : Int) (v : Value) (l : List UInt8) (hv : SlB w.heap.size w v l) :
    Calls Tryz.prog 13 #[.pointer (some ⟨c.r, 0, none⟩), .int .i64 i, .int .i64 sec, v] w (NextR lo c q.n (q.write i sec l) (evs opQWrite (q.wcode i sec l.length) i) w) := by
  by_cases hr : q.ready i = 0
  · by_cases hf : q.fits sec l.length
    · by_cases h0 : q.rem = 0
      · obtain ⟨e1, e2⟩ := write_last (l := l) hr hf h0
        rw [e1, e2]
        obtain ⟨a, cap, rfl, _⟩ := hv.len
        exact qwrite_last w h i sec a _ cap hr hf h0
      · obtain ⟨e1, e2⟩ := write_goes (l := l) hr hf h0
        rw [e1, e2, evs_zero]
        obtain ⟨k, rfl, _⟩ := ready_yes hr
        obtain ⟨m, rfl⟩ := Int.eq_ofNat_of_zero_le hf.1
        exact qwrite_goes w h k m v l hv hr (by have := hf.2.1; omega) hf.2.2 h0
    · obtain ⟨e1, e2⟩ := write_odd (l := l) hr hf
      rw [e1, e2]
      obtain ⟨a, cap, rfl, _⟩ := hv.len
      have hE : Calls Tryz.prog 13 #[.pointer (some ⟨c.r, 0, none⟩), .int .i64 i, .int .i64 sec, .slice a l.length cap] w (ErrSame opQWrite 1 i w) := by
        by_cases h1 : sec < 0
        · exact qwrite_lo w h i sec a _ cap hr h1
        · by_cases h2 : sec ≥ q.k
          · exact qwrite_hi w h i sec a _ cap hr (by omega) h2
          · exact qwrite_len w h i sec a _ cap hr (by omega) (by omega) (fun e => hf ⟨by omega, by omega, e⟩)
      refine hE.mono ?_
      rintro e w' ⟨rfl, rfl⟩
      exact ⟨rfl, h, RC.refl _ _ _⟩
  · obtain ⟨e1, e2⟩ := write_wait (sec := sec) (l := l) hr
    rw [e1, e2]
    refine (qwrite_wait w h i sec v hr).mono ?_
    rintro e w' ⟨rfl, rfl⟩
    exact ⟨rfl, h, RC.refl _ _ _⟩
theorem flush_wait {q : Rk} {i : Int} (h : ¬ q.ready i = 0) : q.flush i = q ∧ q.fcode i = q.ready i := ⟨if_neg h, if_neg h⟩
theorem flush_last {q : Rk} {i : Int} (h : q.ready i = 0) (h0 : q.rem = 0) : q.flush i = q.spent ∧ q.fcode i = 5 :=
  ⟨by unfold Rk.flush; rw [if_pos h, if_pos h0], by unfold Rk.fcode; rw [if_pos h, if_pos h0]⟩
theorem flush_goes {q : Rk} {i : Int} (h : q.ready i = 0) (h0 : ¬ q.rem = 0) : q.flush i = q.spent.turn i.toNat (q.s i.toNat).flush ∧ q.fcode i = 0 :=
  ⟨by unfold Rk.flush; rw [if_pos h, if_neg h0], by unfold Rk.fcode; rw [if_pos h, if_neg h0]⟩
set_option maxHeartbeats 2000000 in
set_option maxRecDepth 100000 in
theorem qflush_wait {lo : Nat} {c : Lc} {q : Rk} (w : World) (h : RackIn lo w c q) (i : Int) (hr : ¬ q.ready i = 0) :
    Calls Tryz.prog 15 #[.pointer (some ⟨c.r, 0, none⟩), .int .i64 i] w (ErrSame opQFlush (q.ready i) i w) := by
  have HR := Lib.hid (qready_any w h opQFlush i)
  unfold ErrSame at HR ⊢
  rw [evs_some _ _ hr] at HR ⊢
  clear h hr
  generalize q.ready i = rd at *
  unfold wrapV errV at HR
  go_enter Tryz.func15, Tryz.ntmps15
  go_wp2_with (go_at_call 52; refine HR.out.mono ?_; rintro e w' ⟨rfl, rfl⟩)
  exact bodyPost_ret (v := wrapV opQFlush i (errV rd)) (by simp [results, Tryz.results15, go_sem, wrapV, errV, opQFlush]) rfl ⟨rfl, rfl⟩
set_option maxHeartbeats 2000000 in
set_option maxRecDepth 100000 in
theorem qflush_last {lo : Nat} {c : Lc} {q : Rk} (w : World) (h : RackIn lo w c q) (i : Int) (hr : q.ready i = 0) (h0 : q.rem = 0) :
    Calls Tryz.prog 15 #[.pointer (some ⟨c.r, 0, none⟩), .int .i64 i] w (NextR lo c q.n q.spent (evs opQFlush 5 i) w) := by
  have HR := Lib.hid (qready_any w h opQFlush i)
  have HP := Lib.hid (qspend_any w h)
  unfold ErrSame at HR
  rw [hr, evs_zero] at HR
  rw [decide_eq_false (show ¬ q.rem ≠ 0 from fun e => e h0)] at HP
  rw [evs_some _ _ (by decide)]
  clear h hr h0
  go_enter Tryz.func15, Tryz.ntmps15
  go_wp2_with (first
    | (go_at_call 52; refine HR.out.mono ?_; rintro e w' ⟨rfl, rfl⟩)
    | (go_at_call 53; refine HP.out.mono ?_; rintro e w1 ⟨⟨rfl, hR1, hC1⟩, _, _⟩)
    | (go_at_call 43; refine (wrap_some _ _ _ _ _).mono ?_; rintro e w' ⟨rfl, rfl⟩))
  exact bodyPost_ret (v := wrapV opQFlush i (errV 5)) (by simp [results, Tryz.results15, go_sem, wrapV, errV, opQFlush]) rfl ⟨rfl, hR1, hC1⟩
set_option maxHeartbeats 2000000 in
set_option maxRecDepth 100000 in
theorem qflush_goes {lo : Nat} {c : Lc} {q : Rk} (w : World) (h : RackIn lo w c q) (k : Nat) (hr : q.ready (k : Int) = 0) (h0 : ¬ q.rem = 0) :
    Calls Tryz.prog 15 #[.pointer (some ⟨c.r, 0, none⟩), .int .i64 (k : Int)] w (NextR lo c q.n (q.spent.turn k (q.s k).flush) .nilIface w) := by
  have HR := Lib.hid (qready_any w h opQFlush k)
  have HP := Lib.hid (qspend_any w h)
  unfold ErrSame at HR
  rw [hr, evs_zero] at HR
  rw [decide_eq_true (show q.rem ≠ 0 from h0)] at HP
  obtain ⟨k', e, hk, _, hdead⟩ := ready_yes hr
  obtain rfl : k = k' := by omega
  clear e
  have HDD := Lib.hid hdead
  clear h hr h0 hdead
  go_enter Tryz.func15, Tryz.ntmps15
  go_wp2_with (first
    | (go_at_call 52; refine HR.out.mono ?_; rintro e w' ⟨rfl, rfl⟩)
    | fail)
  refine HP.out.mono ?_
  rintro e w1 ⟨⟨rfl, hR1, hC1⟩, _, _⟩
  have hn1 : q.spent.n = q.n := spent_n q
  have hs1 := spent_s q
  have hk1 := spent_k q
  have c0 := hR1.c0
  have c1 := hR1.at_ (i := k) (by omega)
  have hD1 := hR1.disk k (by omega)
  rw [hs1] at hD1
  have hok := hR1.ok.k k (by omega)
  rw [hs1, hk1] at hok
  have HW := Lib.hid (flush_yes w1 hD1 HDD.out)
  have HR1 := Lib.hid hR1
  have HC1 := Lib.hid hC1
  have HN := Lib.hid (show (q.s k).flush.n = q.k from (St.stores_n _ _).trans hok)
  rw [hn1] at c0
  have j1 : (k : Int) < q.n := by omega
  have j2 : (0 : Int) ≤ k := by omega
  have HH := Lib.hid (show k < q.spent.n ∧ q.spent.k = q.k ∧ q.spent.n = q.n from ⟨by omega, hk1, hn1⟩)
  clear hR1 hC1 hD1 hok hn1 hs1 hk1
  go_wp2_with (first
    | (go_at_call 58; refine HW.out.mono ?_; rintro e w2 ⟨rfl, hD2, hC2⟩)
    | (go_at_call 43; refine (wrap_nil _ _ _).mono ?_; rintro e w' ⟨rfl, rfl⟩))
  go_ret
  exact ⟨rfl, HR1.out.turned HH.out.1 (by rw [HH.out.2.1]; exact HN.out) hD2 hC2, HC1.out.trans (RC.of_chg hC2 (by have := HH.out; omega))⟩
theorem qflush_any {lo : Nat} {c : Lc} {q : Rk} (w : World) (h : RackIn lo w c q) (i : Int) :
    Calls Tryz.prog 15 #[.pointer (some ⟨c.r, 0, none⟩), .int .i64 i] w (NextR lo c q.n (q.flush i) (evs opQFlush (q.fcode i) i) w) := by
  by_cases hr : q.ready i = 0
  · by_cases h0 : q.rem = 0
    · obtain ⟨e1, e2⟩ := flush_last hr h0
      rw [e1, e2]
      exact qflush_last w h i hr h0
    · obtain ⟨e1, e2⟩ := flush_goes hr h0
      rw [e1, e2, evs_zero]
      obtain ⟨k, rfl, _⟩ := ready_yes hr
      exact qflush_goes w h k hr h0
  · obtain ⟨e1, e2⟩ := flush_wait hr
    rw [e1, e2]
    refine (qflush_wait w h i hr).mono ?_
    rintro e w' ⟨rfl, rfl⟩
    exact ⟨rfl, h, RC.refl _ _ _⟩
end Go.Proofs.YtbokangpcjeofaaGreatDoor
/-
  rack.New.
-/
namespace Go.Proofs.YtbokangpcjeofaaGreatDoor
open Go.RowKit Go.Deep Dk Qk Go.Maps
theorem info_dptr : (Tryz.prog.info? 83).map (fun i => (i.zero, i.size, i.bytes)) = some (some (.pointer none), 1, 8) := by kernel_rfl
set_option maxRecDepth 100000 in
theorem wpList_append_dptr (w : World) {ops : Array Oper} {rest : List Oper} {o : Oper} {a : Act} {Q : Exit → Act → World → Prop} (hgd : o.guard = none) (s x : Operand)
    (ho : o.op = .call { callee := .builtin .append, args := #[s, x], argTypes := #[80, 80] })
    (base : Nat) (v : Value) (n : Nat) (xs : List Value) (hsv : a.eval s = v) (hown : w.ownsRow base 83 1 v n xs)
    (b : Nat) (u : Value) (hx : a.eval x = .slice (some ⟨b, 0, none⟩) 1 1) (hb : w.cell? ⟨b, 0, none⟩ = some u) (hu : u.oneCell' = true) (h63 : n + 1 ≤ 100000) (hbase : base ≤ w.heap.size)
    (h : ∀ v' w', w'.ownsRow base 83 1 v' (n + 1) (xs ++ [u]) → Grew w v.ownBlock w' v'.ownBlock → wpList Tryz.prog ops Q rest (a.put o.dst v') w') : wpList Tryz.prog ops Q (o :: rest) a w := by
  obtain ⟨i0, hi0, hz⟩ := Option.map_eq_some_iff.1 info_dptr
  simp only [Prod.mk.injEq] at hz
  obtain ⟨hz0, hz1, hz2⟩ := hz
  have hsrc : Src Tryz.prog 1 80 (.slice (some ⟨b, 0, none⟩) 1 1) 1 [u] w := Src.ofSlice _ Tryz.underlying80 ⟨b, 0, none⟩ 1 1 [u] rfl (fun j y hy => by
    match j, hy with
    | 0, hy => injection hy with hy; subst hy; simpa [Addr.add] using hb
    | j + 1, hy => simp at hy) (fun y hy => by rw [List.mem_singleton.1 hy]; exact hu)
  exact wpList_append_src w hgd s x 80 80 ho base 83 i0 (.pointer none) 1 8 Tryz.underlying80 hi0 hz0 hz1 hz2 rfl v n xs hsv hown (.slice (some ⟨b, 0, none⟩) 1 1) 1 [u] hx hsrc (by unfold maxLen; omega) (by omega) hbase fun v' w' h1 h2 _ => h v' w' h1 h2
theorem grown_cellq (w : World) (g i : Nat) (u : Value) : w.grownBy (w.setCell ⟨g, i, none⟩ u) (some g) :=
  ⟨rfl, rfl, rfl, by simp, fun k _ hk => heap_setCell_other w ⟨g, i, none⟩ k u (fun e => hk (by rw [e]))⟩
theorem qcell_later {w2 wx w3 : World} {r r' : Option Nat} {c i : Nat} {x : Value} (hb : Below w2.heap.size w2 wx) (hg : Grew wx r w3 r') (hl : c < w2.heap.size) (hr : r ≠ some c) (h : w2.cell? ⟨c, i, none⟩ = some x) : w3.cell? ⟨c, i, none⟩ = some x := by
  rw [hg.cell (a := ⟨c, i, none⟩) (Nat.lt_of_lt_of_le hl hb.size) (fun e => hr e.symm), hb.cell (p := ⟨c, i, none⟩) hl]; exact h
theorem qfrozen_later {w2 wx w3 : World} {r r' : Option Nat} {c i : Nat} (hb : Below w2.heap.size w2 wx) (hg : Grew wx r w3 r') (hl : c < w2.heap.size) (hr : r ≠ some c) (h : w2.frozen? ⟨c, i, none⟩ = false) : w3.frozen? ⟨c, i, none⟩ = false := by
  rw [hg.frozen (a := ⟨c, i, none⟩) (Nat.lt_of_lt_of_le hl hb.size) (fun e => hr e.symm), hb.frozen (p := ⟨c, i, none⟩) hl]; exact h
/-- A block of another kind is not the row's. -/
theorem own_not {w : World} {B e n g : Nat} {v : Value} {xs : List Value} {o : Obj} (h : w.ownsRow B e 1 v n xs) (hg : w.heap[g]? = some o) (ho : ∀ cur f, o ≠ .cells cur e f) : v.ownBlock ≠ some g := by
  rcases h.2 with ⟨rfl, _⟩ | ⟨g', cap, cur', rfl, _, hg', _⟩
  · intro e; cases e
  · intro e
    have e : g' = g := by
      have : (Value.slice (some ⟨g', 0, none⟩) n cap).ownBlock = some g' := rfl
      rw [this] at e; injection e
    subst e
    rw [hg] at hg'
    injection hg' with hg'
    exact ho _ _ hg'
theorem DiskIn.not {w : World} {d S M B n : Nat} {s : St} {v : Value} {xs : List Value} (h : DiskIn w d S M s) (ho : w.ownsRow B 83 1 v n xs) : v.ownBlock ≠ some d ∧ v.ownBlock ≠ some S ∧ v.ownBlock ≠ some M := by
  obtain ⟨es, k, hm⟩ := h.mapObj
  exact ⟨own_not ho h.top fun cur f e => by (injection e with _ e _; exact absurd e (by decide)), own_not ho h.secs fun cur f e => by (injection e with _ e _; exact absurd e (by decide)), own_not ho hm fun cur f e => by cases e⟩
def dptr (d : Nat → Nat) (j : Nat) : List Value := (List.range j).map fun i => .pointer (some ⟨d i, 0, none⟩)
theorem dptr_succ (d : Nat → Nat) (j : Nat) : dptr d (j + 1) = dptr d j ++ [.pointer (some ⟨d j, 0, none⟩)] := by simp [dptr, List.range_succ]
theorem dptr_length (d : Nat → Nat) (j : Nat) : (dptr d j).length = j := by simp [dptr]
theorem dptr_congr {d e : Nat → Nat} {j : Nat} (h : ∀ i, i < j → d i = e i) : dptr d j = dptr e j := by
  unfold dptr
  refine List.map_congr_left fun i hi => ?_
  rw [h i (List.mem_range.1 hi)]
/-- So far j disks have been made. -/
structure NRk (w : World) (j k : Nat) (v : Value) (d S M : Nat → Nat) (w0 : World) : Prop where
  top : w.heap[w0.heap.size]? = some (.cells #[v, .bool false, .int .i64 (-1)] 82 (0, 0))
  own : w.ownsRow (w0.heap.size + 1) 83 1 v j (dptr d j)
  disk : ∀ i, i < j → DiskIn w (d i) (S i) (M i) (new k)
  lo : ∀ i, i < j → w0.heap.size ≤ d i ∧ w0.heap.size ≤ S i ∧ w0.heap.size ≤ M i
  inj : ∀ i i', i < j → i' < j → i ≠ i' → d i ≠ d i' ∧ S i ≠ S i' ∧ M i ≠ M i'
  below : Below w0.heap.size w0 w
theorem NRk.lt {w w0 : World} {j k : Nat} {v : Value} {d S M : Nat → Nat} (h : NRk w j k v d S M w0) : w0.heap.size < w.heap.size := (Array.getElem?_eq_some_iff.1 h.top).1
theorem NRk.cells {w w0 : World} {j k : Nat} {v : Value} {d S M : Nat → Nat} (h : NRk w j k v d S M w0) : w.cell? ⟨w0.heap.size, 0, none⟩ = some v ∧ w.frozen? ⟨w0.heap.size, 0, none⟩ = false := by
  refine ⟨?_, frozen_of_row _ _ 0 _ _ h.top⟩
  rw [cell_of_row _ _ 0 _ _ (0, 0) h.top]; rfl
theorem NRk.off {w w0 : World} {j k : Nat} {v : Value} {d S M : Nat → Nat} (h : NRk w j k v d S M w0) : v.ownBlock ≠ some w0.heap.size := fun e => by have := (own_block h.own e).1; omega
theorem NRk.next {w0 wr w2 wx w3 : World} {j k d' S' M' : Nat} {v v' : Value} {d S M : Nat → Nat} (h : NRk wr j k v d S M w0) (hb : Below wr.heap.size wr w2) (hD : DiskIn w2 d' S' M' (new k)) (h1 : wr.heap.size ≤ d') (h2 : wr.heap.size ≤ S') (h3 : wr.heap.size ≤ M')
    (hx : Below w2.heap.size w2 wx) (hown : w3.ownsRow (w0.heap.size + 1) 83 1 v' (j + 1) (dptr d j ++ [.pointer (some ⟨d', 0, none⟩)])) (hg : Grew wx v.ownBlock w3 v'.ownBlock) :
    NRk (w3.setCell ⟨w0.heap.size, 0, none⟩ v') (j + 1) k v' (upd d j d') (upd S j S') (upd M j M') w0 := by
  have hlt := h.lt
  have hoff := h.off
  have hbx : Below wr.heap.size wr wx := hb.trans (hx.mono hb.size)
  have hownx := own_below h.own hbx
  have oth : ∀ k, k ≠ w0.heap.size → (w3.setCell ⟨w0.heap.size, 0, none⟩ v').heap[k]? = w3.heap[k]? := fun k hk => heap_setCell_other _ ⟨w0.heap.size, 0, none⟩ k _ hk
  have disk : ∀ {a b c : Nat}, DiskIn wx a b c (new k) → DiskIn (w3.setCell ⟨w0.heap.size, 0, none⟩ v') a b c (new k) := fun {a b c} hq => by
    obtain ⟨n1, n2, n3⟩ := hq.not hownx
    obtain ⟨l1, l2, l3⟩ := hq.lt
    have ht := (hbx.block _ hlt).trans h.top
    obtain ⟨es, kk, hm⟩ := hq.mapObj
    exact hq.keep ((oth _ (cells_ne hq.top ht (by decide))).trans (hg.by_.block _ l1 (fun e => n1 e.symm))) ((oth _ (cells_ne hq.secs ht (by decide))).trans (hg.by_.block _ l2 (fun e => n2 e.symm))) ((oth _ (cells_map_ne ht hm).symm).trans (hg.by_.block _ l3 (fun e => n3 e.symm)))
  have up : ∀ {f : Nat → Nat} {x i : Nat}, i < j → upd f j x i = f i := fun {f x i} hi => upd_other _ _ (by omega)
  refine ⟨heap_setCell_same w3 _ 0 _ _ v' ((hg.by_.block _ (Nat.lt_of_lt_of_le hlt hbx.size) (fun e => hoff e.symm)).trans ((hbx.block _ hlt).trans h.top)), ?_, fun i hi => ?_, fun i hi => ?_, fun i i' hi hi' hne => ?_, ?_⟩
  · rw [dptr_succ, upd_same, dptr_congr (e := d) fun i hi => up hi]
    exact World.ownsRow.kept hown (grown_cellq w3 _ 0 v') (Or.inr fun e => by have := (own_block hown e).1; omega)
  · by_cases e : i = j
    · subst e; rw [upd_same, upd_same, upd_same]; exact disk (hD.below hx)
    · rw [upd_other _ _ e, upd_other _ _ e, upd_other _ _ e]; exact disk (((h.disk i (by omega)).below hb).below hx)
  · by_cases e : i = j
    · subst e; rw [upd_same, upd_same, upd_same]; omega
    · rw [upd_other _ _ e, upd_other _ _ e, upd_other _ _ e]; exact h.lo i (by omega)
  · by_cases e : i = j
    · subst e
      have hl := (h.disk i' (by omega)).lt
      rw [upd_same, upd_same, upd_same, upd_other _ _ hne.symm, upd_other _ _ hne.symm, upd_other _ _ hne.symm]; omega
    · by_cases e' : i' = j
      · subst e'
        have hl := (h.disk i (by omega)).lt
        rw [upd_same, upd_same, upd_same, upd_other _ _ e, upd_other _ _ e, upd_other _ _ e]; omega
      · rw [upd_other _ _ e, upd_other _ _ e, upd_other _ _ e, upd_other _ _ e', upd_other _ _ e', upd_other _ _ e']; exact h.inj i i' (by omega) (by omega) hne
  · refine Below.setCell (p := ⟨w0.heap.size, 0, none⟩) ?_ (Nat.le_refl _) _
    exact (h.below.trans (hbx.mono h.below.size)).trans (hg.below (Nat.le_trans h.below.size hbx.size) fun k hk => by have := (own_block h.own hk).1; omega)
/-- A new rack. -/
def NewR (n k : Nat) (w : World) (e : Ending) (w' : World) : Prop :=
  ∃ c : Lc, e = .returned (.tuple #[.pointer (some ⟨c.r, 0, none⟩), .nilIface]) ∧ RackIn w.heap.size w' c (newRk n k) ∧ Below w.heap.size w w'
theorem NRk.made {w w0 : World} {n k : Nat} {v : Value} {d S M : Nat → Nat} (h : NRk w n k v d S M w0) (h1 : 1 ≤ n) (h2 : n ≤ 8) (h3 : 1 ≤ k) (h4 : k ≤ 128) : NewR n k w0 (.returned (.tuple #[.pointer (some ⟨w0.heap.size, 0, none⟩), .nilIface])) w := by
  rcases h.own.2 with ⟨_, h0⟩ | ⟨P, cap, cur, rfl, hB, hg, hle, _, _, ht⟩
  · omega
  · refine ⟨⟨w0.heap.size, P, cap, d, S, M⟩, rfl, ⟨newRk_ok h1 h2 h3 h4, Nat.le_refl _, by show _ ≤ P; omega, h.lo, hle, h.top, ⟨cur, hg, fun i hi => ?_⟩, h.disk, h.inj⟩, h.below⟩
    have hi : i < n := hi
    rw [Nat.mul_one] at ht
    have hu : (dptr d n)[i]? = some (.pointer (some ⟨d i, 0, none⟩)) := by simp [dptr, hi]
    show cur[i]? = some (.pointer (some ⟨d i, 0, none⟩))
    rw [← hu, ← ht, List.getElem?_take, if_pos hi, Array.getElem?_toList]
theorem nrk_start (w : World) (k : Nat) : NRk (w.alloc (.cells #[.slice none 0 0, .bool false, .int .i64 (-1)] 82)) 0 k (.slice none 0 0) (fun _ => 0) (fun _ => 0) (fun _ => 0) w :=
  ⟨heap_alloc_new w _, ⟨rfl, Or.inl ⟨rfl, rfl⟩⟩, fun _ h => absurd h (by omega), fun _ h => absurd h (by omega), fun _ _ h => absurd h (by omega), one_below w _⟩
def RelQN (n k : Nat) (w : World) (i : Value) (wr : World) : Prop := ∃ (j : Nat) (v : Value) (d S M : Nat → Nat), j ≤ n ∧ i = .int .i64 j ∧ NRk wr j k v d S M w
theorem relQN_next {n j k d' S' M' : Nat} {w0 wr w2 wx w3 : World} {v v' : Value} {d S M : Nat → Nat} (h : NRk wr j k v d S M w0) (hj : j < n) (hb : Below wr.heap.size wr w2) (hD : DiskIn w2 d' S' M' (new k)) (h1 : wr.heap.size ≤ d') (h2 : wr.heap.size ≤ S') (h3 : wr.heap.size ≤ M')
    (hx : Below w2.heap.size w2 wx) (hown : w3.ownsRow (w0.heap.size + 1) 83 1 v' (j + 1) (dptr d j ++ [.pointer (some ⟨d', 0, none⟩)])) (hg : Grew wx v.ownBlock w3 v'.ownBlock) : RelQN n k w0 (.int .i64 ((j : Int) + 1)) (w3.setCell ⟨w0.heap.size, 0, none⟩ v') :=
  ⟨j + 1, v', _, _, _, by omega, by go_num, h.next hb hD h1 h2 h3 hx hown hg⟩
set_option maxHeartbeats 2000000 in
set_option maxRecDepth 100000 in
theorem qnew_yes (n k : Nat) (w : World) (h1 : 1 ≤ n) (h2 : n ≤ 8) (h3 : 1 ≤ k) (h4 : k ≤ 128) : Calls Tryz.prog 6 #[.int .i64 (n : Int), .int .i64 (k : Int)] w (NewR n k w) := by
  have HNS := Lib.hid (nrk_start w k)
  have i1 : ¬ (n : Int) < 1 := by omega
  have i2 : ¬ 8 < n := by omega
  go_enter Tryz.func6, Tryz.ntmps6
  go_wp2_with fail
  go_loopw [21] (fun c wr => RelQN n k w c wr) (fun c _ => n - (intOf c).toNat)
  case atStart => exact ⟨0, _, _, _, _, Nat.zero_le _, rfl, HNS.out⟩
  case round =>
    obtain ⟨j, v, d, S, M, hj, rfl, hr3⟩ := hrel
    by_cases hlt : j < n
    · have HR3 := Lib.hid hr3
      clear hr3
      go_wp2_with fail
      refine (new_yes k wr h3 h4).mono ?_
      rintro e w2 ⟨d', S', M', rfl, hD, e1, e2, e3, hb⟩
      have HE := Lib.hid (show wr.heap.size ≤ d' ∧ wr.heap.size ≤ S' ∧ wr.heap.size ≤ M' from ⟨e1, e2, e3⟩)
      have HD := Lib.hid hD
      have HB := Lib.hid hb
      obtain ⟨c1, c3⟩ := HR3.out.cells
      have hcl0 := HR3.out.lt
      have c1 : w2.cell? ⟨w.heap.size, 0, none⟩ = some v := (hb.cell (p := ⟨w.heap.size, 0, none⟩) hcl0).trans c1
      have c3 : w2.frozen? ⟨w.heap.size, 0, none⟩ = false := (hb.frozen (p := ⟨w.heap.size, 0, none⟩) hcl0).trans c3
      have hcl : w.heap.size < w2.heap.size := Nat.lt_of_lt_of_le hcl0 hb.size
      have HNE := Lib.hid (show v.ownBlock ≠ some w.heap.size from HR3.out.off)
      have HO := Lib.hid (own_below HR3.out.own hb)
      clear hD e1 e2 e3 hb hcl0
      go_wp2_with (at_builtin; refine wpList_append_dptr _ rfl (.tmp 37) (.tmp 39) rfl (w.heap.size + 1) _ _ _ rfl (own_below HO.out (one_below _ _)) w2.heap.size (.pointer (some ⟨d', 0, none⟩)) rfl (by simp) rfl (by omega) (by simp; omega) ?_; intro v' w3 hown3 hg3; have c1d := qcell_later (one_below _ _) hg3 hcl HNE.out c1; have c3d := qfrozen_later (one_below _ _) hg3 hcl HNE.out c3; have HO3 := Lib.hid hown3; have HG3 := Lib.hid hg3; obtain ⟨gv, cv, rfl, _⟩ := own_slice hown3; clear hown3 hg3)
      go_roundw
      case rel => exact relQN_next HR3.out hlt HB.out HD.out HE.out.1 HE.out.2.1 HE.out.2.2 (one_below _ _) HO3.out HG3.out
      case measure => simp [intOf]; omega
    · obtain rfl : j = n := by omega
      have HR3 := Lib.hid hr3
      clear hr3
      go_wp2_with fail
      exact bodyPost_ret (v := .tuple #[.pointer (some ⟨w.heap.size, 0, none⟩), .nilIface]) (by simp [results, Tryz.results6, go_sem]) rfl (HR3.out.made h1 h2 h3 h4)
set_option maxHeartbeats 2000000 in
set_option maxRecDepth 100000 in
theorem qnew_no (n : Int) (k : Int) (w : World) (h : ¬ (1 ≤ n ∧ n ≤ 8)) : Calls Tryz.prog 6 #[.int .i64 n, .int .i64 k] w (Err2 (.pointer none) opQNew 1 n w) := by
  by_cases h1 : n < 1
  · clear h
    go_enter Tryz.func6, Tryz.ntmps6
    go_wp2_with (go_at_call 43; refine (wrap_some _ _ _ _ _).mono ?_; rintro e w' ⟨rfl, rfl⟩)
    exact bodyPost_ret (v := .tuple #[.pointer none, wrapV opQNew n (errV 1)]) (by simp [results, Tryz.results6, go_sem, wrapV, errV, opQNew]) rfl ⟨rfl, rfl⟩
  · have h2 : 8 < n := by omega
    clear h
    go_enter Tryz.func6, Tryz.ntmps6
    go_wp2_with (go_at_call 43; refine (wrap_some _ _ _ _ _).mono ?_; rintro e w' ⟨rfl, rfl⟩)
    exact bodyPost_ret (v := .tuple #[.pointer none, wrapV opQNew n (errV 1)]) (by simp [results, Tryz.results6, go_sem, wrapV, errV, opQNew]) rfl ⟨rfl, rfl⟩
/-- A rack whose disks can't be made. -/
def NewBad (n k : Int) (w : World) (e : Ending) (w' : World) : Prop := e = .returned (.tuple #[.pointer none, wrapV opQNew n (wrapV opNew k (errV 1))]) ∧ Below w.heap.size w w'
set_option maxHeartbeats 2000000 in
set_option maxRecDepth 100000 in
theorem qnew_bad (n : Nat) (k : Int) (w : World) (h1 : 1 ≤ n) (h2 : n ≤ 8) (h : ¬ (1 ≤ k ∧ k ≤ 128)) : Calls Tryz.prog 6 #[.int .i64 (n : Int), .int .i64 k] w (NewBad n k w) := by
  have i1 : ¬ (n : Int) < 1 := by omega
  have i2 : ¬ 8 < n := by omega
  have HN := Lib.hid (fun w => new_no k w h)
  unfold Err2 wrapV errV at HN
  clear h
  go_enter Tryz.func6, Tryz.ntmps6
  go_wp2_with fail
  go_loopw [21] (fun c wr => c = .int .i64 0 ∧ Below w.heap.size w wr) (fun _ _ => 0)
  case atStart => exact ⟨rfl, one_below w _⟩
  case round =>
    obtain ⟨rfl, hb⟩ := hrel
    have HB := Lib.hid hb
    have i3 : 0 < n := by omega
    clear hb
    go_wp2_with (first
      | (go_at_call 44; refine (HN.out _).mono ?_; rintro e w' ⟨rfl, rfl⟩)
      | (go_at_call 43; refine (wrap_some _ _ _ _ _).mono ?_; rintro e w' ⟨rfl, rfl⟩))
    exact bodyPost_ret (v := .tuple #[.pointer none, wrapV opQNew n (wrapV opNew k (errV 1))]) (by simp [results, Tryz.results6, go_sem, wrapV, errV, opQNew]) rfl ⟨rfl, HB.out⟩
end Go.Proofs.YtbokangpcjeofaaGreatDoor
