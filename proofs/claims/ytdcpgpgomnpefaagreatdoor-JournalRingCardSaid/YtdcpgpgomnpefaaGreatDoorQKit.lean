/-
  A rack in memory: its struct, the row of its disks, each disk; what may turn when it is worked on.
-/
import Derived.Test.YtdcpgpgomnpefaaGreatDoorDEv
import Derived.Test.YtdcpgpgomnpefaaGreatDoorQModel
namespace Go.Proofs.YtdcpgpgomnpefaaGreatDoor
open Go.RowKit Go.Deep Dk Qk Go.Maps
/-- Where a rack lies. -/
structure Lc where
  r : Nat
  P : Nat
  cap : Nat
  d : Nat → Nat
  S : Nat → Nat
  M : Nat → Nat
structure RackIn (lo : Nat) (w : World) (c : Lc) (q : Rk) : Prop where
  ok : q.Ok
  lr : lo ≤ c.r
  lP : lo ≤ c.P
  ld : ∀ i, i < q.n → lo ≤ c.d i ∧ lo ≤ c.S i ∧ lo ≤ c.M i
  cap : q.n ≤ c.cap
  top : w.heap[c.r]? = some (.cells #[.slice (some ⟨c.P, 0, none⟩) q.n c.cap, .bool q.off, .int .i64 q.rem] 130 (0, 0))
  row : ∃ cs, w.heap[c.P]? = some (.cells cs 131 (0, 0)) ∧ ∀ i, i < q.n → cs[i]? = some (.pointer (some ⟨c.d i, 0, none⟩))
  disk : ∀ i, i < q.n → DiskIn w (c.d i) (c.S i) (c.M i) (q.s i)
  inj : ∀ i j, i < q.n → j < q.n → i ≠ j → c.d i ≠ c.d j ∧ c.S i ≠ c.S j ∧ c.M i ≠ c.M j
/-- What turns when a rack is worked on: its struct and its disks' blocks alone, and what is new. -/
structure RC (c : Lc) (n : Nat) (w w' : World) : Prop where
  os : w'.os = w.os
  tape : w'.tape = w.tape
  output : w'.output = w.output
  size : w.heap.size ≤ w'.heap.size
  block : ∀ k, k < w.heap.size → k ≠ c.r → (∀ i, i < n → k ≠ c.d i ∧ k ≠ c.S i ∧ k ≠ c.M i) → w'.heap[k]? = w.heap[k]?
theorem RC.refl (c : Lc) (n : Nat) (w : World) : RC c n w w := ⟨rfl, rfl, rfl, Nat.le_refl _, fun _ _ _ _ => rfl⟩
theorem RC.trans {c : Lc} {n : Nat} {w w1 w2 : World} (h : RC c n w w1) (h2 : RC c n w1 w2) : RC c n w w2 :=
  ⟨h2.os.trans h.os, h2.tape.trans h.tape, h2.output.trans h.output, Nat.le_trans h.size h2.size, fun k hk a b => (h2.block k (Nat.lt_of_lt_of_le hk h.size) a b).trans (h.block k hk a b)⟩
theorem RC.of_below {c : Lc} {n : Nat} {w w' : World} (h : Below w.heap.size w w') : RC c n w w' := ⟨h.os, h.tape, h.output, h.size, fun k hk _ _ => h.block k hk⟩
theorem RC.of_chg {c : Lc} {n i : Nat} {w w' : World} (h : Chg (c.d i) (c.S i) (c.M i) w w') (hi : i < n) : RC c n w w' :=
  ⟨h.os, h.tape, h.output, h.size, fun k hk _ b => h.block k hk (b i hi).1 (b i hi).2.1 (b i hi).2.2⟩
theorem RC.set (c : Lc) (n i : Nat) (v : Value) (w : World) : RC c n w (w.setCell ⟨c.r, i, none⟩ v) :=
  ⟨rfl, rfl, rfl, ((Below.refl 0 w).setCell (p := ⟨c.r, i, none⟩) (Nat.zero_le _) v).size, fun k _ hr _ => heap_setCell_other w ⟨c.r, i, none⟩ k v hr⟩
theorem RC.drewN {c : Lc} {n : Nat} {w w' : World} (h : RC c n w w') (m : Nat) : RC c n w (w'.drewN m) := ⟨h.os, h.tape, h.output, h.size, h.block⟩
theorem RC.below {lo : Nat} {c : Lc} {q : Rk} {w0 w w' : World} (h : RC c q.n w w') (hr : RackIn lo w c q) (hb : Below lo w0 w) (hl : lo ≤ w.heap.size) : Below lo w0 w' :=
  hb.trans ⟨h.os, h.tape, h.output, h.size, fun k hk => h.block k (by omega) (by have := hr.lr; omega) (fun i hi => by have := hr.ld i hi; omega)⟩
theorem cells_ne {w : World} {a b : Nat} {x y : Array Value} {t u : TypeId} {f g : Nat × Nat} (h1 : w.heap[a]? = some (.cells x t f)) (h2 : w.heap[b]? = some (.cells y u g)) (ht : t ≠ u) : a ≠ b := fun e => by
  subst e; rw [h1] at h2; injection h2 with h2; injection h2 with _ h2 _; exact ht h2
theorem cells_map_ne {w : World} {a b : Nat} {x : Array Value} {t : TypeId} {f : Nat × Nat} {es : Array MapEntry} {k : Nat} (h1 : w.heap[a]? = some (.cells x t f)) (h2 : w.heap[b]? = some (.map es k)) : a ≠ b := fun e => by
  subst e; rw [h1] at h2; cases h2
theorem DiskIn.mapObj {w : World} {d S M : Nat} {s : St} (h : DiskIn w d S M s) : ∃ es k, w.heap[M]? = some (.map es k) := by
  obtain ⟨D, hm⟩ := h.map_
  obtain ⟨es, clock, hb, _⟩ := hm.own
  exact ⟨es, clock, hb⟩
/-- Two disks that share none of the same kind share nothing. -/
theorem DiskIn.apart2 {w : World} {d S M d' S' M' : Nat} {s s' : St} (h : DiskIn w d S M s) (h' : DiskIn w d' S' M' s') (hd : d ≠ d') (hS : S ≠ S') (hM : M ≠ M') :
    (d ≠ d' ∧ d ≠ S' ∧ d ≠ M') ∧ (S ≠ d' ∧ S ≠ S' ∧ S ≠ M') ∧ (M ≠ d' ∧ M ≠ S' ∧ M ≠ M') := by
  obtain ⟨es, k, hm⟩ := h.mapObj
  obtain ⟨es', k', hm'⟩ := h'.mapObj
  exact ⟨⟨hd, cells_ne h.top h'.secs (by decide), cells_map_ne h.top hm'⟩, ⟨cells_ne h.secs h'.top (by decide), hS, cells_map_ne h.secs hm'⟩, ⟨(cells_map_ne h'.top hm).symm, (cells_map_ne h'.secs hm).symm, hM⟩⟩
theorem RackIn.lt {lo : Nat} {w : World} {c : Lc} {q : Rk} (h : RackIn lo w c q) : c.r < w.heap.size ∧ c.P < w.heap.size ∧ c.r ≠ c.P := by
  obtain ⟨cs, hr, _⟩ := h.row
  exact ⟨(Array.getElem?_eq_some_iff.1 h.top).1, (Array.getElem?_eq_some_iff.1 hr).1, cells_ne h.top hr (by decide)⟩
theorem RackIn.off_disk {lo : Nat} {w : World} {c : Lc} {q : Rk} (h : RackIn lo w c q) {i : Nat} (hi : i < q.n) : (c.r ≠ c.d i ∧ c.r ≠ c.S i ∧ c.r ≠ c.M i) ∧ (c.P ≠ c.d i ∧ c.P ≠ c.S i ∧ c.P ≠ c.M i) := by
  obtain ⟨cs, hr, _⟩ := h.row
  have hd := h.disk i hi
  obtain ⟨es, k, hm⟩ := hd.mapObj
  exact ⟨⟨cells_ne h.top hd.top (by decide), cells_ne h.top hd.secs (by decide), cells_map_ne h.top hm⟩, ⟨cells_ne hr hd.top (by decide), cells_ne hr hd.secs (by decide), cells_map_ne hr hm⟩⟩
theorem RackIn.c0 {lo : Nat} {w : World} {c : Lc} {q : Rk} (h : RackIn lo w c q) : w.cell? ⟨c.r, 0, none⟩ = some (.slice (some ⟨c.P, 0, none⟩) q.n c.cap) := by rw [cell_of_row w c.r 0 _ _ _ h.top]; rfl
theorem RackIn.c1 {lo : Nat} {w : World} {c : Lc} {q : Rk} (h : RackIn lo w c q) : w.cell? ⟨c.r, 1, none⟩ = some (.bool q.off) := by rw [cell_of_row w c.r 1 _ _ _ h.top]; rfl
theorem RackIn.c2 {lo : Nat} {w : World} {c : Lc} {q : Rk} (h : RackIn lo w c q) : w.cell? ⟨c.r, 2, none⟩ = some (.int .i64 q.rem) := by rw [cell_of_row w c.r 2 _ _ _ h.top]; rfl
theorem RackIn.fz {lo : Nat} {w : World} {c : Lc} {q : Rk} (h : RackIn lo w c q) (i : Nat) : w.frozen? ⟨c.r, i, none⟩ = false := frozen_of_row w c.r i _ _ h.top
theorem RackIn.at_ {lo : Nat} {w : World} {c : Lc} {q : Rk} (h : RackIn lo w c q) {i : Nat} (hi : i < q.n) : w.cell? ⟨c.P, i, none⟩ = some (.pointer (some ⟨c.d i, 0, none⟩)) := by
  obtain ⟨cs, hr, hc⟩ := h.row
  rw [cell_of_row w c.P i _ _ _ hr]
  exact hc i hi
/-- Where its blocks stay, the rack does. -/
theorem RackIn.keep {lo : Nat} {w w' : World} {c : Lc} {q : Rk} (h : RackIn lo w c q) (h1 : w'.heap[c.r]? = w.heap[c.r]?) (h2 : w'.heap[c.P]? = w.heap[c.P]?)
    (h3 : ∀ i, i < q.n → w'.heap[c.d i]? = w.heap[c.d i]? ∧ w'.heap[c.S i]? = w.heap[c.S i]? ∧ w'.heap[c.M i]? = w.heap[c.M i]?) : RackIn lo w' c q := by
  obtain ⟨cs, hr, hc⟩ := h.row
  exact ⟨h.ok, h.lr, h.lP, h.ld, h.cap, h1.trans h.top, ⟨cs, h2.trans hr, hc⟩, fun i hi => (h.disk i hi).keep (h3 i hi).1 (h3 i hi).2.1 (h3 i hi).2.2, h.inj⟩
theorem RackIn.below {lo : Nat} {w w' : World} {c : Lc} {q : Rk} (h : RackIn lo w c q) (hb : Below w.heap.size w w') : RackIn lo w' c q :=
  h.keep (hb.block _ h.lt.1) (hb.block _ h.lt.2.1) fun i hi => ⟨hb.block _ (h.disk i hi).lt.1, hb.block _ (h.disk i hi).lt.2.1, hb.block _ (h.disk i hi).lt.2.2⟩
theorem RackIn.drewN {lo : Nat} {w : World} {c : Lc} {q : Rk} (h : RackIn lo w c q) (m : Nat) : RackIn lo (w.drewN m) c q := h.keep rfl rfl fun _ _ => ⟨rfl, rfl, rfl⟩
theorem RackIn.lower {lo lo' : Nat} {w : World} {c : Lc} {q : Rk} (h : RackIn lo w c q) (hl : lo' ≤ lo) : RackIn lo' w c q :=
  ⟨h.ok, by have := h.lr; omega, by have := h.lP; omega, fun i hi => by have := h.ld i hi; omega, h.cap, h.top, h.row, h.disk, h.inj⟩
/-- One disk is in another state. -/
theorem RackIn.turned {lo : Nat} {w w' : World} {c : Lc} {q : Rk} (h : RackIn lo w c q) {i : Nat} (hi : i < q.n) {t : St} (ht : t.n = q.k) (hd : DiskIn w' (c.d i) (c.S i) (c.M i) t) (hc : Chg (c.d i) (c.S i) (c.M i) w w') : RackIn lo w' c (q.turn i t) := by
  obtain ⟨b1, b2, b3⟩ := h.lt
  obtain ⟨⟨a1, a2, a3⟩, a4, a5, a6⟩ := h.off_disk hi
  obtain ⟨cs, hr, hcs⟩ := h.row
  refine ⟨h.ok.turn ht, h.lr, h.lP, h.ld, h.cap, (hc.block _ b1 a1 a2 a3).trans h.top, ⟨cs, (hc.block _ b2 a4 a5 a6).trans hr, hcs⟩, fun j hj => ?_, h.inj⟩
  by_cases e : j = i
  · subst e; rw [turn_at]; exact hd
  · rw [turn_off q t e]
    obtain ⟨e1, e2, e3⟩ := h.inj j i hj hi e
    obtain ⟨⟨x1, x2, x3⟩, ⟨y1, y2, y3⟩, z1, z2, z3⟩ := (h.disk j hj).apart2 (h.disk i hi) e1 e2 e3
    obtain ⟨l1, l2, l3⟩ := (h.disk j hj).lt
    exact (h.disk j hj).keep (hc.block _ l1 x1 x2 x3) (hc.block _ l2 y1 y2 y3) (hc.block _ l3 z1 z2 z3)
theorem RackIn.setTop {lo : Nat} {w : World} {c : Lc} {q q' : Rk} (h : RackIn lo w c q) {i : Nat} {v : Value} (hok : q'.Ok) (hn : q'.n = q.n) (hs : q'.s = q.s)
    (e : (#[.slice (some ⟨c.P, 0, none⟩) q.n c.cap, .bool q.off, .int .i64 q.rem] : Array Value).setIfInBounds i v = #[.slice (some ⟨c.P, 0, none⟩) q.n c.cap, .bool q'.off, .int .i64 q'.rem]) : RackIn lo (w.setCell ⟨c.r, i, none⟩ v) c q' := by
  have oth : ∀ k, k ≠ c.r → (w.setCell ⟨c.r, i, none⟩ v).heap[k]? = w.heap[k]? := fun k hk => heap_setCell_other _ ⟨c.r, i, none⟩ k _ hk
  obtain ⟨cs, hr, hcs⟩ := h.row
  refine ⟨hok, h.lr, h.lP, fun j hj => h.ld j (by omega), by rw [hn]; exact h.cap, ?_, ⟨cs, (oth _ h.lt.2.2.symm).trans hr, fun j hj => hcs j (by omega)⟩, fun j hj => ?_, fun j k hj hk => h.inj j k (by omega) (by omega)⟩
  · rw [heap_setCell_same w c.r i _ _ v h.top, e, hn]
  · have hj' : j < q.n := by omega
    obtain ⟨⟨a1, a2, a3⟩, _⟩ := h.off_disk hj'
    rw [hs]
    exact (h.disk j hj').keep (oth _ a1.symm) (oth _ a2.symm) (oth _ a3.symm)
theorem RackIn.setOff {lo : Nat} {w : World} {c : Lc} {q : Rk} (h : RackIn lo w c q) (b : Bool) : RackIn lo (w.setCell ⟨c.r, 1, none⟩ (.bool b)) c { q with off := b } :=
  h.setTop ⟨h.ok.n0, h.ok.n8, h.ok.k0, h.ok.k8, h.ok.k, h.ok.low, h.ok.high⟩ rfl rfl rfl
theorem RackIn.setRem {lo : Nat} {w : World} {c : Lc} {q : Rk} (h : RackIn lo w c q) (n : Int) (h1 : -9223372036854775808 ≤ n) (h2 : n < 9223372036854775808) : RackIn lo (w.setCell ⟨c.r, 2, none⟩ (.int .i64 n)) c { q with rem := n } :=
  h.setTop ⟨h.ok.n0, h.ok.n8, h.ok.k0, h.ok.k8, h.ok.k, h1, h2⟩ rfl rfl rfl
/-- What a call on a rack leaves. -/
def NextR (lo : Nat) (c : Lc) (n : Nat) (q' : Rk) (v : Value) (w : World) (e : Ending) (w' : World) : Prop := e = .returned v ∧ RackIn lo w' c q' ∧ RC c n w w'
end Go.Proofs.YtdcpgpgomnpefaaGreatDoor
