/-
  The reference's rack in numbers, and how it stands to the program's.
-/
import Derived.Test.YtidnmkghmaeniaaGreatDoorQKit
import Derived.Test.YtidnmkghmaeniaaGreatDoorQMore
import Derived.Test.YtidnmkghmaeniaaGreatDoorRDisk2
import Derived.Test.YtidnmkghmaeniaaGreatDoorQS
namespace Qk
open Dk
/-- An operation begins: the reference's way. -/
def Rk.burnt (q : Rk) : Rk := if q.rem = 0 then { q with off := true, rem := -1 } else q.spent
def Rk.vwrite (q : Rk) (i sec : Int) (l : List UInt8) : Rk :=
  if q.ready i = 0 ∧ q.fits sec l.length then (if q.rem = 0 then q.burnt else q.burnt.turn i.toNat ((q.s i.toNat).write sec.toNat l)) else q
def Rk.vflush (q : Rk) (i : Int) : Rk := if q.ready i = 0 then (if q.rem = 0 then q.burnt else q.burnt.turn i.toNat (q.s i.toNat).flush) else q
def Rk.varm (q : Rk) (n : Int) : Rk := { q with rem := if n < -1 then -1 else n }
theorem burnt_n (q : Rk) : q.burnt.n = q.n := by unfold Rk.burnt; split; rfl; exact by unfold Rk.spent; split; rfl; split; rfl; rfl
theorem burnt_k (q : Rk) : q.burnt.k = q.k := by unfold Rk.burnt; split; rfl; exact by unfold Rk.spent; split; rfl; split; rfl; rfl
theorem burnt_s (q : Rk) : q.burnt.s = q.s := by unfold Rk.burnt; split; rfl; exact by unfold Rk.spent; split; rfl; split; rfl; rfl
theorem Rk.Ok.burnt {q : Rk} (h : q.Ok) : q.burnt.Ok := by
  unfold Rk.burnt
  split
  · exact ⟨h.n0, h.n8, h.k0, h.k8, h.k, by show (-9223372036854775808 : Int) ≤ -1; omega, by show (-1 : Int) < 9223372036854775808; omega⟩
  · exact h.spent
/-- Both racks stand alike. -/
structure Alike (q q' : Rk) : Prop where
  n : q'.n = q.n
  k : q'.k = q.k
  s : ∀ i, i < q.n → q'.s i = q.s i
  off : q'.off = q.off
  rem : q.off = false → q'.rem = if q.rem < 0 then -1 else q.rem
theorem Alike.has {q q' : Rk} (h : Alike q q') (i : Int) : q'.has i ↔ q.has i := by unfold Rk.has; rw [h.n]
theorem Alike.at_ {q q' : Rk} (h : Alike q q') {i : Int} (hi : q.has i) : q'.s i.toNat = q.s i.toNat := h.s _ (by have := hi.2; have := hi.1; omega)
theorem Alike.ready {q q' : Rk} (h : Alike q q') (i : Int) : q'.ready i = q.ready i := by
  unfold Rk.ready
  by_cases hi : q.has i
  · rw [if_pos hi, if_pos ((h.has i).2 hi), h.off, h.at_ hi]
  · rw [if_neg hi, if_neg (fun e => hi ((h.has i).1 e))]
theorem Alike.fits {q q' : Rk} (h : Alike q q') (sec : Int) (len : Nat) : q'.fits sec len ↔ q.fits sec len := by unfold Rk.fits; rw [h.k]
theorem ready_on {q : Rk} {i : Int} (h : q.ready i = 0) : q.has i ∧ q.off = false := by
  unfold Rk.ready at h
  by_cases hi : q.has i
  · refine ⟨hi, ?_⟩
    rw [if_pos hi] at h
    cases ho : q.off
    · rfl
    · rw [ho, Bool.true_or, if_pos rfl] at h; cases h
  · rw [if_neg hi] at h; cases h
theorem Alike.zero {q q' : Rk} (h : Alike q q') (ho : q.off = false) : q'.rem = 0 ↔ q.rem = 0 := by
  rw [h.rem ho]
  split
  · omega
  · rfl
theorem Alike.burnt {q q' : Rk} (h : Alike q q') (ho : q.off = false) : Alike q.spent q'.burnt := by
  have hr := h.rem ho
  have h2 : q'.off = false := h.off.trans ho
  by_cases h0 : q.rem = 0
  · have h0' := (h.zero ho).2 h0
    unfold Rk.spent Rk.burnt
    rw [if_pos h0, if_pos h0']
    exact ⟨h.n, h.k, h.s, rfl, fun e => by cases e⟩
  · have h0' : ¬ q'.rem = 0 := fun e => h0 ((h.zero ho).1 e)
    unfold Rk.burnt
    rw [if_neg h0']
    unfold Rk.spent
    rw [if_neg h0, if_neg h0']
    by_cases h1 : 0 < q.rem
    · have e : q'.rem = q.rem := by rw [hr, if_neg (by omega)]
      rw [if_pos h1, if_pos (by omega)]
      refine ⟨h.n, h.k, h.s, h.off, fun _ => ?_⟩
      show q'.rem - 1 = if q.rem - 1 < 0 then -1 else q.rem - 1
      rw [if_neg (by omega), e]
    · have e : q'.rem = -1 := by rw [hr, if_pos (by omega)]
      rw [if_neg h1, if_neg (by omega)]
      exact h
theorem Alike.turn {q q' : Rk} (h : Alike q q') (i : Nat) (t : St) : Alike (q.turn i t) (q'.turn i t) :=
  ⟨h.n, h.k, fun j hj => by
    show upd q'.s i t j = upd q.s i t j
    by_cases e : j = i
    · subst e; rw [upd_same, upd_same]
    · rw [upd_other _ _ e, upd_other _ _ e]; exact h.s j hj, h.off, h.rem⟩
theorem Alike.write {q q' : Rk} (h : Alike q q') (i sec : Int) (l : List UInt8) : Alike (q.write i sec l) (q'.vwrite i sec l) ∧ q'.wcode i sec l.length = q.wcode i sec l.length := by
  have hr := h.ready i
  unfold Rk.write Rk.vwrite Rk.wcode
  by_cases h0 : q.ready i = 0
  · obtain ⟨hi, ho⟩ := ready_on h0
    have h0' : q'.ready i = 0 := hr.trans h0
    by_cases hf : q.fits sec l.length
    · have hf' := (h.fits sec l.length).2 hf
      rw [if_pos (show q.ready i = 0 ∧ q.fits sec l.length from ⟨h0, hf⟩), if_pos (show q'.ready i = 0 ∧ q'.fits sec l.length from ⟨h0', hf'⟩), if_pos h0, if_pos h0', if_pos hf, if_pos hf']
      by_cases hz : q.rem = 0
      · rw [if_pos hz, if_pos ((h.zero ho).2 hz), if_pos hz, if_pos ((h.zero ho).2 hz)]
        exact ⟨h.burnt ho, rfl⟩
      · have hz' : ¬ q'.rem = 0 := fun e => hz ((h.zero ho).1 e)
        rw [if_neg hz, if_neg hz', if_neg hz, if_neg hz', h.at_ hi]
        exact ⟨(h.burnt ho).turn _ _, rfl⟩
    · have hf' : ¬ q'.fits sec l.length := fun e => hf ((h.fits sec l.length).1 e)
      rw [if_neg (show ¬ (q.ready i = 0 ∧ q.fits sec l.length) from fun e => hf e.2), if_neg (show ¬ (q'.ready i = 0 ∧ q'.fits sec l.length) from fun e => hf' e.2), if_pos h0, if_pos h0', if_neg hf, if_neg hf']
      exact ⟨h, rfl⟩
  · have h0' : ¬ q'.ready i = 0 := by rw [hr]; exact h0
    rw [if_neg (show ¬ (q.ready i = 0 ∧ q.fits sec l.length) from fun e => h0 e.1), if_neg (show ¬ (q'.ready i = 0 ∧ q'.fits sec l.length) from fun e => h0' e.1), if_neg h0, if_neg h0']
    exact ⟨h, hr⟩
theorem Alike.flush {q q' : Rk} (h : Alike q q') (i : Int) : Alike (q.flush i) (q'.vflush i) ∧ q'.fcode i = q.fcode i := by
  have hr := h.ready i
  unfold Rk.flush Rk.vflush Rk.fcode
  by_cases h0 : q.ready i = 0
  · obtain ⟨hi, ho⟩ := ready_on h0
    have h0' : q'.ready i = 0 := hr.trans h0
    rw [if_pos h0, if_pos h0', if_pos h0, if_pos h0']
    by_cases hz : q.rem = 0
    · rw [if_pos hz, if_pos ((h.zero ho).2 hz), if_pos hz, if_pos ((h.zero ho).2 hz)]
      exact ⟨h.burnt ho, rfl⟩
    · have hz' : ¬ q'.rem = 0 := fun e => hz ((h.zero ho).1 e)
      rw [if_neg hz, if_neg hz', if_neg hz, if_neg hz', h.at_ hi]
      exact ⟨(h.burnt ho).turn _ _, rfl⟩
  · have h0' : ¬ q'.ready i = 0 := by rw [hr]; exact h0
    rw [if_neg h0, if_neg h0', if_neg h0, if_neg h0']
    exact ⟨h, hr⟩
theorem Alike.arm {q q' : Rk} (h : Alike q q') (n : Int) : Alike (q.arm n) (q'.varm n) :=
  ⟨h.n, h.k, h.s, h.off, fun _ => by
    show (if n < -1 then -1 else n) = if n < 0 then -1 else n
    by_cases h1 : n < -1
    · rw [if_pos h1, if_pos (by omega)]
    · rw [if_neg h1]
      by_cases h2 : n < 0
      · rw [if_pos h2]; omega
      · rw [if_neg h2]⟩
theorem Alike.boot {q q' : Rk} (h : Alike q q') (bits : Nat → Nat) : Alike (q.boot bits) (q'.boot bits) :=
  ⟨h.n, h.k, fun i hi => by
    have hi : i < q.n := hi
    show (if i < q'.n then (q'.s i).crash (bits i) else q'.s i) = if i < q.n then (q.s i).crash (bits i) else q.s i
    rw [h.n, h.s i hi], rfl, fun _ => by show (-1 : Int) = if (-1 : Int) < 0 then -1 else -1; decide⟩
theorem Alike.up {q q' : Rk} (h : Alike q q') (i : Int) : q'.up i = q.up i := by
  unfold Rk.up
  by_cases hi : q.has i
  · rw [decide_eq_true hi, decide_eq_true ((h.has i).2 hi), h.at_ hi]
  · rw [decide_eq_false hi, decide_eq_false (fun e => hi ((h.has i).1 e))]; rfl
end Qk
/-
  The program's rack and the reference's beside each other in memory.
-/
namespace Go.Proofs.YtidnmkghmaeniaaGreatDoor
open Go.RowKit Go.Deep Dk Qk Go.Maps
/-- Where the reference's rack lies, but for its disks' maps, which are made anew now and then. -/
structure Lf where
  t : Nat
  P : Nat
  cap : Nat
  r : Nat → Nat
  A : Nat → Nat
/-- Block k is none of both racks' that may turn. -/
structure Clear (k n : Nat) (c : Lc) (f : Lf) (C E : Nat → Nat) : Prop where
  p : k ≠ c.r
  d : ∀ i, i < n → k ≠ c.d i ∧ k ≠ c.S i ∧ k ≠ c.M i
  t : k ≠ f.t
  r : ∀ i, i < n → k ≠ f.r i ∧ k ≠ f.A i ∧ k ≠ C i ∧ k ≠ E i
structure PX (lo : Nat) (K : Nat → Prop) (w : World) (c : Lc) (f : Lf) (C E : Nat → Nat) (q q' : Rk) : Prop where
  prog : RackIn lo w c q
  ok : q'.Ok
  n : q'.n = q.n
  k : q'.k = q.k
  cap : q.n ≤ f.cap
  top : w.heap[f.t]? = some (.cells #[.slice (some ⟨f.P, 0, none⟩) q.n f.cap, .int .i64 q'.rem, .bool q'.off] 125 (0, 0))
  row : ∃ cs, w.heap[f.P]? = some (.cells cs 126 (0, 0)) ∧ ∀ i, i < q.n → cs[i]? = some (.pointer (some ⟨f.r i, 0, none⟩))
  ref : ∀ i, i < q.n → RefIn w (f.r i) (f.A i) (C i) (E i) (q'.s i)
  inj : ∀ i j, i < q.n → j < q.n → i ≠ j → f.r i ≠ f.r j ∧ f.A i ≠ f.A j ∧ C i ≠ C j ∧ E i ≠ E j ∧ C i ≠ E j
  maps : ∀ i j, i < q.n → j < q.n → C i ≠ c.M j ∧ E i ≠ c.M j
  lt : lo ≤ f.t
  lP : lo ≤ f.P
  ld : ∀ i, i < q.n → lo ≤ f.r i ∧ lo ≤ f.A i ∧ lo ≤ C i ∧ lo ≤ E i
  safe : ∀ k, K k → k < w.heap.size ∧ Clear k q.n c f C E
def PR (lo : Nat) (K : Nat → Prop) (w : World) (c : Lc) (f : Lf) (q q' : Rk) : Prop := ∃ C E, PX lo K w c f C E q q'
/-- What a step leaves as it was. -/
structure Kept (lo : Nat) (K : Nat → Prop) (w w' : World) : Prop where
  below : Below lo w w'
  keep : ∀ k, K k → w'.heap[k]? = w.heap[k]?
theorem Kept.refl (lo : Nat) (K : Nat → Prop) (w : World) : Kept lo K w w := ⟨Below.refl _ _, fun _ _ => rfl⟩
theorem Kept.trans {lo : Nat} {K : Nat → Prop} {w w1 w2 : World} (h : Kept lo K w w1) (h2 : Kept lo K w1 w2) : Kept lo K w w2 := ⟨h.below.trans h2.below, fun k hk => (h2.keep k hk).trans (h.keep k hk)⟩
theorem kindT {w : World} {a b : Nat} {x y : Array Value} {t u : TypeId} {f g : Nat × Nat} (h1 : w.heap[a]? = some (.cells x t f)) (h2 : w.heap[b]? = some (.cells y u g)) (ht : (t == u) = false) : a ≠ b :=
  cells_ne h1 h2 (by intro e; rw [e] at ht; simp at ht)
theorem RefIn.maps {w : World} {r A C E : Nat} {s : St} (h : RefIn w r A C E s) : (∃ es k, w.heap[C]? = some (.map es k)) ∧ (∃ es k, w.heap[E]? = some (.map es k)) := by
  obtain ⟨D, hc⟩ := h.cache
  obtain ⟨es, k, h1, _⟩ := hc.own
  obtain ⟨D', hb⟩ := h.bad
  obtain ⟨es', k', h2, _⟩ := hb.own
  exact ⟨⟨es, k, h1⟩, ⟨es', k', h2⟩⟩
/-- A block of cells whose kind is none of the program's rack's. -/
theorem RackIn.clear {lo : Nat} {w : World} {c : Lc} {q : Rk} (h : RackIn lo w c q) {k : Nat} {x : Array Value} {t : TypeId} {g : Nat × Nat} (hk : w.heap[k]? = some (.cells x t g)) (h1 : (t == 168) = false) (h2 : (t == 224) = false) (h3 : (t == 228) = false) :
    k ≠ c.r ∧ ∀ i, i < q.n → k ≠ c.d i ∧ k ≠ c.S i ∧ k ≠ c.M i := by
  refine ⟨kindT hk h.top h1, fun i hi => ?_⟩
  obtain ⟨es, ck, hm⟩ := (h.disk i hi).mapObj
  exact ⟨kindT hk (h.disk i hi).top h2, kindT hk (h.disk i hi).secs h3, cells_map_ne hk hm⟩
theorem RackIn.clearM {lo : Nat} {w : World} {c : Lc} {q : Rk} (h : RackIn lo w c q) {k : Nat} {es : Array MapEntry} {ck : Nat} (hk : w.heap[k]? = some (.map es ck)) (hM : ∀ i, i < q.n → k ≠ c.M i) :
    k ≠ c.r ∧ ∀ i, i < q.n → k ≠ c.d i ∧ k ≠ c.S i ∧ k ≠ c.M i :=
  ⟨(cells_map_ne h.top hk).symm, fun i hi => ⟨(cells_map_ne (h.disk i hi).top hk).symm, (cells_map_ne (h.disk i hi).secs hk).symm, hM i hi⟩⟩
/-- The program's rack has been worked on. -/
theorem PX.prog_step {lo : Nat} {K : Nat → Prop} {w w' : World} {c : Lc} {f : Lf} {C E : Nat → Nat} {q q1 q' : Rk} (h : PX lo K w c f C E q q') (hr : RackIn lo w' c q1) (hc : RC c q.n w w') (hn : q1.n = q.n) (hk : q1.k = q.k) (hlo : lo ≤ w.heap.size) :
    PX lo K w' c f C E q1 q' ∧ Kept lo K w w' := by
  obtain ⟨cs, hrow, hcs⟩ := h.row
  have lt : ∀ {k : Nat} {o : Obj}, w.heap[k]? = some o → k < w.heap.size := fun hk => (Array.getElem?_eq_some_iff.1 hk).1
  have ty : ∀ {k : Nat} {x : Array Value} {t : TypeId} {g : Nat × Nat}, w.heap[k]? = some (.cells x t g) → (t == 168) = false → (t == 224) = false → (t == 228) = false → w'.heap[k]? = w.heap[k]? := fun hk h1 h2 h3 => by
    obtain ⟨e1, e2⟩ := h.prog.clear hk h1 h2 h3
    exact hc.block _ (lt hk) e1 e2
  have mp : ∀ {k : Nat} {es : Array MapEntry} {ck : Nat}, w.heap[k]? = some (.map es ck) → (∀ i, i < q.n → k ≠ c.M i) → w'.heap[k]? = w.heap[k]? := fun hk hM => by
    obtain ⟨e1, e2⟩ := h.prog.clearM hk hM
    exact hc.block _ (lt hk) e1 e2
  refine ⟨⟨hr, h.ok, h.n.trans hn.symm, h.k.trans hk.symm, by rw [hn]; exact h.cap, ?_, ⟨cs, (ty hrow rfl rfl rfl).trans hrow, fun i hi => hcs i (by omega)⟩, fun i hi => ?_, fun i j hi hj => h.inj i j (by omega) (by omega), fun i j hi hj => h.maps i j (by omega) (by omega), h.lt, h.lP, fun i hi => h.ld i (by omega), fun k hk => ?_⟩, hc.below h.prog (Below.refl lo w) hlo, fun k hk => ?_⟩
  · rw [hn]; exact (ty h.top rfl rfl rfl).trans h.top
  · have hi' : i < q.n := by omega
    have hf := h.ref i hi'
    obtain ⟨capA, _, t1⟩ := hf.top
    obtain ⟨c2, t2, _⟩ := hf.rows
    obtain ⟨⟨es, ck, t3⟩, ⟨es', ck', t4⟩⟩ := hf.maps
    exact hf.keep (ty t1 rfl rfl rfl) (ty t2 rfl rfl rfl) (mp t3 fun j hj => (h.maps i j hi' hj).1) (mp t4 fun j hj => (h.maps i j hi' hj).2) fun g cur hg => ty hg rfl rfl rfl
  · obtain ⟨e1, e2⟩ := h.safe k hk
    exact ⟨Nat.lt_of_lt_of_le e1 hc.size, e2.p, fun i hi => e2.d i (by omega), e2.t, fun i hi => e2.r i (by omega)⟩
  · obtain ⟨e1, e2⟩ := h.safe k hk
    exact hc.block k e1 e2.p e2.d
/-- Nothing that was there has turned. -/
theorem PX.below {lo : Nat} {K : Nat → Prop} {w w' : World} {c : Lc} {f : Lf} {C E : Nat → Nat} {q q' : Rk} (h : PX lo K w c f C E q q') (hb : Below w.heap.size w w') (hlo : lo ≤ w.heap.size) : PX lo K w' c f C E q q' ∧ Kept lo K w w' :=
  h.prog_step (h.prog.below hb) (RC.of_below hb) rfl rfl hlo
/-- A disk of the reference's has been worked on. -/
theorem PX.ref_step {lo i : Nat} {K : Nat → Prop} {w w' : World} {c : Lc} {f : Lf} {C E : Nat → Nat} {q q' : Rk} {C' E' : Nat} {s' : St} (h : PX lo K w c f C E q q') (hi : i < q.n) (hs : s'.n = q.k)
    (hR : RefIn w' (f.r i) (f.A i) C' E' s') (hc : RChg (f.r i) (f.A i) (C i) (E i) w w') (hC : C' = C i ∨ w.heap.size ≤ C') (hE : E' = E i ∨ w.heap.size ≤ E') (hlo : lo ≤ w.heap.size) :
    PX lo K w' c f (upd C i C') (upd E i E') q (q'.turn i s') ∧ Kept lo K w w' := by
  have hf := h.ref i hi
  obtain ⟨capA, _, t1⟩ := hf.top
  obtain ⟨c2, t2, _⟩ := hf.rows
  obtain ⟨⟨es, ck, t3⟩, ⟨es', ck', t4⟩⟩ := hf.maps
  obtain ⟨cs, hrow, hcs⟩ := h.row
  obtain ⟨ps, prow, _⟩ := h.prog.row
  have lt : ∀ {k : Nat} {o : Obj}, w.heap[k]? = some o → k < w.heap.size := fun hk => (Array.getElem?_eq_some_iff.1 hk).1
  have ty : ∀ {k : Nat} {x : Array Value} {t : TypeId} {g : Nat × Nat}, w.heap[k]? = some (.cells x t g) → (t == 131) = false → (t == 106) = false → w'.heap[k]? = w.heap[k]? := fun hk h1 h2 =>
    hc.block _ (lt hk) (kindT hk t1 h1) (kindT hk t2 h2) (cells_map_ne hk t3) (cells_map_ne hk t4)
  have mp : ∀ {k : Nat} {es : Array MapEntry} {ck : Nat}, w.heap[k]? = some (.map es ck) → k ≠ C i → k ≠ E i → w'.heap[k]? = w.heap[k]? := fun hk h1 h2 =>
    hc.block _ (lt hk) (cells_map_ne t1 hk).symm (cells_map_ne t2 hk).symm h1 h2
  have cl : ∀ j, j < q.n → C j < w.heap.size ∧ E j < w.heap.size := fun j hj => (h.ref j hj).lt.2.2
  have hne : C' ≠ E' := hR.ne
  have ml : ∀ j, j < q.n → c.M j < w.heap.size := fun j hj => (h.prog.disk j hj).lt.2.2
  have upC : upd C i C' i = C' := upd_same ..
  have upE : upd E i E' i = E' := upd_same ..
  refine ⟨⟨?_, h.ok.turn (by rw [hs, h.k]), h.n, h.k, h.cap, (ty h.top rfl rfl).trans h.top, ⟨cs, (ty hrow rfl rfl).trans hrow, hcs⟩, fun j hj => ?_, fun a b ha hb hab => ?_, fun a b ha hb => ?_, h.lt, h.lP, fun j hj => ?_, fun k hk => ?_⟩, ?_, fun k hk => ?_⟩
  · refine h.prog.keep (ty h.prog.top rfl rfl) (ty prow rfl rfl) fun j hj => ?_
    obtain ⟨es2, ck2, hm⟩ := (h.prog.disk j hj).mapObj
    exact ⟨ty (h.prog.disk j hj).top rfl rfl, ty (h.prog.disk j hj).secs rfl rfl, mp hm (fun e => (h.maps i j hi hj).1 e.symm) (fun e => (h.maps i j hi hj).2 e.symm)⟩
  · by_cases e : j = i
    · subst e
      rw [upC, upE, turn_at]; exact hR
    · rw [upd_other _ _ e, upd_other _ _ e, turn_off _ _ e]
      obtain ⟨n1, n2, n3, n4, n5⟩ := h.inj j i hj hi e
      obtain ⟨_, _, _, _, n6⟩ := h.inj i j hi hj (fun q => e q.symm)
      have hg := h.ref j hj
      obtain ⟨_, _, u1⟩ := hg.top
      obtain ⟨_, u2, _⟩ := hg.rows
      obtain ⟨⟨_, _, u3⟩, ⟨_, _, u4⟩⟩ := hg.maps
      exact hg.keep (hc.block _ (lt u1) n1 (kindT u1 t2 rfl) (cells_map_ne u1 t3) (cells_map_ne u1 t4)) (hc.block _ (lt u2) (kindT u2 t1 rfl) n2 (cells_map_ne u2 t3) (cells_map_ne u2 t4)) (mp u3 n3 n5) (mp u4 (fun q => n6 q.symm) n4) fun g cur hg => ty hg rfl rfl
  · have := cl a ha
    have := cl b hb
    obtain ⟨n1, n2, n3, n4, n5⟩ := h.inj a b ha hb hab
    refine ⟨n1, n2, ?_⟩
    by_cases ea : a = i
    · have eb : b ≠ i := fun e => hab (ea.trans e.symm)
      subst ea
      rw [upC, upE, upd_other _ _ eb, upd_other _ _ eb]
      exact ⟨by rcases hC with e | e; rw [e]; exact n3; omega, by rcases hE with e | e; rw [e]; exact n4; omega, by rcases hC with e | e; rw [e]; exact n5; omega⟩
    · rw [upd_other _ _ ea, upd_other _ _ ea]
      by_cases eb : b = i
      · subst eb
        rw [upC, upE]
        exact ⟨by rcases hC with e | e; rw [e]; exact n3; omega, by rcases hE with e | e; rw [e]; exact n4; omega, by rcases hE with e | e; rw [e]; exact n5; omega⟩
      · rw [upd_other _ _ eb, upd_other _ _ eb]; exact ⟨n3, n4, n5⟩
  · have := ml b hb
    obtain ⟨m1, m2⟩ := h.maps a b ha hb
    by_cases ea : a = i
    · subst ea
      rw [upC, upE]
      exact ⟨by rcases hC with e | e; rw [e]; exact m1; omega, by rcases hE with e | e; rw [e]; exact m2; omega⟩
    · rw [upd_other _ _ ea, upd_other _ _ ea]; exact ⟨m1, m2⟩
  · obtain ⟨l1, l2, l3, l4⟩ := h.ld j hj
    by_cases ej : j = i
    · subst ej
      rw [upC, upE]
      exact ⟨l1, l2, by rcases hC with e | e <;> omega, by rcases hE with e | e <;> omega⟩
    · rw [upd_other _ _ ej, upd_other _ _ ej]; exact ⟨l1, l2, l3, l4⟩
  · obtain ⟨e1, e2⟩ := h.safe k hk
    refine ⟨Nat.lt_of_lt_of_le e1 hc.size, e2.p, e2.d, e2.t, fun j hj => ?_⟩
    obtain ⟨r1, r2, r3, r4⟩ := e2.r j hj
    by_cases ej : j = i
    · subst ej
      rw [upC, upE]
      exact ⟨r1, r2, by rcases hC with e | e; rw [e]; exact r3; omega, by rcases hE with e | e; rw [e]; exact r4; omega⟩
    · rw [upd_other _ _ ej, upd_other _ _ ej]; exact ⟨r1, r2, r3, r4⟩
  · obtain ⟨l1, l2, l3, l4⟩ := h.ld i hi
    exact hc.below hlo l1 l2 l3 l4
  · obtain ⟨e1, e2⟩ := h.safe k hk
    obtain ⟨r1, r2, r3, r4⟩ := e2.r i hi
    exact hc.block k e1 r1 r2 r3 r4
/-- The reference's struct has been written. -/
theorem PX.top_step {lo i : Nat} {K : Nat → Prop} {w : World} {c : Lc} {f : Lf} {C E : Nat → Nat} {q q' q2 : Rk} {v : Value} (h : PX lo K w c f C E q q') (hok : q2.Ok) (hn : q2.n = q'.n) (hk : q2.k = q'.k) (hs : q2.s = q'.s)
    (e : (#[.slice (some ⟨f.P, 0, none⟩) q.n f.cap, .int .i64 q'.rem, .bool q'.off] : Array Value).setIfInBounds i v = #[.slice (some ⟨f.P, 0, none⟩) q.n f.cap, .int .i64 q2.rem, .bool q2.off]) :
    PX lo K (w.setCell ⟨f.t, i, none⟩ v) c f C E q q2 ∧ Kept lo K w (w.setCell ⟨f.t, i, none⟩ v) := by
  obtain ⟨cs, hrow, hcs⟩ := h.row
  obtain ⟨ps, prow, _⟩ := h.prog.row
  have oth : ∀ k, k ≠ f.t → (w.setCell ⟨f.t, i, none⟩ v).heap[k]? = w.heap[k]? := fun k hk => heap_setCell_other _ ⟨f.t, i, none⟩ k _ hk
  have ty : ∀ {k : Nat} {x : Array Value} {t : TypeId} {g : Nat × Nat}, w.heap[k]? = some (.cells x t g) → (t == 125) = false → (w.setCell ⟨f.t, i, none⟩ v).heap[k]? = w.heap[k]? := fun hk h1 => oth _ (kindT hk h.top h1)
  have mp : ∀ {k : Nat} {es : Array MapEntry} {ck : Nat}, w.heap[k]? = some (.map es ck) → (w.setCell ⟨f.t, i, none⟩ v).heap[k]? = w.heap[k]? := fun hk => oth _ (cells_map_ne h.top hk).symm
  refine ⟨⟨?_, hok, hn.trans h.n, hk.trans h.k, h.cap, by rw [heap_setCell_same w f.t i _ _ v h.top, e], ⟨cs, (ty hrow rfl).trans hrow, hcs⟩, fun j hj => ?_, h.inj, h.maps, h.lt, h.lP, h.ld, fun k hk => ?_⟩, (Below.refl lo w).setCell (p := ⟨f.t, i, none⟩) h.lt v, fun k hk => oth k (h.safe k hk).2.t⟩
  · refine h.prog.keep (ty h.prog.top rfl) (ty prow rfl) fun j hj => ?_
    obtain ⟨es2, ck2, hm⟩ := (h.prog.disk j hj).mapObj
    exact ⟨ty (h.prog.disk j hj).top rfl, ty (h.prog.disk j hj).secs rfl, mp hm⟩
  · have hg := h.ref j hj
    obtain ⟨_, _, u1⟩ := hg.top
    obtain ⟨_, u2, _⟩ := hg.rows
    obtain ⟨⟨_, _, u3⟩, ⟨_, _, u4⟩⟩ := hg.maps
    rw [hs]
    exact hg.keep (ty u1 rfl) (ty u2 rfl) (mp u3) (mp u4) fun g cur hg => ty hg rfl
  · obtain ⟨e1, e2⟩ := h.safe k hk
    exact ⟨by simpa using e1, e2⟩
/-! ### cells of the reference's rack -/
theorem PX.c0 {lo : Nat} {K : Nat → Prop} {w : World} {c : Lc} {f : Lf} {C E : Nat → Nat} {q q' : Rk} (h : PX lo K w c f C E q q') : w.cell? ⟨f.t, 0, none⟩ = some (.slice (some ⟨f.P, 0, none⟩) q.n f.cap) := by rw [cell_of_row w f.t 0 _ _ _ h.top]; rfl
theorem PX.c1 {lo : Nat} {K : Nat → Prop} {w : World} {c : Lc} {f : Lf} {C E : Nat → Nat} {q q' : Rk} (h : PX lo K w c f C E q q') : w.cell? ⟨f.t, 1, none⟩ = some (.int .i64 q'.rem) := by rw [cell_of_row w f.t 1 _ _ _ h.top]; rfl
theorem PX.c2 {lo : Nat} {K : Nat → Prop} {w : World} {c : Lc} {f : Lf} {C E : Nat → Nat} {q q' : Rk} (h : PX lo K w c f C E q q') : w.cell? ⟨f.t, 2, none⟩ = some (.bool q'.off) := by rw [cell_of_row w f.t 2 _ _ _ h.top]; rfl
theorem PX.fz {lo : Nat} {K : Nat → Prop} {w : World} {c : Lc} {f : Lf} {C E : Nat → Nat} {q q' : Rk} (h : PX lo K w c f C E q q') (i : Nat) : w.frozen? ⟨f.t, i, none⟩ = false := frozen_of_row w f.t i _ _ h.top
theorem PX.at_ {lo : Nat} {K : Nat → Prop} {w : World} {c : Lc} {f : Lf} {C E : Nat → Nat} {q q' : Rk} (h : PX lo K w c f C E q q') {i : Nat} (hi : i < q.n) : w.cell? ⟨f.P, i, none⟩ = some (.pointer (some ⟨f.r i, 0, none⟩)) := by
  obtain ⟨cs, hr, hc⟩ := h.row
  rw [cell_of_row w f.P i _ _ _ hr]
  exact hc i hi
/-- The two cells of a disk of the reference's that its rack looks at. -/
theorem PX.disk {lo : Nat} {K : Nat → Prop} {w : World} {c : Lc} {f : Lf} {C E : Nat → Nat} {q q' : Rk} (h : PX lo K w c f C E q q') {i : Nat} (hi : i < q.n) :
    w.cell? ⟨f.r i, 3, none⟩ = some (.bool (q'.s i).dead) ∧ ∃ capA, w.cell? ⟨f.r i, 0, none⟩ = some (.slice (some ⟨f.A i, 0, none⟩) q'.k capA) := by
  obtain ⟨capA, _, c0, _, _, c3⟩ := (h.ref i hi).cells
  have hk := h.ok.k i (by rw [h.n]; exact hi)
  rw [hk] at c0
  exact ⟨c3, capA, c0⟩
end Go.Proofs.YtidnmkghmaeniaaGreatDoor
/-
  The reference's rack: has, Up, may, burn, Arm, Read.
-/
namespace Go.Proofs.YtidnmkghmaeniaaGreatDoor
open Go.RowKit Go.Deep Dk Qk Go.Maps
/-- What a call on the reference's rack leaves. -/
def VN (lo : Nat) (K : Nat → Prop) (c : Lc) (f : Lf) (q q' : Rk) (v : Value) (w : World) (e : Ending) (w' : World) : Prop := e = .returned v ∧ PR lo K w' c f q q' ∧ Kept lo K w w'
theorem PX.has_iff {lo : Nat} {K : Nat → Prop} {w : World} {c : Lc} {f : Lf} {C E : Nat → Nat} {q q' : Rk} (h : PX lo K w c f C E q q') (i : Int) : q'.has i ↔ 0 ≤ i ∧ i < q.n := by unfold Rk.has; rw [h.n]
set_option maxHeartbeats 1000000 in
set_option maxRecDepth 100000 in
theorem vhas_any {lo : Nat} {K : Nat → Prop} {c : Lc} {f : Lf} {C E : Nat → Nat} {q q' : Rk} (w : World) (h : PX lo K w c f C E q q') (i : Int) : Calls Tryz.prog 139 #[.pointer (some ⟨f.t, 0, none⟩), .int .i64 i] w (BitSame (decide (q'.has i)) w) := by
  have c0 := h.c0
  have HD := Lib.hid (show decide (q'.has i) = decide (0 ≤ i ∧ i < q.n) from decide_eq_decide.2 (h.has_iff i))
  clear h
  generalize decide (q'.has i) = b at HD ⊢
  by_cases h0 : 0 ≤ i
  · by_cases h1 : i < q.n
    · have hd : b = true := by rw [HD.out]; simp; omega
      have HE := Lib.hid hd; clear hd
      go_enter Tryz.func139, Tryz.ntmps139
      go_wp2
      go_ret
      exact bitSame HE.out.symm
    · have hd : b = false := by rw [HD.out]; simp; omega
      have HE := Lib.hid hd; clear hd
      go_enter Tryz.func139, Tryz.ntmps139
      go_wp2
      go_ret
      exact bitSame HE.out.symm
  · have hd : b = false := by rw [HD.out]; simp; omega
    have HE := Lib.hid hd; clear hd
    go_enter Tryz.func139, Tryz.ntmps139
    go_wp2
    go_ret
    exact bitSame HE.out.symm
set_option maxHeartbeats 1000000 in
set_option maxRecDepth 100000 in
theorem vup_any {lo : Nat} {K : Nat → Prop} {c : Lc} {f : Lf} {C E : Nat → Nat} {q q' : Rk} (w : World) (h : PX lo K w c f C E q q') (i : Int) : Calls Tryz.prog 78 #[.pointer (some ⟨f.t, 0, none⟩), .int .i64 i] w (BitSame (q'.up i) w) := by
  have c0 := h.c0
  have HH := Lib.hid (vhas_any w h i)
  by_cases hi : q'.has i
  · rw [decide_eq_true hi] at HH
    obtain ⟨k, rfl⟩ := Int.eq_ofNat_of_zero_le hi.1
    have hk : k < q.n := by have := hi.2; rw [h.n] at this; omega
    have c1 := h.at_ hk
    have c3 := (h.disk hk).1
    have HU := Lib.hid (up_at (q := q') (k := k) (by rw [h.n]; exact hk))
    have i1 : (k : Int) < q.n := by omega
    have i2 : (0 : Int) ≤ k := by omega
    clear h hi
    generalize (q'.s k).dead = b at HU c3
    generalize q'.up (k : Int) = u at HU ⊢
    go_enter Tryz.func78, Tryz.ntmps78
    go_wp2_with (go_at_call 139; refine HH.out.mono ?_; rintro e w' ⟨rfl, rfl⟩)
    go_ret
    exact bitSame HU.out.symm
  · rw [decide_eq_false hi] at HH
    have HU := Lib.hid (up_no hi)
    clear h hi
    generalize q'.up i = u at HU ⊢
    go_enter Tryz.func78, Tryz.ntmps78
    go_wp2_with (go_at_call 139; refine HH.out.mono ?_; rintro e w' ⟨rfl, rfl⟩)
    go_ret
    exact bitSame HU.out.symm
set_option maxHeartbeats 1000000 in
set_option maxRecDepth 100000 in
theorem vmay_any {lo : Nat} {K : Nat → Prop} {c : Lc} {f : Lf} {C E : Nat → Nat} {q q' : Rk} (w : World) (h : PX lo K w c f C E q q') (i : Int) : Calls Tryz.prog 125 #[.pointer (some ⟨f.t, 0, none⟩), .int .i64 i] w (NumSame (q'.ready i) w) := by
  have c0 := h.c0
  have c2 := h.c2
  have HH := Lib.hid (vhas_any w h i)
  by_cases hi : q'.has i
  · rw [decide_eq_true hi] at HH
    obtain ⟨k, rfl⟩ := Int.eq_ofNat_of_zero_le hi.1
    have hk : k < q.n := by have := hi.2; rw [h.n] at this; omega
    have c1 := h.at_ hk
    have c3 := (h.disk hk).1
    have HR := Lib.hid (show q'.ready (k : Int) = if (q'.off || (q'.s (k : Int).toNat).dead) = true then 5 else 0 from if_pos hi)
    rw [Int.toNat_natCast] at HR
    have i1 : (k : Int) < q.n := by omega
    have i2 : (0 : Int) ≤ k := by omega
    clear h hi
    generalize q'.ready (k : Int) = rd at HR ⊢
    generalize (q'.s k).dead = b at HR c3
    generalize q'.off = o at c2 HR
    cases o with
    | true =>
      go_enter Tryz.func125, Tryz.ntmps125
      go_wp2_with (go_at_call 139; refine HH.out.mono ?_; rintro e w' ⟨rfl, rfl⟩)
      go_ret
      exact ⟨by rw [HR.out]; rfl, rfl⟩
    | false =>
      cases b with
      | true =>
        go_enter Tryz.func125, Tryz.ntmps125
        go_wp2_with (go_at_call 139; refine HH.out.mono ?_; rintro e w' ⟨rfl, rfl⟩)
        go_ret
        exact ⟨by rw [HR.out]; rfl, rfl⟩
      | false =>
        go_enter Tryz.func125, Tryz.ntmps125
        go_wp2_with (go_at_call 139; refine HH.out.mono ?_; rintro e w' ⟨rfl, rfl⟩)
        go_ret
        exact ⟨by rw [HR.out]; rfl, rfl⟩
  · rw [decide_eq_false hi] at HH
    have HR := Lib.hid (show q'.ready i = 1 from if_neg hi)
    clear h hi
    generalize q'.ready i = rd at HR ⊢
    go_enter Tryz.func125, Tryz.ntmps125
    go_wp2_with (go_at_call 139; refine HH.out.mono ?_; rintro e w' ⟨rfl, rfl⟩)
    go_ret
    exact ⟨by rw [HR.out]; rfl, rfl⟩
theorem PX.pr {lo : Nat} {K : Nat → Prop} {w : World} {c : Lc} {f : Lf} {C E : Nat → Nat} {q q' : Rk} (h : PX lo K w c f C E q q') : PR lo K w c f q q' := ⟨C, E, h⟩
/-- The maps stay where they are. -/
def VX (lo : Nat) (K : Nat → Prop) (c : Lc) (f : Lf) (C E : Nat → Nat) (q q' : Rk) (v : Value) (w : World) (e : Ending) (w' : World) : Prop := e = .returned v ∧ PX lo K w' c f C E q q' ∧ Kept lo K w w' ∧ ∀ k, k ≠ f.t → w'.heap[k]? = w.heap[k]?
set_option maxHeartbeats 1000000 in
set_option maxRecDepth 100000 in
theorem vburn_any {lo : Nat} {K : Nat → Prop} {c : Lc} {f : Lf} {C E : Nat → Nat} {q q' : Rk} (w : World) (h : PX lo K w c f C E q q') (ho : q'.off = false) :
    Calls Tryz.prog 126 #[.pointer (some ⟨f.t, 0, none⟩)] w (VX lo K c f C E q q'.burnt (.bool (decide (q'.rem ≠ 0))) w) := by
  have c1 := h.c1
  have c2 := h.c2
  have f1 := h.fz 1
  have f2 := h.fz 2
  have hlow := h.ok.low
  have hhigh := h.ok.high
  rw [ho] at c2
  unfold VX
  by_cases h0 : q'.rem = 0
  · have hb : q'.burnt = { q' with off := true, rem := -1 } := by unfold Rk.burnt; rw [if_pos h0]
    have ok1 : ({ q' with off := true } : Rk).Ok := ⟨h.ok.n0, h.ok.n8, h.ok.k0, h.ok.k8, h.ok.k, hlow, hhigh⟩
    have s1 := h.top_step (i := 2) (v := .bool true) (q2 := { q' with off := true }) ok1 rfl rfl rfl rfl
    have ok2 : ({ q' with off := true, rem := -1 } : Rk).Ok := ⟨h.ok.n0, h.ok.n8, h.ok.k0, h.ok.k8, h.ok.k, by show (-9223372036854775808 : Int) ≤ -1; omega, by show (-1 : Int) < 9223372036854775808; omega⟩
    have s2 := s1.1.top_step (i := 1) (v := .int .i64 (-1)) (q2 := { q' with off := true, rem := -1 }) ok2 rfl rfl rfl rfl
    have d1 := s1.1.c1
    have g1 := s1.1.fz 1
    have HS := Lib.hid s2.1
    have HK := Lib.hid (s1.2.trans s2.2)
    have HD := Lib.hid (show decide (q'.rem ≠ 0) = false by simp [h0])
    have HB := Lib.hid hb
    replace d1 : (w.setCell ⟨f.t, 2, none⟩ (.bool true)).cell? ⟨f.t, 1, none⟩ = some (.int .i64 q'.rem) := d1
    rw [h0] at c1 d1
    clear h h0 hlow hhigh s1 s2 ok1 ok2 hb
    generalize decide (q'.rem ≠ 0) = dd at HD ⊢
    generalize q'.burnt = qq at HB ⊢
    go_enter Tryz.func126, Tryz.ntmps126
    go_wp2
    go_ret
    rw [HB.out, HD.out]
    exact ⟨rfl, HS.out, HK.out, fun k hk => (heap_setCell_other _ ⟨f.t, 1, none⟩ k _ hk).trans (heap_setCell_other _ ⟨f.t, 2, none⟩ k _ hk)⟩
  · have HD := Lib.hid (show decide (q'.rem ≠ 0) = true by simp [h0])
    by_cases h1 : 0 < q'.rem
    · have HB := Lib.hid (show q'.burnt = { q' with rem := q'.rem - 1 } by unfold Rk.burnt Rk.spent; rw [if_neg h0, if_neg h0, if_pos h1])
      have ok1 : ({ q' with rem := q'.rem - 1 } : Rk).Ok := ⟨h.ok.n0, h.ok.n8, h.ok.k0, h.ok.k8, h.ok.k, by show _ ≤ q'.rem - 1; omega, by show q'.rem - 1 < _; omega⟩
      have HS := Lib.hid (h.top_step (i := 1) (v := .int .i64 (q'.rem - 1)) (q2 := { q' with rem := q'.rem - 1 }) ok1 rfl rfl rfl rfl)
      have h0b : (q'.rem == 0) = false := by simpa using h0
      clear h ok1
      generalize decide (q'.rem ≠ 0) = dd at HD ⊢
      generalize q'.burnt = qq at HB ⊢
      go_enter Tryz.func126, Tryz.ntmps126
      go_wp2
      go_ret
      rw [HB.out, HD.out]
      exact ⟨rfl, HS.out.1, HS.out.2, fun k hk => heap_setCell_other _ ⟨f.t, 1, none⟩ k _ hk⟩
    · have HB := Lib.hid (show q'.burnt = q' by unfold Rk.burnt Rk.spent; rw [if_neg h0, if_neg h0, if_neg h1])
      have HQ := Lib.hid h
      have h0b : (q'.rem == 0) = false := by simpa using h0
      clear h
      generalize decide (q'.rem ≠ 0) = dd at HD ⊢
      generalize q'.burnt = qq at HB ⊢
      go_enter Tryz.func126, Tryz.ntmps126
      go_wp2
      go_ret
      rw [HB.out, HD.out]
      exact ⟨rfl, HQ.out, Kept.refl _ _ _, fun _ _ => rfl⟩
end Go.Proofs.YtidnmkghmaeniaaGreatDoor
/-
  The reference's rack: Arm, Read, Write, Flush.
-/
namespace Go.Proofs.YtidnmkghmaeniaaGreatDoor
open Go.RowKit Go.Deep Dk Qk Go.Maps
set_option maxHeartbeats 1000000 in
set_option maxRecDepth 100000 in
theorem varm_any {lo : Nat} {K : Nat → Prop} {c : Lc} {f : Lf} {C E : Nat → Nat} {q q' : Rk} (w : World) (h : PX lo K w c f C E q q') (n : Int) (h1 : -9223372036854775808 ≤ n) (h2 : n < 9223372036854775808) :
    Calls Tryz.prog 67 #[.pointer (some ⟨f.t, 0, none⟩), .int .i64 n] w (VN lo K c f q (q'.varm n) (.tuple #[]) w) := by
  have c1 := h.c1
  have f1 := h.fz 1
  have ok1 : (q'.varm n).Ok := ⟨h.ok.n0, h.ok.n8, h.ok.k0, h.ok.k8, h.ok.k, by show _ ≤ (if n < -1 then -1 else n); split <;> omega, by show (if n < -1 then -1 else n) < _; split <;> omega⟩
  have HS := Lib.hid (h.top_step (i := 1) (v := .int .i64 (if n < -1 then -1 else n)) (q2 := q'.varm n) ok1 rfl rfl rfl rfl)
  clear h ok1
  rw [show (if n < -1 then -1 else n) = max n (-1) by split <;> omega] at HS
  go_enter Tryz.func67, Tryz.ntmps67
  go_wp2
  go_end0
  exact ⟨rfl, HS.out.1.pr, HS.out.2⟩
def VRead (q : Rk) (i s : Int) (w : World) (e : Ending) (w' : World) : Prop := ∃ v, e = .returned (.tuple #[v, .int .i64 (qrcode q i s)]) ∧ SlB w'.heap.size w' v (qval q i s) ∧ Below w.heap.size w w'
set_option maxHeartbeats 1000000 in
set_option maxRecDepth 100000 in
theorem vread_any {lo : Nat} {K : Nat → Prop} {c : Lc} {f : Lf} {C E : Nat → Nat} {q q' : Rk} (w : World) (h : PX lo K w c f C E q q') (i s : Int) :
    Calls Tryz.prog 80 #[.pointer (some ⟨f.t, 0, none⟩), .int .i64 i, .int .i64 s] w (VRead q' i s w) := by
  unfold VRead qrcode qval
  have HH := Lib.hid (vhas_any w h i)
  have c0 := h.c0
  have c2 := h.c2
  by_cases hi : q'.has i
  · rw [decide_eq_true hi] at HH
    rw [if_pos hi]
    cases ho : q'.off with
    | true =>
      rw [ho] at c2
      rw [if_pos rfl, if_neg (fun e => by cases e.2)]
      clear h hi ho
      go_enter Tryz.func80, Tryz.ntmps80
      go_wp2_with (go_at_call 139; refine HH.out.mono ?_; rintro e w' ⟨rfl, rfl⟩)
      exact bodyPost_ret (v := .tuple #[.slice none 0 0, .int .i64 5]) (by simp [results, Tryz.results80, go_sem]) rfl ⟨_, rfl, slb_nil, Below.refl _ _⟩
    | false =>
      rw [ho] at c2
      rw [if_neg (show ¬ false = true by decide), if_pos (show q'.has i ∧ false = false from ⟨hi, rfl⟩)]
      obtain ⟨k, rfl⟩ := Int.eq_ofNat_of_zero_le hi.1
      have hk : k < q.n := by have := hi.2; rw [h.n] at this; omega
      have ca := h.at_ hk
      have i1 : (k : Int) < q.n := by omega
      have i2 : (0 : Int) ≤ k := by omega
      rw [Int.toNat_natCast]
      have HP := Lib.hid (rread_ev w (h.ref k hk) s)
      clear h hi ho
      generalize rcode (q'.s k) s = rc at HP ⊢
      go_enter Tryz.func80, Tryz.ntmps80
      go_wp2_with (first
        | (go_at_call 139; refine HH.out.mono ?_; rintro e w' ⟨rfl, rfl⟩)
        | (go_at_call 136; refine HP.out.mono ?_; rintro e w1 ⟨v, rfl, hv, hb⟩))
      exact bodyPost_ret (v := .tuple #[v, .int .i64 rc]) (by simp [results, Tryz.results80, go_sem]) rfl ⟨v, rfl, hv, hb⟩
  · rw [decide_eq_false hi] at HH
    rw [if_neg hi, if_neg (fun e => hi e.1)]
    clear h hi
    go_enter Tryz.func80, Tryz.ntmps80
    go_wp2_with (go_at_call 139; refine HH.out.mono ?_; rintro e w' ⟨rfl, rfl⟩)
    exact bodyPost_ret (v := .tuple #[.slice none 0 0, .int .i64 1]) (by simp [results, Tryz.results80, go_sem]) rfl ⟨_, rfl, slb_nil, Below.refl _ _⟩
theorem PX.nocell {lo : Nat} {K : Nat → Prop} {w : World} {c : Lc} {f : Lf} {C E : Nat → Nat} {q q' : Rk} (h : PX lo K w c f C E q q') (i : Nat) (x : Int) : w.cell? ⟨f.t, i, none⟩ ≠ some (.int .u8 x) := by
  rw [cell_of_row w f.t i _ _ _ h.top]
  match i with
  | 0 => intro e; cases e
  | 1 => intro e; cases e
  | 2 => intro e; cases e
  | i + 3 => intro e; simp at e
theorem SlB.burnt {lo B : Nat} {K : Nat → Prop} {w w' : World} {c : Lc} {f : Lf} {C E : Nat → Nat} {q q' : Rk} {v : Value} {l : List UInt8} (h : SlB B w v l) (hr : PX lo K w c f C E q q') (hw : ∀ k, k ≠ f.t → w'.heap[k]? = w.heap[k]?) : SlB B w' v l := by
  rcases h with h0 | ⟨b, o, cap, h1, h2, h3, h4, h5⟩
  · exact Or.inl h0
  · have hne : b ≠ f.t := fun e => by
      subst e
      exact hr.nocell _ _ (h3 0 h4)
    exact Or.inr ⟨b, o, cap, h1, h2, fun x hx => (World.cell?_of_block (a := ⟨b, o + x, none⟩) (hw b hne)).trans (h3 x hx), h4, h5⟩
abbrev callVW (f : Lf) (i sec : Int) (v : Value) : Array Value := #[.pointer (some ⟨f.t, 0, none⟩), .int .i64 i, .int .i64 sec, v]
set_option maxHeartbeats 2000000 in
set_option maxRecDepth 100000 in
theorem vwrite_wait {lo : Nat} {K : Nat → Prop} {c : Lc} {f : Lf} {C E : Nat → Nat} {q q' : Rk} (w : World) (h : PX lo K w c f C E q q') (i sec : Int) (v : Value) (hr : ¬ q'.ready i = 0) :
    Calls Tryz.prog 60 #[.pointer (some ⟨f.t, 0, none⟩), .int .i64 i, .int .i64 sec, v] w (NumSame (q'.ready i) w) := by
  have HR := Lib.hid (vmay_any w h i)
  have hb : (q'.ready i == 0) = false := by simpa using hr
  have hb2 : (q'.ready i != 0) = true := by simpa using hr
  clear h
  generalize q'.ready i = rd at *
  go_enter Tryz.func60, Tryz.ntmps60
  go_wp2_with (go_at_call 125; refine HR.out.mono ?_; rintro e w' ⟨rfl, rfl⟩)
  go_ret
  exact ⟨rfl, rfl⟩
set_option maxHeartbeats 2000000 in
set_option maxRecDepth 100000 in
theorem vwrite_odd {lo : Nat} {K : Nat → Prop} {c : Lc} {f : Lf} {C E : Nat → Nat} {q q' : Rk} (w : World) (h : PX lo K w c f C E q q') (i sec : Int) (a : Option Addr) (len cap : Nat) (hr : q'.ready i = 0) (hf : ¬ q'.fits sec len) :
    Calls Tryz.prog 60 #[.pointer (some ⟨f.t, 0, none⟩), .int .i64 i, .int .i64 sec, .slice a len cap] w (NumSame 1 w) := by
  have HR := Lib.hid (vmay_any w h i)
  rw [hr] at HR
  obtain ⟨k, rfl, hk, _⟩ := ready_yes hr
  rw [h.n] at hk
  have c0 := h.c0
  have ca := h.at_ hk
  obtain ⟨_, capA, cd⟩ := h.disk hk
  have i1 : (k : Int) < q.n := by omega
  have i2 : (0 : Int) ≤ k := by omega
  clear h hr
  by_cases j1 : sec < 0
  · clear hf
    go_enter Tryz.func60, Tryz.ntmps60
    go_wp2_with (go_at_call 125; refine HR.out.mono ?_; rintro e w' ⟨rfl, rfl⟩)
    go_ret
    exact ⟨rfl, rfl⟩
  · obtain ⟨m, rfl⟩ := Int.eq_ofNat_of_zero_le (by omega : 0 ≤ sec)
    have j2 : ¬ (m : Int) < 0 := by omega
    by_cases j3 : q'.k ≤ m
    · have j4 : (q'.k : Int) ≤ m := by omega
      clear hf j1
      go_enter Tryz.func60, Tryz.ntmps60
      go_wp2_with (go_at_call 125; refine HR.out.mono ?_; rintro e w' ⟨rfl, rfl⟩)
      go_ret
      exact ⟨rfl, rfl⟩
    · have hl : ¬ (len : Int) = 128 := fun e => hf ⟨by omega, by omega, by omega⟩
      have e4 : ((len : Int) != 128) = true := by simpa using hl
      have e5 : ((len : Int) == 128) = false := by simpa using hl
      have e6 : decide (q'.k ≤ m) = false := by simpa using j3
      clear hf j1
      go_enter Tryz.func60, Tryz.ntmps60
      go_wp2_with (go_at_call 125; refine HR.out.mono ?_; rintro e w' ⟨rfl, rfl⟩)
      go_ret
      exact ⟨rfl, rfl⟩
set_option maxHeartbeats 2000000 in
set_option maxRecDepth 100000 in
theorem vwrite_last {lo : Nat} {K : Nat → Prop} {c : Lc} {f : Lf} {C E : Nat → Nat} {q q' : Rk} (w : World) (h : PX lo K w c f C E q q') (i sec : Int) (a : Option Addr) (len cap : Nat) (hr : q'.ready i = 0) (hf : q'.fits sec len) (h0 : q'.rem = 0) :
    Calls Tryz.prog 60 #[.pointer (some ⟨f.t, 0, none⟩), .int .i64 i, .int .i64 sec, .slice a len cap] w (VN lo K c f q q'.burnt (.int .i64 5) w) := by
  have HR := Lib.hid (vmay_any w h i)
  rw [hr] at HR
  obtain ⟨k, rfl, hk, hoff, _⟩ := ready_yes hr
  rw [h.n] at hk
  have c0 := h.c0
  have ca := h.at_ hk
  obtain ⟨_, capA, cd⟩ := h.disk hk
  have HP := Lib.hid (vburn_any w h hoff)
  rw [decide_eq_false (show ¬ q'.rem ≠ 0 from fun e => e h0)] at HP
  have i1 : (k : Int) < q.n := by omega
  have i2 : (0 : Int) ≤ k := by omega
  obtain ⟨g1, g2, rfl⟩ := hf
  obtain ⟨m, rfl⟩ := Int.eq_ofNat_of_zero_le g1
  have j2 : ¬ (m : Int) < 0 := by omega
  have j3 : ¬ q'.k ≤ m := by omega
  have j4 : decide (q'.k ≤ m) = false := by simpa using j3
  clear h hr g1 g2 h0 hoff
  go_enter Tryz.func60, Tryz.ntmps60
  go_wp2_with (first
    | (go_at_call 125; refine HR.out.mono ?_; rintro e w' ⟨rfl, rfl⟩)
    | (go_at_call 126; refine HP.out.mono ?_; rintro e w1 ⟨rfl, hx, hk1, _⟩))
  go_ret
  exact ⟨rfl, hx.pr, hk1⟩
set_option maxHeartbeats 2000000 in
set_option maxRecDepth 100000 in
theorem vwrite_goes {lo : Nat} {K : Nat → Prop} {c : Lc} {f : Lf} {C E : Nat → Nat} {q q' : Rk} (w : World) (h : PX lo K w c f C E q q') (hlo : lo ≤ w.heap.size) (k m : Nat) (v : Value) (l : List UInt8) (hv : SlB w.heap.size w v l) (hr : q'.ready (k : Int) = 0) (hm : m < q'.k) (hl : l.length = 128) (h0 : ¬ q'.rem = 0) :
    Calls Tryz.prog 60 #[.pointer (some ⟨f.t, 0, none⟩), .int .i64 (k : Int), .int .i64 (m : Int), v] w (VN lo K c f q (q'.burnt.turn k ((q'.s k).write m l)) (.int .i64 0) w) := by
  have HR := Lib.hid (vmay_any w h k)
  rw [hr] at HR
  obtain ⟨k', e, hk, hoff, hdead⟩ := ready_yes hr
  obtain rfl : k = k' := by omega
  clear e
  rw [h.n] at hk
  obtain ⟨a, cap, rfl, _⟩ := hv.len
  rw [hl]
  rw [hl] at hv
  have c0 := h.c0
  have ca := h.at_ hk
  obtain ⟨_, capA, cd⟩ := h.disk hk
  have HP := Lib.hid (vburn_any w h hoff)
  rw [decide_eq_true (show q'.rem ≠ 0 from h0)] at HP
  have i1 : (k : Int) < q.n := by omega
  have i2 : (0 : Int) ≤ k := by omega
  have j2 : ¬ (m : Int) < 0 := by omega
  have j3 : ¬ q'.k ≤ m := by omega
  have j4 : decide (q'.k ≤ m) = false := by simpa using j3
  have HQ := Lib.hid h
  have HV := Lib.hid hv
  have HL := Lib.hid hl
  have HDD := Lib.hid hdead
  have HLO := Lib.hid hlo
  clear h hr h0 hoff hv hl hdead hlo
  go_enter Tryz.func60, Tryz.ntmps60
  go_wp2_with (first
    | (go_at_call 125; refine HR.out.mono ?_; rintro e w' ⟨rfl, rfl⟩)
    | fail)
  refine HP.out.mono ?_
  rintro e w1 ⟨rfl, hx, hk1, hoth⟩
  have c0' := hx.c0
  have ca' := hx.at_ hk
  have hs := burnt_s q'
  have hf := hx.ref k hk
  rw [hs] at hf
  have hn : (q'.s k).n = q.k := by rw [HQ.out.ok.k k (by rw [HQ.out.n]; exact hk), HQ.out.k]
  have HW := Lib.hid (rwrite_yes w1 hf HDD.out m (.slice a 128 cap) l (by rw [hn, ← HQ.out.k]; omega) (HV.out.burnt HQ.out hoth) (by rw [show w1.heap.size = w1.heap.size from rfl]; exact hk1.below.size) HL.out)
  have HX := Lib.hid hx
  have HK1 := Lib.hid hk1
  have HNN := Lib.hid hn
  have HKK := Lib.hid hk
  clear hx hk1 hoth hf hs hn c0 ca
  go_wp2_with (go_at_call 127; refine HW.out.mono ?_; rintro e w2 ⟨rfl, hR, hC⟩)
  go_ret
  obtain ⟨x1, x2⟩ := HX.out.ref_step (s' := (q'.s k).write m l) HKK.out HNN.out hR hC (Or.inl rfl) (Or.inl rfl) (Nat.le_trans HLO.out HK1.out.below.size)
  exact ⟨rfl, x1.pr, HK1.out.trans x2⟩
theorem vwrite_any {lo : Nat} {K : Nat → Prop} {c : Lc} {f : Lf} {C E : Nat → Nat} {q q' : Rk} (w : World) (h : PX lo K w c f C E q q') (hlo : lo ≤ w.heap.size) (i sec : Int) (v : Value) (l : List UInt8) (hv : SlB w.heap.size w v l) :
    Calls Tryz.prog 60 #[.pointer (some ⟨f.t, 0, none⟩), .int .i64 i, .int .i64 sec, v] w (VN lo K c f q (q'.vwrite i sec l) (.int .i64 (q'.wcode i sec l.length)) w) := by
  unfold Rk.vwrite Rk.wcode
  by_cases hr : q'.ready i = 0
  · rw [if_pos hr]
    by_cases hf : q'.fits sec l.length
    · rw [if_pos hf, if_pos (show q'.ready i = 0 ∧ q'.fits sec l.length from ⟨hr, hf⟩)]
      by_cases h0 : q'.rem = 0
      · rw [if_pos h0, if_pos h0]
        obtain ⟨a, cap, rfl, _⟩ := hv.len
        exact vwrite_last w h i sec a _ cap hr hf h0
      · rw [if_neg h0, if_neg h0]
        obtain ⟨k, rfl, _⟩ := ready_yes hr
        obtain ⟨m, rfl⟩ := Int.eq_ofNat_of_zero_le hf.1
        exact vwrite_goes w h hlo k m v l hv hr (by have := hf.2.1; omega) hf.2.2 h0
    · rw [if_neg hf, if_neg (show ¬ (q'.ready i = 0 ∧ q'.fits sec l.length) from fun e => hf e.2)]
      obtain ⟨a, cap, rfl, _⟩ := hv.len
      refine (vwrite_odd w h i sec a _ cap hr hf).mono ?_
      rintro e w' ⟨rfl, rfl⟩
      exact ⟨rfl, h.pr, Kept.refl _ _ _⟩
  · rw [if_neg hr, if_neg (show ¬ (q'.ready i = 0 ∧ q'.fits sec l.length) from fun e => hr e.1)]
    refine (vwrite_wait w h i sec v hr).mono ?_
    rintro e w' ⟨rfl, rfl⟩
    exact ⟨rfl, h.pr, Kept.refl _ _ _⟩
set_option maxHeartbeats 2000000 in
set_option maxRecDepth 100000 in
theorem vflush_wait {lo : Nat} {K : Nat → Prop} {c : Lc} {f : Lf} {C E : Nat → Nat} {q q' : Rk} (w : World) (h : PX lo K w c f C E q q') (i : Int) (hr : ¬ q'.ready i = 0) :
    Calls Tryz.prog 63 #[.pointer (some ⟨f.t, 0, none⟩), .int .i64 i] w (NumSame (q'.ready i) w) := by
  have HR := Lib.hid (vmay_any w h i)
  have hb : (q'.ready i == 0) = false := by simpa using hr
  have hb2 : (q'.ready i != 0) = true := by simpa using hr
  clear h
  generalize q'.ready i = rd at *
  go_enter Tryz.func63, Tryz.ntmps63
  go_wp2_with (go_at_call 125; refine HR.out.mono ?_; rintro e w' ⟨rfl, rfl⟩)
  go_ret
  exact ⟨rfl, rfl⟩
set_option maxHeartbeats 2000000 in
set_option maxRecDepth 100000 in
theorem vflush_last {lo : Nat} {K : Nat → Prop} {c : Lc} {f : Lf} {C E : Nat → Nat} {q q' : Rk} (w : World) (h : PX lo K w c f C E q q') (i : Int) (hr : q'.ready i = 0) (h0 : q'.rem = 0) :
    Calls Tryz.prog 63 #[.pointer (some ⟨f.t, 0, none⟩), .int .i64 i] w (VN lo K c f q q'.burnt (.int .i64 5) w) := by
  have HR := Lib.hid (vmay_any w h i)
  rw [hr] at HR
  obtain ⟨k, rfl, hk, hoff, _⟩ := ready_yes hr
  have HP := Lib.hid (vburn_any w h hoff)
  rw [decide_eq_false (show ¬ q'.rem ≠ 0 from fun e => e h0)] at HP
  clear h hr h0 hoff
  go_enter Tryz.func63, Tryz.ntmps63
  go_wp2_with (first
    | (go_at_call 125; refine HR.out.mono ?_; rintro e w' ⟨rfl, rfl⟩)
    | (go_at_call 126; refine HP.out.mono ?_; rintro e w1 ⟨rfl, hx, hk1, _⟩))
  go_ret
  exact ⟨rfl, hx.pr, hk1⟩
set_option maxHeartbeats 2000000 in
set_option maxRecDepth 100000 in
theorem vflush_goes {lo : Nat} {K : Nat → Prop} {c : Lc} {f : Lf} {C E : Nat → Nat} {q q' : Rk} (w : World) (h : PX lo K w c f C E q q') (hlo : lo ≤ w.heap.size) (k : Nat) (hr : q'.ready (k : Int) = 0) (h0 : ¬ q'.rem = 0) :
    Calls Tryz.prog 63 #[.pointer (some ⟨f.t, 0, none⟩), .int .i64 (k : Int)] w (VN lo K c f q (q'.burnt.turn k (q'.s k).flush) (.int .i64 0) w) := by
  have HR := Lib.hid (vmay_any w h k)
  rw [hr] at HR
  obtain ⟨k', e, hk, hoff, hdead⟩ := ready_yes hr
  obtain rfl : k = k' := by omega
  clear e
  rw [h.n] at hk
  have HP := Lib.hid (vburn_any w h hoff)
  rw [decide_eq_true (show q'.rem ≠ 0 from h0)] at HP
  have i1 : (k : Int) < q.n := by omega
  have i2 : (0 : Int) ≤ k := by omega
  have HQ := Lib.hid h
  have HDD := Lib.hid hdead
  have HLO := Lib.hid hlo
  clear h hr h0 hoff hdead hlo
  go_enter Tryz.func63, Tryz.ntmps63
  go_wp2_with (first
    | (go_at_call 125; refine HR.out.mono ?_; rintro e w' ⟨rfl, rfl⟩)
    | fail)
  refine HP.out.mono ?_
  rintro e w1 ⟨rfl, hx, hk1, _⟩
  have c0' := hx.c0
  have ca' := hx.at_ hk
  have hf := hx.ref k hk
  rw [burnt_s q'] at hf
  have HW := Lib.hid (rflush_yes w1 hf HDD.out)
  have HX := Lib.hid hx
  have HK1 := Lib.hid hk1
  have HNN := Lib.hid (show (q'.s k).flush.n = q.k by rw [show (q'.s k).flush.n = (q'.s k).n from St.stores_n _ _, HQ.out.ok.k k (by rw [HQ.out.n]; exact hk), HQ.out.k])
  have HKK := Lib.hid hk
  clear hx hk1 hf
  go_wp2_with (go_at_call 131; refine HW.out.mono ?_; rintro e w2 ⟨rfl, C', E', hR, hC, hC1, hE1⟩)
  go_ret
  obtain ⟨x1, x2⟩ := HX.out.ref_step (s' := (q'.s k).flush) HKK.out HNN.out hR hC hC1 hE1 (Nat.le_trans HLO.out HK1.out.below.size)
  exact ⟨rfl, x1.pr, HK1.out.trans x2⟩
theorem vflush_any {lo : Nat} {K : Nat → Prop} {c : Lc} {f : Lf} {C E : Nat → Nat} {q q' : Rk} (w : World) (h : PX lo K w c f C E q q') (hlo : lo ≤ w.heap.size) (i : Int) :
    Calls Tryz.prog 63 #[.pointer (some ⟨f.t, 0, none⟩), .int .i64 i] w (VN lo K c f q (q'.vflush i) (.int .i64 (q'.fcode i)) w) := by
  unfold Rk.vflush Rk.fcode
  by_cases hr : q'.ready i = 0
  · rw [if_pos hr, if_pos hr]
    by_cases h0 : q'.rem = 0
    · rw [if_pos h0, if_pos h0]
      exact vflush_last w h i hr h0
    · rw [if_neg h0, if_neg h0]
      obtain ⟨k, rfl, _⟩ := ready_yes hr
      exact vflush_goes w h hlo k hr h0
  · rw [if_neg hr, if_neg hr]
    refine (vflush_wait w h i hr).mono ?_
    rintro e w' ⟨rfl, rfl⟩
    exact ⟨rfl, h.pr, Kept.refl _ _ _⟩
end Go.Proofs.YtidnmkghmaeniaaGreatDoor
/-
  staveref8.NewRack.
-/
namespace Go.Proofs.YtidnmkghmaeniaaGreatDoor
open Go.RowKit Go.Deep Dk Qk Go.Maps
theorem info_rptr : (Tryz.prog.info? 126).map (fun i => (i.zero, i.size, i.bytes)) = some (some (.pointer none), 1, 8) := by kernel_rfl
set_option maxRecDepth 100000 in
theorem wpList_append_rptr (w : World) {ops : Array Oper} {rest : List Oper} {o : Oper} {a : Act} {Q : Exit → Act → World → Prop} (hgd : o.guard = none) (s x : Operand)
    (ho : o.op = .call { callee := .builtin .append, args := #[s, x], argTypes := #[123, 123] })
    (base : Nat) (v : Value) (n : Nat) (xs : List Value) (hsv : a.eval s = v) (hown : w.ownsRow base 126 1 v n xs)
    (b : Nat) (u : Value) (hx : a.eval x = .slice (some ⟨b, 0, none⟩) 1 1) (hb : w.cell? ⟨b, 0, none⟩ = some u) (hu : u.oneCell' = true) (h63 : n + 1 ≤ 100000) (hbase : base ≤ w.heap.size)
    (h : ∀ v' w', w'.ownsRow base 126 1 v' (n + 1) (xs ++ [u]) → Grew w v.ownBlock w' v'.ownBlock → wpList Tryz.prog ops Q rest (a.put o.dst v') w') : wpList Tryz.prog ops Q (o :: rest) a w := by
  obtain ⟨i0, hi0, hz⟩ := Option.map_eq_some_iff.1 info_rptr
  simp only [Prod.mk.injEq] at hz
  obtain ⟨hz0, hz1, hz2⟩ := hz
  have hsrc : Src Tryz.prog 1 123 (.slice (some ⟨b, 0, none⟩) 1 1) 1 [u] w := Src.ofSlice _ Tryz.underlying123 ⟨b, 0, none⟩ 1 1 [u] rfl (fun j y hy => by
    match j, hy with
    | 0, hy => injection hy with hy; subst hy; simpa [Addr.add] using hb
    | j + 1, hy => simp at hy) (fun y hy => by rw [List.mem_singleton.1 hy]; exact hu)
  exact wpList_append_src w hgd s x 123 123 ho base 126 i0 (.pointer none) 1 8 Tryz.underlying123 hi0 hz0 hz1 hz2 rfl v n xs hsv hown (.slice (some ⟨b, 0, none⟩) 1 1) 1 [u] hx hsrc (by unfold maxLen; omega) (by omega) hbase fun v' w' h1 h2 _ => h v' w' h1 h2
/-- So far j disks of the reference's have been made. -/
structure NRf (w : World) (j k : Nat) (v : Value) (r A C E : Nat → Nat) (w0 : World) : Prop where
  top : w.heap[w0.heap.size]? = some (.cells #[v, .int .i64 (-1), .bool false] 125 (0, 0))
  own : w.ownsRow (w0.heap.size + 1) 126 1 v j (dptr r j)
  ref : ∀ i, i < j → RefIn w (r i) (A i) (C i) (E i) (new k)
  lo : ∀ i, i < j → w0.heap.size ≤ r i ∧ w0.heap.size ≤ A i ∧ w0.heap.size ≤ C i ∧ w0.heap.size ≤ E i
  inj : ∀ i i', i < j → i' < j → i ≠ i' → r i ≠ r i' ∧ A i ≠ A i' ∧ C i ≠ C i' ∧ E i ≠ E i' ∧ C i ≠ E i'
  below : Below w0.heap.size w0 w
theorem NRf.lt {w w0 : World} {j k : Nat} {v : Value} {r A C E : Nat → Nat} (h : NRf w j k v r A C E w0) : w0.heap.size < w.heap.size := (Array.getElem?_eq_some_iff.1 h.top).1
theorem NRf.cells {w w0 : World} {j k : Nat} {v : Value} {r A C E : Nat → Nat} (h : NRf w j k v r A C E w0) : w.cell? ⟨w0.heap.size, 0, none⟩ = some v ∧ w.frozen? ⟨w0.heap.size, 0, none⟩ = false := by
  refine ⟨?_, frozen_of_row _ _ 0 _ _ h.top⟩
  rw [cell_of_row _ _ 0 _ _ (0, 0) h.top]; rfl
theorem NRf.off {w w0 : World} {j k : Nat} {v : Value} {r A C E : Nat → Nat} (h : NRf w j k v r A C E w0) : v.ownBlock ≠ some w0.heap.size := fun e => by have := (own_block h.own e).1; omega
theorem RefIn.same {w w' : World} {r A C E : Nat} {s : St} (h : RefIn w r A C E s) (hc : ∀ {g : Nat} {cs : Array Value} {t : TypeId} {fl : Nat × Nat}, w.heap[g]? = some (.cells cs t fl) → (t == 126) = false → (t == 125) = false → w'.heap[g]? = w.heap[g]?)
    (hm : ∀ {g : Nat} {es : Array MapEntry} {ck : Nat}, w.heap[g]? = some (.map es ck) → w'.heap[g]? = w.heap[g]?) : RefIn w' r A C E s := by
  obtain ⟨capA, _, t1⟩ := h.top
  obtain ⟨c2, t2, _⟩ := h.rows
  obtain ⟨⟨es, ck, t3⟩, ⟨es', ck', t4⟩⟩ := h.maps
  exact h.keep (hc t1 rfl rfl) (hc t2 rfl rfl) (hm t3) (hm t4) fun g cur hg => hc hg rfl rfl
theorem NRf.next {w0 wr w2 wx w3 : World} {j k r' A' C' E' : Nat} {v v' : Value} {r A C E : Nat → Nat} (h : NRf wr j k v r A C E w0) (hb : Below wr.heap.size wr w2) (hD : RefIn w2 r' A' C' E' (new k)) (h1 : wr.heap.size ≤ r') (h2 : wr.heap.size ≤ A') (h3 : wr.heap.size ≤ C') (h4 : wr.heap.size ≤ E')
    (hx : Below w2.heap.size w2 wx) (hown : w3.ownsRow (w0.heap.size + 1) 126 1 v' (j + 1) (dptr r j ++ [.pointer (some ⟨r', 0, none⟩)])) (hg : Grew wx v.ownBlock w3 v'.ownBlock) :
    NRf (w3.setCell ⟨w0.heap.size, 0, none⟩ v') (j + 1) k v' (upd r j r') (upd A j A') (upd C j C') (upd E j E') w0 := by
  have hlt := h.lt
  have hoff := h.off
  have hbx : Below wr.heap.size wr wx := hb.trans (hx.mono hb.size)
  have hownx := own_below h.own hbx
  have lt : ∀ {w : World} {k : Nat} {o : Obj}, w.heap[k]? = some o → k < w.heap.size := fun hk => (Array.getElem?_eq_some_iff.1 hk).1
  have oth : ∀ k, k ≠ w0.heap.size → (w3.setCell ⟨w0.heap.size, 0, none⟩ v').heap[k]? = w3.heap[k]? := fun k hk => heap_setCell_other _ ⟨w0.heap.size, 0, none⟩ k _ hk
  have ht := (hbx.block _ hlt).trans h.top
  have keep : ∀ {a b c e : Nat}, RefIn wx a b c e (new k) → RefIn (w3.setCell ⟨w0.heap.size, 0, none⟩ v') a b c e (new k) := fun {a b c e} hq =>
    hq.same (fun {g cs t fl} hk e1 e2 => (oth _ (kindT hk ht e2)).trans (hg.by_.block _ (lt hk) (fun q => own_not hownx hk (fun cur f q => by injection q with _ q _; rw [q] at e1; simp at e1) q.symm)))
      (fun {g es ck} hk => (oth _ (cells_map_ne ht hk).symm).trans (hg.by_.block _ (lt hk) (fun q => own_not hownx hk (fun cur f q => by cases q) q.symm)))
  have up : ∀ {f : Nat → Nat} {x i : Nat}, i < j → upd f j x i = f i := fun {f x i} hi => upd_other _ _ (by omega)
  refine ⟨heap_setCell_same w3 _ 0 _ _ v' ((hg.by_.block _ (Nat.lt_of_lt_of_le hlt hbx.size) (fun e => hoff e.symm)).trans ht), ?_, fun i hi => ?_, fun i hi => ?_, fun i i' hi hi' hne => ?_, ?_⟩
  · rw [dptr_succ, upd_same, dptr_congr (e := r) fun i hi => up hi]
    exact World.ownsRow.kept hown (grown_cellq w3 _ 0 v') (Or.inr fun e => by have := (own_block hown e).1; omega)
  · by_cases e : i = j
    · subst e; rw [upd_same, upd_same, upd_same, upd_same]
      exact keep (hD.same (fun hk _ _ => hx.block _ (lt hk)) (fun hk => hx.block _ (lt hk)))
    · rw [upd_other _ _ e, upd_other _ _ e, upd_other _ _ e, upd_other _ _ e]
      exact keep ((h.ref i (by omega)).same (fun hk _ _ => hbx.block _ (lt hk)) (fun hk => hbx.block _ (lt hk)))
  · have hs := h.below.size
    by_cases e : i = j
    · subst e; rw [upd_same, upd_same, upd_same, upd_same]; omega
    · rw [upd_other _ _ e, upd_other _ _ e, upd_other _ _ e, upd_other _ _ e]; exact h.lo i (by omega)
  · by_cases e : i = j
    · subst e
      have hl := (h.ref i' (by omega)).lt
      rw [upd_same, upd_same, upd_same, upd_same, upd_other _ _ hne.symm, upd_other _ _ hne.symm, upd_other _ _ hne.symm, upd_other _ _ hne.symm]; omega
    · by_cases e' : i' = j
      · subst e'
        have hl := (h.ref i (by omega)).lt
        rw [upd_same, upd_same, upd_same, upd_same, upd_other _ _ e, upd_other _ _ e, upd_other _ _ e, upd_other _ _ e]; omega
      · rw [upd_other _ _ e, upd_other _ _ e, upd_other _ _ e, upd_other _ _ e, upd_other _ _ e', upd_other _ _ e', upd_other _ _ e', upd_other _ _ e']; exact h.inj i i' (by omega) (by omega) hne
  · refine Below.setCell (p := ⟨w0.heap.size, 0, none⟩) ?_ (Nat.le_refl _) _
    exact (h.below.trans (hbx.mono h.below.size)).trans (hg.below (Nat.le_trans h.below.size hbx.size) fun k hk => by have := (own_block h.own hk).1; omega)
/-- Both racks, new. -/
def NewV (lo : Nat) (K : Nat → Prop) (c : Lc) (n k : Nat) (w : World) (e : Ending) (w' : World) : Prop :=
  ∃ (f : Lf), e = .returned (.tuple #[.pointer (some ⟨f.t, 0, none⟩), .int .i64 0]) ∧ PR lo K w' c f (newRk n k) (newRk n k) ∧ Below w.heap.size w w'
theorem NRf.made {lo : Nat} {K : Nat → Prop} {c : Lc} {w w0 : World} {n k : Nat} {v : Value} {r A C E : Nat → Nat} (h : NRf w n k v r A C E w0) (hP : RackIn lo w0 c (newRk n k)) (hlo : lo ≤ w0.heap.size) (hK : ∀ k, K k → k < lo) (h1 : 1 ≤ n) (h2 : n ≤ 8) (h3 : 1 ≤ k) (h4 : k ≤ 128) :
    NewV lo K c n k w0 (.returned (.tuple #[.pointer (some ⟨w0.heap.size, 0, none⟩), .int .i64 0])) w := by
  rcases h.own.2 with ⟨_, h0⟩ | ⟨P, cap, cur, rfl, hB, hg, hle, _, _, ht⟩
  · omega
  · have hPl := hP.lt
    refine ⟨⟨w0.heap.size, P, cap, r, A⟩, rfl, ⟨C, E, ⟨hP.below h.below, newRk_ok h1 h2 h3 h4, rfl, rfl, hle, h.top, ⟨cur, hg, fun i hi => ?_⟩, h.ref, h.inj, fun i j hi hj => ?_, hlo, by show _ ≤ P; omega, fun i hi => ?_, fun b hb => ?_⟩⟩, h.below⟩
    · have hi : i < n := hi
      rw [Nat.mul_one] at ht
      have hu : (dptr r n)[i]? = some (.pointer (some ⟨r i, 0, none⟩)) := by simp [dptr, hi]
      show cur[i]? = some (.pointer (some ⟨r i, 0, none⟩))
      rw [← hu, ← ht, List.getElem?_take, if_pos hi, Array.getElem?_toList]
    · have := (hP.disk j hj).lt
      have := h.lo i hi
      omega
    · have := h.lo i hi
      show lo ≤ r i ∧ lo ≤ A i ∧ _
      omega
    · have hb' := hK b hb
      have hs := h.below.size
      refine ⟨by omega, by have := hP.lr; omega, fun i hi => ?_, by show b ≠ w0.heap.size; omega, fun i hi => ?_⟩
      · have := hP.ld i hi
        omega
      · have := h.lo i hi
        show b ≠ r i ∧ b ≠ A i ∧ _
        omega
theorem nrf_start (w : World) (k : Nat) : NRf (w.alloc (.cells #[.slice none 0 0, .int .i64 (-1), .bool false] 125)) 0 k (.slice none 0 0) (fun _ => 0) (fun _ => 0) (fun _ => 0) (fun _ => 0) w :=
  ⟨heap_alloc_new w _, ⟨rfl, Or.inl ⟨rfl, rfl⟩⟩, fun _ h => absurd h (by omega), fun _ h => absurd h (by omega), fun _ _ h => absurd h (by omega), one_below w _⟩
def RelVN (n k : Nat) (w : World) (i : Value) (wr : World) : Prop := ∃ (j : Nat) (v : Value) (r A C E : Nat → Nat), j ≤ n ∧ i = .int .i64 j ∧ NRf wr j k v r A C E w
theorem relVN_next {n j k r' A' C' E' : Nat} {w0 wr w2 wx w3 : World} {v v' : Value} {r A C E : Nat → Nat} (h : NRf wr j k v r A C E w0) (hj : j < n) (hb : Below wr.heap.size wr w2) (hD : RefIn w2 r' A' C' E' (new k)) (h1 : wr.heap.size ≤ r' ∧ wr.heap.size ≤ A' ∧ wr.heap.size ≤ C' ∧ wr.heap.size ≤ E')
    (hx : Below w2.heap.size w2 wx) (hown : w3.ownsRow (w0.heap.size + 1) 126 1 v' (j + 1) (dptr r j ++ [.pointer (some ⟨r', 0, none⟩)])) (hg : Grew wx v.ownBlock w3 v'.ownBlock) : RelVN n k w0 (.int .i64 ((j : Int) + 1)) (w3.setCell ⟨w0.heap.size, 0, none⟩ v') :=
  ⟨j + 1, v', _, _, _, _, by omega, by go_num, h.next hb hD h1.1 h1.2.1 h1.2.2.1 h1.2.2.2 hx hown hg⟩
set_option maxHeartbeats 2000000 in
set_option maxRecDepth 100000 in
theorem vnew_yes {lo : Nat} {K : Nat → Prop} {c : Lc} (n k : Nat) (w : World) (hP : RackIn lo w c (newRk n k)) (hlo : lo ≤ w.heap.size) (hK : ∀ k, K k → k < lo) (h1 : 1 ≤ n) (h2 : n ≤ 8) (h3 : 1 ≤ k) (h4 : k ≤ 128) : Calls Tryz.prog 53 #[.int .i64 (n : Int), .int .i64 (k : Int)] w (NewV lo K c n k w) := by
  have HNS := Lib.hid (nrf_start w k)
  have HP := Lib.hid hP
  have HK := Lib.hid hK
  have HLO := Lib.hid hlo
  have i1 : ¬ (n : Int) < 1 := by omega
  have i2 : ¬ 8 < n := by omega
  clear hP hK hlo
  go_enter Tryz.func53, Tryz.ntmps53
  go_wp2_with fail
  go_loopw [7] (fun c wr => RelVN n k w c wr) (fun c _ => n - (intOf c).toNat)
  case atStart => exact ⟨0, _, _, _, _, _, Nat.zero_le _, rfl, HNS.out⟩
  case round =>
    obtain ⟨j, v, r, A, C, E, hj, rfl, hr3⟩ := hrel
    by_cases hlt : j < n
    · have HR3 := Lib.hid hr3
      clear hr3
      go_wp2_with fail
      refine (rnew_yes k wr h3 h4).mono ?_
      rintro e w2 ⟨r', A', C', E', rfl, hD, e1, e2, e3, e4, hb⟩
      have HE := Lib.hid (show wr.heap.size ≤ r' ∧ wr.heap.size ≤ A' ∧ wr.heap.size ≤ C' ∧ wr.heap.size ≤ E' from ⟨e1, e2, e3, e4⟩)
      have HD := Lib.hid hD
      have hb : Below wr.heap.size wr w2 := hb
      have HB := Lib.hid hb
      obtain ⟨c1, c3⟩ := HR3.out.cells
      have hcl0 := HR3.out.lt
      have c1 : w2.cell? ⟨w.heap.size, 0, none⟩ = some v := (hb.cell (p := ⟨w.heap.size, 0, none⟩) hcl0).trans c1
      have c3 : w2.frozen? ⟨w.heap.size, 0, none⟩ = false := (hb.frozen (p := ⟨w.heap.size, 0, none⟩) hcl0).trans c3
      have hcl : w.heap.size < w2.heap.size := Nat.lt_of_lt_of_le hcl0 hb.size
      have HNE := Lib.hid (show v.ownBlock ≠ some w.heap.size from HR3.out.off)
      have HO := Lib.hid (own_below HR3.out.own hb)
      clear hD e1 e2 e3 e4 hb hcl0
      go_wp2_with (at_builtin; refine wpList_append_rptr _ rfl (.tmp 35) (.tmp 37) rfl (w.heap.size + 1) _ _ _ rfl (own_below HO.out (one_below _ _)) w2.heap.size (.pointer (some ⟨r', 0, none⟩)) rfl (by simp) rfl (by omega) (by simp; omega) ?_; intro v' w3 hown3 hg3; have c1d := qcell_later (one_below _ _) hg3 hcl HNE.out c1; have c3d := qfrozen_later (one_below _ _) hg3 hcl HNE.out c3; have HO3 := Lib.hid hown3; have HG3 := Lib.hid hg3; obtain ⟨gv, cv, rfl, _⟩ := own_slice hown3; clear hown3 hg3)
      go_roundw
      case rel => exact relVN_next HR3.out hlt HB.out HD.out HE.out (one_below _ _) HO3.out HG3.out
      case measure => simp [intOf]; omega
    · obtain rfl : j = n := by omega
      have HR3 := Lib.hid hr3
      clear hr3
      go_wp2_with fail
      exact bodyPost_ret (v := .tuple #[.pointer (some ⟨w.heap.size, 0, none⟩), .int .i64 0]) (by simp [results, Tryz.results53, go_sem]) rfl (HR3.out.made HP.out HLO.out HK.out h1 h2 h3 h4)
end Go.Proofs.YtidnmkghmaeniaaGreatDoor
/-
  The reference's rack: Boot, a disk's Die, Replace, Rot.
-/
namespace Go.Proofs.YtidnmkghmaeniaaGreatDoor
open Go.RowKit Go.Deep Dk Qk Go.Maps
theorem boot_eq {q : Rk} {bits : Nat → Nat} {n : Nat} (h : q.n = n) : q.boot bits = { (q.crashed bits n) with off := false, rem := -1 } := by subst h; rfl
def RelVB (lo : Nat) (K : Nat → Prop) (c : Lc) (f : Lf) (q q' : Rk) (bits : Nat → Nat) (w0 : World) (i : Value) (wr : World) : Prop :=
  ∃ (m : Nat) (C E : Nat → Nat), m ≤ q.n ∧ i = .int .i64 m ∧ PX lo K wr c f C E q (q'.crashed bits m) ∧ Kept lo K w0 wr
set_option maxHeartbeats 2000000 in
set_option maxRecDepth 100000 in
theorem vboot_any {lo B : Nat} {K : Nat → Prop} {c : Lc} {f : Lf} {q q' : Rk} (w : World) (h : PR lo K w c f q q') (hlo : lo ≤ w.heap.size) (v : Value) (l : List Nat) (hv : SlU B w v l) (hB : B ≤ lo) (hl : ∀ x, x < l.length → l.getD x 0 < 18446744073709551616) :
    Calls Tryz.prog 68 #[.pointer (some ⟨f.t, 0, none⟩), v] w (VN lo K c f q (q'.boot fun i => l.getD i 0) (.tuple #[]) w) := by
  obtain ⟨C, E, hP⟩ := h
  have c0 := hP.c0
  have hn8 : q.n ≤ 8 := hP.prog.ok.n8
  have HQ := Lib.hid hP
  have HV := Lib.hid hv
  have HL := Lib.hid hl
  have HLO := Lib.hid hlo
  obtain ⟨a, cap, rfl⟩ := hv.len
  clear hP hv hl hlo
  go_enter Tryz.func68, Tryz.ntmps68
  go_wp2_with fail
  go_loopw [12] (fun i wr => RelVB lo K c f q q' (fun i => l.getD i 0) w i wr) (fun i _ => q.n - (intOf i).toNat)
  case atStart => exact ⟨0, C, E, Nat.zero_le _, rfl, by rw [crashed_zero]; exact HQ.out, Kept.refl _ _ _⟩
  case round =>
    obtain ⟨m, C2, E2, hm, rfl, hR, hC⟩ := hrel
    have HR := Lib.hid hR
    have HC := Lib.hid hC
    by_cases hlt : m < q.n
    · have ca := hR.at_ hlt
      clear hR hC
      have i1 : (m : Int) < q.n := by omega
      have i2 : (0 : Int) ≤ m := by omega
      have crash : ∀ x : Nat, x < 18446744073709551616 → x = l.getD m 0 → Calls Tryz.prog 134 #[.pointer (some ⟨f.r m, 0, none⟩), .int .u64 (x : Int)] wr (fun e w' => e = .returned (.tuple #[]) ∧ RelVB lo K c f q q' (fun i => l.getD i 0) w (.int .i64 ((m : Int) + 1)) w') := fun x hx hxe => by
        refine (rcrash_any wr (HR.out.ref m hlt) x hx).mono ?_
        rintro e w' ⟨rfl, C', E', hF, hG, g1, g2⟩
        obtain ⟨x1, x2⟩ := HR.out.ref_step hlt ((crash_nn _ _).trans ((HR.out.ok.k m (by rw [HR.out.n]; exact hlt)).trans HR.out.k)) hF hG g1 g2 (Nat.le_trans HLO.out HC.out.below.size)
        have x1' : PX lo K w' c f (upd C2 m C') (upd E2 m E') q (q'.crashed (fun i => l.getD i 0) (m + 1)) := by
          rw [crashed_succ]
          subst hxe
          exact x1
        exact ⟨rfl, m + 1, _, _, by omega, by go_num, x1', HC.out.trans x2⟩
      have HCR := Lib.hid crash
      clear crash
      by_cases hb : m < l.length
      · have hb' : (m : Int) < l.length := by omega
        obtain ⟨b, o, cap', e, cb⟩ := (HV.out.below (HC.out.below.mono hB)).num hb
        injection e with e _ e2
        subst e e2
        have HX := Lib.hid (HCR.out (l.getD m 0) (HL.out m hb) rfl)
        generalize l.getD m 0 = x at *
        go_wp2_with (go_at_call 134; refine HX.out.mono ?_; rintro e w2 ⟨rfl, hrel⟩)
        go_roundw
        case rel => exact hrel
        case measure => simp [intOf]; omega
      · have HX := Lib.hid (HCR.out 0 (by omega) (by simp [List.getD]; rw [List.getElem?_eq_none (by omega)]; rfl))
        go_wp2_with (go_at_call 134; refine HX.out.mono ?_; rintro e w2 ⟨rfl, hrel⟩)
        go_roundw
        case rel => exact hrel
        case measure => simp [intOf]; omega
    · obtain rfl : m = q.n := by omega
      have hok := hR.ok
      have ok1 : ({ (q'.crashed (fun i => l.getD i 0) q.n) with off := false } : Rk).Ok := ⟨hok.n0, hok.n8, hok.k0, hok.k8, hok.k, hok.low, hok.high⟩
      have s1 := hR.top_step (i := 2) (v := .bool false) (q2 := { (q'.crashed (fun i => l.getD i 0) q.n) with off := false }) ok1 rfl rfl rfl rfl
      have ok2 : ({ (q'.crashed (fun i => l.getD i 0) q.n) with off := false, rem := -1 } : Rk).Ok := ⟨hok.n0, hok.n8, hok.k0, hok.k8, hok.k, by show (-9223372036854775808 : Int) ≤ -1; omega, by show (-1 : Int) < 9223372036854775808; omega⟩
      have s2 := s1.1.top_step (i := 1) (v := .int .i64 (-1)) (q2 := { (q'.crashed (fun i => l.getD i 0) q.n) with off := false, rem := -1 }) ok2 rfl rfl rfl rfl
      have HQN := Lib.hid HQ.out.n
      have H2 := Lib.hid (show PX lo K ((wr.setCell ⟨f.t, 2, none⟩ (.bool false)).setCell ⟨f.t, 1, none⟩ (.int .i64 (-1))) c f C2 E2 q (q'.boot fun i => l.getD i 0) by rw [boot_eq HQN.out]; exact s2.1)
      have HK := Lib.hid ((HC.out.trans s1.2).trans s2.2)
      have c1 := hR.c1
      have c2 := hR.c2
      have f1 := hR.fz 1
      have f2 := hR.fz 2
      have d1 := s1.1.c1
      have g1 := s1.1.fz 1
      clear hR hC s1 s2 ok1 ok2 hok
      go_wp2
      go_end0
      exact ⟨rfl, ⟨C2, E2, H2.out⟩, HK.out⟩
/-- A step of one of the reference's disks, which the law asks for itself. -/
def VStep (lo : Nat) (K : Nat → Prop) (c : Lc) (f : Lf) (q q' : Rk) (v : Value) (w : World) (e : Ending) (w' : World) : Prop := VN lo K c f q q' v w e w'
theorem vdisk_step {lo i : Nat} {K : Nat → Prop} {w w' : World} {c : Lc} {f : Lf} {C E : Nat → Nat} {q q' : Rk} {s' : St} {v : Value} {e : Ending} (h : PX lo K w c f C E q q') (hlo : lo ≤ w.heap.size) (hi : i < q.n) (hs : s'.n = (q'.s i).n) (hc : RNew (f.r i) (f.A i) (C i) (E i) s' v w e w') : VN lo K c f q (q'.turn i s') v w e w' := by
  obtain ⟨rfl, C', E', hF, hG, g1, g2⟩ := hc
  obtain ⟨x1, x2⟩ := h.ref_step hi (hs.trans ((h.ok.k i (by rw [h.n]; exact hi)).trans h.k)) hF hG g1 g2 hlo
  exact ⟨rfl, x1.pr, x2⟩
theorem vdie_at {lo i : Nat} {K : Nat → Prop} {c : Lc} {f : Lf} {C E : Nat → Nat} {q q' : Rk} (w : World) (h : PX lo K w c f C E q q') (hlo : lo ≤ w.heap.size) (hi : i < q.n) :
    Calls Tryz.prog 64 #[.pointer (some ⟨f.r i, 0, none⟩)] w (VN lo K c f q (q'.wipe i true) (.tuple #[]) w) :=
  (rdie_any w (h.ref i hi)).mono fun _ _ hc => vdisk_step h hlo hi rfl hc
theorem vreplace_at {lo i : Nat} {K : Nat → Prop} {c : Lc} {f : Lf} {C E : Nat → Nat} {q q' : Rk} (w : World) (h : PX lo K w c f C E q q') (hlo : lo ≤ w.heap.size) (hi : i < q.n) :
    Calls Tryz.prog 65 #[.pointer (some ⟨f.r i, 0, none⟩)] w (VN lo K c f q (q'.wipe i false) (.tuple #[]) w) :=
  (rreplace_any w (h.ref i hi)).mono fun _ _ hc => vdisk_step h hlo hi rfl hc
theorem vrot_at {lo i : Nat} {K : Nat → Prop} {c : Lc} {f : Lf} {C E : Nat → Nat} {q q' : Rk} (w : World) (h : PX lo K w c f C E q q') (hlo : lo ≤ w.heap.size) (hi : i < q.n) (sec a : Int) (x : Nat) :
    Calls Tryz.prog 66 #[.pointer (some ⟨f.r i, 0, none⟩), .int .i64 sec, .int .i64 a, .int .u32 (x : Int)] w (VN lo K c f q (q'.turn i (rotnext (q'.s i) sec a x)) (.bool (decide (mayRot (q'.s i) sec a x))) w) :=
  (rrot_ev w (h.ref i hi) sec a x).mono fun _ _ hc => vdisk_step h hlo hi (by unfold rotnext; split; rfl; rfl) hc
end Go.Proofs.YtidnmkghmaeniaaGreatDoor
