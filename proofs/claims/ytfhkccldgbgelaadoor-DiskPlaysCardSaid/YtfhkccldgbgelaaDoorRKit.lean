/-
  The reference's disk in memory: rows of bytes that nobody turns, a map of what waits, a map of what has rotted.
-/
import Derived.Test.YtfhkccldgbgelaaDoorDArr
import Derived.Test.YtfhkccldgbgelaaDoorRoomy
import Derived.WideKeyEntry
namespace Go.Proofs.YtfhkccldgbgelaaDoor
open Go.RowKit Go.Deep Dk Go.Maps
/-- v is a slice of the 128 bytes l, in a row of bytes. -/
def ByteRow (w : World) (v : Value) (l : Sec) : Prop := l.length = 128 ∧ ∃ g cap cur, v = .slice (some ⟨g, 0, none⟩) 128 cap ∧ 128 ≤ cap ∧ w.heap[g]? = some (.cells cur 5 (0, 0)) ∧ cur.toList.take 128 = bytesV l
theorem ByteRow.keep {w w' : World} {v : Value} {l : Sec} (h : ByteRow w v l) (hk : ∀ (g : Nat) (cur : Array Value), w.heap[g]? = some (.cells cur 5 (0, 0)) → w'.heap[g]? = w.heap[g]?) : ByteRow w' v l := by
  obtain ⟨hl, g, cap, cur, h1, h2, h3, h4⟩ := h
  exact ⟨hl, g, cap, cur, h1, h2, (hk g cur h3).trans h3, h4⟩
theorem ByteRow.slb {w : World} {v : Value} {l : Sec} (h : ByteRow w v l) : SlB w.heap.size w v l := by
  obtain ⟨hl, g, cap, cur, rfl, h2, h3, h4⟩ := h
  have hh : Holds w g (bytesV l) := fun i u hu => by
    rw [cell_of_row w g i cur _ _ h3]
    rw [← h4, List.getElem?_take] at hu
    split at hu
    · simpa using hu
    · cases hu
  have := slb_lit (cap := cap) hh (Array.getElem?_eq_some_iff.1 h3).1 (by omega)
  rwa [hl] at this
theorem ByteRow.of_own {w : World} {B : Nat} {v : Value} {l : Sec} (h : w.ownsRow B 5 1 v 128 (bytesV l)) (hl : l.length = 128) : ByteRow w v l := by
  rcases h.2 with ⟨_, h0⟩ | ⟨g, cap, cur, rfl, _, hg, hle, _, _, ht⟩
  · omega
  · exact ⟨hl, g, cap, cur, rfl, hle, hg, by simpa using ht⟩
/-- How a slice in a map reads: where it lies. -/
def slR (v : Value) : Option (DataW Unit × List MemPlace) :=
  match v with
  | .slice none 0 0 => some (.nil, [])
  | .slice (some ⟨g, 0, none⟩) n cap => some (.agg [.lit (.int .i64 g), .lit (.int .i64 n), .lit (.int .i64 cap)], [])
  | _ => none
theorem slR_nil : slR (.slice none 0 0) = some (.nil, []) := rfl
theorem slR_some (g n cap : Nat) : slR (.slice (some ⟨g, 0, none⟩) n cap) = some (.agg [.lit (.int .i64 g), .lit (.int .i64 n), .lit (.int .i64 cap)], []) := rfl
theorem slR_inj {v v' : Value} {z z' : DataW Unit × List MemPlace} (h : slR v = some z) (h' : slR v' = some z') (e : z.1 = z'.1) : v = v' := by
  unfold slR at h h'
  split at h <;> split at h' <;> (first | (cases h; done) | (cases h'; done) | skip)
  · rfl
  · cases h; cases h'; cases e
  · cases h; cases h'; cases e
  · cases h; cases h'
    simp only [DataW.agg.injEq, List.cons.injEq, DataW.lit.injEq, Lit.int.injEq, true_and, and_true] at e
    obtain ⟨e1, e2, e3⟩ := e
    have e1 := Int.ofNat.inj e1
    have e2 := Int.ofNat.inj e2
    have e3 := Int.ofNat.inj e3
    subst e1 e2 e3; rfl
/-- Block C is the map of what waits. -/
structure CacheIn (w : World) (C n : Nat) (D : DataW Unit) (f : Nat → Option Sec) : Prop where
  own : w.ownsMap Tryd.prog 3 slR C (Maps.size D) D
  key : ∀ kl, Maps.has D kl = true → ∃ i : Nat, i < n ∧ kl = kI i
  miss : ∀ i, i < n → f i = none → Maps.has D (kI i) = false
  hit : ∀ i l, i < n → f i = some l → ∃ v d, slR v = some (d, []) ∧ (∀ z, D.atKey (kI i) z = d) ∧ Maps.has D (kI i) = true ∧ ByteRow w v l
/-- Block E is the map of what has rotted. -/
structure BadIn (w : World) (E n : Nat) (D : DataW Unit) (f : Nat → Bool) : Prop where
  own : w.ownsMap Tryd.prog 3 (plainElem Tryd.prog 4) E (Maps.size D) D
  key : ∀ kl, Maps.has D kl = true → ∃ i : Nat, i < n ∧ kl = kI i
  at_ : ∀ i, i < n → D.atKey (kI i) (.lit (.bool false)) = .lit (.bool (f i))
structure RefIn (w : World) (r A C E : Nat) (s : St) : Prop where
  ok : s.Ok
  pos : 1 ≤ s.n
  ne : C ≠ E
  top : ∃ capA, s.n ≤ capA ∧ w.heap[r]? = some (.cells #[.slice (some ⟨A, 0, none⟩) s.n capA, .map (some C), .map (some E), .bool s.dead] 56 (0, 0))
  rows : ∃ cur : Array Value, w.heap[A]? = some (.cells cur 28 (0, 0)) ∧ s.n ≤ cur.size ∧ ∀ i, i < s.n → ∃ v, cur[i]? = some v ∧ ByteRow w v (s.st i)
  cache : ∃ D, CacheIn w C s.n D s.wt
  bad : ∃ D, BadIn w E s.n D s.rot
/-- What turns when the reference's disk is written. -/
structure RChg (r A C E : Nat) (w w' : World) : Prop where
  os : w'.os = w.os
  tape : w'.tape = w.tape
  output : w'.output = w.output
  size : w.heap.size ≤ w'.heap.size
  block : ∀ k, k < w.heap.size → k ≠ r → k ≠ A → k ≠ C → k ≠ E → w'.heap[k]? = w.heap[k]?
theorem RChg.refl (r A C E : Nat) (w : World) : RChg r A C E w w := ⟨rfl, rfl, rfl, Nat.le_refl _, fun _ _ _ _ _ _ => rfl⟩
theorem RChg.trans {r A C E : Nat} {w w1 w2 : World} (h : RChg r A C E w w1) (h2 : RChg r A C E w1 w2) : RChg r A C E w w2 :=
  ⟨h2.os.trans h.os, h2.tape.trans h.tape, h2.output.trans h.output, Nat.le_trans h.size h2.size, fun k hk a b c e => (h2.block k (Nat.lt_of_lt_of_le hk h.size) a b c e).trans (h.block k hk a b c e)⟩
theorem RChg.of_below {r A C E : Nat} {w w' : World} (h : Below w.heap.size w w') : RChg r A C E w w' := ⟨h.os, h.tape, h.output, h.size, fun k hk _ _ _ _ => h.block k hk⟩
theorem RChg.of_grown {r A C E g : Nat} {w w' : World} (h : w.grownBy w' (some g)) (hg : g = r ∨ g = A ∨ g = C ∨ g = E) : RChg r A C E w w' :=
  ⟨h.os, h.tape, h.output, h.size, fun k hk a b c e => h.block k hk (by rcases hg with rfl | rfl | rfl | rfl <;> simpa)⟩
theorem RChg.below {r A C E B : Nat} {w w' : World} (h : RChg r A C E w w') (hB : B ≤ w.heap.size) (h1 : B ≤ r) (h2 : B ≤ A) (h3 : B ≤ C) (h4 : B ≤ E) : Below B w w' :=
  ⟨h.os, h.tape, h.output, h.size, fun k hk => h.block k (by omega) (by omega) (by omega) (by omega) (by omega)⟩
theorem RChg.of_drew {r A C E : Nat} {w w' : World} (h : RChg r A C E w.drew w') : RChg r A C E w w' := ⟨h.os, h.tape, h.output, h.size, h.block⟩
theorem RefIn.lt {w : World} {r A C E : Nat} {s : St} (h : RefIn w r A C E s) : r < w.heap.size ∧ A < w.heap.size ∧ C < w.heap.size ∧ E < w.heap.size := by
  obtain ⟨capA, _, h1⟩ := h.top
  obtain ⟨cur, h2, _⟩ := h.rows
  obtain ⟨D, h3⟩ := h.cache
  obtain ⟨D', h4⟩ := h.bad
  exact ⟨(Array.getElem?_eq_some_iff.1 h1).1, (Array.getElem?_eq_some_iff.1 h2).1, h3.own.lt, h4.own.lt⟩
/-- No row of bytes is one of its blocks. -/
theorem RefIn.off {w : World} {r A C E : Nat} {s : St} (h : RefIn w r A C E s) {g : Nat} {cur : Array Value} (hg : w.heap[g]? = some (.cells cur 5 (0, 0))) : g ≠ r ∧ g ≠ A ∧ g ≠ C ∧ g ≠ E := by
  obtain ⟨capA, _, h1⟩ := h.top
  obtain ⟨c2, h2, _⟩ := h.rows
  obtain ⟨D, ⟨⟨es, ck, h3, _⟩, _⟩⟩ := h.cache
  obtain ⟨D', ⟨⟨es', ck', h4, _⟩, _⟩⟩ := h.bad
  refine ⟨fun e => ?_, fun e => ?_, fun e => ?_, fun e => ?_⟩
  · rw [e, h1] at hg; injection hg with hg; injection hg with _ hg _; cases hg
  · rw [e, h2] at hg; injection hg with hg; injection hg with _ hg _; cases hg
  · rw [e, h3] at hg; cases hg
  · rw [e, h4] at hg; cases hg
theorem RefIn.apart {w : World} {r A C E : Nat} {s : St} (h : RefIn w r A C E s) : r ≠ A ∧ r ≠ C ∧ r ≠ E ∧ A ≠ C ∧ A ≠ E := by
  obtain ⟨capA, _, h1⟩ := h.top
  obtain ⟨c2, h2, _⟩ := h.rows
  obtain ⟨D, ⟨⟨es, ck, h3, _⟩, _⟩⟩ := h.cache
  obtain ⟨D', ⟨⟨es', ck', h4, _⟩, _⟩⟩ := h.bad
  refine ⟨fun e => ?_, fun e => ?_, fun e => ?_, fun e => ?_, fun e => ?_⟩
  · rw [e, h2] at h1; injection h1 with h1; injection h1 with _ h1 _; cases h1
  · rw [e, h3] at h1; cases h1
  · rw [e, h4] at h1; cases h1
  · rw [e, h3] at h2; cases h2
  · rw [e, h4] at h2; cases h2
theorem CacheIn.keep {w w' : World} {C n : Nat} {D : DataW Unit} {f : Nat → Option Sec} (h : CacheIn w C n D f) (hb : w'.heap[C]? = w.heap[C]?) (hk : ∀ (g : Nat) (cur : Array Value), w.heap[g]? = some (.cells cur 5 (0, 0)) → w'.heap[g]? = w.heap[g]?) : CacheIn w' C n D f := by
  obtain ⟨⟨es, clock, h1, h2⟩, h3, h4, h5⟩ := h
  refine ⟨⟨es, clock, hb.trans h1, h2⟩, h3, h4, fun i l hi hl => ?_⟩
  obtain ⟨v, d, a1, a2, a3, a4⟩ := h5 i l hi hl
  exact ⟨v, d, a1, a2, a3, a4.keep hk⟩
theorem BadIn.keep {w w' : World} {E n : Nat} {D : DataW Unit} {f : Nat → Bool} (h : BadIn w E n D f) (hb : w'.heap[E]? = w.heap[E]?) : BadIn w' E n D f := by
  obtain ⟨⟨es, clock, h1, h2⟩, h3, h4⟩ := h
  exact ⟨⟨es, clock, hb.trans h1, h2⟩, h3, h4⟩
/-- Where all that it has stays, it stays. -/
theorem RefIn.keep {w w' : World} {r A C E : Nat} {s : St} (h : RefIn w r A C E s) (h1 : w'.heap[r]? = w.heap[r]?) (h2 : w'.heap[A]? = w.heap[A]?) (h3 : w'.heap[C]? = w.heap[C]?) (h4 : w'.heap[E]? = w.heap[E]?)
    (hk : ∀ (g : Nat) (cur : Array Value), w.heap[g]? = some (.cells cur 5 (0, 0)) → w'.heap[g]? = w.heap[g]?) : RefIn w' r A C E s := by
  obtain ⟨capA, a1, a2⟩ := h.top
  obtain ⟨cur, b1, b2, b3⟩ := h.rows
  obtain ⟨D, c1⟩ := h.cache
  obtain ⟨D', d1⟩ := h.bad
  refine ⟨h.ok, h.pos, h.ne, ⟨capA, a1, h1.trans a2⟩, ⟨cur, h2.trans b1, b2, fun i hi => ?_⟩, ⟨D, c1.keep h3 hk⟩, ⟨D', d1.keep h4⟩⟩
  obtain ⟨v, e1, e2⟩ := b3 i hi
  exact ⟨v, e1, e2.keep hk⟩
theorem RefIn.below {w w' : World} {r A C E : Nat} {s : St} (h : RefIn w r A C E s) (hb : Below w.heap.size w w') : RefIn w' r A C E s := by
  obtain ⟨b1, b2, b3, b4⟩ := h.lt
  exact h.keep (hb.block r b1) (hb.block A b2) (hb.block C b3) (hb.block E b4) fun g cur hg => hb.block g (Array.getElem?_eq_some_iff.1 hg).1
theorem RefIn.drew {w : World} {r A C E : Nat} {s : St} (h : RefIn w r A C E s) : RefIn w.drew r A C E s := h.keep rfl rfl rfl rfl fun _ _ _ => rfl
/-- A disk that is written leaves the reference's alone. -/
theorem RefIn.chg {w w' : World} {r A C E d S M : Nat} {s t : St} (h : RefIn w r A C E s) (hd : DiskIn w d S M t) (hCM : C ≠ M) (hEM : E ≠ M) (hc : Chg d S M w w') : RefIn w' r A C E s := by
  obtain ⟨b1, b2, b3, b4⟩ := h.lt
  obtain ⟨capA, _, t1⟩ := h.top
  obtain ⟨c2, t2, _⟩ := h.rows
  obtain ⟨D, ⟨⟨es, ck, t3, _⟩, _⟩⟩ := h.cache
  obtain ⟨D', ⟨⟨es', ck', t4, _⟩, _⟩⟩ := h.bad
  obtain ⟨Dm, hm⟩ := hd.map_
  obtain ⟨⟨esm, ckm, hM, _⟩, _⟩ := hm
  have hne : ∀ k cur ty, w.heap[k]? = some (.cells cur ty (0, 0)) → ty ≠ 76 → ty ≠ 82 → k ≠ d ∧ k ≠ S ∧ k ≠ M := fun k cur ty hk n1 n2 => by
    refine ⟨fun e => ?_, fun e => ?_, fun e => ?_⟩
    · rw [e, hd.top] at hk; injection hk with hk; injection hk with _ hk _; exact n1 hk.symm
    · rw [e, hd.secs] at hk; injection hk with hk; injection hk with _ hk _; exact n2 hk.symm
    · rw [e, hM] at hk; cases hk
  have hmp : ∀ k es ck, w.heap[k]? = some (.map es ck) → k ≠ d ∧ k ≠ S := fun k es ck hk => by
    refine ⟨fun e => ?_, fun e => ?_⟩
    · rw [e, hd.top] at hk; cases hk
    · rw [e, hd.secs] at hk; cases hk
  have n1 := hne r _ _ t1 (by decide) (by decide)
  have n2 := hne A _ _ t2 (by decide) (by decide)
  have n3 := hmp C _ _ t3
  have n4 := hmp E _ _ t4
  refine h.keep (hc.block r b1 n1.1 n1.2.1 n1.2.2) (hc.block A b2 n2.1 n2.2.1 n2.2.2) (hc.block C b3 n3.1 n3.2 hCM) (hc.block E b4 n4.1 n4.2 hEM) fun g cur hg => ?_
  have n5 := hne g _ _ hg (by decide) (by decide)
  exact hc.block g (Array.getElem?_eq_some_iff.1 hg).1 n5.1 n5.2.1 n5.2.2
/-- The reference's disk that is written leaves a disk alone. -/
theorem DiskIn.rchg {w w' : World} {r A C E d S M : Nat} {s t : St} (h : DiskIn w d S M t) (hr : RefIn w r A C E s) (hCM : C ≠ M) (hEM : E ≠ M) (hc : RChg r A C E w w') : DiskIn w' d S M t := by
  obtain ⟨b1, b2, b3⟩ := h.lt
  obtain ⟨capA, _, t1⟩ := hr.top
  obtain ⟨c2, t2, _⟩ := hr.rows
  obtain ⟨D, ⟨⟨es, ck, t3, _⟩, _⟩⟩ := hr.cache
  obtain ⟨D', ⟨⟨es', ck', t4, _⟩, _⟩⟩ := hr.bad
  obtain ⟨Dm, hm⟩ := h.map_
  obtain ⟨⟨esm, ckm, hM, _⟩, _⟩ := hm
  have hne : ∀ k cur ty, w.heap[k]? = some (.cells cur ty (0, 0)) → ty ≠ 56 → ty ≠ 28 → k ≠ r ∧ k ≠ A ∧ k ≠ C ∧ k ≠ E := fun k cur ty hk n1 n2 => by
    refine ⟨fun e => ?_, fun e => ?_, fun e => ?_, fun e => ?_⟩
    · rw [e, t1] at hk; injection hk with hk; injection hk with _ hk _; exact n1 hk.symm
    · rw [e, t2] at hk; injection hk with hk; injection hk with _ hk _; exact n2 hk.symm
    · rw [e, t3] at hk; cases hk
    · rw [e, t4] at hk; cases hk
  have n1 := hne d _ _ h.top (by decide) (by decide)
  have n2 := hne S _ _ h.secs (by decide) (by decide)
  refine h.keep (hc.block d b1 n1.1 n1.2.1 n1.2.2.1 n1.2.2.2) (hc.block S b2 n2.1 n2.2.1 n2.2.2.1 n2.2.2.2) (hc.block M b3 (fun e => ?_) (fun e => ?_) (fun e => hCM e.symm) (fun e => hEM e.symm))
  · rw [e, t1] at hM; cases hM
  · rw [e, t2] at hM; cases hM
theorem RefIn.cells {w : World} {r A C E : Nat} {s : St} (h : RefIn w r A C E s) : ∃ capA, s.n ≤ capA ∧ w.cell? ⟨r, 0, none⟩ = some (.slice (some ⟨A, 0, none⟩) s.n capA) ∧ w.cell? ⟨r, 1, none⟩ = some (.map (some C)) ∧ w.cell? ⟨r, 2, none⟩ = some (.map (some E)) ∧ w.cell? ⟨r, 3, none⟩ = some (.bool s.dead) := by
  obtain ⟨capA, h0, h1⟩ := h.top
  exact ⟨capA, h0, by rw [cell_of_row w r 0 _ _ _ h1]; rfl, by rw [cell_of_row w r 1 _ _ _ h1]; rfl, by rw [cell_of_row w r 2 _ _ _ h1]; rfl, by rw [cell_of_row w r 3 _ _ _ h1]; rfl⟩
theorem RefIn.row {w : World} {r A C E : Nat} {s : St} (h : RefIn w r A C E s) {i : Nat} (hi : i < s.n) : ∃ v, w.cell? ⟨A, i, none⟩ = some v ∧ ByteRow w v (s.st i) := by
  obtain ⟨cur, h1, _, h3⟩ := h.rows
  obtain ⟨v, e1, e2⟩ := h3 i hi
  exact ⟨v, by rw [cell_of_row w A i _ _ _ h1]; exact e1, e2⟩
end Go.Proofs.YtfhkccldgbgelaaDoor
