/-
  stavebook.Roomy of bytes.
-/
import Derived.Test.YtidnmkghmaeniaaGreatDoorBytes
import Derived.Deep.OwnRows
import Derived.Laws.CopyOwn
import Derived.Test.YtidnmkghmaeniaaGreatDoorQMore
import Derived.WideKeyEntry
import Derived.Deep.RegionHeld3
import Derived.Test.YtidnmkghmaeniaaGreatDoorDHas
namespace Go.Proofs.YtidnmkghmaeniaaGreatDoor
open Go.RowKit Go.Deep
/-- The bytes, j marks, noughts up to 80. -/
def roomL (l : List UInt8) (m j : Nat) : List UInt8 := l ++ (List.replicate j (UInt8.ofNat m) ++ List.replicate (80 - j) 0)
theorem roomL_length (l : List UInt8) (m j : Nat) (h : j ≤ 80) : (roomL l m j).length = l.length + 80 := by simp [roomL]; omega
theorem roomL_set (l : List UInt8) (m j : Nat) (hm : m < 256) (h : j < 80) : (bytesV (roomL l m j)).set (l.length + j) (.int .u8 m) = bytesV (roomL l m (j + 1)) := by
  obtain ⟨k, hk⟩ : ∃ k, 80 - j = k + 1 := ⟨79 - j, by omega⟩
  have hk' : 80 - (j + 1) = k := by omega
  have hmm : (UInt8.ofNat m).toNat = m := by rw [UInt8.toNat_ofNat']; omega
  have e1 : roomL l m j = (l ++ List.replicate j (UInt8.ofNat m)) ++ 0 :: List.replicate k 0 := by unfold roomL; rw [hk, List.replicate_succ, List.append_assoc]
  have e2 : roomL l m (j + 1) = (l ++ List.replicate j (UInt8.ofNat m)) ++ UInt8.ofNat m :: List.replicate k 0 := by
    unfold roomL; rw [hk', List.replicate_succ', List.append_assoc, List.append_assoc]; rfl
  have e3 : (bytesV (l ++ List.replicate j (UInt8.ofNat m))).length = l.length + j := by simp [bytesV]
  rw [e1, e2, ← e3, bytesV_append (l ++ _), bytesV_append (l ++ _), List.set_append_right _ _ (Nat.le_refl _), Nat.sub_self]
  show _ ++ (Value.int .u8 m) :: _ = _ ++ (Value.int .u8 (UInt8.ofNat m).toNat) :: _
  rw [hmm]
theorem made_u8 (n : Nat) : (madeCells #[.int .u8 0] n).toList = bytesV (List.replicate n 0) := by
  refine List.ext_getElem (by simp [madeCells, bytesV]) fun i h1 h2 => ?_
  simp [madeCells, bytesV, Nat.mod_one]
/-- A new row: the bytes, 80 marks behind them. -/
def Roomed (l : List UInt8) (m : Nat) (w : World) (e : Ending) (w' : World) : Prop :=
  e = .returned (.slice (some ⟨w.heap.size, 0, none⟩) (l.length + 80) (l.length + 80)) ∧ w'.ownsRow w.heap.size 5 1 (.slice (some ⟨w.heap.size, 0, none⟩) (l.length + 80) (l.length + 80)) (l.length + 80) (bytesV (roomL l m 80)) ∧ Below w.heap.size w w'
theorem room_src {B : Nat} {w : World} {a : Option Addr} {cap : Nat} {l : List UInt8} (h : SlB B w (.slice a l.length cap) l) (hB : B ≤ w.heap.size) (o : Obj) (p : Addr) :
    0 < (bytesV l).length → some p = some p ∧ ∃ ad, a = some ad ∧ ∀ (j : Nat) (v : Value), (bytesV l)[j]? = some v → (w.alloc o).cell? (ad.add j) = some v := by
  intro h0
  rcases h with ⟨rfl, _⟩ | ⟨b, off, cap', h1, h2, h3, _⟩
  · simp [bytesV] at h0
  · injection h1 with h1 _ _
    refine ⟨rfl, ⟨b, off, none⟩, h1, fun j v hv => ?_⟩
    have hj : j < l.length := by
      have := (List.getElem?_eq_some_iff.1 hv).1
      simpa [bytesV] using this
    have h4 := h3 j hj
    rw [show (⟨b, off, none⟩ : Addr).add j = ⟨b, off + j, none⟩ by unfold Addr.add; split <;> simp_all, (one_below w o).cell (p := ⟨b, off + j, none⟩) (by show b < _; omega), h4, ← hv, bytesV_at hj]
theorem room_start {w w' : World} {l : List UInt8} {m : Nat} (h : w'.heap[w.heap.size]? = some (.cells (splice (madeCells #[.int .u8 0] (l.length + 80)).toList 0 (bytesV l)).toArray 5 (0, 0))) (hl : l.length ≤ 100000) :
    w'.ownsRow w.heap.size 5 1 (.slice (some ⟨w.heap.size, 0, none⟩) (l.length + 80) (l.length + 80)) (l.length + 80) (bytesV (roomL l m 0)) := by
  have e : splice (madeCells #[.int .u8 0] (l.length + 80)).toList 0 (bytesV l) = bytesV (roomL l m 0) := by
    rw [made_u8]
    unfold splice roomL
    have : (bytesV l).length = l.length := by simp [bytesV]
    rw [List.take_zero, this, Nat.zero_add, List.nil_append, bytesV_append]
    congr 1
    simp [bytesV]
  rw [e] at h
  have hn : (bytesV (roomL l m 0)).length = l.length + 80 := by rw [bytesV_length, roomL_length _ _ _ (by omega)]
  refine ⟨by rw [hn, Nat.mul_one], Or.inr ⟨_, _, _, rfl, Nat.le_refl _, h, Nat.le_refl _, by unfold maxLen; omega, by simpa using hn, ?_⟩⟩
  rw [Nat.mul_one, ← hn]; simp
def RelRo (l : List UInt8) (m : Nat) (w : World) (i : Value) (wr : World) : Prop :=
  ∃ j : Nat, j ≤ 80 ∧ i = .int .i64 ((l.length : Int) + j) ∧ wr.ownsRow w.heap.size 5 1 (.slice (some ⟨w.heap.size, 0, none⟩) (l.length + 80) (l.length + 80)) (l.length + 80) (bytesV (roomL l m j)) ∧ Below w.heap.size w wr
/-- The beginning of such a row. -/
theorem room_head {w : World} {B g m : Nat} {l : List UInt8} (h : w.ownsRow B 5 1 (.slice (some ⟨g, 0, none⟩) (l.length + 80) (l.length + 80)) (l.length + 80) (bytesV (roomL l m 80))) : SlB w.heap.size w (.slice (some ⟨g, 0, none⟩) l.length (l.length + 80)) l := by
  have hlr : (roomL l m 80).length = l.length + 80 := roomL_length _ _ _ (by omega)
  have h1 : SlB w.heap.size w (.slice (some ⟨g, 0, none⟩) (l.length + 80) (l.length + 80)) (roomL l m 80) := slb_own (B := B) (by rw [hlr]; exact h)
  have h2 := slb_take (l := roomL l m 80) (m := l.length) (cap := l.length + 80) (a := some ⟨g, 0, none⟩) (B := w.heap.size) (w := w) (by rw [hlr]; exact h1) (by omega)
  rwa [show (roomL l m 80).take l.length = l by simp [roomL]] at h2
theorem room_whole {w : World} {B g m : Nat} {l : List UInt8} (h : w.ownsRow B 5 1 (.slice (some ⟨g, 0, none⟩) (l.length + 80) (l.length + 80)) (l.length + 80) (bytesV (roomL l m 80))) : SlB w.heap.size w (.slice (some ⟨g, 0, none⟩) (l.length + 80) (l.length + 80)) (roomL l m 80) := by
  have hlr : (roomL l m 80).length = l.length + 80 := roomL_length _ _ _ (by omega)
  exact slb_own (B := B) (by rw [hlr]; exact h)
end Go.Proofs.YtidnmkghmaeniaaGreatDoor
/-
  Two rows of bytes that one statement makes, in whatever order: p, q := append([]byte{}, a..), append([]byte{}, b..).
-/
namespace Go.Proofs.YtidnmkghmaeniaaGreatDoor
open Go.RowKit
/-- The row of buildSlice, no cell long. -/
def Empty (B : Nat) (w : World) (g : Nat) : Prop := w.ownsRow B 5 1 (.slice (some ⟨g, 0, none⟩) 0 0) 0 []
theorem empty_new (B : Nat) (w wx : World) (hB : B ≤ w.heap.size) (h : wx.heap = (w.alloc (.cells #[] 5)).heap) : Empty B wx w.heap.size := by
  refine ⟨rfl, Or.inr ⟨w.heap.size, 0, #[], rfl, hB, ?_, Nat.le_refl _, Nat.zero_le _, rfl, rfl⟩⟩
  rw [h]; exact heap_alloc_new w _
theorem empty_new' (B : Nat) (w wx : World) (g : Nat) (hg : g = w.heap.size) (hB : B ≤ w.heap.size) (h : wx.heap = (w.alloc (.cells #[] 5)).heap) : Empty B wx g := by
  rw [hg]; exact empty_new B w wx hB h
theorem Empty.lt {B g : Nat} {w : World} (h : Empty B w g) : B ≤ g ∧ g < w.heap.size := by have := own_lt h; exact ⟨this.1, this.2.1⟩
theorem Empty.push {B g : Nat} {w wx : World} (h : Empty B w g) (o : Obj) (hx : wx.heap = (w.alloc o).heap) : Empty B wx g := by
  have h1 := own_below h (one_below w o)
  obtain ⟨a, b⟩ := h1
  exact ⟨a, by rw [hx]; exact b⟩
theorem SlB.heap {B : Nat} {w wx : World} {v : Value} {l : List UInt8} (h : SlB B w v l) (w1 : World) (hb : Below w1.heap.size w w1) (hB : B ≤ w1.heap.size) (hx : wx.heap = w1.heap) : SlB B wx v l := by
  refine h.mono fun b o hlt => ?_
  have h1 := hb.cell (p := ⟨b, o, none⟩) (show b < w1.heap.size by omega)
  unfold World.cell? at *
  rw [hx]; exact h1
theorem Grew.ne {w w' : World} {r r' : Option Nat} (h : Grew w r w' r') {g : Nat} (hg : g < w.heap.size) (hr : r ≠ some g) : r' ≠ some g := by
  rcases h.own with e | e
  · rw [e]; exact hr
  · intro e'; have := e g e'; omega
/-- Both rows, apart. -/
structure Twin (w1 : World) (v u : Value) (l m : List UInt8) (w : World) : Prop where
  fst : w.ownsRow w1.heap.size 5 1 v l.length (bytesV l)
  snd : w.ownsRow w1.heap.size 5 1 u m.length (bytesV m)
  apart : v.ownBlock = none ∨ v.ownBlock ≠ u.ownBlock
  apart' : u.ownBlock = none ∨ u.ownBlock ≠ v.ownBlock
  below : Below w1.heap.size w1 w
theorem Twin.swap {w1 w : World} {v u : Value} {l m : List UInt8} (h : Twin w1 v u l m w) : Twin w1 u v m l w := ⟨h.snd, h.fst, h.apart', h.apart, h.below⟩
/-- Behind the first of the two. -/
structure One (w1 : World) (v : Value) (l : List UInt8) (w : World) : Prop where
  fst : w.ownsRow w1.heap.size 5 1 v l.length (bytesV l)
  below : Below w1.heap.size w1 w
theorem one_of {w1 wx w2 : World} {v2 : Value} {g : Nat} {l : List UInt8} (hb : Below w1.heap.size w1 wx) (he : Empty w1.heap.size wx g) (hown : w2.ownsRow w1.heap.size 5 1 v2 (0 + l.length) ([] ++ bytesV l)) (hg : Grew wx (some g) w2 v2.ownBlock) : One w1 v2 l w2 := by
  rw [Nat.zero_add, List.nil_append] at hown
  exact ⟨hown, hb.trans (hg.below hb.size fun k hk => by injection hk with hk; have := he.lt; omega)⟩
/-- The other row, not yet written, stays. -/
theorem Empty.kept {w1 wx w2 : World} {r' : Option Nat} {g g' : Nat} (he : Empty w1.heap.size wx g') (hg : Grew wx (some g) w2 r') (hne : g' ≠ g) : Empty w1.heap.size w2 g' ∧ r' ≠ some g' :=
  ⟨World.ownsRow.kept he hg.by_ (Or.inr fun e => hne (by injection e)), hg.ne he.lt.2 fun e => hne (by injection e with e; exact e.symm)⟩
theorem twin_of {w1 wx w2 : World} {v u : Value} {g : Nat} {l m : List UInt8} (h1 : One w1 v l wx) (he : Empty w1.heap.size wx g) (hne : v.ownBlock ≠ some g) (hown : w2.ownsRow w1.heap.size 5 1 u (0 + m.length) ([] ++ bytesV m)) (hg : Grew wx (some g) w2 u.ownBlock) : Twin w1 v u l m w2 := by
  have h2 := one_of h1.below he hown hg
  have hap : v.ownBlock = none ∨ v.ownBlock ≠ u.ownBlock := by
    cases hv : v.ownBlock with
    | none => exact Or.inl rfl
    | some k =>
      have hk := (own_block h1.fst hv).2
      refine Or.inr fun e => ?_
      exact hg.ne hk (fun e' => hne (by rw [hv]; exact e'.symm)) e.symm
  refine ⟨World.ownsRow.kept h1.fst hg.by_ (Or.inr hne), h2.fst, hap, ?_, h2.below⟩
  rcases hap with h | h
  · rw [h]
    cases hu : u.ownBlock with
    | none => exact Or.inl rfl
    | some k => exact Or.inr (by simp)
  · exact Or.inr fun e => h e.symm
theorem one_push {w1 w wx : World} {v : Value} {l : List UInt8} (h : One w1 v l w) (o : Obj) (hx : wx.heap = (w.alloc o).heap) (hb : Below w1.heap.size w1 wx) : One w1 v l wx := by
  have h1 := own_below h.fst (one_below w o)
  obtain ⟨a, b⟩ := h1
  exact ⟨⟨a, by rw [hx]; exact b⟩, hb⟩
theorem one_ne {w1 w : World} {v : Value} {l : List UInt8} (h : One w1 v l w) : v.ownBlock ≠ some w.heap.size := fun e => by have := (own_block h.fst e).2; omega
theorem Twin.below_ {w1 w w' : World} {v u : Value} {l m : List UInt8} (h : Twin w1 v u l m w) (hb : Below w.heap.size w w') : Twin w1 v u l m w' :=
  ⟨own_below h.fst hb, own_below h.snd hb, h.apart, h.apart', h.below.trans (hb.mono h.below.size)⟩
theorem Twin.fst_to {w1 w w' : World} {v u : Value} {l l' m : List UInt8} (h : Twin w1 v u l m w) (ha : w'.ownsRow w1.heap.size 5 1 v l'.length (bytesV l')) (hg : Grew w v.ownBlock w' v.ownBlock) : Twin w1 v u l' m w' :=
  ⟨ha, World.ownsRow.kept h.snd hg.by_ h.apart', h.apart, h.apart', h.below.trans (hg.below h.below.size fun _ hk => (own_block h.fst hk).1)⟩
theorem Twin.snd_to {w1 w w' : World} {v u : Value} {l m m' : List UInt8} (h : Twin w1 v u l m w) (ha : w'.ownsRow w1.heap.size 5 1 u m'.length (bytesV m')) (hg : Grew w u.ownBlock w' u.ownBlock) : Twin w1 v u l m' w' :=
  (h.swap.fst_to ha hg).swap
end Go.Proofs.YtidnmkghmaeniaaGreatDoor
/-
  The reference's disk in memory: rows of bytes that nobody turns, a map of what waits, a map of what has rotted.
-/
namespace Go.Proofs.YtidnmkghmaeniaaGreatDoor
open Go.RowKit Go.Deep Dk Go.Maps
/-- v is a slice of the 128 bytes l, in a row of bytes. -/
def ByteRow (w : World) (v : Value) (l : Sec) : Prop := l.length = 128 ∧ ∃ g cap cur, v = .slice (some ⟨g, 0, none⟩) 128 cap ∧ 128 ≤ cap ∧ w.heap[g]? = some (.cells cur 5 (0, 0)) ∧ cur.toList.take 128 = bytesV l
theorem ByteRow.keep {w w' : World} {v : Value} {l : Sec} (h : ByteRow w v l) (hk : ∀ (g : Nat) (cur : Array Value), w.heap[g]? = some (.cells cur 5 (0, 0)) → w'.heap[g]? = w.heap[g]?) : ByteRow w' v l := by
  obtain ⟨hl, g, cap, cur, h1, h2, h3, h4⟩ := h
  exact ⟨hl, g, cap, cur, h1, h2, (hk g cur h3).trans h3, h4⟩
theorem ByteRow.slb {w : World} {v : Value} {l : Sec} (h : ByteRow w v l) : SlB w.heap.size w v l := by
  obtain ⟨hl, g, cap, cur, rfl, h2, h3, h4⟩ := h
  have hh : Holds w g (bytesV l) := fun i u hu => by
    rw [cell_of_row w g i cur _ _ h3]
    rw [← h4, List.getElem?_take] at hu
    split at hu
    · simpa using hu
    · cases hu
  have := slb_lit (cap := cap) hh (Array.getElem?_eq_some_iff.1 h3).1 (by omega)
  rwa [hl] at this
theorem ByteRow.of_own {w : World} {B : Nat} {v : Value} {l : Sec} (h : w.ownsRow B 5 1 v 128 (bytesV l)) (hl : l.length = 128) : ByteRow w v l := by
  rcases h.2 with ⟨_, h0⟩ | ⟨g, cap, cur, rfl, _, hg, hle, _, _, ht⟩
  · omega
  · exact ⟨hl, g, cap, cur, rfl, hle, hg, by simpa using ht⟩
/-- How a slice in a map reads: where it lies. -/
def slR (v : Value) : Option (DataW Unit × List MemPlace) :=
  match v with
  | .slice none 0 0 => some (.nil, [])
  | .slice (some ⟨g, 0, none⟩) n cap => some (.agg [.lit (.int .i64 g), .lit (.int .i64 n), .lit (.int .i64 cap)], [])
  | _ => none
theorem slR_nil : slR (.slice none 0 0) = some (.nil, []) := rfl
theorem slR_some (g n cap : Nat) : slR (.slice (some ⟨g, 0, none⟩) n cap) = some (.agg [.lit (.int .i64 g), .lit (.int .i64 n), .lit (.int .i64 cap)], []) := rfl
theorem slR_inj {v v' : Value} {z z' : DataW Unit × List MemPlace} (h : slR v = some z) (h' : slR v' = some z') (e : z.1 = z'.1) : v = v' := by
  unfold slR at h h'
  split at h <;> split at h' <;> (first | (cases h; done) | (cases h'; done) | skip)
  · rfl
  · cases h; cases h'; cases e
  · cases h; cases h'; cases e
  · cases h; cases h'
    simp only [DataW.agg.injEq, List.cons.injEq, DataW.lit.injEq, Lit.int.injEq, true_and, and_true] at e
    obtain ⟨e1, e2, e3⟩ := e
    have e1 := Int.ofNat.inj e1
    have e2 := Int.ofNat.inj e2
    have e3 := Int.ofNat.inj e3
    subst e1 e2 e3; rfl
/-- Block C is the map of what waits. -/
structure CacheIn (w : World) (C n : Nat) (D : DataW Unit) (f : Nat → Option Sec) : Prop where
  own : w.ownsMap Tryz.prog 3 slR C (Maps.size D) D
  key : ∀ kl, Maps.has D kl = true → ∃ i : Nat, i < n ∧ kl = kI i
  miss : ∀ i, i < n → f i = none → Maps.has D (kI i) = false
  hit : ∀ i l, i < n → f i = some l → ∃ v d, slR v = some (d, []) ∧ (∀ z, D.atKey (kI i) z = d) ∧ Maps.has D (kI i) = true ∧ ByteRow w v l
/-- Block E is the map of what has rotted. -/
structure BadIn (w : World) (E n : Nat) (D : DataW Unit) (f : Nat → Bool) : Prop where
  own : w.ownsMap Tryz.prog 3 (plainElem Tryz.prog 4) E (Maps.size D) D
  key : ∀ kl, Maps.has D kl = true → ∃ i : Nat, i < n ∧ kl = kI i
  at_ : ∀ i, i < n → D.atKey (kI i) (.lit (.bool false)) = .lit (.bool (f i))
structure RefIn (w : World) (r A C E : Nat) (s : St) : Prop where
  ok : s.Ok
  pos : 1 ≤ s.n
  ne : C ≠ E
  top : ∃ capA, s.n ≤ capA ∧ w.heap[r]? = some (.cells #[.slice (some ⟨A, 0, none⟩) s.n capA, .map (some C), .map (some E), .bool s.dead] 131 (0, 0))
  rows : ∃ cur : Array Value, w.heap[A]? = some (.cells cur 106 (0, 0)) ∧ s.n ≤ cur.size ∧ ∀ i, i < s.n → ∃ v, cur[i]? = some v ∧ ByteRow w v (s.st i)
  cache : ∃ D, CacheIn w C s.n D s.wt
  bad : ∃ D, BadIn w E s.n D s.rot
/-- What turns when the reference's disk is written. -/
structure RChg (r A C E : Nat) (w w' : World) : Prop where
  os : w'.os = w.os
  tape : w'.tape = w.tape
  output : w'.output = w.output
  size : w.heap.size ≤ w'.heap.size
  block : ∀ k, k < w.heap.size → k ≠ r → k ≠ A → k ≠ C → k ≠ E → w'.heap[k]? = w.heap[k]?
theorem RChg.refl (r A C E : Nat) (w : World) : RChg r A C E w w := ⟨rfl, rfl, rfl, Nat.le_refl _, fun _ _ _ _ _ _ => rfl⟩
theorem RChg.trans {r A C E : Nat} {w w1 w2 : World} (h : RChg r A C E w w1) (h2 : RChg r A C E w1 w2) : RChg r A C E w w2 :=
  ⟨h2.os.trans h.os, h2.tape.trans h.tape, h2.output.trans h.output, Nat.le_trans h.size h2.size, fun k hk a b c e => (h2.block k (Nat.lt_of_lt_of_le hk h.size) a b c e).trans (h.block k hk a b c e)⟩
theorem RChg.of_below {r A C E : Nat} {w w' : World} (h : Below w.heap.size w w') : RChg r A C E w w' := ⟨h.os, h.tape, h.output, h.size, fun k hk _ _ _ _ => h.block k hk⟩
theorem RChg.of_grown {r A C E g : Nat} {w w' : World} (h : w.grownBy w' (some g)) (hg : g = r ∨ g = A ∨ g = C ∨ g = E) : RChg r A C E w w' :=
  ⟨h.os, h.tape, h.output, h.size, fun k hk a b c e => h.block k hk (by rcases hg with rfl | rfl | rfl | rfl <;> simpa)⟩
theorem RChg.below {r A C E B : Nat} {w w' : World} (h : RChg r A C E w w') (hB : B ≤ w.heap.size) (h1 : B ≤ r) (h2 : B ≤ A) (h3 : B ≤ C) (h4 : B ≤ E) : Below B w w' :=
  ⟨h.os, h.tape, h.output, h.size, fun k hk => h.block k (by omega) (by omega) (by omega) (by omega) (by omega)⟩
theorem RChg.of_drew {r A C E : Nat} {w w' : World} (h : RChg r A C E w.drew w') : RChg r A C E w w' := ⟨h.os, h.tape, h.output, h.size, h.block⟩
theorem RefIn.lt {w : World} {r A C E : Nat} {s : St} (h : RefIn w r A C E s) : r < w.heap.size ∧ A < w.heap.size ∧ C < w.heap.size ∧ E < w.heap.size := by
  obtain ⟨capA, _, h1⟩ := h.top
  obtain ⟨cur, h2, _⟩ := h.rows
  obtain ⟨D, h3⟩ := h.cache
  obtain ⟨D', h4⟩ := h.bad
  exact ⟨(Array.getElem?_eq_some_iff.1 h1).1, (Array.getElem?_eq_some_iff.1 h2).1, h3.own.lt, h4.own.lt⟩
/-- No row of bytes is one of its blocks. -/
theorem RefIn.off {w : World} {r A C E : Nat} {s : St} (h : RefIn w r A C E s) {g : Nat} {cur : Array Value} (hg : w.heap[g]? = some (.cells cur 5 (0, 0))) : g ≠ r ∧ g ≠ A ∧ g ≠ C ∧ g ≠ E := by
  obtain ⟨capA, _, h1⟩ := h.top
  obtain ⟨c2, h2, _⟩ := h.rows
  obtain ⟨D, ⟨⟨es, ck, h3, _⟩, _⟩⟩ := h.cache
  obtain ⟨D', ⟨⟨es', ck', h4, _⟩, _⟩⟩ := h.bad
  refine ⟨fun e => ?_, fun e => ?_, fun e => ?_, fun e => ?_⟩
  · rw [e, h1] at hg; injection hg with hg; injection hg with _ hg _; cases hg
  · rw [e, h2] at hg; injection hg with hg; injection hg with _ hg _; cases hg
  · rw [e, h3] at hg; cases hg
  · rw [e, h4] at hg; cases hg
theorem RefIn.apart {w : World} {r A C E : Nat} {s : St} (h : RefIn w r A C E s) : r ≠ A ∧ r ≠ C ∧ r ≠ E ∧ A ≠ C ∧ A ≠ E := by
  obtain ⟨capA, _, h1⟩ := h.top
  obtain ⟨c2, h2, _⟩ := h.rows
  obtain ⟨D, ⟨⟨es, ck, h3, _⟩, _⟩⟩ := h.cache
  obtain ⟨D', ⟨⟨es', ck', h4, _⟩, _⟩⟩ := h.bad
  refine ⟨fun e => ?_, fun e => ?_, fun e => ?_, fun e => ?_, fun e => ?_⟩
  · rw [e, h2] at h1; injection h1 with h1; injection h1 with _ h1 _; cases h1
  · rw [e, h3] at h1; cases h1
  · rw [e, h4] at h1; cases h1
  · rw [e, h3] at h2; cases h2
  · rw [e, h4] at h2; cases h2
theorem CacheIn.keep {w w' : World} {C n : Nat} {D : DataW Unit} {f : Nat → Option Sec} (h : CacheIn w C n D f) (hb : w'.heap[C]? = w.heap[C]?) (hk : ∀ (g : Nat) (cur : Array Value), w.heap[g]? = some (.cells cur 5 (0, 0)) → w'.heap[g]? = w.heap[g]?) : CacheIn w' C n D f := by
  obtain ⟨⟨es, clock, h1, h2⟩, h3, h4, h5⟩ := h
  refine ⟨⟨es, clock, hb.trans h1, h2⟩, h3, h4, fun i l hi hl => ?_⟩
  obtain ⟨v, d, a1, a2, a3, a4⟩ := h5 i l hi hl
  exact ⟨v, d, a1, a2, a3, a4.keep hk⟩
theorem BadIn.keep {w w' : World} {E n : Nat} {D : DataW Unit} {f : Nat → Bool} (h : BadIn w E n D f) (hb : w'.heap[E]? = w.heap[E]?) : BadIn w' E n D f := by
  obtain ⟨⟨es, clock, h1, h2⟩, h3, h4⟩ := h
  exact ⟨⟨es, clock, hb.trans h1, h2⟩, h3, h4⟩
/-- Where all that it has stays, it stays. -/
theorem RefIn.keep {w w' : World} {r A C E : Nat} {s : St} (h : RefIn w r A C E s) (h1 : w'.heap[r]? = w.heap[r]?) (h2 : w'.heap[A]? = w.heap[A]?) (h3 : w'.heap[C]? = w.heap[C]?) (h4 : w'.heap[E]? = w.heap[E]?)
    (hk : ∀ (g : Nat) (cur : Array Value), w.heap[g]? = some (.cells cur 5 (0, 0)) → w'.heap[g]? = w.heap[g]?) : RefIn w' r A C E s := by
  obtain ⟨capA, a1, a2⟩ := h.top
  obtain ⟨cur, b1, b2, b3⟩ := h.rows
  obtain ⟨D, c1⟩ := h.cache
  obtain ⟨D', d1⟩ := h.bad
  refine ⟨h.ok, h.pos, h.ne, ⟨capA, a1, h1.trans a2⟩, ⟨cur, h2.trans b1, b2, fun i hi => ?_⟩, ⟨D, c1.keep h3 hk⟩, ⟨D', d1.keep h4⟩⟩
  obtain ⟨v, e1, e2⟩ := b3 i hi
  exact ⟨v, e1, e2.keep hk⟩
theorem RefIn.below {w w' : World} {r A C E : Nat} {s : St} (h : RefIn w r A C E s) (hb : Below w.heap.size w w') : RefIn w' r A C E s := by
  obtain ⟨b1, b2, b3, b4⟩ := h.lt
  exact h.keep (hb.block r b1) (hb.block A b2) (hb.block C b3) (hb.block E b4) fun g cur hg => hb.block g (Array.getElem?_eq_some_iff.1 hg).1
theorem RefIn.drew {w : World} {r A C E : Nat} {s : St} (h : RefIn w r A C E s) : RefIn w.drew r A C E s := h.keep rfl rfl rfl rfl fun _ _ _ => rfl
/-- A disk that is written leaves the reference's alone. -/
theorem RefIn.chg {w w' : World} {r A C E d S M : Nat} {s t : St} (h : RefIn w r A C E s) (hd : DiskIn w d S M t) (hCM : C ≠ M) (hEM : E ≠ M) (hc : Chg d S M w w') : RefIn w' r A C E s := by
  obtain ⟨b1, b2, b3, b4⟩ := h.lt
  obtain ⟨capA, _, t1⟩ := h.top
  obtain ⟨c2, t2, _⟩ := h.rows
  obtain ⟨D, ⟨⟨es, ck, t3, _⟩, _⟩⟩ := h.cache
  obtain ⟨D', ⟨⟨es', ck', t4, _⟩, _⟩⟩ := h.bad
  obtain ⟨Dm, hm⟩ := hd.map_
  obtain ⟨⟨esm, ckm, hM, _⟩, _⟩ := hm
  have hne : ∀ k cur ty, w.heap[k]? = some (.cells cur ty (0, 0)) → ty ≠ 224 → ty ≠ 228 → k ≠ d ∧ k ≠ S ∧ k ≠ M := fun k cur ty hk n1 n2 => by
    refine ⟨fun e => ?_, fun e => ?_, fun e => ?_⟩
    · rw [e, hd.top] at hk; injection hk with hk; injection hk with _ hk _; exact n1 hk.symm
    · rw [e, hd.secs] at hk; injection hk with hk; injection hk with _ hk _; exact n2 hk.symm
    · rw [e, hM] at hk; cases hk
  have hmp : ∀ k es ck, w.heap[k]? = some (.map es ck) → k ≠ d ∧ k ≠ S := fun k es ck hk => by
    refine ⟨fun e => ?_, fun e => ?_⟩
    · rw [e, hd.top] at hk; cases hk
    · rw [e, hd.secs] at hk; cases hk
  have n1 := hne r _ _ t1 (by decide) (by decide)
  have n2 := hne A _ _ t2 (by decide) (by decide)
  have n3 := hmp C _ _ t3
  have n4 := hmp E _ _ t4
  refine h.keep (hc.block r b1 n1.1 n1.2.1 n1.2.2) (hc.block A b2 n2.1 n2.2.1 n2.2.2) (hc.block C b3 n3.1 n3.2 hCM) (hc.block E b4 n4.1 n4.2 hEM) fun g cur hg => ?_
  have n5 := hne g _ _ hg (by decide) (by decide)
  exact hc.block g (Array.getElem?_eq_some_iff.1 hg).1 n5.1 n5.2.1 n5.2.2
/-- The reference's disk that is written leaves a disk alone. -/
theorem DiskIn.rchg {w w' : World} {r A C E d S M : Nat} {s t : St} (h : DiskIn w d S M t) (hr : RefIn w r A C E s) (hCM : C ≠ M) (hEM : E ≠ M) (hc : RChg r A C E w w') : DiskIn w' d S M t := by
  obtain ⟨b1, b2, b3⟩ := h.lt
  obtain ⟨capA, _, t1⟩ := hr.top
  obtain ⟨c2, t2, _⟩ := hr.rows
  obtain ⟨D, ⟨⟨es, ck, t3, _⟩, _⟩⟩ := hr.cache
  obtain ⟨D', ⟨⟨es', ck', t4, _⟩, _⟩⟩ := hr.bad
  obtain ⟨Dm, hm⟩ := h.map_
  obtain ⟨⟨esm, ckm, hM, _⟩, _⟩ := hm
  have hne : ∀ k cur ty, w.heap[k]? = some (.cells cur ty (0, 0)) → ty ≠ 131 → ty ≠ 106 → k ≠ r ∧ k ≠ A ∧ k ≠ C ∧ k ≠ E := fun k cur ty hk n1 n2 => by
    refine ⟨fun e => ?_, fun e => ?_, fun e => ?_, fun e => ?_⟩
    · rw [e, t1] at hk; injection hk with hk; injection hk with _ hk _; exact n1 hk.symm
    · rw [e, t2] at hk; injection hk with hk; injection hk with _ hk _; exact n2 hk.symm
    · rw [e, t3] at hk; cases hk
    · rw [e, t4] at hk; cases hk
  have n1 := hne d _ _ h.top (by decide) (by decide)
  have n2 := hne S _ _ h.secs (by decide) (by decide)
  refine h.keep (hc.block d b1 n1.1 n1.2.1 n1.2.2.1 n1.2.2.2) (hc.block S b2 n2.1 n2.2.1 n2.2.2.1 n2.2.2.2) (hc.block M b3 (fun e => ?_) (fun e => ?_) (fun e => hCM e.symm) (fun e => hEM e.symm))
  · rw [e, t1] at hM; cases hM
  · rw [e, t2] at hM; cases hM
theorem RefIn.cells {w : World} {r A C E : Nat} {s : St} (h : RefIn w r A C E s) : ∃ capA, s.n ≤ capA ∧ w.cell? ⟨r, 0, none⟩ = some (.slice (some ⟨A, 0, none⟩) s.n capA) ∧ w.cell? ⟨r, 1, none⟩ = some (.map (some C)) ∧ w.cell? ⟨r, 2, none⟩ = some (.map (some E)) ∧ w.cell? ⟨r, 3, none⟩ = some (.bool s.dead) := by
  obtain ⟨capA, h0, h1⟩ := h.top
  exact ⟨capA, h0, by rw [cell_of_row w r 0 _ _ _ h1]; rfl, by rw [cell_of_row w r 1 _ _ _ h1]; rfl, by rw [cell_of_row w r 2 _ _ _ h1]; rfl, by rw [cell_of_row w r 3 _ _ _ h1]; rfl⟩
theorem RefIn.row {w : World} {r A C E : Nat} {s : St} (h : RefIn w r A C E s) {i : Nat} (hi : i < s.n) : ∃ v, w.cell? ⟨A, i, none⟩ = some v ∧ ByteRow w v (s.st i) := by
  obtain ⟨cur, h1, _, h3⟩ := h.rows
  obtain ⟨v, e1, e2⟩ := h3 i hi
  exact ⟨v, by rw [cell_of_row w A i _ _ _ h1]; exact e1, e2⟩
end Go.Proofs.YtidnmkghmaeniaaGreatDoor
/-
  m[k] = v as two operations, the entry and the store into it, over keys that are numbers.
-/
namespace Go.Proofs.YtidnmkghmaeniaaGreatDoor
open Go.RowKit Go.Deep Dk Go.Maps
noncomputable abbrev boolR : Value → Option (DataW Unit × List MemPlace) := plainElem Tryz.prog 4
/-- What the store finds by the entry's stamp. -/
theorem stamp_found {P : Program} {w2 : World} {E t : Nat} {es : Array MapEntry} {clock j born : Nat} {val : Value} (hb : w2.heap[E]? = some (.map es clock)) (hj : es.findIdx? (fun e => ((e.born : Nat) : Int) == ((born : Nat) : Int)) = some j) :
    (Instr.entryStore t (.map (some E)) (.int .i64 (born : Int)) val).run P w2 = .ok () { w2 with heap := w2.heap.setIfInBounds E (.map (es.modify j fun e => { e with val := val }) clock) } := by
  simp [Instr.entryStore, MapKept.run_getObj_map hb, asInt, asIntOf, hj, MapKept.run_setObj_map _ hb, Result.andThen]
theorem grown_block {w : World} {E : Nat} (o : Obj) : w.grownBy { w with heap := w.heap.setIfInBounds E o } (some E) :=
  ⟨rfl, rfl, rfl, by simp, fun k _ hk => by show (w.heap.setIfInBounds E o)[k]? = _; rw [Array.getElem?_setIfInBounds_ne (fun e => hk (by rw [e]))]⟩
theorem entry_two {w : World} {E m i : Nat} {D : DataW Unit} (h : w.ownsMap Tryz.prog 3 boolR E m D) (hm : m < 1000000) (hi : i < 1000000) (b : Bool) :
    ∃ v0 born w1, (Instr.mapEntry 129 (.map (some E)) (.int .i64 (i : Int))).run Tryz.prog w = .ok (.tuple #[v0, .int .i64 ((born : Nat) : Int)]) w1 ∧ w.grownBy w1 (some E) ∧
      ∀ w2 : World, w2.heap[E]? = w1.heap[E]? → ∃ w3, (Instr.entryStore 129 (.map (some E)) (.int .i64 ((born : Nat) : Int)) (.bool b)).run Tryz.prog w2 = .ok () w3 ∧ w2.grownBy w3 (some E) ∧ w3.ownsMap Tryz.prog 3 boolR E (m + 1) (D.put (kI i) (.lit (.bool b))) := by
  have hkey := key_kI (i := i) hi
  have hbool := plainElem_bool (H := Unit) Tryz.underlying4 b
  obtain ⟨w', hrun, hown, hgr⟩ := h.update keyed Tryz.underlying129 (by unfold maxLen; omega) hkey hbool
  obtain ⟨es, clock, hb, F, hsz, hD⟩ := h
  obtain ⟨s1, s2, _⟩ := F.stamped
  have hlt : E < w.heap.size := (Array.getElem?_eq_some_iff.1 hb).1
  -- whatever block the two operations leave, it is the one that the plain store leaves
  have fin : ∀ (es' : Array MapEntry) (ck : Nat), (Instr.mapUpdate 129 (.map (some E)) (.int .i64 (i : Int)) (.bool b)).run Tryz.prog w = .ok () { w with heap := w.heap.setIfInBounds E (.map es' ck) } →
      ∀ w2 : World, E < w2.heap.size → World.ownsMap { w2 with heap := w2.heap.setIfInBounds E (.map es' ck) } Tryz.prog 3 boolR E (m + 1) (D.put (kI i) (.lit (.bool b))) := fun es' ck he w2 hl => by
    rw [hrun] at he
    injection he with _ he
    obtain ⟨es2, ck2, e1, e2⟩ := hown
    rw [he] at e1
    have e3 : (w.heap.setIfInBounds E (Obj.map es' ck))[E]? = some (Obj.map es2 ck2) := e1
    rw [Array.getElem?_setIfInBounds_self_of_lt hlt] at e3
    injection e3 with e3
    injection e3 with e3 e4
    subst e3 e4
    exact ⟨es', ck, by show (w2.heap.setIfInBounds E _)[E]? = _; rw [Array.getElem?_setIfInBounds_self_of_lt hl], e2⟩
  rcases keyed.find w hkey es.toList F.keys with ⟨f1, f2⟩ | ⟨j, e0, f1, f2, f3⟩
  · have hz : (zeroValue 4).run Tryz.prog w = .ok (.bool false) w := Tryz.zeroValue4 w
    refine ⟨.bool false, clock, { w with heap := w.heap.setIfInBounds E (.map (es.push ⟨.int .i64 (i : Int), .bool false, clock⟩) (clock + 1)) }, ?_, grown_block _, fun w2 hw2 => ?_⟩
    · simp [Instr.mapEntry, run_underlying Tryz.underlying129, MapKept.run_getObj_map hb, keyed.check w false hkey, f1, hz, MapKept.run_setObj_map _ hb, Result.andThen, goInt]
    · have hw2 : w2.heap[E]? = some (.map (es.push ⟨.int .i64 (i : Int), .bool false, clock⟩) (clock + 1)) := by
        rw [hw2]; show (w.heap.setIfInBounds E _)[E]? = _; rw [Array.getElem?_setIfInBounds_self_of_lt hlt]
      have hidx : (es.push ⟨.int .i64 (i : Int), .bool false, clock⟩).findIdx? (fun e => ((e.born : Nat) : Int) == ((clock : Nat) : Int)) = some es.size := by
        rw [WideElems.findIdx_arr]
        refine WideElems.findIdx_born (e0 := ⟨.int .i64 (i : Int), .bool false, clock⟩) ?_ (by simp)
        rw [Array.toList_push, List.map_append]
        refine List.nodup_append.2 ⟨s2, by simp, fun a ha c hc e => ?_⟩
        obtain ⟨x, hx, rfl⟩ := List.mem_map.1 ha
        rw [List.map_cons, List.map_nil, List.mem_singleton] at hc
        have := s1 x hx
        have hc : c = clock := hc
        omega
      have hmod : (es.push ⟨.int .i64 (i : Int), .bool false, clock⟩).modify es.size (fun e => { e with val := .bool b }) = es.push ⟨.int .i64 (i : Int), .bool b, clock⟩ := by
        refine Array.ext' ?_
        rw [Array.toList_modify, Array.toList_push, Array.toList_push, ← Array.length_toList, WideElems.modify_last]
      refine ⟨_, stamp_found hw2 hidx, grown_block _, ?_⟩
      rw [hmod]
      refine fin _ _ ?_ w2 (Array.getElem?_eq_some_iff.1 hw2).1
      simp [Instr.mapUpdate, run_underlying Tryz.underlying129, MapKept.run_getObj_map hb, keyed.check w false hkey, f1, MapKept.run_setObj_map _ hb, Result.andThen]
  · have hj : es[j]? = some e0 := by simpa using f2
    have hself : es.modify j (fun e => { e with key := .int .i64 (i : Int) }) = es := by
      refine Array.ext' ?_
      rw [Array.toList_modify, ChangeMaps.modify_eq_set _ _ _ _ f2, show ({ e0 with key := .int .i64 (i : Int) } : MapEntry) = e0 by rw [← f3]]
      exact WideElems.set_self _ _ _ f2
    refine ⟨e0.val, e0.born, { w with heap := w.heap.setIfInBounds E (.map es clock) }, ?_, grown_block _, fun w2 hw2 => ?_⟩
    · simp [Instr.mapEntry, run_underlying Tryz.underlying129, MapKept.run_getObj_map hb, keyed.check w false hkey, f1, hj, f3, keyed.stays w hkey, hself, MapKept.run_setObj_map _ hb, Result.andThen, goInt]
    · have hw2 : w2.heap[E]? = some (.map es clock) := by
        rw [hw2]; show (w.heap.setIfInBounds E _)[E]? = _; rw [Array.getElem?_setIfInBounds_self_of_lt hlt]
      have hidx : es.findIdx? (fun e => ((e.born : Nat) : Int) == ((e0.born : Nat) : Int)) = some j := by
        rw [WideElems.findIdx_arr]; exact WideElems.findIdx_born s2 f2
      refine ⟨_, stamp_found hw2 hidx, grown_block _, ?_⟩
      refine fin _ _ ?_ w2 (Array.getElem?_eq_some_iff.1 hw2).1
      have hmod : es.modify j (fun e => { e with val := .bool b }) = es.modify j (fun e => { e with key := .int .i64 (i : Int), val := .bool b }) := by
        refine Array.ext' ?_
        rw [Array.toList_modify, Array.toList_modify, ChangeMaps.modify_eq_set _ _ _ _ f2, ChangeMaps.modify_eq_set _ _ _ _ f2, ← f3]
      rw [hmod]
      simp [Instr.mapUpdate, run_underlying Tryz.underlying129, MapKept.run_getObj_map hb, keyed.check w false hkey, f1, hj, f3, keyed.stays w hkey, MapKept.run_setObj_map _ hb, Result.andThen]
end Go.Proofs.YtidnmkghmaeniaaGreatDoor
/-
  The reference's disk: has, Write, Read.
-/
namespace Go.Proofs.YtidnmkghmaeniaaGreatDoor
open Go.RowKit Go.Deep Dk Go.Maps
/-- The reference answers a number, and its disk is in its next state. -/
def RNext (r A C E : Nat) (s' : St) (v : Value) (w : World) (e : Ending) (w' : World) : Prop := e = .returned v ∧ RefIn w' r A C E s' ∧ RChg r A C E w w'
def IntSame (n : Int) (w : World) (e : Ending) (w' : World) : Prop := e = .returned (.int .i64 n) ∧ w = w'
set_option maxHeartbeats 1000000 in
set_option maxRecDepth 100000 in
theorem rhas_any {r A C E : Nat} {s : St} (w : World) (h : RefIn w r A C E s) (i : Int) : Calls Tryz.prog 133 #[.pointer (some ⟨r, 0, none⟩), .int .i64 i] w (BitSame (decide (0 ≤ i ∧ i < s.n)) w) := by
  obtain ⟨capA, _, c0, _⟩ := h.cells
  clear h
  by_cases h0 : 0 ≤ i
  · by_cases h1 : i < s.n
    · have hd : decide (0 ≤ i ∧ i < s.n) = true := by simp; omega
      have HD := Lib.hid hd; clear hd
      go_enter Tryz.func133, Tryz.ntmps133
      go_wp2
      go_ret
      exact bitSame HD.out.symm
    · go_enter Tryz.func133, Tryz.ntmps133
      go_wp2
      go_ret
      exact bitSame (by simp; omega)
  · go_enter Tryz.func133, Tryz.ntmps133
    go_wp2
    go_ret
    exact bitSame (by simp; omega)
theorem CacheIn.put {w w' : World} {C n m i : Nat} {D d : DataW Unit} {f : Nat → Option Sec} {v : Value} {l : Sec} (h : CacheIn w C n D f) (hi : i < n) (hv : slR v = some (d, [])) (hr : ByteRow w' v l)
    (hk : ∀ (g : Nat) (cur : Array Value), w.heap[g]? = some (.cells cur 5 (0, 0)) → w'.heap[g]? = w.heap[g]?) (hw : w'.ownsMap Tryz.prog 3 slR C m (D.put (kI i) d)) : CacheIn w' C n (D.put (kI i) d) (upd f i (some l)) := by
  have hm := h.own.isMap
  refine ⟨own_tight hw, fun kl hk => ?_, fun j hj hn => ?_, fun j c hj hc => ?_⟩
  · by_cases e : kl = kI i
    · exact ⟨i, hi, e⟩
    · rw [Maps.has_put_other e] at hk; exact h.key kl hk
  · by_cases e : j = i
    · subst e; rw [upd_same] at hn; cases hn
    · rw [upd_other _ _ e] at hn; rw [Maps.has_put_other (fun q => e (kI_inj q))]; exact h.miss j hj hn
  · by_cases e : j = i
    · subst e; rw [upd_same] at hc; cases hc
      exact ⟨v, d, hv, fun z => Maps.atKey_put_same hm (kI_key j) _ z, Maps.has_put_same hm (kI_key j) d, hr⟩
    · rw [upd_other _ _ e] at hc
      obtain ⟨v', d', a1, a2, a3, a4⟩ := h.hit j c hj hc
      exact ⟨v', d', a1, fun z => by rw [Maps.atKey_put_other (fun q => e (kI_inj q))]; exact a2 z, by rw [Maps.has_put_other (fun q => e (kI_inj q))]; exact a3, a4.keep hk⟩
theorem RefIn.write {w w1 w2 : World} {r A C E m i : Nat} {s : St} {D d : DataW Unit} {v : Value} {l : Sec} (h : RefIn w r A C E s) (hC : CacheIn w C s.n D s.wt) (hb : Below w.heap.size w w1) (hi : i < s.n) (hv : slR v = some (d, [])) (hr : ByteRow w1 v l)
    (hw : w2.ownsMap Tryz.prog 3 slR C m (D.put (kI i) d)) (hg : w1.grownBy w2 (some C)) : RefIn w2 r A C E (s.write i l) ∧ RChg r A C E w w2 := by
  obtain ⟨b1, b2, b3, b4⟩ := h.lt
  obtain ⟨a1, a2, a3, a4, a5⟩ := h.apart
  have hs := hb.size
  have h1 := h.below hb
  have key : ∀ (g : Nat) (cur : Array Value), w1.heap[g]? = some (.cells cur 5 (0, 0)) → w2.heap[g]? = w1.heap[g]? := fun g cur hgc => hg.block g (Array.getElem?_eq_some_iff.1 hgc).1 (by have := (h1.off hgc).2.2.1; simpa using this)
  have key0 : ∀ (g : Nat) (cur : Array Value), w.heap[g]? = some (.cells cur 5 (0, 0)) → w2.heap[g]? = w.heap[g]? := fun g cur hgc => by
    have hl := (Array.getElem?_eq_some_iff.1 hgc).1
    have e1 := hb.block g hl
    rw [key g cur (e1.trans hgc)]; exact e1
  have put := hC.put hi hv (hr.keep key) key0 hw
  obtain ⟨capA, t1, t2⟩ := h1.top
  obtain ⟨cur, r1, r2, r3⟩ := h1.rows
  obtain ⟨D', hB⟩ := h1.bad
  refine ⟨⟨h.ok.write hi hr.1, h.pos, h.ne, ⟨capA, t1, (hg.block r (by omega) (by simpa using a2)).trans t2⟩, ⟨cur, (hg.block A (by omega) (by simpa using a4)).trans r1, r2, fun j hj => ?_⟩, ⟨_, put⟩, ⟨D', hB.keep (hg.block E (by omega) (by have := h.ne; simpa using fun e => this e.symm))⟩⟩, (RChg.of_below hb).trans (RChg.of_grown hg (by simp))⟩
  obtain ⟨u, e1, e2⟩ := r3 j hj
  exact ⟨u, e1, e2.keep key⟩
theorem CacheIn.size {w : World} {C n : Nat} {D : DataW Unit} {f : Nat → Option Sec} (h : CacheIn w C n D f) : Maps.size D ≤ n := by
  obtain ⟨es, hD, hp, hk⟩ := h.own.entries keyed
  subst hD
  show es.length ≤ n
  have hmem : ∀ p ∈ es, ∃ i : Nat, i < n ∧ p.1 = kI i := fun p hpm => h.key p.1 (by
    rw [Maps.has_eq, List.any_eq_true]
    exact ⟨p, hpm, WideAt.sameKey_self (hk p hpm)⟩)
  have hn : (es.map fun p => Go.intOf p.1).Nodup := by
    rw [List.nodup_iff_pairwise_ne, List.pairwise_map]
    refine hp.imp_of_mem fun {p q} hpm hqm hne e => hne ?_
    obtain ⟨i, _, e1⟩ := hmem p hpm
    obtain ⟨j, _, e2⟩ := hmem q hqm
    rw [e1, e2] at e ⊢
    have e : (i : Int) = (j : Int) := e
    show Lit.int .i64 (i : Int) = Lit.int .i64 (j : Int)
    rw [e]
  have := nodup_bound _ ((List.range n).map Int.ofNat) hn fun a ha => by
    obtain ⟨p, hpm, rfl⟩ := List.mem_map.1 ha
    obtain ⟨i, hi, e⟩ := hmem p hpm
    exact List.mem_map.2 ⟨i, List.mem_range.2 hi, by rw [e]; rfl⟩
  simpa using this
theorem step_mapUpdate_own {P : Program} (w : World) {ops : Array Oper} {o : Oper} {a : Act} {K : Act → World → Prop} {Q : Exit → Act → World → Prop} {Z : Prop}
    (hg : o.guard = none) (m x v : Operand) (t : TypeId) (hop : o.op = Op.mapUpdate t m x v)
    (k e : TypeId) (Ky : Keyed P k) (ht : P.underlying t = some (.map k e)) (R : Value → Option (DataW Unit × List MemPlace)) (b n : Nat) (D : DataW Unit)
    (hm : a.eval m = .map (some b)) (hown : w.ownsMap P k R b n D) (hn : n < maxLen) (key val : Value) (kl : Lit) (hx : a.eval x = key) (hv : a.eval v = val) (hkey : keyOf P k key = some kl)
    (d : DataW Unit) (ps : List MemPlace) (hval : R val = some (d, ps))
    (h : ∀ w', w'.ownsMap P k R b (n + 1) (D.put kl d) → w.grownBy w' (some b) → K (a.put o.dst undef) w') : if Region.wanted o (yielded ops a.tmps) = true then Oper.wp P o a w K Q else Z := by
  rw [if_pos (by simp [Region.wanted, hg])]
  obtain ⟨w', hrun, r1, r2⟩ := hown.update Ky ht hn hkey hval
  unfold Oper.wp
  simp [execOp, hop, hm, hx, hv, hrun, Result.andThen]
  exact h w' r1 r2
def KB (w w' : World) : Prop := Below w.heap.size w w'
theorem KB.refl (w : World) : KB w w := Below.refl _ _
theorem KB.drew {w w' : World} (h : KB w w') : KB w w'.drew := Below.drew h
theorem KB.alloc {w w' : World} (h : KB w w') (o : Obj) : KB w (w'.alloc o) := balloc h o
set_option maxHeartbeats 1000000 in
set_option maxRecDepth 100000 in
theorem rwrite_dead {r A C E : Nat} {s : St} (w : World) (h : RefIn w r A C E s) (hd : s.dead = true) (i : Int) (v : Value) : Calls Tryz.prog 127 #[.pointer (some ⟨r, 0, none⟩), .int .i64 i, v] w (IntSame 5 w) := by
  obtain ⟨capA, _, _, _, _, c3⟩ := h.cells
  rw [hd] at c3
  clear h hd
  go_enter Tryz.func127, Tryz.ntmps127
  go_wp2
  go_ret
  exact ⟨rfl, rfl⟩
set_option maxHeartbeats 1000000 in
set_option maxRecDepth 100000 in
theorem rwrite_no {r A C E : Nat} {s : St} (w : World) (h : RefIn w r A C E s) (hd : s.dead = false) (i : Int) (a : Option Addr) (len cap : Nat) (hno : ¬ (0 ≤ i ∧ i < s.n ∧ len = 128)) :
    Calls Tryz.prog 127 #[.pointer (some ⟨r, 0, none⟩), .int .i64 i, .slice a len cap] w (IntSame 1 w) := by
  obtain ⟨capA, _, _, _, _, c3⟩ := h.cells
  rw [hd] at c3
  have HH := Lib.hid (rhas_any w h i)
  by_cases hi : 0 ≤ i ∧ i < s.n
  · rw [decide_eq_true hi] at HH
    have hl : ¬ (len : Int) = 128 := by omega
    have hl2 : ((len : Int) == 128) = false := by simpa using hl
    clear h hd hno hi
    go_enter Tryz.func127, Tryz.ntmps127
    go_wp2_with (go_at_call 133; refine HH.out.mono ?_; rintro e w' ⟨rfl, rfl⟩)
    go_ret
    exact ⟨rfl, rfl⟩
  · rw [decide_eq_false hi] at HH
    clear h hd hno hi
    go_enter Tryz.func127, Tryz.ntmps127
    go_wp2_with (go_at_call 133; refine HH.out.mono ?_; rintro e w' ⟨rfl, rfl⟩)
    go_ret
    exact ⟨rfl, rfl⟩
theorem byteRow_slR {w : World} {v : Value} {l : Sec} (h : ByteRow w v l) : ∃ d, slR v = some (d, []) := by
  obtain ⟨_, g, cap, cur, rfl, _⟩ := h
  exact ⟨_, slR_some g 128 cap⟩
theorem wrote_row {w wx w2 : World} {v2 : Value} {l : Sec} (hl : l.length = 128) (hk : KB w wx) (hown : w2.ownsRow w.heap.size 5 1 v2 (0 + l.length) ([] ++ bytesV l)) (hg : Grew wx (some w.heap.size) w2 v2.ownBlock) : ByteRow w2 v2 l ∧ KB w w2 := by
  rw [Nat.zero_add, List.nil_append, hl] at hown
  exact ⟨ByteRow.of_own hown hl, Below.trans hk (hg.below hk.size fun k hk => by injection hk with hk; omega)⟩
set_option maxHeartbeats 2000000 in
set_option maxRecDepth 100000 in
theorem rwrite_yes {r A C E B : Nat} {s : St} (w : World) (h : RefIn w r A C E s) (hd : s.dead = false) (i : Nat) (v : Value) (l : Sec) (hi : i < s.n) (hv : SlB B w v l) (hB : B ≤ w.heap.size) (hl : l.length = 128) :
    Calls Tryz.prog 127 #[.pointer (some ⟨r, 0, none⟩), .int .i64 (i : Int), v] w (RNext r A C E (s.write i l) (.int .i64 0) w) := by
  obtain ⟨capA, _, _, c1, _, c3⟩ := h.cells
  rw [hd] at c3
  have HH := Lib.hid (rhas_any w h i)
  rw [decide_eq_true (by omega)] at HH
  obtain ⟨D, hC⟩ := h.cache
  have hn := h.ok.n
  have hsz := hC.size
  have H0 := Lib.hid h
  have HC := Lib.hid hC
  have HV := Lib.hid (show ∀ w', KB w w' → SlB w.heap.size w' v l from fun w' hk => (hv.wider hB).below hk)
  obtain ⟨a, cap, rfl, _⟩ := hv.len
  rw [hl] at HV ⊢
  have HL := Lib.hid hl
  have hrl : r < w.heap.size := h.lt.1
  have hrC : r ≠ C := h.apart.2.1
  have HMEM := Lib.hid (fun w' (hk : KB w w') => show w'.cell? ⟨r, 1, none⟩ = some (.map (some C)) from (Below.cell hk (p := ⟨r, 1, none⟩) hrl).trans c1)
  have HOW := Lib.hid (fun w' (hk : KB w w') => show World.ownsMap w' Tryz.prog 3 slR C (Maps.size D) D from (hC.keep (w' := w') (Below.block hk C h.lt.2.2.1) fun g cur hg => Below.block hk g (Array.getElem?_eq_some_iff.1 hg).1).own)
  have hk0 := KB.refl w
  clear h hd hC hv hl
  go_enter Tryz.func127, Tryz.ntmps127
  go_wp2_with (go_at_call 133; refine HH.out.mono ?_; rintro e w' ⟨rfl, rfl⟩)
  go_region_held3 (fun w' => w'.cell? ⟨r, 1, none⟩ = some (.map (some C))) (first | assumption | exact HMEM.out _ (by repeat (first | assumption | refine KB.drew ?_ | refine KB.alloc ?_ _)))
    (first
      | (refine step_append_bytes (o := ⟨some 27, _, _, _, _, _⟩) _ rfl (.tmp 25) (.tmp 26) (by rfl) w.heap.size _ 0 [] (by rfl) ?_ w.heap.size _ l (by rfl) ?_ ?_ ?_ ?_; exact empty_new w.heap.size w _ (Nat.le_refl _) (by rfl); exact HV.out _ (by repeat (first | assumption | refine KB.drew ?_ | refine KB.alloc ?_ _)); (rw [HL.out]; omega); exact Below.size (B := w.heap.size) (w := w) (by repeat (first | assumption | refine KB.drew ?_ | refine KB.alloc ?_ _)); intro v2 w2 hown2 hg2; have HR2 := Lib.hid (wrote_row HL.out (KB.drew (KB.alloc hk0 _)) hown2 hg2); clear hown2 hg2; have hk2 : KB w w2 := HR2.out.2; obtain ⟨dd, hdd⟩ := byteRow_slR HR2.out.1; obtain ⟨w3, hrun3, hown3, hg3⟩ := World.ownsMap.update (HOW.out _ hk2) keyed Tryz.underlying128 (by unfold maxLen; omega) (key := .int .i64 (i : Int)) (key_kI (by omega)) hdd; have HZ := Lib.hid (H0.out.write HC.out hk2 hi hdd HR2.out.1 hown3 hg3); have hS3 : w3.cell? ⟨r, 1, none⟩ = some (.map (some C)) := (World.cell?_of_block (a := ⟨r, 1, none⟩) (hg3.block r (Nat.lt_of_lt_of_le hrl (Below.size hk2)) (by simpa using hrC))).trans (HMEM.out _ hk2); clear hown3 hg3))
  all_goals
    go_wp2
    go_ret
    exact ⟨rfl, HZ.out.1, HZ.out.2⟩
end Go.Proofs.YtidnmkghmaeniaaGreatDoor
/-
  The reference's disk: Read, keep.
-/
namespace Go.Proofs.YtidnmkghmaeniaaGreatDoor
open Go.RowKit Go.Deep Dk Go.Maps
theorem zero_slice (w : World) : (zeroValue 106).run Tryz.prog w = .ok (.slice none 0 0) w := Tryz.zeroValue106 w
theorem CacheIn.look {w : World} {C n i : Nat} {D : DataW Unit} {f : Nat → Option Sec} (h : CacheIn w C n D f) (hi : i < n) {v : Value} {ps : List MemPlace} (hv : slR v = some (D.atKey (kI i) .nil, ps)) :
    (f i = none ∧ Maps.has D (kI i) = false ∧ v = .slice none 0 0) ∨ ∃ l, f i = some l ∧ Maps.has D (kI i) = true ∧ ByteRow w v l := by
  cases hf : f i with
  | none =>
    have hh := h.miss i hi hf
    rw [Maps.atKey_of_not_has hh] at hv
    exact Or.inl ⟨rfl, hh, slR_inj hv slR_nil rfl⟩
  | some l =>
    obtain ⟨v', d, a1, a2, a3, a4⟩ := h.hit i l hi hf
    rw [a2] at hv
    have e : v = v' := slR_inj hv a1 rfl
    subst e
    exact Or.inr ⟨l, rfl, a3, a4⟩
theorem wpList_lookup_cache (w : World) {ops : Array Oper} {rest : List Oper} {o : Oper} {a : Act} {Q : Exit → Act → World → Prop} (hg : o.guard = none) (m x : Operand) (hop : o.op = Op.lookup 128 m x true)
    {C n i : Nat} {f : Nat → Option Sec} {D : DataW Unit} (hm : a.eval m = .map (some C)) (hx : a.eval x = .int .i64 (i : Int)) (hM : CacheIn w C n D f) (hi : i < n) (hn : n ≤ 128)
    (hK : ∀ v, ((f i = none ∧ v = .slice none 0 0) ∨ ∃ l, f i = some l ∧ ByteRow w v l) → wpList Tryz.prog ops Q rest (a.put o.dst (.tuple #[v, .bool (f i).isSome])) w) : wpList Tryz.prog ops Q (o :: rest) a w := by
  refine wpList_lookup_own_ok w hg m x 128 hop 3 106 keyed Tryz.underlying128 slR (zero_slice w) _ [] slR_nil C (Maps.size D) D hm hM.own _ (kI i) hx (key_kI (by omega)) fun v ps hv => ?_
  rcases hM.look hi hv with ⟨h1, h2, h3⟩ | ⟨l, h1, h2, h3⟩
  · rw [h2]
    have := hK v (Or.inl ⟨h1, h3⟩)
    rwa [h1] at this
  · rw [h2]
    have := hK v (Or.inr ⟨l, h1, h3⟩)
    rwa [h1] at this
def RReads (l : List UInt8) (w : World) (e : Ending) (w' : World) : Prop := ∃ v, e = .returned (.tuple #[v, .int .i64 0]) ∧ SlB w'.heap.size w' v l ∧ Below w.heap.size w w'
set_option maxHeartbeats 1000000 in
set_option maxRecDepth 100000 in
theorem rread_dead {r A C E : Nat} {s : St} (w : World) (h : RefIn w r A C E s) (hd : s.dead = true) (i : Int) : Calls Tryz.prog 136 #[.pointer (some ⟨r, 0, none⟩), .int .i64 i] w fun e w' => e = .returned (.tuple #[.slice none 0 0, .int .i64 5]) ∧ w = w' := by
  obtain ⟨capA, _, _, _, _, c3⟩ := h.cells
  rw [hd] at c3
  clear h hd
  go_enter Tryz.func136, Tryz.ntmps136
  go_wp2
  exact bodyPost_ret (v := .tuple #[.slice none 0 0, .int .i64 5]) (by simp [results, Tryz.results136, go_sem]) rfl ⟨rfl, rfl⟩
set_option maxHeartbeats 1000000 in
set_option maxRecDepth 100000 in
theorem rread_no {r A C E : Nat} {s : St} (w : World) (h : RefIn w r A C E s) (hd : s.dead = false) (i : Int) (hno : ¬ (0 ≤ i ∧ i < s.n)) : Calls Tryz.prog 136 #[.pointer (some ⟨r, 0, none⟩), .int .i64 i] w fun e w' => e = .returned (.tuple #[.slice none 0 0, .int .i64 1]) ∧ w = w' := by
  obtain ⟨capA, _, _, _, _, c3⟩ := h.cells
  rw [hd] at c3
  have HH := Lib.hid (rhas_any w h i)
  rw [decide_eq_false hno] at HH
  clear h hd hno
  go_enter Tryz.func136, Tryz.ntmps136
  go_wp2_with (go_at_call 133; refine HH.out.mono ?_; rintro e w' ⟨rfl, rfl⟩)
  exact bodyPost_ret (v := .tuple #[.slice none 0 0, .int .i64 1]) (by simp [results, Tryz.results136, go_sem]) rfl ⟨rfl, rfl⟩
set_option maxHeartbeats 2000000 in
set_option maxRecDepth 100000 in
theorem rread_yes {r A C E : Nat} {s : St} (w : World) (h : RefIn w r A C E s) (hd : s.dead = false) (i : Nat) (hi : i < s.n) :
    Calls Tryz.prog 136 #[.pointer (some ⟨r, 0, none⟩), .int .i64 (i : Int)] w (RReads (s.read i) w) := by
  obtain ⟨capA, hcap, c0, c1, _, c3⟩ := h.cells
  rw [hd] at c3
  have HH := Lib.hid (rhas_any w h i)
  rw [decide_eq_true (by omega)] at HH
  obtain ⟨D, hC⟩ := h.cache
  have HC := Lib.hid hC
  obtain ⟨vr, cr, hrow⟩ := h.row hi
  have HR := Lib.hid hrow
  have hn := h.ok.n
  have hlt := h.lt
  have HE := Lib.hid (show s.read i = (s.wt i).getD (s.st i) from rfl)
  have hlen : (s.read i).length = 128 := h.ok.read i
  have HLN := Lib.hid hlen
  generalize s.read i = rd at HE HLN ⊢
  have i1 : (i : Int) < s.n := by omega
  have i2 : (0 : Int) ≤ i := by omega
  clear h hd hC hrow hlen
  cases hw : s.wt i with
  | none =>
    have HW := Lib.hid hw
    have hE : rd = s.st i := by rw [HE.out, hw]; rfl
    have HE2 := Lib.hid hE
    clear hw hE
    obtain ⟨ga, cpa, rfl, _⟩ := HR.out.slb.len
    go_enter Tryz.func136, Tryz.ntmps136
    go_wp2_with (first
      | (go_at_call 133; refine HH.out.mono ?_; rintro e w' ⟨rfl, rfl⟩)
      | (at_lookup; refine wpList_lookup_cache _ rfl _ _ rfl rfl rfl HC.out hi (by omega) ?_; rw [HW.out]; intro v hv; have hv := (hv.resolve_right (by rintro ⟨_, h, _⟩; cases h)).2; subst hv)
      | (at_builtin; refine wpList_append_bytes (o := ⟨some 37, _, _, _, _, _⟩) _ rfl (.tmp 29) (.tmp 36) rfl w.heap.size _ _ _ rfl (own_new w w.heap.size #[] 5 1 0 (Nat.le_refl _) rfl (by decide)) w.heap.size _ (s.st i) rfl ?_ ?_ ?_ ?_; exact HR.out.slb.below (one_below _ _); (rw [← HE2.out, HLN.out]; omega); simp; intro v2 w2 hown2 hg2; have HX := Lib.hid (wrote_row (w := w) (by rw [← HE2.out]; exact HLN.out) (KB.alloc (KB.refl w) _) hown2 hg2); clear hown2 hg2))
    refine bodyPost_ret (v := .tuple #[v2, .int .i64 0]) (by simp [results, Tryz.results136, go_sem]) rfl ⟨v2, rfl, ?_, HX.out.2⟩
    rw [HE2.out]; exact HX.out.1.slb
  | some l =>
    have HW := Lib.hid hw
    have hE : rd = l := by rw [HE.out, hw]; rfl
    have HE2 := Lib.hid hE
    clear hw hE
    go_enter Tryz.func136, Tryz.ntmps136
    go_wp2_with (first
      | (go_at_call 133; refine HH.out.mono ?_; rintro e w' ⟨rfl, rfl⟩)
      | (at_lookup; refine wpList_lookup_cache _ rfl _ _ rfl rfl rfl HC.out hi (by omega) ?_; rw [HW.out]; intro v hv; have HV := Lib.hid (show ByteRow w v l by obtain ⟨l', h1, h2⟩ := hv.resolve_left (by rintro ⟨h, _⟩; cases h); cases h1; exact h2); clear hv; obtain ⟨ga, cpa, rfl, _⟩ := HV.out.slb.len)
      | (at_builtin; refine wpList_append_bytes (o := ⟨some 28, _, _, _, _, _⟩) _ rfl (.tmp 26) (.tmp 27) rfl w.heap.size _ _ _ rfl (own_new w w.heap.size #[] 5 1 0 (Nat.le_refl _) rfl (by decide)) w.heap.size _ (l) rfl ?_ ?_ ?_ ?_; exact HV.out.slb.below (one_below _ _); (rw [← HE2.out, HLN.out]; omega); simp; intro v2 w2 hown2 hg2; have HX := Lib.hid (wrote_row (w := w) (by rw [← HE2.out]; exact HLN.out) (KB.alloc (KB.refl w) _) hown2 hg2); clear hown2 hg2))
    refine bodyPost_ret (v := .tuple #[v2, .int .i64 0]) (by simp [results, Tryz.results136, go_sem]) rfl ⟨v2, rfl, ?_, HX.out.2⟩
    rw [HE2.out]; exact HX.out.1.slb
end Go.Proofs.YtidnmkghmaeniaaGreatDoor
/-
  A row and a mark of the reference's disk are laid in one statement, in whatever order.
-/
namespace Go.Proofs.YtidnmkghmaeniaaGreatDoor
open Go.RowKit Go.Deep Dk Go.Maps
theorem BadIn.put {w w' : World} {E n m i : Nat} {D : DataW Unit} {f : Nat → Bool} (h : BadIn w E n D f) (hi : i < n) (b : Bool) (hw : w'.ownsMap Tryz.prog 3 boolR E m (D.put (kI i) (.lit (.bool b)))) : BadIn w' E n (D.put (kI i) (.lit (.bool b))) (upd f i b) := by
  refine ⟨own_tight hw, fun kl hk => ?_, fun j hj => ?_⟩
  · by_cases e : kl = kI i
    · exact ⟨i, hi, e⟩
    · rw [Maps.has_put_other e] at hk; exact h.key kl hk
  · by_cases e : j = i
    · subst e; rw [Maps.atKey_put_same h.own.isMap (kI_key j), upd_same]
    · rw [Maps.atKey_put_other (fun q => e (kI_inj q)), upd_other _ _ e]; exact h.at_ j hj
theorem BadIn.size {w : World} {E n : Nat} {D : DataW Unit} {f : Nat → Bool} (h : BadIn w E n D f) : Maps.size D ≤ n := by
  have hc : CacheIn w E n (.map []) (fun _ => none) → True := fun _ => trivial
  clear hc
  obtain ⟨es, hD, hp, hk⟩ := h.own.entries keyed
  subst hD
  show es.length ≤ n
  have hmem : ∀ p ∈ es, ∃ i : Nat, i < n ∧ p.1 = kI i := fun p hpm => h.key p.1 (by
    rw [Maps.has_eq, List.any_eq_true]
    exact ⟨p, hpm, WideAt.sameKey_self (hk p hpm)⟩)
  have hn : (es.map fun p => Go.intOf p.1).Nodup := by
    rw [List.nodup_iff_pairwise_ne, List.pairwise_map]
    refine hp.imp_of_mem fun {p q} hpm hqm hne e => hne ?_
    obtain ⟨i, _, e1⟩ := hmem p hpm
    obtain ⟨j, _, e2⟩ := hmem q hqm
    rw [e1, e2] at e ⊢
    have e : (i : Int) = (j : Int) := e
    show Lit.int .i64 (i : Int) = Lit.int .i64 (j : Int)
    rw [e]
  have := nodup_bound _ ((List.range n).map Int.ofNat) hn fun a ha => by
    obtain ⟨p, hpm, rfl⟩ := List.mem_map.1 ha
    obtain ⟨i, hi, e⟩ := hmem p hpm
    exact List.mem_map.2 ⟨i, List.mem_range.2 hi, by rw [e]; rfl⟩
  simpa using this
def both (s : St) (i : Nat) (l : Sec) (b : Bool) : St := { s with st := upd s.st i l, rot := upd s.rot i b }
theorem both_ok {s : St} (h : s.Ok) {i : Nat} {l : Sec} (hl : l.length = 128) (b : Bool) : (both s i l b).Ok := ⟨h.n, fun j => by show (upd s.st i l j).length = 128; unfold upd; split; exact hl; exact h.st j, h.wt⟩
theorem RefIn.both {w w' : World} {r A C E m i : Nat} {s : St} {D : DataW Unit} {cur : Array Value} {v : Value} {l : Sec} {b : Bool} (h : RefIn w r A C E s) (hB : BadIn w E s.n D s.rot) (hcur : w.heap[A]? = some (.cells cur 106 (0, 0))) (hi : i < s.n) (hr : ByteRow w v l)
    (hA : w'.heap[A]? = some (.cells (cur.setIfInBounds i v) 106 (0, 0))) (hE : w'.ownsMap Tryz.prog 3 boolR E m (D.put (kI i) (.lit (.bool b)))) (hc : RChg A A A E w w') : RefIn w' r A C E (both s i l b) ∧ RChg r A C E w w' := by
  obtain ⟨b1, b2, b3, b4⟩ := h.lt
  obtain ⟨a1, a2, a3, a4, a5⟩ := h.apart
  have key : ∀ (g : Nat) (cur : Array Value), w.heap[g]? = some (.cells cur 5 (0, 0)) → w'.heap[g]? = w.heap[g]? := fun g cur hgc => by
    have := h.off hgc
    exact hc.block g (Array.getElem?_eq_some_iff.1 hgc).1 this.2.1 this.2.1 this.2.1 this.2.2.2
  obtain ⟨capA, t1, t2⟩ := h.top
  obtain ⟨cur0, r1, r2, r3⟩ := h.rows
  have ecur : cur = cur0 := by rw [r1] at hcur; injection hcur with hcur; injection hcur with hcur _ _; exact hcur.symm
  subst ecur
  obtain ⟨Dc, hC⟩ := h.cache
  refine ⟨⟨both_ok h.ok hr.1 b, h.pos, h.ne, ⟨capA, t1, (hc.block r b1 a1 a1 a1 a3).trans t2⟩, ⟨_, hA, by show s.n ≤ _; simpa using r2, fun j hj => ?_⟩, ⟨Dc, hC.keep (hc.block C b3 (fun e => a4 e.symm) (fun e => a4 e.symm) (fun e => a4 e.symm) h.ne) key⟩, ⟨_, hB.put hi b hE⟩⟩, ⟨hc.os, hc.tape, hc.output, hc.size, fun k hk k1 k2 k3 k4 => hc.block k hk k2 k2 k2 k4⟩⟩
  obtain ⟨u, e1, e2⟩ := r3 j hj
  by_cases e : j = i
  · subst e
    refine ⟨v, by rw [Array.getElem?_setIfInBounds_self_of_lt (by omega)], ?_⟩
    show ByteRow w' v (upd s.st j l j)
    rw [upd_same]; exact hr.keep key
  · refine ⟨u, by rw [Array.getElem?_setIfInBounds_ne (fun q => e q.symm)]; exact e1, ?_⟩
    show ByteRow w' u (upd s.st i l j)
    rw [upd_other _ _ e]; exact e2.keep key
theorem grown_cell (w : World) (g i : Nat) (u : Value) : w.grownBy (w.setCell ⟨g, i, none⟩ u) (some g) :=
  ⟨rfl, rfl, rfl, ((Below.refl 0 w).setCell (p := ⟨g, i, none⟩) (Nat.zero_le _) u).size, fun j _ hr => heap_setCell_other w ⟨g, i, none⟩ j u (fun e => hr (by rw [e]))⟩
/-- The worlds on the ways of 'd.S[i], d.Bad[i] = v, b', and where they end. -/
structure Ways (P : Program) (r A C E i : Nat) (v : Value) (b : Bool) (s' : St) (w : World) : Prop where
  one : ∃ v0 born w1, (Instr.mapEntry 129 (.map (some E)) (.int .i64 (i : Int))).run P w = .ok (.tuple #[v0, .int .i64 ((born : Nat) : Int)]) w1 ∧ w1.heap[r]? = w.heap[r]? ∧ (∃ u, w1.cell? ⟨A, i, none⟩ = some u) ∧ w1.frozen? ⟨A, i, none⟩ = false ∧
    (∃ w2, (Instr.entryStore 129 (.map (some E)) (.int .i64 ((born : Nat) : Int)) (.bool b)).run P w1 = .ok () w2 ∧ w2.heap[r]? = w.heap[r]? ∧ (∃ u, w2.cell? ⟨A, i, none⟩ = some u) ∧ w2.frozen? ⟨A, i, none⟩ = false ∧ (w2.setCell ⟨A, i, none⟩ v).heap[r]? = w.heap[r]? ∧ RefIn (w2.setCell ⟨A, i, none⟩ v) r A C E s' ∧ RChg r A C E w (w2.setCell ⟨A, i, none⟩ v)) ∧
    (w1.setCell ⟨A, i, none⟩ v).heap[r]? = w.heap[r]? ∧
    (∃ w2, (Instr.entryStore 129 (.map (some E)) (.int .i64 ((born : Nat) : Int)) (.bool b)).run P (w1.setCell ⟨A, i, none⟩ v) = .ok () w2 ∧ w2.heap[r]? = w.heap[r]? ∧ RefIn w2 r A C E s' ∧ RChg r A C E w w2)
  two : ∃ v0 born w1, (Instr.mapEntry 129 (.map (some E)) (.int .i64 (i : Int))).run P (w.setCell ⟨A, i, none⟩ v) = .ok (.tuple #[v0, .int .i64 ((born : Nat) : Int)]) w1 ∧ (w.setCell ⟨A, i, none⟩ v).heap[r]? = w.heap[r]? ∧ w1.heap[r]? = w.heap[r]? ∧
    (∃ w2, (Instr.entryStore 129 (.map (some E)) (.int .i64 ((born : Nat) : Int)) (.bool b)).run P w1 = .ok () w2 ∧ w2.heap[r]? = w.heap[r]? ∧ RefIn w2 r A C E s' ∧ RChg r A C E w w2)
  cell : ∃ u, w.cell? ⟨A, i, none⟩ = some u
  frozen : w.frozen? ⟨A, i, none⟩ = false
theorem ways {w : World} {r A C E i : Nat} {s : St} {v : Value} {l : Sec} (h : RefIn w r A C E s) (hi : i < s.n) (hr : ByteRow w v l) (b : Bool) : Ways Tryz.prog r A C E i v b (both s i l b) w := by
  obtain ⟨b1, b2, b3, b4⟩ := h.lt
  obtain ⟨a1, a2, a3, a4, a5⟩ := h.apart
  obtain ⟨D, hB⟩ := h.bad
  obtain ⟨cur, r1, r2, _⟩ := h.rows
  have hn := h.ok.n
  have hsz := hB.size
  have hc0 : ∀ (wx : World) (c : Array Value), wx.heap[A]? = some (.cells c 106 (0, 0)) → i < c.size → (∃ u, wx.cell? ⟨A, i, none⟩ = some u) ∧ wx.frozen? ⟨A, i, none⟩ = false := fun wx c hx hc =>
    ⟨⟨_, by rw [cell_of_row wx A i _ _ _ hx]; exact Array.getElem?_eq_getElem hc⟩, frozen_of_row wx A i _ _ hx⟩
  have hset : ∀ (wx : World), RChg A A A E wx (wx.setCell ⟨A, i, none⟩ v) := fun wx => RChg.of_grown (grown_cell wx A i v) (by simp)
  refine ⟨?_, ?_, (hc0 w cur r1 (by omega)).1, (hc0 w cur r1 (by omega)).2⟩
  · obtain ⟨v0, born, w1, e1, g1, next⟩ := entry_two hB.own (by omega) (i := i) (by omega) b
    have q1 : RChg A A A E w w1 := RChg.of_grown g1 (by simp)
    have hA1 : w1.heap[A]? = some (.cells cur 106 (0, 0)) := (g1.block A b2 (by simpa using a5)).trans r1
    have hr1 : w1.heap[r]? = w.heap[r]? := g1.block r b1 (by simpa using a3)
    have hE1 : E < w1.heap.size := Nat.lt_of_lt_of_le b4 g1.size
    refine ⟨v0, born, w1, e1, hr1, (hc0 w1 cur hA1 (by omega)).1, (hc0 w1 cur hA1 (by omega)).2, ?_, (heap_setCell_other w1 ⟨A, i, none⟩ r v a1).trans hr1, ?_⟩
    · obtain ⟨w2, e2, g2, o2⟩ := next w1 rfl
      have hA2 : w2.heap[A]? = some (.cells cur 106 (0, 0)) := (g2.block A (Nat.lt_of_lt_of_le b2 g1.size) (by simpa using a5)).trans hA1
      have hr2 : w2.heap[r]? = w.heap[r]? := (g2.block r (Nat.lt_of_lt_of_le b1 g1.size) (by simpa using a3)).trans hr1
      have hr3 : (w2.setCell ⟨A, i, none⟩ v).heap[r]? = w.heap[r]? := (heap_setCell_other w2 ⟨A, i, none⟩ r v a1).trans hr2
      have hO : (w2.setCell ⟨A, i, none⟩ v).ownsMap Tryz.prog 3 boolR E (Maps.size D + 1) (D.put (kI i) (.lit (.bool b))) := o2.setCell (fun e => a5 e.symm) v
      exact ⟨w2, e2, hr2, (hc0 w2 cur hA2 (by omega)).1, (hc0 w2 cur hA2 (by omega)).2, hr3, h.both hB r1 hi hr (heap_setCell_same w2 A i _ _ v hA2) hO ((q1.trans (RChg.of_grown g2 (by simp))).trans (hset w2))⟩
    · have hEs : (w1.setCell ⟨A, i, none⟩ v).heap[E]? = w1.heap[E]? := heap_setCell_other w1 ⟨A, i, none⟩ E v (fun e => a5 e.symm)
      have hAs : (w1.setCell ⟨A, i, none⟩ v).heap[A]? = some (.cells (cur.setIfInBounds i v) 106 (0, 0)) := heap_setCell_same w1 A i _ _ v hA1
      have hls := (hset w1).size
      obtain ⟨w2, e2, g2, o2⟩ := next _ hEs
      exact ⟨w2, e2, (g2.block r (by have := g1.size; omega) (by simpa using a3)).trans ((heap_setCell_other w1 ⟨A, i, none⟩ r v a1).trans hr1), h.both hB r1 hi hr ((g2.block A (by have := g1.size; omega) (by simpa using a5)).trans hAs) o2 ((q1.trans (hset w1)).trans (RChg.of_grown g2 (by simp)))⟩
  · have hBs : BadIn (w.setCell ⟨A, i, none⟩ v) E s.n D s.rot := hB.keep (heap_setCell_other w ⟨A, i, none⟩ E v (fun e => a5 e.symm))
    obtain ⟨v0, born, w1, e1, g1, next⟩ := entry_two hBs.own (by omega) (i := i) (by omega) b
    have hAs : (w.setCell ⟨A, i, none⟩ v).heap[A]? = some (.cells (cur.setIfInBounds i v) 106 (0, 0)) := heap_setCell_same w A i _ _ v r1
    have hls := (hset w).size
    have hrs : (w.setCell ⟨A, i, none⟩ v).heap[r]? = w.heap[r]? := heap_setCell_other w ⟨A, i, none⟩ r v a1
    have hr1 : w1.heap[r]? = w.heap[r]? := (g1.block r (by omega) (by simpa using a3)).trans hrs
    obtain ⟨w2, e2, g2, o2⟩ := next w1 rfl
    have hl1 := g1.size
    exact ⟨v0, born, w1, e1, hrs, hr1, w2, e2, (g2.block r (by omega) (by simpa using a3)).trans hr1, h.both hB r1 hi hr ((g2.block A (by omega) (by simpa using a5)).trans ((g1.block A (by omega) (by simpa using a5)).trans hAs)) o2 (((hset w).trans (RChg.of_grown g1 (by simp))).trans (RChg.of_grown g2 (by simp)))⟩
end Go.Proofs.YtidnmkghmaeniaaGreatDoor
/-
  The reference's disk: keep.
-/
namespace Go.Proofs.YtidnmkghmaeniaaGreatDoor
open Go.RowKit Go.Deep Dk Go.Maps
theorem ByteRow.shape {w : World} {v : Value} {l : Sec} (h : ByteRow w v l) : ∃ g cap, v = .slice (some ⟨g, 0, none⟩) 128 cap := by
  obtain ⟨_, g, cap, _, h, _⟩ := h; exact ⟨g, cap, h⟩
def keepR (s : St) (i : Nat) : St := match s.wt i with | some l => both s i l false | none => s
theorem keepR_some {s : St} {i : Nat} {l : Sec} (h : s.wt i = some l) : keepR s i = both s i l false := by unfold keepR; rw [h]
theorem keepR_none {s : St} {i : Nat} (h : s.wt i = none) : keepR s i = s := by unfold keepR; rw [h]
set_option maxHeartbeats 4000000 in
set_option maxRecDepth 100000 in
theorem rkeep_any {r A C E : Nat} {s : St} (w : World) (h : RefIn w r A C E s) (i : Nat) (hi : i < s.n) :
    Calls Tryz.prog 167 #[.pointer (some ⟨r, 0, none⟩), .int .i64 (i : Int)] w (RNext r A C E (keepR s i) (.tuple #[]) w) := by
  obtain ⟨capA, hcap, c0, c1, c2, _⟩ := h.cells
  obtain ⟨D, hC⟩ := h.cache
  have HC := Lib.hid hC
  have H0 := Lib.hid h
  have hn := h.ok.n
  have hap := h.apart
  have i1 : (i : Int) < s.n := by omega
  have i2 : (0 : Int) ≤ i := by omega
  cases hw : s.wt i with
  | none =>
    rw [keepR_none hw]
    have HW := Lib.hid hw
    clear h hC hw
    go_enter Tryz.func167, Tryz.ntmps167
    go_wp2_with (at_lookup; refine wpList_lookup_cache _ rfl _ _ rfl rfl rfl HC.out hi (by omega) ?_; rw [HW.out]; intro v hv; have hv := (hv.resolve_right (by rintro ⟨_, h, _⟩; cases h)).2; subst hv)
    go_end0
    exact ⟨rfl, H0.out, RChg.refl _ _ _ _ _⟩
  | some l =>
    rw [keepR_some hw]
    have HW := Lib.hid hw
    clear h hC hw
    go_enter Tryz.func167, Tryz.ntmps167
    go_upto_region 2 with (at_lookup; refine wpList_lookup_cache _ rfl _ _ rfl rfl rfl HC.out hi (by omega) ?_; rw [HW.out]; intro v hv; have HV := Lib.hid (show ByteRow w v l by obtain ⟨l', h1, h2⟩ := hv.resolve_left (by rintro ⟨h, _⟩; cases h); cases h1; exact h2); clear hv; obtain ⟨gv, cpv, rfl⟩ := HV.out.shape)
    have hW := ways (H0.out.drew) hi (HV.out.keep (w' := w.drew) fun _ _ _ => rfl) false
    obtain ⟨v0, born, w1, e1, hr1, ⟨u1, k1⟩, f1, ⟨w2, e2, hr2, ⟨u2, k2⟩, f2, hr3, F1⟩, hr4, ⟨w3, e3, hr5, F2⟩⟩ := hW.one
    obtain ⟨v0', born', w4, e4, hr6, hr7, ⟨w5, e5, hr8, F3⟩⟩ := hW.two
    obtain ⟨u0, k0⟩ := hW.cell
    have f0 := hW.frozen
    have e4' : (Instr.mapEntry 129 (.map (some E)) (.int .i64 (i : Int))).run Tryz.prog (w.setCell ⟨A, i, none⟩ (.slice (some ⟨gv, 0, none⟩) 128 cpv)).drew = .ok (.tuple #[v0', .int .i64 ((born' : Nat) : Int)]) w4 := e4
    have k0' : w.cell? ⟨A, i, none⟩ = some u0 := k0
    have f0' : w.frozen? ⟨A, i, none⟩ = false := f0
    have HF1 := Lib.hid F1
    have HF2 := Lib.hid F2
    have HF3 := Lib.hid F3
    have HMEM := Lib.hid (fun (w' : World) (hb : w'.heap[r]? = w.heap[r]?) => show w'.cell? ⟨r, 0, none⟩ = some (.slice (some ⟨A, 0, none⟩) s.n capA) ∧ w'.cell? ⟨r, 2, none⟩ = some (.map (some E)) from
      ⟨(World.cell?_of_block (a := ⟨r, 0, none⟩) hb).trans c0, (World.cell?_of_block (a := ⟨r, 2, none⟩) hb).trans c2⟩)
    clear hW F1 F2 F3
    go_region_held3 (fun w' => w'.cell? ⟨r, 0, none⟩ = some (.slice (some ⟨A, 0, none⟩) s.n capA) ∧ w'.cell? ⟨r, 2, none⟩ = some (.map (some E))) ((refine HMEM.out _ ?_; first | rfl | assumption | exact hr6)) (fail)
    all_goals
      go_wp2
      go_end0
      first
        | exact ⟨rfl, HF1.out.1, RChg.of_drew HF1.out.2⟩
        | exact ⟨rfl, HF2.out.1, RChg.of_drew HF2.out.2⟩
        | exact ⟨rfl, HF3.out.1, RChg.of_drew HF3.out.2⟩
end Go.Proofs.YtidnmkghmaeniaaGreatDoor
/-
  The reference's disk: Rot.
-/
namespace Go.Proofs.YtidnmkghmaeniaaGreatDoor
open Go.RowKit Go.Deep Dk Go.Maps
set_option maxRecDepth 100000 in
theorem bool_inv {v : Value} {ps : List MemPlace} {b : Bool} (h : boolR v = some (.lit (.bool b), ps)) : v = .bool b := by
  unfold boolR plainElem at h
  rw [Tryz.underlying4] at h
  cases v <;> simp at h
  rw [h.1]
set_option maxRecDepth 100000 in
theorem BadIn.look {w : World} {E n i : Nat} {D : DataW Unit} {f : Nat → Bool} (h : BadIn w E n D f) (hi : i < n) (hn : n ≤ 128) : (Instr.lookup 129 (.map (some E)) (.int .i64 (i : Int)) false).run Tryz.prog w = .ok (.bool (f i)) w := by
  have hz : (zeroValue 4).run Tryz.prog w = .ok (.bool false) w := Tryz.zeroValue4 w
  obtain ⟨v, ps, hrun, hv⟩ := h.own.lookup keyed Tryz.underlying129 hz (plainElem_bool Tryz.underlying4 false) (key_kI (i := i) (by omega))
  rw [h.at_ i hi] at hv
  rw [bool_inv hv] at hrun
  exact hrun
theorem rotD_both (s : St) (i a x : Nat) : rotD s i a x = both s i (rotL (s.st i) a x 4) true := rfl
set_option maxHeartbeats 1000000 in
set_option maxRecDepth 100000 in
theorem rrot_no {r A C E : Nat} {s : St} (w : World) (h : RefIn w r A C E s) (i a : Int) (x : Nat) (hno : ¬ mayRot s i a x) :
    Calls Tryz.prog 66 #[.pointer (some ⟨r, 0, none⟩), .int .i64 i, .int .i64 a, .int .u32 x] w (BitSame false w) := by
  obtain ⟨capA, _, c0, _, c2, c3⟩ := h.cells
  obtain ⟨D, hB⟩ := h.bad
  have HH := Lib.hid (rhas_any w h i)
  have hn := h.ok.n
  unfold mayRot at hno
  cases hd : s.dead with
  | true =>
    rw [hd] at c3
    clear h hno hB
    go_enter Tryz.func66, Tryz.ntmps66
    go_wp2
    go_ret
    exact bitSame rfl
  | false =>
    rw [hd] at c3
    by_cases hi : 0 ≤ i ∧ i < s.n
    · rw [decide_eq_true hi] at HH
      by_cases ha : a < 0
      · clear h hno hB
        go_enter Tryz.func66, Tryz.ntmps66
        go_wp2_with (go_at_call 133; refine HH.out.mono ?_; rintro e w' ⟨rfl, rfl⟩)
        go_ret
        exact bitSame rfl
      · by_cases ha2 : 124 < a
        · clear h hno hB
          go_enter Tryz.func66, Tryz.ntmps66
          go_wp2_with (go_at_call 133; refine HH.out.mono ?_; rintro e w' ⟨rfl, rfl⟩)
          go_ret
          exact bitSame rfl
        · by_cases hx : x = 0
          · have hx1 : ((x : Int) == 0) = true := by simp; omega
            clear h hno hx hB
            go_enter Tryz.func66, Tryz.ntmps66
            go_wp2_with (go_at_call 133; refine HH.out.mono ?_; rintro e w' ⟨rfl, rfl⟩)
            go_ret
            exact bitSame rfl
          · have hr : s.rot i.toNat = true := by
              cases e : s.rot i.toNat with
              | true => rfl
              | false => exact absurd ⟨hd, hi.1, hi.2, by omega, by omega, hx, e⟩ hno
            obtain ⟨j, rfl⟩ := Int.eq_ofNat_of_zero_le hi.1
            have hc := hB.look (i := j) (by omega) hn
            rw [show ((j : Int)).toNat = j from rfl] at hr
            rw [hr] at hc
            have hx1 : ((x : Int) == 0) = false := by simp; omega
            have hx2 : ¬ (x : Int) = 0 := by omega
            clear h hno hr hx hB
            go_enter Tryz.func66, Tryz.ntmps66
            go_wp2_with (go_at_call 133; refine HH.out.mono ?_; rintro e w' ⟨rfl, rfl⟩)
            go_ret
            exact bitSame rfl
    · rw [decide_eq_false hi] at HH
      clear h hno hi hB
      go_enter Tryz.func66, Tryz.ntmps66
      go_wp2_with (go_at_call 133; refine HH.out.mono ?_; rintro e w' ⟨rfl, rfl⟩)
      go_ret
      exact bitSame rfl
/-- The row is turned as far as k bytes. -/
def RelRR (r A C E : Nat) (s : St) (i a x : Nat) (w : World) (g cap : Nat) (c : Value) (wr : World) : Prop :=
  ∃ k : Nat, k ≤ 4 ∧ c = .int .i64 k ∧ RefIn wr r A C E s ∧ KB w wr ∧ wr.ownsRow w.heap.size 5 1 (.slice (some ⟨g, 0, none⟩) 128 cap) 128 (bytesV (rotL (s.st i) a x k))
set_option maxHeartbeats 4000000 in
set_option maxRecDepth 100000 in
theorem rrot_yes {r A C E : Nat} {s : St} (w : World) (h : RefIn w r A C E s) (i a x : Nat) (hok : mayRot s i a x) :
    Calls Tryz.prog 66 #[.pointer (some ⟨r, 0, none⟩), .int .i64 (i : Int), .int .i64 (a : Int), .int .u32 (x : Int)] w (RNext r A C E (rotD s i a x) (.bool true) w) := by
  obtain ⟨hd, _, hi, _, ha, hx0, hr⟩ := hok
  have hi : i < s.n := by omega
  have ha : a ≤ 124 := by omega
  rw [show ((i : Int)).toNat = i from rfl] at hr
  obtain ⟨capA, hcap, c0, _, c2, c3⟩ := h.cells
  obtain ⟨D, hB⟩ := h.bad
  have hn := h.ok.n
  have hc := hB.look (i := i) hi hn
  rw [hd] at c3
  rw [hr] at hc
  have HH := Lib.hid (rhas_any w h i)
  rw [decide_eq_true (by omega)] at HH
  obtain ⟨vr, cr, hrow⟩ := h.row hi
  have HR := Lib.hid hrow
  have H0 := Lib.hid h
  have hlt := h.lt
  have i1 : (i : Int) < s.n := by omega
  have hx1 : ((x : Int) == 0) = false := by simp; omega
  have hx2 : ¬ (x : Int) = 0 := by omega
  have hlen : (s.st i).length = 128 := h.ok.st i
  have HLN := Lib.hid hlen
  obtain ⟨ga, cpa, rfl, _⟩ := hrow.slb.len
  rw [hlen] at cr HR
  clear h hd hr hx0 hB hrow hlen
  go_enter Tryz.func66, Tryz.ntmps66
  go_wp2_with (first
    | (go_at_call 133; refine HH.out.mono ?_; rintro e w' ⟨rfl, rfl⟩)
    | (at_builtin; refine wpList_append_bytes (o := ⟨some 49, _, _, _, _, _⟩) _ rfl (.tmp 41) (.tmp 48) rfl w.heap.size _ _ _ rfl (own_new w w.heap.size #[] 5 1 0 (Nat.le_refl _) rfl (by decide)) w.heap.size _ (s.st i) rfl ?_ ?_ ?_ ?_; exact HR.out.slb.below (one_below _ _); (rw [HLN.out]; omega); simp; intro v2 w2 hown2 hg2; have HX := Lib.hid (wrote_row (w := w) HLN.out (KB.alloc (KB.refl w) _) hown2 hg2); have HO2 := Lib.hid (show w2.ownsRow w.heap.size 5 1 v2 128 (bytesV (rotL (s.st i) a x 0)) by rw [rotL_zero HLN.out]; have := hown2; rw [Nat.zero_add, List.nil_append, HLN.out] at this; exact this); clear hown2 hg2; obtain ⟨gv, cpv, hv2⟩ := HX.out.1.shape; subst hv2))
  clear hx1 hx2 c0 c2 c3 hc cr
  go_loopw [10] (fun c wr => RelRR r A C E s i a x w gv cpv c wr) (fun c _ => 4 - (RowKit.intOf c).toNat)
  case atStart => exact ⟨0, by omega, rfl, H0.out.below HX.out.2, HX.out.2, HO2.out⟩
  case round =>
    obtain ⟨k, hk, rfl, hD, hG, hO⟩ := hrel
    have HO := Lib.hid hO
    have HG := Lib.hid hG
    by_cases hlt : k < 4
    · have hc := own_cell hO (i := a + k) (bytesV_at (by rw [rotL_length]; omega))
      rw [rotL_at (by omega)] at hc
      have hf := own_frozen hO (a + k)
      have hgv := (own_lt hO).1
      have hst := own_set hO (a + k) (.int .u8 ((((s.st i).getD (a + k) 0).toNat ^^^ (x / 2 ^ (8 * k) % 256) : Nat) : Int))
      rw [rotL_set] at hst
      have HS := Lib.hid hst
      have HB2 := Lib.hid (fun u => Below.setCell (p := ⟨gv, a + k, none⟩) (Below.refl w.heap.size wr) hgv u)
      have HB3 := Lib.hid (fun u => below_drewN (Below.trans hG (HB2.out u)) 1)
      clear hD hG hO hst
      have hy := byte_lt (s.st i) (a + k)
      generalize ((s.st i).getD (a + k) 0).toNat = y at hc HS hy
      have hb := byte_turn y x k hy
      generalize y ^^^ (x / 2 ^ (8 * k) % 256) = z at hb HS
      clear hy
      go_wp2
      go_region
      go_wp2
      go_roundw
      case rel => exact ⟨k + 1, by omega, by go_num, H0.out.below (HB3.out _), HB3.out _, HS.out⟩
      case measure => simp [RowKit.intOf]; omega
    · obtain rfl : k = 4 := by omega
      have hW := ways hD.drew hi ((ByteRow.of_own hO (rotL_length _ _ _ _)).keep (w' := wr.drew) fun _ _ _ => rfl) true
      rw [← rotD_both] at hW
      obtain ⟨v0, born, w1, e1, hr1, ⟨u1, k1⟩, f1, ⟨w2, e2, hr2, ⟨u2, k2⟩, f2, hr3, F1⟩, hr4, ⟨w3, e3, hr5, F2⟩⟩ := hW.one
      obtain ⟨v0', born', w4, e4, hr6, hr7, ⟨w5, e5, hr8, F3⟩⟩ := hW.two
      obtain ⟨u0, k0⟩ := hW.cell
      have f0 := hW.frozen
      have e4' : (Instr.mapEntry 129 (.map (some E)) (.int .i64 (i : Int))).run Tryz.prog (wr.setCell ⟨A, i, none⟩ (.slice (some ⟨gv, 0, none⟩) 128 cpv)).drew = .ok (.tuple #[v0', .int .i64 ((born' : Nat) : Int)]) w4 := e4
      have k0' : wr.cell? ⟨A, i, none⟩ = some u0 := k0
      have f0' : wr.frozen? ⟨A, i, none⟩ = false := f0
      have HF1 := Lib.hid F1
      have HF2 := Lib.hid F2
      have HF3 := Lib.hid F3
      obtain ⟨capB, _, d0, _, d2, _⟩ := hD.cells
      have HMEM := Lib.hid (fun (w' : World) (hb : w'.heap[r]? = wr.heap[r]?) => show w'.cell? ⟨r, 0, none⟩ = some (.slice (some ⟨A, 0, none⟩) s.n capB) ∧ w'.cell? ⟨r, 2, none⟩ = some (.map (some E)) from
        ⟨(World.cell?_of_block (a := ⟨r, 0, none⟩) hb).trans d0, (World.cell?_of_block (a := ⟨r, 2, none⟩) hb).trans d2⟩)
      have hwb : Below w.heap.size w wr := hG
      have lt0 := H0.out.lt
      clear hW F1 F2 F3 hD hG hO
      go_wp2_with fail
      go_region_held3 (fun w' => w'.cell? ⟨r, 0, none⟩ = some (.slice (some ⟨A, 0, none⟩) s.n capB) ∧ w'.cell? ⟨r, 2, none⟩ = some (.map (some E))) ((refine HMEM.out _ ?_; first | rfl | assumption | exact hr6)) (fail)
      all_goals
        go_wp2
        go_ret
        first
          | exact ⟨rfl, HF1.out.1, (RChg.of_below hwb).trans (RChg.of_drew HF1.out.2)⟩
          | exact ⟨rfl, HF2.out.1, (RChg.of_below hwb).trans (RChg.of_drew HF2.out.2)⟩
          | exact ⟨rfl, HF3.out.1, (RChg.of_below hwb).trans (RChg.of_drew HF3.out.2)⟩
end Go.Proofs.YtidnmkghmaeniaaGreatDoor
/-
  The reference's disk: Flush, Crash.
-/
namespace Go.Proofs.YtidnmkghmaeniaaGreatDoor
open Go.RowKit Go.Deep Dk Go.Maps
/-- Only the sectors that are there count. -/
structure Alike (s t : St) : Prop where
  n : s.n = t.n
  dead : s.dead = t.dead
  st : ∀ i, i < s.n → s.st i = t.st i
  rot : ∀ i, i < s.n → s.rot i = t.rot i
  wt : ∀ i, i < s.n → s.wt i = t.wt i
theorem RefIn.alike {w : World} {r A C E : Nat} {s t : St} (h : RefIn w r A C E s) (ht : t.Ok) (e : Alike s t) : RefIn w r A C E t := by
  obtain ⟨capA, t1, t2⟩ := h.top
  obtain ⟨cur, r1, r2, r3⟩ := h.rows
  obtain ⟨D, hC⟩ := h.cache
  obtain ⟨D', hB⟩ := h.bad
  refine ⟨ht, by rw [← e.n]; exact h.pos, h.ne, ⟨capA, by rw [← e.n]; exact t1, by rw [← e.n, ← e.dead]; exact t2⟩, ⟨cur, r1, by rw [← e.n]; exact r2, fun i hi => ?_⟩, ⟨D, ?_⟩, ⟨D', ?_⟩⟩
  · rw [← e.n] at hi
    rw [← e.st i hi]; exact r3 i hi
  · rw [← e.n]
    exact ⟨hC.own, hC.key, fun i hi hn => hC.miss i hi (by rw [e.wt i hi]; exact hn), fun i l hi hl => hC.hit i l hi (by rw [e.wt i hi]; exact hl)⟩
  · rw [← e.n]
    exact ⟨hB.own, hB.key, fun i hi => by rw [← e.rot i hi]; exact hB.at_ i hi⟩
def keepsR (s : St) (m : Nat) : St := (List.range m).foldl keepR s
theorem keepsR_succ (s : St) (m : Nat) : keepsR s (m + 1) = keepR (keepsR s m) m := by simp [keepsR, List.range_succ]
theorem keepR_wt (s : St) (i : Nat) : (keepR s i).wt = s.wt := by unfold keepR; split <;> rfl
theorem keepR_n (s : St) (i : Nat) : (keepR s i).n = s.n := by unfold keepR; split <;> rfl
theorem keepR_dead (s : St) (i : Nat) : (keepR s i).dead = s.dead := by unfold keepR; split <;> rfl
theorem keepR_st (s : St) (i j : Nat) : (keepR s i).st j = if j = i then s.read i else s.st j := by
  unfold keepR St.read
  split
  · rename_i l hl; rw [hl]; show upd s.st i l j = _; unfold upd; split <;> rfl
  · rename_i hl; rw [hl]
    by_cases e : j = i
    · subst e; rw [if_pos rfl]; rfl
    · rw [if_neg e]
theorem keepR_rot (s : St) (i j : Nat) : (keepR s i).rot j = if j = i ∧ (s.wt i).isSome = true then false else s.rot j := by
  unfold keepR
  split
  · rename_i l hl; rw [hl]; show upd s.rot i false j = _; unfold upd
    by_cases e : j = i
    · rw [if_pos e, if_pos ⟨e, rfl⟩]
    · rw [if_neg e, if_neg (fun h => e h.1)]
  · rename_i hl; rw [hl, if_neg (fun h => by cases h.2)]
theorem keepsR_wt (s : St) : ∀ m, (keepsR s m).wt = s.wt
  | 0 => rfl
  | m + 1 => by rw [keepsR_succ, keepR_wt, keepsR_wt s m]
theorem keepsR_n (s : St) : ∀ m, (keepsR s m).n = s.n
  | 0 => rfl
  | m + 1 => by rw [keepsR_succ, keepR_n, keepsR_n s m]
theorem keepsR_dead (s : St) : ∀ m, (keepsR s m).dead = s.dead
  | 0 => rfl
  | m + 1 => by rw [keepsR_succ, keepR_dead, keepsR_dead s m]
theorem keepsR_st (s : St) (j : Nat) : ∀ m, (keepsR s m).st j = if j < m then s.read j else s.st j
  | 0 => rfl
  | m + 1 => by
    rw [keepsR_succ, keepR_st]
    by_cases e : j = m
    · subst e
      rw [if_pos rfl, if_pos (by omega)]
      unfold St.read
      rw [keepsR_wt, keepsR_st s j j, if_neg (by omega)]
    · rw [if_neg e, keepsR_st s j m]
      by_cases h : j < m
      · rw [if_pos h, if_pos (by omega)]
      · rw [if_neg h, if_neg (by omega)]
theorem keepsR_rot (s : St) (j : Nat) : ∀ m, (keepsR s m).rot j = if j < m ∧ (s.wt j).isSome = true then false else s.rot j
  | 0 => by rw [if_neg (fun h => by omega)]; rfl
  | m + 1 => by
    rw [keepsR_succ, keepR_rot, keepsR_wt, keepsR_rot s j m]
    by_cases e : j = m
    · subst e
      by_cases h : (s.wt j).isSome = true
      · rw [if_pos ⟨rfl, h⟩, if_pos ⟨by omega, h⟩]
      · rw [if_neg (fun x => h x.2), if_neg (fun x => h x.2), if_neg (fun x => h x.2)]
    · rw [if_neg (fun x => e x.1)]
      by_cases h : j < m ∧ (s.wt j).isSome = true
      · rw [if_pos h, if_pos ⟨by omega, h.2⟩]
      · rw [if_neg h, if_neg (fun x => h ⟨by omega, x.2⟩)]
theorem flush_alike {s : St} (h : s.Ok) : Alike (keepsR s s.n).lose s.flush := by
  refine ⟨(keepsR_n s s.n).trans (flushed_n s).symm, (keepsR_dead s s.n).trans (flushed_dead s).symm, fun i hi => ?_, fun i hi => ?_, fun i _ => (St.flush_wt h i).symm⟩
  · have hi : i < s.n := by have : (keepsR s s.n).n = s.n := keepsR_n s s.n; exact this ▸ hi
    show (keepsR s s.n).st i = _
    rw [keepsR_st, if_pos hi, St.flush_st h]
  · have hi : i < s.n := by have : (keepsR s s.n).n = s.n := keepsR_n s s.n; exact this ▸ hi
    show (keepsR s s.n).rot i = _
    rw [keepsR_rot]
    unfold St.flush
    rw [St.stores_rot]
    by_cases e : (s.wt i).isSome = true
    · rw [if_pos ⟨hi, e⟩, if_pos ((St.mem_ks h).2 e)]
    · rw [if_neg (fun x => e x.2), if_neg (fun x => e ((St.mem_ks h).1 x))]
/-- The reference answers, its disk is in its next state; its maps may be new ones. -/
def RNew (r A C E : Nat) (s' : St) (v : Value) (w : World) (e : Ending) (w' : World) : Prop :=
  e = .returned v ∧ ∃ C' E', RefIn w' r A C' E' s' ∧ RChg r A C E w w' ∧ (C' = C ∨ w.heap.size ≤ C') ∧ (E' = E ∨ w.heap.size ≤ E')
theorem RefIn.newCache {w : World} {r A C E : Nat} {s : St} (h : RefIn w r A C E s) : RefIn ((w.alloc (.map #[] 0)).setCell ⟨r, 1, none⟩ (.map (some w.heap.size))) r A w.heap.size E s.lose ∧ RChg r A C E w ((w.alloc (.map #[] 0)).setCell ⟨r, 1, none⟩ (.map (some w.heap.size))) := by
  obtain ⟨b1, b2, b3, b4⟩ := h.lt
  obtain ⟨a1, a2, a3, a4, a5⟩ := h.apart
  have h1 := h.below (one_below w (.map #[] 0))
  obtain ⟨capA, t1, t2⟩ := h1.top
  obtain ⟨cur, r1, r2, r3⟩ := h1.rows
  obtain ⟨D', hB⟩ := h1.bad
  have oth : ∀ k, k ≠ r → ((w.alloc (.map #[] 0)).setCell ⟨r, 1, none⟩ (.map (some w.heap.size))).heap[k]? = (w.alloc (.map #[] 0)).heap[k]? := fun k hk => heap_setCell_other _ ⟨r, 1, none⟩ k _ hk
  refine ⟨⟨h.ok.lose, h.pos, fun e => by omega, ⟨capA, t1, ?_⟩, ⟨cur, (oth A (fun e => a1 e.symm)).trans r1, r2, fun i hi => ?_⟩, ⟨.map [], ?_⟩, ⟨D', hB.keep (oth E (fun e => a3 e.symm))⟩⟩, ?_⟩
  · exact heap_setCell_same _ r 1 _ _ _ t2
  · obtain ⟨v, e1, e2⟩ := r3 i hi
    exact ⟨v, e1, e2.keep fun g cur hg => oth g (h1.off hg).1⟩
  · have hm := World.ownsMap_made w Tryz.prog 3 slR
    obtain ⟨es, ck, m1, m2⟩ := hm
    refine ⟨⟨es, ck, (oth _ (fun e => by omega)).trans m1, m2⟩, fun _ h => (by cases h), fun _ _ _ => rfl, fun i l _ hl => (by cases hl)⟩
  · exact (RChg.of_below (one_below w _)).trans (RChg.of_grown (grown_cell _ r 1 _) (by simp))
theorem RefIn.newCache' {w : World} {r A C E : Nat} {s : St} (h : RefIn w r A C E s) : RefIn ((w.setCell ⟨r, 1, none⟩ (.map (some w.heap.size))).alloc (.map #[] 0)) r A w.heap.size E s.lose ∧ RChg r A C E w ((w.setCell ⟨r, 1, none⟩ (.map (some w.heap.size))).alloc (.map #[] 0)) := by
  have := h.newCache
  rwa [World.setCell_alloc_past _ _ _ _ h.lt.1] at this
def RelRF (r A C E : Nat) (s : St) (w0 : World) (c : Value) (wr : World) : Prop := ∃ m : Nat, m ≤ s.n ∧ c = .int .i64 m ∧ RefIn wr r A C E (keepsR s m) ∧ RChg r A C E w0 wr
set_option maxHeartbeats 2000000 in
set_option maxRecDepth 100000 in
theorem rflush_dead {r A C E : Nat} {s : St} (w : World) (h : RefIn w r A C E s) (hd : s.dead = true) : Calls Tryz.prog 131 #[.pointer (some ⟨r, 0, none⟩)] w (IntSame 5 w) := by
  obtain ⟨capA, _, _, _, _, c3⟩ := h.cells
  rw [hd] at c3
  clear h hd
  go_enter Tryz.func131, Tryz.ntmps131
  go_wp2
  go_ret
  exact ⟨rfl, rfl⟩
set_option maxHeartbeats 2000000 in
set_option maxRecDepth 100000 in
theorem rflush_yes {r A C E : Nat} {s : St} (w : World) (h : RefIn w r A C E s) (hd : s.dead = false) : Calls Tryz.prog 131 #[.pointer (some ⟨r, 0, none⟩)] w (RNew r A C E s.flush (.int .i64 0) w) := by
  obtain ⟨capA, hcap, c0, c1, c2, c3⟩ := h.cells
  rw [hd] at c3
  have hmm := @run_makeMap Tryz.prog
  have H0 := Lib.hid h
  have hn := h.ok.n
  have HF := Lib.hid (flush_alike h.ok)
  have HFO := Lib.hid (show s.flush.Ok from h.ok.stores)
  generalize s.flush = sf at HF HFO ⊢
  clear h hd
  go_enter Tryz.func131, Tryz.ntmps131
  go_wp2_with fail
  clear c0 c1 c2 c3
  go_loopw [13] (fun c wr => RelRF r A C E s w c wr) (fun c _ => s.n - (RowKit.intOf c).toNat)
  case atStart => exact ⟨0, Nat.zero_le _, rfl, H0.out, RChg.refl _ _ _ _ _⟩
  case round =>
    obtain ⟨m, hm, rfl, hR, hG⟩ := hrel
    by_cases hlt : m < s.n
    · have HK := Lib.hid (rkeep_any wr hR m (by rw [keepsR_n]; exact hlt))
      have HG := Lib.hid hG
      clear hR hG
      go_wp2_with fail
      refine HK.out.mono ?_
      rintro e w2 ⟨rfl, hR2, hG2⟩
      have HR2 := Lib.hid hR2
      have HG2 := Lib.hid (HG.out.trans hG2)
      clear hR2 hG2
      go_wp2_with fail
      go_roundw
      case rel => exact ⟨m + 1, by omega, by go_num, by rw [keepsR_succ]; exact HR2.out, HG2.out⟩
      case measure => simp [RowKit.intOf]; omega
    · obtain rfl : m = s.n := by omega
      obtain ⟨capB, _, d0, d1, d2, d3⟩ := hR.cells
      obtain ⟨capC, _, t2⟩ := hR.top
      have f1 := frozen_of_row wr r 1 _ _ t2
      have HN := Lib.hid hR.newCache'
      have HG := Lib.hid hG
      have hsz := hG.size
      have hlr := hR.lt.1
      clear hR hG t2
      go_wp2
      go_ret
      exact ⟨rfl, wr.heap.size, E, HN.out.1.alike HFO.out HF.out, HG.out.trans HN.out.2, Or.inr hsz, Or.inl rfl⟩
/-! ### Crash -/
/-- How many wait ahead of sector i. -/
def rank (s : St) (i : Nat) : Nat := ((List.range i).filter fun j => (s.wt j).isSome).length
theorem rank_succ (s : St) (i : Nat) : rank s (i + 1) = rank s i + if (s.wt i).isSome then 1 else 0 := by
  unfold rank
  rw [List.range_succ, List.filter_append, List.length_append]
  congr 1
  by_cases h : (s.wt i).isSome = true <;> simp [h]
theorem rank_le (s : St) (i : Nat) : rank s i ≤ i := by
  have := List.length_filter_le (fun j => (s.wt j).isSome) (List.range i)
  simpa [rank] using this
theorem ks_rank {s : St} {i : Nat} (hi : i < s.n) (h : (s.wt i).isSome = true) : rank s i < s.ks.length ∧ s.ks.getD (rank s i) 0 = i := by
  have e : s.ks = (List.range i).filter (fun j => (s.wt j).isSome) ++ (i :: ((List.range (s.n - (i + 1))).map (fun x => i + 1 + x)).filter fun j => (s.wt j).isSome) := by
    have e1 : List.range s.n = List.range (i + 1) ++ (List.range (s.n - (i + 1))).map (fun x => i + 1 + x) := by
      rw [← List.range_add]; congr 1; omega
    unfold St.ks
    rw [e1, List.filter_append, List.range_succ, List.filter_append]
    simp [h]
  rw [e]
  refine ⟨by rw [List.length_append]; simp [rank], ?_⟩
  unfold rank
  simp [List.getD]
theorem picks_iff {s : St} {bits i : Nat} (hi : i < s.n) : i ∈ picks bits s.ks s.ks.length ↔ (s.wt i).isSome = true ∧ bitOf bits (rank s i) = true := by
  unfold picks
  rw [List.mem_map]
  constructor
  · rintro ⟨j, hj, e⟩
    obtain ⟨h1, h2⟩ := List.mem_filter.1 hj
    rw [List.mem_range] at h1
    have hm : i ∈ s.ks := by rw [← e]; simp [List.getD, h1]
    have hw : (s.wt i).isSome = true := (List.mem_filter.1 hm).2
    obtain ⟨k1, k2⟩ := ks_rank hi hw
    have : j = rank s i := by
      have e2 : s.ks[j] = s.ks[rank s i] := by
        have a1 : s.ks.getD j 0 = s.ks[j] := by simp [List.getD, h1]
        have a2 : s.ks.getD (rank s i) 0 = s.ks[rank s i] := by simp [List.getD, k1]
        rw [← a1, ← a2, e, k2]
      exact (List.getElem_inj s.ks_nodup).1 e2
    rw [← this]; exact ⟨hw, h2⟩
  · rintro ⟨hw, hb⟩
    obtain ⟨k1, k2⟩ := ks_rank hi hw
    exact ⟨rank s i, List.mem_filter.2 ⟨List.mem_range.2 k1, hb⟩, k2⟩
def crashR (s : St) (bits i : Nat) : St := if (s.wt i).isSome = true ∧ bitOf bits (rank s i) = true then keepR s i else s
def crashesR (s : St) (bits : Nat) : Nat → St
  | 0 => s
  | m + 1 => if (s.wt m).isSome = true ∧ bitOf bits (rank s m) = true then keepR (crashesR s bits m) m else crashesR s bits m
theorem crashesR_wt (s : St) (bits : Nat) : ∀ m, (crashesR s bits m).wt = s.wt
  | 0 => rfl
  | m + 1 => by unfold crashesR; split; rw [keepR_wt]; exact crashesR_wt s bits m; exact crashesR_wt s bits m
theorem crashesR_n (s : St) (bits : Nat) : ∀ m, (crashesR s bits m).n = s.n
  | 0 => rfl
  | m + 1 => by unfold crashesR; split; rw [keepR_n]; exact crashesR_n s bits m; exact crashesR_n s bits m
theorem crashesR_dead (s : St) (bits : Nat) : ∀ m, (crashesR s bits m).dead = s.dead
  | 0 => rfl
  | m + 1 => by unfold crashesR; split; rw [keepR_dead]; exact crashesR_dead s bits m; exact crashesR_dead s bits m
theorem crashesR_st (s : St) (bits j : Nat) : ∀ m, (crashesR s bits m).st j = if j < m ∧ (s.wt j).isSome = true ∧ bitOf bits (rank s j) = true then s.read j else s.st j
  | 0 => by rw [if_neg (fun h => by omega)]; rfl
  | m + 1 => by
    have ih := crashesR_st s bits j m
    unfold crashesR
    split
    · rename_i hc
      rw [keepR_st]
      by_cases e : j = m
      · subst e
        rw [if_pos rfl, if_pos ⟨by omega, hc⟩]
        unfold St.read
        rw [crashesR_wt]
        obtain ⟨b, hb⟩ := Option.isSome_iff_exists.1 hc.1
        rw [hb]; rfl
      · rw [if_neg e, ih]
        by_cases h : j < m ∧ (s.wt j).isSome = true ∧ bitOf bits (rank s j) = true
        · rw [if_pos h, if_pos ⟨by omega, h.2⟩]
        · rw [if_neg h, if_neg (fun x => h ⟨by omega, x.2⟩)]
    · rename_i hc
      rw [ih]
      by_cases h : j < m ∧ (s.wt j).isSome = true ∧ bitOf bits (rank s j) = true
      · rw [if_pos h, if_pos ⟨by omega, h.2⟩]
      · rw [if_neg h, if_neg (fun x => by
          by_cases e : j = m
          · subst e; exact hc x.2
          · exact h ⟨by omega, x.2⟩)]
theorem crashesR_rot (s : St) (bits j : Nat) : ∀ m, (crashesR s bits m).rot j = if j < m ∧ (s.wt j).isSome = true ∧ bitOf bits (rank s j) = true then false else s.rot j
  | 0 => by rw [if_neg (fun h => by omega)]; rfl
  | m + 1 => by
    have ih := crashesR_rot s bits j m
    unfold crashesR
    split
    · rename_i hc
      rw [keepR_rot, crashesR_wt]
      by_cases e : j = m
      · subst e
        rw [if_pos ⟨rfl, hc.1⟩, if_pos ⟨by omega, hc⟩]
      · rw [if_neg (fun x => e x.1), ih]
        by_cases h : j < m ∧ (s.wt j).isSome = true ∧ bitOf bits (rank s j) = true
        · rw [if_pos h, if_pos ⟨by omega, h.2⟩]
        · rw [if_neg h, if_neg (fun x => h ⟨by omega, x.2⟩)]
    · rename_i hc
      rw [ih]
      by_cases h : j < m ∧ (s.wt j).isSome = true ∧ bitOf bits (rank s j) = true
      · rw [if_pos h, if_pos ⟨by omega, h.2⟩]
      · rw [if_neg h, if_neg (fun x => by
          by_cases e : j = m
          · subst e; exact hc x.2
          · exact h ⟨by omega, x.2⟩)]
theorem crash_alike (s : St) (bits : Nat) : Alike (crashesR s bits s.n).lose (s.crash bits) := by
  have hn : (crashesR s bits s.n).n = s.n := crashesR_n s bits s.n
  refine ⟨hn.trans (crashed_n s bits).symm, (crashesR_dead s bits s.n).trans (crashed_dead s bits).symm, fun i hi => ?_, fun i hi => ?_, fun i _ => rfl⟩
  · have hi : i < s.n := hn ▸ hi
    show (crashesR s bits s.n).st i = _
    rw [crashesR_st, St.crash_st]
    by_cases e : (s.wt i).isSome = true ∧ bitOf bits (rank s i) = true
    · rw [if_pos ⟨hi, e⟩, if_pos ((picks_iff hi).2 e)]
      obtain ⟨b, hb⟩ := Option.isSome_iff_exists.1 e.1
      unfold St.read; rw [hb]; rfl
    · rw [if_neg (fun x => e x.2), if_neg (fun x => e ((picks_iff hi).1 x))]
  · have hi : i < s.n := hn ▸ hi
    show (crashesR s bits s.n).rot i = (s.stores (picks bits s.ks s.ks.length)).rot i
    rw [crashesR_rot, St.stores_rot]
    by_cases e : (s.wt i).isSome = true ∧ bitOf bits (rank s i) = true
    · rw [if_pos ⟨hi, e⟩, if_pos ((picks_iff hi).2 e)]
    · rw [if_neg (fun x => e x.2), if_neg (fun x => e ((picks_iff hi).1 x))]
def RelRC (r A C E : Nat) (s : St) (bits : Nat) (w0 : World) (mv c : Value) (wr : World) : Prop := ∃ m : Nat, m ≤ s.n ∧ mv = .int .i64 (rank s m) ∧ c = .int .i64 m ∧ RefIn wr r A C E (crashesR s bits m) ∧ RChg r A C E w0 wr
set_option maxHeartbeats 4000000 in
set_option maxRecDepth 100000 in
theorem rcrash_any {r A C E : Nat} {s : St} (w : World) (h : RefIn w r A C E s) (bits : Nat) (hbits : bits < 18446744073709551616) : Calls Tryz.prog 134 #[.pointer (some ⟨r, 0, none⟩), .int .u64 (bits : Int)] w (RNew r A C E (s.crash bits) (.tuple #[]) w) := by
  obtain ⟨capA, hcap, c0, c1, c2, c3⟩ := h.cells
  have hmm := @run_makeMap Tryz.prog
  have H0 := Lib.hid h
  have hn := h.ok.n
  have HF := Lib.hid (crash_alike s bits)
  have HFO := Lib.hid (show (s.crash bits).Ok from h.ok.crash bits)
  generalize s.crash bits = sf at HF HFO ⊢
  clear h
  go_enter Tryz.func134, Tryz.ntmps134
  go_wp2_with fail
  clear c0 c1 c2 c3
  go_loopw [4, 13] (fun mv c wr => RelRC r A C E s bits w mv c wr) (fun _ c _ => s.n - (RowKit.intOf c).toNat)
  case atStart => exact ⟨0, Nat.zero_le _, rfl, rfl, H0.out, RChg.refl _ _ _ _ _⟩
  case round =>
    obtain ⟨m, hm, rfl, rfl, hR, hG⟩ := hrel
    have hrk := rank_le s m
    by_cases hlt : m < s.n
    · obtain ⟨capB, _, d0, d1, d2, d3⟩ := hR.cells
      obtain ⟨D, hC⟩ := hR.cache
      rw [crashesR_n, crashesR_wt] at hC
      have HC := Lib.hid hC
      have HR := Lib.hid hR
      have HG := Lib.hid hG
      have HRS := Lib.hid (rank_succ s m)
      clear hR hG hC
      cases hw : s.wt m with
      | none =>
        have HW := Lib.hid hw
        have HN := Lib.hid (show crashesR s bits (m + 1) = crashesR s bits m from if_neg (fun x => by rw [hw] at x; cases x.1))
        have HRS := Lib.hid (show rank s (m + 1) = rank s m by rw [HRS.out, hw]; rfl)
        clear hw
        go_wp2_with (at_lookup; refine wpList_lookup_cache _ rfl _ _ rfl rfl rfl HC.out hlt (by omega) ?_; rw [HW.out]; intro v hv; have hv := (hv.resolve_right (by rintro ⟨_, h, _⟩; cases h)).2; subst hv)
        go_roundw
        case rel => exact ⟨m + 1, by omega, by rw [HRS.out], by go_num, by rw [HN.out]; exact HR.out, HG.out⟩
        case measure => simp [RowKit.intOf]; omega
      | some l =>
        have HW := Lib.hid hw
        have HRS := Lib.hid (show rank s (m + 1) = rank s m + 1 by rw [HRS.out, hw]; rfl)
        have hbt := bit_test bits (rank s m) hbits
        cases hb : bitOf bits (rank s m) with
        | true =>
          rw [hb] at hbt
          have HN := Lib.hid (show crashesR s bits (m + 1) = keepR (crashesR s bits m) m from if_pos ⟨by rw [hw]; rfl, hb⟩)
          have HK := Lib.hid (rkeep_any wr HR.out m (by rw [crashesR_n]; exact hlt))
          clear hw hb
          go_wp2_with (first
            | (go_at_call 167; refine HK.out.mono ?_; rintro e w2 ⟨rfl, hR2, hG2⟩; have HR2 := Lib.hid hR2; have HG2 := Lib.hid (HG.out.trans hG2); clear hR2 hG2)
            | (at_lookup; refine wpList_lookup_cache _ rfl _ _ rfl rfl rfl HC.out hlt (by omega) ?_; rw [HW.out]; intro v hv; have HV := Lib.hid (show ByteRow wr v l by obtain ⟨l', h1, h2⟩ := hv.resolve_left (by rintro ⟨h, _⟩; cases h); cases h1; exact h2); clear hv; obtain ⟨gv, cpv, rfl⟩ := HV.out.shape))
          go_roundw
          case rel => exact ⟨m + 1, by omega, by rw [HRS.out]; rfl, by go_num, by rw [HN.out]; exact HR2.out, HG2.out⟩
          case measure => simp [RowKit.intOf]; omega
        | false =>
          rw [hb] at hbt
          have HN := Lib.hid (show crashesR s bits (m + 1) = crashesR s bits m from if_neg (fun x => by rw [hb] at x; cases x.2))
          clear hw hb
          go_wp2_with (at_lookup; refine wpList_lookup_cache _ rfl _ _ rfl rfl rfl HC.out hlt (by omega) ?_; rw [HW.out]; intro v hv; have HV := Lib.hid (show ByteRow wr v l by obtain ⟨l', h1, h2⟩ := hv.resolve_left (by rintro ⟨h, _⟩; cases h); cases h1; exact h2); clear hv; obtain ⟨gv, cpv, rfl⟩ := HV.out.shape)
          go_roundw
          case rel => exact ⟨m + 1, by omega, by rw [HRS.out]; rfl, by go_num, by rw [HN.out]; exact HR.out, HG.out⟩
          case measure => simp [RowKit.intOf]; omega
    · obtain rfl : m = s.n := by omega
      obtain ⟨capB, _, d0, d1, d2, d3⟩ := hR.cells
      obtain ⟨capC, _, t2⟩ := hR.top
      have f1 := frozen_of_row wr r 1 _ _ t2
      have HN := Lib.hid hR.newCache'
      have HG := Lib.hid hG
      have hsz := hG.size
      have hlr := hR.lt.1
      clear hR hG t2
      go_wp2
      go_end0
      exact ⟨rfl, wr.heap.size, E, HN.out.1.alike HFO.out HF.out, HG.out.trans HN.out.2, Or.inr hsz, Or.inl rfl⟩
end Go.Proofs.YtidnmkghmaeniaaGreatDoor
/-
  The reference's disk: blank, Die, Replace.
-/
namespace Go.Proofs.YtidnmkghmaeniaaGreatDoor
open Go.RowKit Go.Deep Dk Go.Maps
def blanks (s : St) (m : Nat) : St := { s with st := fun i => if i < m then zer else s.st i }
theorem blanks_ok {s : St} (h : s.Ok) (m : Nat) : (blanks s m).Ok := ⟨h.n, fun i => by show (if i < m then zer else s.st i).length = 128; split; exact zer_length; exact h.st i, h.wt⟩
theorem wipe_alike (s : St) : Alike { (blanks s s.n) with wt := fun _ => none, rot := fun _ => false } (s.wipe s.dead) :=
  ⟨rfl, rfl, fun _ hi => if_pos hi, fun _ _ => rfl, fun _ _ => rfl⟩
/-- One row is laid anew. -/
theorem RefIn.setRow {w : World} {r A C E i : Nat} {s s' : St} {v : Value} (h : RefIn w r A C E s) (hi : i < s.n) (hok : s'.Ok) (hn : s'.n = s.n) (hd : s'.dead = s.dead) (hw : s'.wt = s.wt) (hrot : s'.rot = s.rot)
    (hst : ∀ j, j < s.n → j ≠ i → s'.st j = s.st j) (hr : ByteRow w v (s'.st i)) : RefIn (w.setCell ⟨A, i, none⟩ v) r A C E s' ∧ RChg r A C E w (w.setCell ⟨A, i, none⟩ v) := by
  obtain ⟨a1, a2, a3, a4, a5⟩ := h.apart
  obtain ⟨capA, t1, t2⟩ := h.top
  obtain ⟨cur, r1, r2, r3⟩ := h.rows
  obtain ⟨D, hC⟩ := h.cache
  obtain ⟨D', hB⟩ := h.bad
  have oth : ∀ k, k ≠ A → (w.setCell ⟨A, i, none⟩ v).heap[k]? = w.heap[k]? := fun k hk => heap_setCell_other _ ⟨A, i, none⟩ k _ hk
  have key : ∀ (g : Nat) (cur : Array Value), w.heap[g]? = some (.cells cur 5 (0, 0)) → (w.setCell ⟨A, i, none⟩ v).heap[g]? = w.heap[g]? := fun g cur hg => oth g (h.off hg).2.1
  refine ⟨⟨hok, by rw [hn]; exact h.pos, h.ne, ⟨capA, by rw [hn]; exact t1, by rw [hn, hd]; exact (oth r a1).trans t2⟩, ⟨_, heap_setCell_same w A i _ _ v r1, by rw [hn]; simpa using r2, fun j hj => ?_⟩, ⟨D, ?_⟩, ⟨D', ?_⟩⟩, RChg.of_grown (grown_cell w A i v) (by simp)⟩
  · rw [hn] at hj
    obtain ⟨u, e1, e2⟩ := r3 j hj
    by_cases e : j = i
    · subst e
      exact ⟨v, by rw [Array.getElem?_setIfInBounds_self_of_lt (by omega)], hr.keep key⟩
    · refine ⟨u, by rw [Array.getElem?_setIfInBounds_ne (fun q => e q.symm)]; exact e1, ?_⟩
      rw [hst j hj e]; exact e2.keep key
  · rw [hn, hw]; exact hC.keep (oth C (fun e => a4 e.symm)) key
  · rw [hn, hrot]; exact hB.keep (oth E (fun e => a5 e.symm))
theorem RefIn.newMaps {w : World} {r A C E : Nat} {s : St} (h : RefIn w r A C E s) :
    RefIn ((((w.alloc (.map #[] 0)).alloc (.map #[] 0)).setCell ⟨r, 1, none⟩ (.map (some w.heap.size))).setCell ⟨r, 2, none⟩ (.map (some (w.heap.size + 1)))) r A w.heap.size (w.heap.size + 1) { s with wt := fun _ => none, rot := fun _ => false } ∧
    RChg r A C E w ((((w.alloc (.map #[] 0)).alloc (.map #[] 0)).setCell ⟨r, 1, none⟩ (.map (some w.heap.size))).setCell ⟨r, 2, none⟩ (.map (some (w.heap.size + 1)))) := by
  obtain ⟨b1, b2, b3, b4⟩ := h.lt
  obtain ⟨a1, a2, a3, a4, a5⟩ := h.apart
  have hs : (w.alloc (.map #[] 0)).heap.size = w.heap.size + 1 := by simp
  have h1 := (h.below (one_below w (.map #[] 0))).below (one_below _ (.map #[] 0))
  obtain ⟨capA, t1, t2⟩ := h1.top
  obtain ⟨cur, r1, r2, r3⟩ := h1.rows
  generalize hW : (w.alloc (.map #[] 0)).alloc (.map #[] 0) = W at *
  have oth : ∀ k, k ≠ r → ((W.setCell ⟨r, 1, none⟩ (.map (some w.heap.size))).setCell ⟨r, 2, none⟩ (.map (some (w.heap.size + 1)))).heap[k]? = W.heap[k]? := fun k hk => (heap_setCell_other _ ⟨r, 2, none⟩ k _ hk).trans (heap_setCell_other _ ⟨r, 1, none⟩ k _ hk)
  have hC : W.heap[w.heap.size]? = some (.map #[] 0) := by rw [← hW, heap_alloc_old (r := w.heap.size) _ _ (by simp)]; exact heap_alloc_new w _
  have hE : W.heap[w.heap.size + 1]? = some (.map #[] 0) := by rw [← hW]; have := heap_alloc_new (w.alloc (.map #[] 0)) (.map #[] 0); rwa [hs] at this
  refine ⟨⟨⟨h.ok.n, h.ok.st, fun _ _ e => by cases e⟩, h.pos, by omega, ⟨capA, t1, ?_⟩, ⟨cur, (oth A (fun e => a1 e.symm)).trans r1, r2, fun i hi => ?_⟩, ⟨.map [], ?_⟩, ⟨.map [], ?_⟩⟩, ?_⟩
  · have e1 := heap_setCell_same W r 1 _ _ (.map (some w.heap.size)) t2
    exact heap_setCell_same _ r 2 _ _ (.map (some (w.heap.size + 1))) e1
  · obtain ⟨v, e1, e2⟩ := r3 i hi
    exact ⟨v, e1, e2.keep fun g cur hg => oth g (h1.off hg).1⟩
  · exact ⟨⟨#[], 0, (oth _ (fun e => by omega)).trans hC, ⟨by simp, MapKept.stamped_empty 0, by simp⟩, Nat.le_refl _, rfl⟩, fun _ h => (by cases h), fun _ _ _ => rfl, fun i l _ hl => (by cases hl)⟩
  · exact ⟨⟨#[], 0, (oth _ (fun e => by omega)).trans hE, ⟨by simp, MapKept.stamped_empty 0, by simp⟩, Nat.le_refl _, rfl⟩, fun _ h => (by cases h), fun _ _ => rfl⟩
  · exact ((RChg.of_below (hW ▸ balloc (one_below w _) _)).trans (RChg.of_grown (grown_cell _ r 1 _) (by simp))).trans (RChg.of_grown (grown_cell _ r 2 _) (by simp))
theorem RefIn.newMaps' {w : World} {r A C E : Nat} {s : St} (h : RefIn w r A C E s) :
    RefIn ((((w.setCell ⟨r, 1, none⟩ (.map (some w.heap.size))).setCell ⟨r, 2, none⟩ (.map (some (w.heap.size + 1)))).alloc (.map #[] 0)).alloc (.map #[] 0)) r A w.heap.size (w.heap.size + 1) { s with wt := fun _ => none, rot := fun _ => false } ∧
    RChg r A C E w ((((w.setCell ⟨r, 1, none⟩ (.map (some w.heap.size))).setCell ⟨r, 2, none⟩ (.map (some (w.heap.size + 1)))).alloc (.map #[] 0)).alloc (.map #[] 0)) := by
  have := h.newMaps
  have hl := h.lt.1
  rw [World.setCell_alloc_past _ _ _ _ (by simp; omega), World.setCell_alloc_past _ _ _ _ hl, World.setCell_alloc_past _ _ _ _ (by simp; omega), World.setCell_alloc_past _ _ _ _ (by simpa using hl)] at this
  exact this
def RelRB (r A C E : Nat) (s : St) (w0 : World) (c : Value) (wr : World) : Prop := ∃ m : Nat, m ≤ s.n ∧ c = .int .i64 m ∧ RefIn wr r A C E (blanks s m) ∧ RChg r A C E w0 wr
set_option maxHeartbeats 4000000 in
set_option maxRecDepth 100000 in
theorem rblank_any {r A C E : Nat} {s : St} (w : World) (h : RefIn w r A C E s) : Calls Tryz.prog 132 #[.pointer (some ⟨r, 0, none⟩)] w (RNew r A C E (s.wipe s.dead) (.tuple #[]) w) := by
  obtain ⟨capA, hcap, c0, c1, c2, c3⟩ := h.cells
  have hmm := @run_makeMap Tryz.prog
  have hmk : ∀ w, (Instr.makeSlice 106 (.int .i64 128) (.int .i64 128)).run Tryz.prog w = .ok (.slice (some ⟨w.heap.size, 0, none⟩) 128 128) (w.alloc (.cells (madeCells #[.int .u8 0] 128) 5)) := make_u8 128 (by omega)
  have H0 := Lib.hid (show RefIn w r A C E (blanks s 0) from h.alike (blanks_ok h.ok 0) ⟨rfl, rfl, fun i _ => by show s.st i = if i < 0 then zer else s.st i; rw [if_neg (by omega)], fun _ _ => rfl, fun _ _ => rfl⟩)
  have hn := h.ok.n
  have HOK := Lib.hid h.ok
  have HF := Lib.hid (wipe_alike s)
  have HFO := Lib.hid (show (s.wipe s.dead).Ok from h.ok.wipe _)
  generalize s.wipe s.dead = sf at HF HFO ⊢
  clear h
  go_enter Tryz.func132, Tryz.ntmps132
  go_wp2_with fail
  clear c0 c1 c2 c3
  go_loopw [8] (fun c wr => RelRB r A C E s w c wr) (fun c _ => s.n - (RowKit.intOf c).toNat)
  case atStart => exact ⟨0, Nat.zero_le _, rfl, H0.out, RChg.refl _ _ _ _ _⟩
  case round =>
    obtain ⟨m, hm, rfl, hR, hG⟩ := hrel
    by_cases hlt : m < s.n
    · obtain ⟨capB, hcb, d0, d1, d2, d3⟩ := hR.cells
      obtain ⟨u0, k0, _⟩ := hR.row (i := m) hlt
      obtain ⟨cur, r1, _⟩ := hR.rows
      have f0 := frozen_of_row wr A m _ _ r1
      have hlA := hR.lt.2.1
      have hlr := hR.lt.1
      have i1 : (m : Int) < s.n := by omega
      have hR1 := hR.below (one_below wr (.cells (madeCells #[.int .u8 0] 128) 5))
      have hown := made_own wr wr.heap.size 128 (Nat.le_refl _) (by omega)
      have hz : (zeros 128) = zer := rfl
      rw [hz] at hown
      have HN := Lib.hid (hR1.setRow (s' := blanks s (m + 1)) hlt (blanks_ok HOK.out _) rfl rfl rfl rfl (fun j _ hj => by
        show (if j < m + 1 then zer else s.st j) = if j < m then zer else s.st j
        by_cases e : j < m
        · rw [if_pos e, if_pos (by omega)]
        · rw [if_neg e, if_neg (by omega)]) (by
        have e : (blanks s (m + 1)).st m = zer := if_pos (by omega)
        rw [e]; exact ByteRow.of_own hown zer_length))
      rw [World.setCell_alloc_past _ _ _ _ hlA] at HN
      have HG := Lib.hid hG
      have HMEM := Lib.hid (show ∀ (w' : World), w'.heap[r]? = wr.heap[r]? → w'.cell? ⟨r, 0, none⟩ = some (.slice (some ⟨A, 0, none⟩) s.n capB) from fun w' hb => (World.cell?_of_block (a := ⟨r, 0, none⟩) hb).trans d0)
      have hd0 : wr.cell? ⟨r, 0, none⟩ = some (.slice (some ⟨A, 0, none⟩) s.n capB) := d0
      have hrA : r ≠ A := hR.apart.1
      generalize madeCells #[.int .u8 0] 128 = zs at hmk HN
      have HN2 := Lib.hid (hG.trans ((RChg.of_below (one_below wr (.cells zs 5))).trans HN.out.2))
      have hrz : ((wr.setCell ⟨A, m, none⟩ (.slice (some ⟨wr.heap.size, 0, none⟩) 128 128)).alloc (.cells zs 5)).heap[r]? = wr.heap[r]? := (heap_alloc_old _ _ (by have := (RChg.of_grown (r := A) (A := A) (C := A) (E := A) (grown_cell wr A m (.slice (some ⟨wr.heap.size, 0, none⟩) 128 128)) (by simp)).size; omega)).trans (heap_setCell_other wr ⟨A, m, none⟩ r _ hrA)
      clear hR hG hR1 hown r1 d0
      go_wp2_with fail
      go_region_held3 (fun w' => w'.cell? ⟨r, 0, none⟩ = some (.slice (some ⟨A, 0, none⟩) s.n capB)) ((refine HMEM.out _ ?_; first | rfl | assumption | exact hrz | exact heap_alloc_old _ _ hlr)) (fail)
      all_goals
        go_wp2
        go_roundw
        case rel => exact ⟨m + 1, by omega, by go_num, HN.out.1.drew, ⟨HN2.out.os, HN2.out.tape, HN2.out.output, HN2.out.size, HN2.out.block⟩⟩
        case measure => simp [RowKit.intOf]; omega
    · obtain rfl : m = s.n := by omega
      obtain ⟨capB, _, d0, d1, d2, d3⟩ := hR.cells
      obtain ⟨capC, _, t2⟩ := hR.top
      have f1 := frozen_of_row wr r 1 _ _ t2
      have f2 := frozen_of_row wr r 2 _ _ t2
      have HN := Lib.hid hR.newMaps'
      have HG := Lib.hid hG
      have hsz := hG.size
      have hlr := hR.lt.1
      clear hR hG t2
      go_wp2
      go_end0
      exact ⟨rfl, wr.heap.size, wr.heap.size + 1, HN.out.1.alike HFO.out HF.out, HG.out.trans HN.out.2, Or.inr hsz, Or.inr (by omega)⟩
def RWiped (r A C E : Nat) (s' : St) (w : World) (e : Ending) (w' : World) : Prop := RNew r A C E s' (.tuple #[]) w e w'
theorem RefIn.setDead {w : World} {r A C E : Nat} {s : St} (h : RefIn w r A C E s) (b : Bool) : RefIn (w.setCell ⟨r, 3, none⟩ (.bool b)) r A C E { s with dead := b } ∧ RChg r A C E w (w.setCell ⟨r, 3, none⟩ (.bool b)) := by
  obtain ⟨a1, a2, a3, a4, a5⟩ := h.apart
  obtain ⟨capA, t1, t2⟩ := h.top
  obtain ⟨cur, r1, r2, r3⟩ := h.rows
  obtain ⟨D, hC⟩ := h.cache
  obtain ⟨D', hB⟩ := h.bad
  have oth : ∀ k, k ≠ r → (w.setCell ⟨r, 3, none⟩ (.bool b)).heap[k]? = w.heap[k]? := fun k hk => heap_setCell_other _ ⟨r, 3, none⟩ k _ hk
  have key : ∀ (g : Nat) (cur : Array Value), w.heap[g]? = some (.cells cur 5 (0, 0)) → (w.setCell ⟨r, 3, none⟩ (.bool b)).heap[g]? = w.heap[g]? := fun g cur hg => oth g (h.off hg).1
  refine ⟨⟨⟨h.ok.n, h.ok.st, h.ok.wt⟩, h.pos, h.ne, ⟨capA, t1, heap_setCell_same w r 3 _ _ _ t2⟩, ⟨cur, (oth A (fun e => a1 e.symm)).trans r1, r2, fun j hj => ?_⟩, ⟨D, hC.keep (oth C (fun e => a2 e.symm)) key⟩, ⟨D', hB.keep (oth E (fun e => a3 e.symm))⟩⟩, RChg.of_grown (grown_cell w r 3 _) (by simp)⟩
  obtain ⟨u, e1, e2⟩ := r3 j hj
  exact ⟨u, e1, e2.keep key⟩
set_option maxHeartbeats 2000000 in
set_option maxRecDepth 100000 in
theorem rdie_any {r A C E : Nat} {s : St} (w : World) (h : RefIn w r A C E s) : Calls Tryz.prog 64 #[.pointer (some ⟨r, 0, none⟩)] w (RWiped r A C E (s.wipe true) w) := by
  obtain ⟨capB, _, d0, d1, d2, d3⟩ := h.cells
  obtain ⟨capC, _, t2⟩ := h.top
  have f3 := frozen_of_row w r 3 _ _ t2
  have HD := Lib.hid (h.setDead true)
  have HB := Lib.hid (rblank_any (w.setCell ⟨r, 3, none⟩ (.bool true)) (h.setDead true).1)
  clear h t2
  go_enter Tryz.func64, Tryz.ntmps64
  go_wp2_with fail
  refine HB.out.mono ?_
  rintro e w2 ⟨rfl, C', E', h1, h2, h3, h4⟩
  have hs := HD.out.2.size
  have HZ := Lib.hid (show RWiped r A C E (s.wipe true) w (.returned (.tuple #[])) w2 from ⟨rfl, C', E', h1, HD.out.2.trans h2, h3.imp id (fun x => by omega), h4.imp id (fun x => by omega)⟩)
  clear h1 h2 h3 h4
  go_wp2
  go_end0
  exact HZ.out
set_option maxHeartbeats 2000000 in
set_option maxRecDepth 100000 in
theorem rreplace_any {r A C E : Nat} {s : St} (w : World) (h : RefIn w r A C E s) : Calls Tryz.prog 65 #[.pointer (some ⟨r, 0, none⟩)] w (RWiped r A C E (s.wipe false) w) := by
  obtain ⟨capB, _, d0, d1, d2, d3⟩ := h.cells
  obtain ⟨capC, _, t2⟩ := h.top
  have f3 := frozen_of_row w r 3 _ _ t2
  have HD := Lib.hid (h.setDead false)
  have HB := Lib.hid (rblank_any (w.setCell ⟨r, 3, none⟩ (.bool false)) (h.setDead false).1)
  clear h t2
  go_enter Tryz.func65, Tryz.ntmps65
  go_wp2_with fail
  refine HB.out.mono ?_
  rintro e w2 ⟨rfl, C', E', h1, h2, h3, h4⟩
  have hs := HD.out.2.size
  have HZ := Lib.hid (show RWiped r A C E (s.wipe false) w (.returned (.tuple #[])) w2 from ⟨rfl, C', E', h1, HD.out.2.trans h2, h3.imp id (fun x => by omega), h4.imp id (fun x => by omega)⟩)
  clear h1 h2 h3 h4
  go_wp2
  go_end0
  exact HZ.out
end Go.Proofs.YtidnmkghmaeniaaGreatDoor
/-
  The reference's disk: NewDisk.
-/
namespace Go.Proofs.YtidnmkghmaeniaaGreatDoor
open Go.RowKit Go.Deep Dk Go.Maps
theorem info_rows : (Tryz.prog.info? 106).map (fun i => (i.zero, i.size, i.bytes)) = some (some (.slice none 0 0), 1, 24) := by kernel_rfl
theorem cell_later {w2 wx w3 : World} {r r' : Option Nat} {c i : Nat} {x : Value} (hb : Below w2.heap.size w2 wx) (hg : Grew wx r w3 r') (hl : c < w2.heap.size) (hr : r ≠ some c) (h : w2.cell? ⟨c, i, none⟩ = some x) : w3.cell? ⟨c, i, none⟩ = some x := by
  rw [hg.cell (a := ⟨c, i, none⟩) (Nat.lt_of_lt_of_le hl hb.size) (fun e => hr e.symm), hb.cell (p := ⟨c, i, none⟩) hl]; exact h
theorem frozen_later {w2 wx w3 : World} {r r' : Option Nat} {c i : Nat} (hb : Below w2.heap.size w2 wx) (hg : Grew wx r w3 r') (hl : c < w2.heap.size) (hr : r ≠ some c) (h : w2.frozen? ⟨c, i, none⟩ = false) : w3.frozen? ⟨c, i, none⟩ = false := by
  rw [hg.frozen (a := ⟨c, i, none⟩) (Nat.lt_of_lt_of_le hl hb.size) (fun e => hr e.symm), hb.frozen (p := ⟨c, i, none⟩) hl]; exact h
set_option maxRecDepth 100000 in
theorem step_append_rows (w : World) {ops : Array Oper} {o : Oper} {a : Act} {K : Act → World → Prop} {Q : Exit → Act → World → Prop} {E : Prop} (hgd : o.guard = none) (s x : Operand)
    (ho : o.op = .call { callee := .builtin .append, args := #[s, x], argTypes := #[127, 127] })
    (base : Nat) (v : Value) (n : Nat) (xs : List Value) (hsv : a.eval s = v) (hown : w.ownsRow base 106 1 v n xs)
    (b : Nat) (u : Value) (hx : a.eval x = .slice (some ⟨b, 0, none⟩) 1 1) (hb : w.cell? ⟨b, 0, none⟩ = some u) (hu : u.oneCell' = true) (h63 : n + 1 ≤ 100000) (hbase : base ≤ w.heap.size)
    (h : ∀ v' w', w'.ownsRow base 106 1 v' (n + 1) (xs ++ [u]) → Grew w v.ownBlock w' v'.ownBlock → K (a.put o.dst v') w') : if Region.wanted o (yielded ops a.tmps) = true then Oper.wp Tryz.prog o a w K Q else E := by
  have hw : Region.wanted o (yielded ops a.tmps) = true := by simp [Region.wanted, hgd]
  rw [if_pos hw]
  obtain ⟨i0, hi0, hz⟩ := Option.map_eq_some_iff.1 info_rows
  simp only [Prod.mk.injEq] at hz
  obtain ⟨hz0, hz1, hz2⟩ := hz
  have hsrc : Src Tryz.prog 1 127 (.slice (some ⟨b, 0, none⟩) 1 1) 1 [u] w := Src.ofSlice _ Tryz.underlying127 ⟨b, 0, none⟩ 1 1 [u] rfl (fun j y hy => by
    match j, hy with
    | 0, hy => injection hy with hy; subst hy; simpa [Addr.add] using hb
    | j + 1, hy => simp at hy) (fun y hy => by rw [List.mem_singleton.1 hy]; exact hu)
  exact wp_append_src w s x 127 127 ho base 106 i0 (.slice none 0 0) 1 24 Tryz.underlying127 hi0 hz0 hz1 hz2 rfl v n xs hsv hown (.slice (some ⟨b, 0, none⟩) 1 1) 1 [u] hx hsrc (by unfold maxLen; omega) (by omega) hbase fun v' w' h1 h2 _ => h v' w' h1 h2
/-- So far j rows have been laid. -/
structure NRow (w : World) (j : Nat) (v : Value) (us : List Value) (w0 : World) : Prop where
  top : w.heap[w0.heap.size + 2]? = some (.cells #[v, .map (some w0.heap.size), .map (some (w0.heap.size + 1)), .bool false] 131 (0, 0))
  c : w.heap[w0.heap.size]? = some (.map #[] 0)
  e : w.heap[w0.heap.size + 1]? = some (.map #[] 0)
  own : w.ownsRow (w0.heap.size + 3) 106 1 v j us
  row : ∀ u ∈ us, ByteRow w u zer
  below : KB w0 w
theorem NRow.cells {w w0 : World} {j : Nat} {v : Value} {us : List Value} (h : NRow w j v us w0) : w.cell? ⟨w0.heap.size + 2, 0, none⟩ = some v ∧ w.frozen? ⟨w0.heap.size + 2, 0, none⟩ = false := by
  refine ⟨?_, frozen_of_row _ _ 0 _ _ h.top⟩
  rw [cell_of_row _ _ 0 _ _ (0, 0) h.top]; rfl
theorem NRow.lt {w w0 : World} {j : Nat} {v : Value} {us : List Value} (h : NRow w j v us w0) : w0.heap.size + 2 < w.heap.size := (Array.getElem?_eq_some_iff.1 h.top).1
theorem NRow.off {w w0 : World} {j : Nat} {v : Value} {us : List Value} (h : NRow w j v us w0) : v.ownBlock ≠ some (w0.heap.size + 2) := fun e => by have := (own_block h.own e).1; omega
/-- No row of bytes is the row of rows. -/
theorem own_off {w : World} {B n g : Nat} {v : Value} {xs : List Value} {cur : Array Value} (h : w.ownsRow B 106 1 v n xs) (hg : w.heap[g]? = some (.cells cur 5 (0, 0))) : v.ownBlock ≠ some g := by
  rcases h.2 with ⟨rfl, _⟩ | ⟨g', cap, cur', rfl, _, hg', _⟩
  · intro e; cases e
  · intro e
    have e : g' = g := by
      have : (Value.slice (some ⟨g', 0, none⟩) n cap).ownBlock = some g' := rfl
      rw [this] at e; injection e
    subst e
    rw [hg] at hg'
    injection hg' with hg'
    injection hg' with _ h2 _
    cases h2
theorem NRow.next {w0 wr wx w3 : World} {j g : Nat} {v v' : Value} {us : List Value} {cs : Array Value} (h : NRow wr j v us w0) (hx : Below wr.heap.size wr wx) (hz : wx.heap[g]? = some (.cells cs 5 (0, 0))) (hcs : cs.toList.take 128 = bytesV zer)
    (hown : w3.ownsRow (w0.heap.size + 3) 106 1 v' (j + 1) (us ++ [.slice (some ⟨g, 0, none⟩) 128 128])) (hg : Grew wx v.ownBlock w3 v'.ownBlock) :
    NRow (w3.setCell ⟨w0.heap.size + 2, 0, none⟩ v') (j + 1) v' (us ++ [.slice (some ⟨g, 0, none⟩) 128 128]) w0 := by
  have hlt := h.lt
  have hoff := h.off
  have hlow : ∀ k, k < w0.heap.size + 3 → v.ownBlock ≠ some k := fun k hk e => by have := (own_block h.own e).1; omega
  have old : ∀ k, k < wr.heap.size → v.ownBlock ≠ some k → w3.heap[k]? = wr.heap[k]? := fun k hk hne => (hg.by_.block k (Nat.lt_of_lt_of_le hk hx.size) (fun e => hne e.symm)).trans (hx.block k hk)
  have oth : ∀ k, k ≠ w0.heap.size + 2 → (w3.setCell ⟨w0.heap.size + 2, 0, none⟩ v').heap[k]? = w3.heap[k]? := fun k hk => heap_setCell_other _ ⟨w0.heap.size + 2, 0, none⟩ k _ hk
  have hownx := own_below h.own hx
  have key : ∀ (k : Nat) (cur : Array Value), wx.heap[k]? = some (.cells cur 5 (0, 0)) → (w3.setCell ⟨w0.heap.size + 2, 0, none⟩ v').heap[k]? = wx.heap[k]? := fun k cur hk => by
    have e2 : w3.heap[k]? = wx.heap[k]? := hg.by_.block k (Array.getElem?_eq_some_iff.1 hk).1 (fun e => own_off hownx hk e.symm)
    refine (oth k (fun e => ?_)).trans e2
    subst e
    have e3 := (hx.block (w0.heap.size + 2) hlt).trans h.top
    rw [e3] at hk
    injection hk with hk
    injection hk with _ h2 _
    cases h2
  refine ⟨heap_setCell_same w3 _ 0 _ _ v' ((old _ hlt hoff).trans h.top), (oth _ (by omega)).trans ((old _ (by omega) (hlow _ (by omega))).trans h.c), (oth _ (by omega)).trans ((old _ (by omega) (hlow _ (by omega))).trans h.e), ?_, fun u hu => ?_, ?_⟩
  · exact World.ownsRow.kept hown (grown_cell w3 _ 0 v') (Or.inr fun e => by have := (own_block hown e).1; omega)
  · rcases List.mem_append.1 hu with hu | hu
    · exact ((h.row u hu).keep fun k cur hk => hx.block k (Array.getElem?_eq_some_iff.1 hk).1).keep key
    · rw [List.mem_singleton.1 hu]
      exact ByteRow.keep ⟨zer_length, g, 128, cs, rfl, Nat.le_refl _, hz, hcs⟩ key
  · refine Below.setCell (p := ⟨w0.heap.size + 2, 0, none⟩) ?_ (by show _ ≤ w0.heap.size + 2; omega) _
    exact (h.below.trans (hx.mono h.below.size)).trans (hg.below (Nat.le_trans h.below.size hx.size) fun k hk => by have := (own_block h.own hk).1; omega)
/-- A new disk. -/
def RMade (n : Nat) (w : World) (e : Ending) (w' : World) : Prop :=
  ∃ r A C E, e = .returned (.tuple #[.pointer (some ⟨r, 0, none⟩), .int .i64 0]) ∧ RefIn w' r A C E (new n) ∧ w.heap.size ≤ r ∧ w.heap.size ≤ A ∧ w.heap.size ≤ C ∧ w.heap.size ≤ E ∧ KB w w'
theorem NRow.made {w w0 : World} {n : Nat} {v : Value} {us : List Value} (h : NRow w n v us w0) (h1 : 1 ≤ n) (h2 : n ≤ 128) : RMade n w0 (.returned (.tuple #[.pointer (some ⟨w0.heap.size + 2, 0, none⟩), .int .i64 0])) w := by
  have hlen := h.own.1
  rcases h.own.2 with ⟨_, h0⟩ | ⟨A, cap, cur, rfl, hB, hg, hle, _, _, ht⟩
  · omega
  · refine ⟨_, A, _, _, rfl, ⟨new_ok h2, h1, by omega, ⟨cap, hle, h.top⟩, ⟨cur, hg, ?_, fun i hi => ?_⟩, ⟨.map [], ?_⟩, ⟨.map [], ?_⟩⟩, by omega, by omega, by omega, by omega, h.below⟩
    · have e := congrArg List.length ht
      rw [List.length_take, hlen] at e
      show n ≤ cur.size
      have : cur.toList.length = cur.size := rfl
      omega
    · have hi : i < n := hi
      rw [Nat.mul_one] at hlen ht
      have hu : us[i]? = some (us[i]'(by omega)) := List.getElem?_eq_getElem (by omega)
      refine ⟨us[i]'(by omega), ?_, h.row _ (List.getElem_mem _)⟩
      rw [← hu, ← ht, List.getElem?_take, if_pos hi, Array.getElem?_toList]
    · exact ⟨⟨#[], 0, h.c, ⟨by simp, MapKept.stamped_empty 0, by simp⟩, Nat.le_refl _, rfl⟩, fun _ h => (by cases h), fun _ _ _ => rfl, fun i l _ hl => (by cases hl)⟩
    · exact ⟨⟨#[], 0, h.e, ⟨by simp, MapKept.stamped_empty 0, by simp⟩, Nat.le_refl _, rfl⟩, fun _ h => (by cases h), fun _ _ => rfl⟩
theorem nrow_start (w : World) : NRow (((w.alloc (.map #[] 0)).alloc (.map #[] 0)).alloc (.cells #[.slice none 0 0, .map (some w.heap.size), .map (some (w.heap.size + 1)), .bool false] 131)) 0 (.slice none 0 0) [] w := by
  have hs : (w.alloc (.map #[] 0)).heap.size = w.heap.size + 1 := by simp
  have hs2 : ((w.alloc (.map #[] 0)).alloc (.map #[] 0)).heap.size = w.heap.size + 2 := by simp
  have h0 := heap_alloc_new w (.map #[] 0)
  have h1 := heap_alloc_new (w.alloc (.map #[] 0)) (.map #[] 0)
  rw [hs] at h1
  have h2 := heap_alloc_new ((w.alloc (.map #[] 0)).alloc (.map #[] 0)) (.cells #[.slice none 0 0, .map (some w.heap.size), .map (some (w.heap.size + 1)), .bool false] 131)
  rw [hs2] at h2
  refine ⟨h2, ?_, ?_, ⟨rfl, Or.inl ⟨rfl, rfl⟩⟩, fun u hu => (by cases hu), balloc (balloc (one_below w _) _) _⟩
  · rw [heap_alloc_old (r := w.heap.size) _ _ (by rw [hs2]; omega), heap_alloc_old (r := w.heap.size) _ _ (by rw [hs]; omega)]; exact h0
  · rw [heap_alloc_old (r := w.heap.size + 1) _ _ (by rw [hs2]; omega)]; exact h1
def RelNR (n : Nat) (w : World) (i : Value) (wr : World) : Prop := ∃ (j : Nat) (v : Value) (us : List Value), j ≤ n ∧ i = .int .i64 j ∧ NRow wr j v us w
theorem relNR_next {n j g : Nat} {w0 wr wx w3 : World} {v v' : Value} {us : List Value} {cs : Array Value} (h : NRow wr j v us w0) (hj : j < n) (hx : Below wr.heap.size wr wx) (hz : wx.heap[g]? = some (.cells cs 5 (0, 0))) (hcs : cs.toList.take 128 = bytesV zer)
    (hown : w3.ownsRow (w0.heap.size + 3) 106 1 v' (j + 1) (us ++ [.slice (some ⟨g, 0, none⟩) 128 128])) (hg : Grew wx v.ownBlock w3 v'.ownBlock) : RelNR n w0 (.int .i64 ((j : Int) + 1)) (w3.setCell ⟨w0.heap.size + 2, 0, none⟩ v') :=
  ⟨j + 1, v', _, by omega, by go_num, h.next hx hz hcs hown hg⟩
set_option maxHeartbeats 2000000 in
set_option maxRecDepth 100000 in
theorem rnew_yes (n : Nat) (w : World) (h1 : 1 ≤ n) (h2 : n ≤ 128) : Calls Tryz.prog 117 #[.int .i64 (n : Int)] w (RMade n w) := by
  have hmm := @run_makeMap Tryz.prog
  have hmk : ∀ w, (Instr.makeSlice 106 (.int .i64 128) (.int .i64 128)).run Tryz.prog w = .ok (.slice (some ⟨w.heap.size, 0, none⟩) 128 128) (w.alloc (.cells (madeCells #[.int .u8 0] 128) 5)) := make_u8 128 (by omega)
  have hzs : (madeCells #[.int .u8 0] 128).toList.take 128 = bytesV zer := by
    rw [made_u8]
    exact List.take_of_length_le (by rw [bytesV_length, List.length_replicate]; exact Nat.le_refl _)
  have HZS := Lib.hid hzs
  have HNS := Lib.hid (nrow_start w)
  generalize madeCells #[.int .u8 0] 128 = zs at hmk HZS
  clear hzs
  go_enter Tryz.func117, Tryz.ntmps117
  go_wp2_with fail
  go_loopw [5] (fun c wr => RelNR n w c wr) (fun c _ => n - (intOf c).toNat)
  case atStart => exact ⟨0, _, [], Nat.zero_le _, rfl, HNS.out⟩
  case round =>
    obtain ⟨j, v, us, hj, rfl, hr3⟩ := hrel
    by_cases hlt : j < n
    · obtain ⟨c1, c3⟩ := hr3.cells
      have c1 : wr.cell? ⟨w.heap.size + 1 + 1, 0, none⟩ = some v := c1
      have c3 : wr.frozen? ⟨w.heap.size + 1 + 1, 0, none⟩ = false := c3
      have hcl : w.heap.size + 1 + 1 < wr.heap.size := hr3.lt
      have HR3 := Lib.hid hr3
      have HNE := Lib.hid (show v.ownBlock ≠ some (w.heap.size + 1 + 1) from hr3.off)
      have hcl2 : w.heap.size + 1 < wr.heap.size := by omega
      have hcl3 : w.heap.size + 1 + 1 < wr.heap.size + 1 := by omega
      clear hr3
      go_wp2_with fail
      go_region_law (first | (refine step_append_rows _ rfl (.tmp 25) (.tmp 27) (by rfl) (w.heap.size + 3) _ _ us (by rfl) (own_below HR3.out.own (by repeat (first | exact Below.refl _ _ | assumption | apply Below.drew | apply below_drewN | refine balloc ?_ _))) (wr.heap.size + 1) (.slice (some ⟨wr.heap.size, 0, none⟩) 128 128) (by rfl) (by simp) rfl (by omega) (by simp; omega) ?_; intro v' w3 hown3 hg3; have c1d := cell_later (by repeat (first | exact Below.refl _ _ | assumption | apply Below.drew | apply below_drewN | refine balloc ?_ _)) hg3 hcl HNE.out c1; have c3d := frozen_later (by repeat (first | exact Below.refl _ _ | assumption | apply Below.drew | apply below_drewN | refine balloc ?_ _)) hg3 hcl HNE.out c3; have HO3 := Lib.hid hown3; have HG3 := Lib.hid hg3; obtain ⟨gv, cv, rfl, _⟩ := own_slice hown3; clear hown3 hg3))
      all_goals
        go_wp2_with fail
        go_roundw
        case rel =>
          refine relNR_next HR3.out hlt ?_ ?_ HZS.out HO3.out HG3.out
          · repeat (first | exact Below.refl _ _ | assumption | apply Below.drew | apply below_drewN | refine balloc ?_ _)
          · exact (heap_alloc_old (r := wr.heap.size) _ _ (by simp)).trans (heap_alloc_new _ _)
        case measure => simp [intOf]; omega
    · obtain rfl : j = n := by omega
      have HR3 := Lib.hid hr3
      clear hr3
      go_wp2_with fail
      exact bodyPost_ret (v := .tuple #[.pointer (some ⟨w.heap.size + 2, 0, none⟩), .int .i64 0]) (by simp [results, Tryz.results117, go_sem]) rfl (HR3.out.made h1 h2)
end Go.Proofs.YtidnmkghmaeniaaGreatDoor
/-
  What the reference's disk answers, by its state.
-/
namespace Go.Proofs.YtidnmkghmaeniaaGreatDoor
open Go.RowKit Go.Deep Dk Go.Maps
theorem rnew_same {r A C E : Nat} {s : St} {w : World} (h : RefIn w r A C E s) (v : Value) : RNew r A C E s v w (.returned v) w := ⟨rfl, C, E, h, RChg.refl _ _ _ _ _, Or.inl rfl, Or.inl rfl⟩
theorem rnew_next {r A C E : Nat} {s' : St} {v : Value} {w w' : World} {e : Ending} (h : RNext r A C E s' v w e w') : RNew r A C E s' v w e w' := ⟨h.1, C, E, h.2.1, h.2.2, Or.inl rfl, Or.inl rfl⟩
theorem rwrite_ev {r A C E : Nat} {s : St} (w : World) (h : RefIn w r A C E s) (i : Int) (v : Value) (l : List UInt8) (hv : SlB w.heap.size w v l) :
    Calls Tryz.prog 127 #[.pointer (some ⟨r, 0, none⟩), .int .i64 i, v] w (RNew r A C E (wnext s i l) (.int .i64 (wcode s i l)) w) := by
  unfold wcode wnext
  cases hd : s.dead with
  | true =>
    rw [if_pos rfl, if_neg (fun e => by have := e.1; rw [hd] at this; cases this)]
    refine (rwrite_dead w h hd i v).mono ?_
    rintro e w' ⟨rfl, rfl⟩
    exact rnew_same h _
  | false =>
    rw [if_neg (show ¬ false = true by decide)]
    by_cases hok : wOk s i l
    · rw [if_pos hok, if_pos hok]
      obtain ⟨_, ⟨i1, i2⟩, hl⟩ := hok
      obtain ⟨k, rfl⟩ := Int.eq_ofNat_of_zero_le i1
      exact (rwrite_yes w h hd k v l (by omega) hv (Nat.le_refl _) hl).mono fun _ _ h => rnew_next h
    · rw [if_neg hok, if_neg hok]
      obtain ⟨a, cap, rfl, _⟩ := hv.len
      refine (rwrite_no w h hd i a l.length cap (fun e => hok ⟨hd, ⟨e.1, e.2.1⟩, e.2.2⟩)).mono ?_
      rintro e w' ⟨rfl, rfl⟩
      exact rnew_same h _
theorem rflush_ev {r A C E : Nat} {s : St} (w : World) (h : RefIn w r A C E s) :
    Calls Tryz.prog 131 #[.pointer (some ⟨r, 0, none⟩)] w (RNew r A C E (fnext s) (.int .i64 (fcode s)) w) := by
  unfold fcode fnext
  cases hd : s.dead with
  | true =>
    rw [if_pos rfl, if_pos rfl]
    refine (rflush_dead w h hd).mono ?_
    rintro e w' ⟨rfl, rfl⟩
    exact rnew_same h _
  | false =>
    rw [if_neg (show ¬ false = true by decide), if_neg (show ¬ false = true by decide)]
    exact rflush_yes w h hd
theorem rrot_ev {r A C E : Nat} {s : St} (w : World) (h : RefIn w r A C E s) (i a : Int) (x : Nat) :
    Calls Tryz.prog 66 #[.pointer (some ⟨r, 0, none⟩), .int .i64 i, .int .i64 a, .int .u32 (x : Int)] w (RNew r A C E (rotnext s i a x) (.bool (decide (mayRot s i a x))) w) := by
  unfold rotnext
  by_cases hok : mayRot s i a x
  · rw [if_pos hok, decide_eq_true hok]
    obtain ⟨k, rfl⟩ := Int.eq_ofNat_of_zero_le hok.2.1
    obtain ⟨b, rfl⟩ := Int.eq_ofNat_of_zero_le hok.2.2.2.1
    exact (rrot_yes w h k b x hok).mono fun _ _ h => rnew_next h
  · rw [if_neg hok, decide_eq_false hok]
    refine (rrot_no w h i a x hok).mono ?_
    rintro e w' ⟨rfl, rfl⟩
    exact rnew_same h _
theorem rread_ev {r A C E : Nat} {s : St} (w : World) (h : RefIn w r A C E s) (i : Int) :
    Calls Tryz.prog 136 #[.pointer (some ⟨r, 0, none⟩), .int .i64 i] w fun e w' => ∃ v, e = .returned (.tuple #[v, .int .i64 (rcode s i)]) ∧ SlB w'.heap.size w' v (rval s i) ∧ Below w.heap.size w w' := by
  unfold rcode rval
  cases hd : s.dead with
  | true =>
    rw [if_pos rfl, if_neg (fun e => by cases e.1)]
    refine (rread_dead w h hd i).mono ?_
    rintro e w' ⟨rfl, rfl⟩
    exact ⟨_, rfl, slb_nil, Below.refl _ _⟩
  | false =>
    rw [if_neg (show ¬ false = true by decide)]
    by_cases hi : inN s i
    · rw [if_pos hi, if_pos ⟨rfl, hi⟩]
      obtain ⟨k, rfl⟩ := Int.eq_ofNat_of_zero_le hi.1
      refine (rread_yes w h hd k (by have := hi.2; omega)).mono ?_
      rintro e w' ⟨v, rfl, h1, h2⟩
      exact ⟨v, rfl, h1, h2⟩
    · rw [if_neg hi, if_neg (fun e => hi e.2)]
      refine (rread_no w h hd i hi).mono ?_
      rintro e w' ⟨rfl, rfl⟩
      exact ⟨_, rfl, slb_nil, Below.refl _ _⟩
end Go.Proofs.YtidnmkghmaeniaaGreatDoor
