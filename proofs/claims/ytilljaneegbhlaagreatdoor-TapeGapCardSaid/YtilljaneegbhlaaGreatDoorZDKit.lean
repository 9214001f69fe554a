import Derived.Test.YtilljaneegbhlaaGreatDoorZCTab
import Derived.Test.YtilljaneegbhlaaGreatDoorZDFlat
import Derived.Deep.MidRow
import Derived.Deep.WholeRow
import Derived.Maps.OwnSet
import Derived.Maps.Range
import Derived.Lib.SlKeysI
namespace Go.Proofs.YtilljaneegbhlaaGreatDoor
open Go.RowKit Go.Deep Dk Go.Maps
theorem bytesV_inj : ∀ {l m : List UInt8}, bytesV l = bytesV m → l = m
 | [], [], _ => rfl
 | [], _ :: _, h => by cases h
 | _ :: _, [], h => by cases h
 | a :: l, b :: m, h => by
  simp only [bytesV, List.map_cons, List.cons.injEq, Value.int.injEq, true_and] at h; obtain ⟨h1, h2⟩ := h; rw [bytesV_inj (l := l) (m := m) h2]
  have : a.toNat = b.toNat := by omega
  rw [UInt8.toNat_inj.1 this]
theorem bytesV_one (l : List UInt8) : ∀ v ∈ bytesV l, v.oneCell' = true := fun v hv => by
 obtain ⟨c, _, rfl⟩ := List.mem_map.1 hv; rfl
theorem Tryz.zero129 : (Tryz.prog.info? 129).map (fun i => (i.zero, i.size)) = some (some (.agg (bytesV zer).toArray), 128) := by kernel_rfl
theorem zero_sec (w : World) : (zeroValue 129).run Tryz.prog w = .ok (.agg (bytesV zer).toArray) w := (zero_of_info Tryz.zero129).1 w
theorem size_sec : (Tryz.prog.info? 129).map (·.size) = some 128 := (zero_of_info Tryz.zero129).2
def secV (b : Sec) (r : Bool) : List Value := bytesV b ++ [.bool r]
theorem secV_length {b : Sec} (h : b.length = 128) (r : Bool) : (secV b r).length = 129 := by simp [secV, bytesV_length, h]
theorem Tryz.zero131 : (Tryz.prog.info? 131).map (fun i => (i.zero, i.size)) = some (some (.agg (secV zer false).toArray), 129) := by kernel_rfl
theorem zero_sector (w : World) : (zeroValue 131).run Tryz.prog w = .ok (.agg (secV zer false).toArray) w := (zero_of_info Tryz.zero131).1 w
theorem size_sector : (Tryz.prog.info? 131).map (·.size) = some 129 := (zero_of_info Tryz.zero131).2
def secsV (n : Nat) (st : Nat → Sec) (rot : Nat → Bool) : List Value := flat n fun i => secV (st i) (rot i)
open Classical in
noncomputable def secR (v : Value) : Option (DataW Unit × List MemPlace) :=
 if h : ∃ l : Sec, l.length = 128 ∧ v = .agg (bytesV l).toArray then some (.lit (.string h.choose), []) else none
theorem secR_mk {l : Sec} (h : l.length = 128) : secR (.agg (bytesV l).toArray) = some (.lit (.string l), []) := by
 have hx : ∃ m : Sec, m.length = 128 ∧ Value.agg (bytesV l).toArray = .agg (bytesV m).toArray := ⟨l, h, rfl⟩
 unfold secR
 rw [dif_pos hx]
 have := hx.choose_spec.2
 have e : hx.choose = l := by
  injection this with this; have := congrArg Array.toList this; exact (bytesV_inj this).symm
 rw [e]
theorem secR_inv {v : Value} {z : DataW Unit × List MemPlace} (h : secR v = some z) : ∃ l : Sec, l.length = 128 ∧ v = .agg (bytesV l).toArray ∧ z = (.lit (.string l), []) := by
 unfold secR at h
 split at h
 ·rename_i hx
  refine ⟨hx.choose, hx.choose_spec.1, hx.choose_spec.2, ?_⟩
  cases h; rfl
 ·cases h
abbrev kI (i : Nat) : Lit := .int .i64 (i : Int)
variable {i : Nat}
theorem kI_inj {j : Nat} (h : kI i = kI j) : i = j := by injection h with _ h; omega
theorem keyed : Keyed Tryz.prog 3 := int_keyed Tryz.underlying3
theorem kI_wf (h : i < 1000000) : (Lit.int .i64 (i : Int)).wf = true := WalkArith.wf_i64 (by omega)
theorem key_kI (h : i < 1000000) : keyOf Tryz.prog 3 (.int .i64 (i : Int)) = some (kI i) := keyOf_int_mk Tryz.underlying3 (kI_wf h)
theorem kI_key (i : Nat) : WideAt.IsKeyLit (kI i) := trivial
variable {w : World} {M m : Nat}
theorem own_tight {k : TypeId} {R : Value → Option (DataW Unit × List MemPlace)} {D : DataW Unit} (h : w.ownsMap Tryz.prog k R M m D) : w.ownsMap Tryz.prog k R M (Maps.size D) D := by
 obtain ⟨es, clock, hb, F, _, hD⟩ := h
 refine ⟨es, clock, hb, F, ?_, hD⟩
 rw [hD]
 show es.size ≤ (_ : List _).length
 rw [length_sorted]; simp
structure MapIn (w : World) (M n : Nat) (f : Nat → Option Sec) (D : DataW Unit) : Prop where
 own : w.ownsMap Tryz.prog 3 secR M (Maps.size D) D
 key : ∀ kl, Maps.has D kl = true → ∃ i : Nat, i < n ∧ kl = kI i
 has : ∀ i, i < n → Maps.has D (kI i) = (f i).isSome
 at_ : ∀ i l, i < n → f i = some l → ∀ z, D.atKey (kI i) z = .lit (.string l)
theorem MapIn.made (w : World) (n : Nat) : MapIn (w.alloc (.map #[] 0)) w.heap.size n (fun _ => none) (.map []) :=
 ⟨World.ownsMap_made w _ _ _, fun _ h => (by cases h), fun _ _ => rfl, fun _ _ _ h => (by cases h)⟩
variable {w' : World} {n : Nat}
theorem MapIn.keep {f : Nat → Option Sec} {D : DataW Unit} (h : MapIn w M n f D) (hb : w'.heap[M]? = w.heap[M]?) : MapIn w' M n f D := by
 obtain ⟨⟨es, clock, h1, h2⟩, h3, h4, h5⟩ := h
 exact ⟨⟨es, clock, hb.trans h1, h2⟩, h3, h4, h5⟩
theorem MapIn.lt {f : Nat → Option Sec} {D : DataW Unit} (h : MapIn w M n f D) : M < w.heap.size := h.own.lt
theorem MapIn.put {f : Nat → Option Sec} {D : DataW Unit} (h : MapIn w M n f D) {i : Nat} {l : Sec} (hi : i < n) (hw : w'.ownsMap Tryz.prog 3 secR M m (D.put (kI i) (.lit (.string l)))) :
  MapIn w' M n (upd f i (some l)) (D.put (kI i) (.lit (.string l))) := by
 have hm := h.own.isMap
 refine ⟨own_tight hw, fun kl hk => ?_, fun j hj => ?_, fun j c hj hc z => ?_⟩
 ·by_cases e : kl = kI i
  ·exact ⟨i, hi, e⟩
  ·rw [Maps.has_put_other e] at hk; exact h.key kl hk
 ·by_cases e : j = i
  ·subst e; rw [Maps.has_put_same hm (kI_key j), upd_same]; rfl
  ·rw [Maps.has_put_other (fun q => e (kI_inj q)), upd_other _ _ e]; exact h.has j hj
 ·by_cases e : j = i
  ·subst e; rw [upd_same] at hc; cases hc; exact Maps.atKey_put_same hm (kI_key j) _ z
  ·rw [upd_other _ _ e] at hc; rw [Maps.atKey_put_other (fun q => e (kI_inj q))]; exact h.at_ j c hj hc z
theorem MapIn.del {f : Nat → Option Sec} {D : DataW Unit} (h : MapIn w M n f D) {i : Nat} (hw : w'.ownsMap Tryz.prog 3 secR M m (D.del (kI i))) :
  MapIn w' M n (upd f i none) (D.del (kI i)) := by
 refine ⟨own_tight hw, fun kl hk => ?_, fun j hj => ?_, fun j c hj hc z => ?_⟩
 ·by_cases e : kl = kI i
  ·rw [e, Maps.has_del_same] at hk; cases hk
  ·rw [Maps.has_del_other e] at hk; exact h.key kl hk
 ·by_cases e : j = i
  ·subst e; rw [Maps.has_del_same, upd_same]; rfl
  ·rw [Maps.has_del_other (fun q => e (kI_inj q)), upd_other _ _ e]; exact h.has j hj
 ·by_cases e : j = i
  ·subst e; rw [upd_same] at hc; cases hc
  ·rw [upd_other _ _ e] at hc; rw [Maps.atKey_del_other (fun q => e (kI_inj q))]; exact h.at_ j c hj hc z
theorem MapIn.told {f : Nat → Option Sec} {D : DataW Unit} (h : MapIn w M n f D) {i : Nat} (hi : i < n) {v : Value} {ps : List MemPlace}
  (hv : secR v = some (D.atKey (kI i) (.lit (.string zer)), ps)) : v = .agg (bytesV ((f i).getD zer)).toArray := by
 obtain ⟨l, _, rfl, e⟩ := secR_inv hv
 injection e with e _
 cases hf : f i with
 | none =>
  have : Maps.has D (kI i) = false := by rw [h.has i hi, hf]; rfl
  rw [Maps.atKey_of_not_has this] at e; injection e with e; injection e with e; rw [← e]; rfl
 | some c =>
  rw [h.at_ i c hi hf] at e; injection e with e; injection e with e; rw [← e]; rfl
variable {s : St}
theorem MapIn.keys {D : DataW Unit} (h : MapIn w M s.n s.wt D) : (intKeys D).Perm (s.ks.map Int.ofNat) := by
 obtain ⟨es, hD, hp, hk⟩ := h.own.entries keyed
 subst hD
 have hmem : ∀ p ∈ es, ∃ i : Nat, i < s.n ∧ p.1 = kI i := fun p hpm => h.key p.1 (by
  rw [Maps.has_eq, List.any_eq_true]
  exact ⟨p, hpm, WideAt.sameKey_self (hk p hpm)⟩)
 have hin : ∀ p ∈ es, ∃ i : Nat, i ∈ s.ks ∧ p.1 = kI i := fun p hpm => by
  obtain ⟨i, hi, e⟩ := hmem p hpm; refine ⟨i, List.mem_filter.2 ⟨List.mem_range.2 hi, ?_⟩, e⟩; rw [← h.has i hi, Maps.has_eq, List.any_eq_true]; exact ⟨p, hpm, by rw [← e]; exact WideAt.sameKey_self (hk p hpm)⟩
 refine perm_of_nodup ?_ ?_ fun a => ⟨fun ha => ?_, fun ha => ?_⟩
 ·show (es.map fun p => intOf p.1).Nodup
  rw [List.nodup_iff_pairwise_ne, List.pairwise_map]
  refine hp.imp_of_mem fun {p q} hpm hqm hne e => hne ?_
  obtain ⟨i, _, e1⟩ := hmem p hpm; obtain ⟨j, _, e2⟩ := hmem q hqm; rw [e1, e2] at e ⊢; have e : (i : Int) = (j : Int) := e
  show Lit.int .i64 (i : Int) = Lit.int .i64 (j : Int)
  rw [e]
 ·rw [List.nodup_iff_pairwise_ne, List.pairwise_map]
  exact (List.nodup_iff_pairwise_ne.1 s.ks_nodup).imp fun hne e => hne (Int.ofNat.inj e)
 ·obtain ⟨p, hpm, rfl⟩ := List.mem_map.1 ha
  obtain ⟨i, hi, e⟩ := hin p hpm; exact List.mem_map.2 ⟨i, hi, by rw [e]; rfl⟩
 ·obtain ⟨i, hi, rfl⟩ := List.mem_map.1 ha
  have h1 := (List.mem_filter.1 hi)
  have h2 := h.has i (List.mem_range.1 h1.1); rw [h1.2, Maps.has_eq, List.any_eq_true] at h2; obtain ⟨p, hpm, e⟩ := h2; refine List.mem_map.2 ⟨p, hpm, ?_⟩; rw [WideAt.sameKey_eq e]; rfl
theorem MapIn.sorted {D : DataW Unit} (h : MapIn w M s.n s.wt D) {ss : List Int} (hs : ss.Perm (intKeys D)) : ss.mergeSort leI = s.ks.map Int.ofNat := by
 refine List.Perm.eq_of_pairwise (le := fun a b => leI a b = true) (fun a b _ _ h1 h2 => ?_) (List.pairwise_mergeSort (fun a b c h1 h2 => ?_) (fun a b => ?_) ss) ?_ ((List.mergeSort_perm ss leI).trans (hs.trans h.keys))
 ·simp [leI] at h1 h2; omega
 ·simp [leI] at h1 h2 ⊢; omega
 ·simp [leI]; omega
 ·rw [List.pairwise_map]
  exact s.ks_sorted.imp fun hlt => by simp [leI]; omega
theorem MapIn.size {D : DataW Unit} (h : MapIn w M s.n s.wt D) : Maps.size D ≤ s.n := by
 have := h.keys.length_eq
 rw [List.length_map] at this
 have h2 := s.ks_length
 obtain ⟨es, rfl, _⟩ := h.own.entries keyed
 have : es.length = s.ks.length := by rw [← this]; exact (List.length_map _).symm
 show es.length ≤ _
 omega
structure DiskIn (w : World) (d S M : Nat) (s : St) : Prop where
 ok : s.Ok
 pos : 1 ≤ s.n
 top : w.heap[d]? = some (.cells #[.slice (some ⟨S, 0, none⟩) s.n s.n, .map (some M), .bool s.dead] 107 (0, 0))
 secs : w.heap[S]? = some (.cells (secsV s.n s.st s.rot).toArray 131 (0, 0))
 map_ : ∃ D, MapIn w M s.n s.wt D
structure Chg (d S M : Nat) (w w' : World) : Prop where
 os : w'.os = w.os
 tape : w'.tape = w.tape
 output : w'.output = w.output
 size : w.heap.size ≤ w'.heap.size
 block : ∀ k, k < w.heap.size → k ≠ d → k ≠ S → k ≠ M → w'.heap[k]? = w.heap[k]?
theorem Chg.refl (d S M : Nat) (w : World) : Chg d S M w w := ⟨rfl, rfl, rfl, Nat.le_refl _, fun _ _ _ _ _ => rfl⟩
variable {d : Nat}
theorem Chg.trans {S : Nat} {w1 w2 : World} (h : Chg d S M w w1) (h2 : Chg d S M w1 w2) : Chg d S M w w2 :=
 ⟨h2.os.trans h.os, h2.tape.trans h.tape, h2.output.trans h.output, Nat.le_trans h.size h2.size, fun k hk a b c => (h2.block k (Nat.lt_of_lt_of_le hk h.size) a b c).trans (h.block k hk a b c)⟩
theorem Chg.of_below {S : Nat} (h : Below w.heap.size w w') : Chg d S M w w' := ⟨h.os, h.tape, h.output, h.size, fun k hk _ _ _ => h.block k hk⟩
theorem Chg.of_grown {S g : Nat} (h : w.grownBy w' (some g)) (hg : g = d ∨ g = S ∨ g = M) : Chg d S M w w' :=
 ⟨h.os, h.tape, h.output, h.size, fun k hk a b c => h.block k hk (by rcases hg with rfl | rfl | rfl <;> simpa)⟩
theorem Chg.drewN {S : Nat} (h : Chg d S M w w') (n : Nat) : Chg d S M w (w'.drewN n) := ⟨h.os, h.tape, h.output, h.size, h.block⟩
theorem DiskIn.lt {S : Nat} (h : DiskIn w d S M s) : d < w.heap.size ∧ S < w.heap.size ∧ M < w.heap.size := by
 obtain ⟨D, hm⟩ := h.map_
 exact ⟨(Array.getElem?_eq_some_iff.1 h.top).1, (Array.getElem?_eq_some_iff.1 h.secs).1, hm.lt⟩
theorem DiskIn.apart {S : Nat} (h : DiskIn w d S M s) : d ≠ S ∧ d ≠ M ∧ S ≠ M := by
 obtain ⟨D, hm⟩ := h.map_
 obtain ⟨es, clock, hb, _⟩ := hm.own
 refine ⟨fun e => ?_, fun e => ?_, fun e => ?_⟩
 ·have h1 := h.top; have h2 := h.secs; rw [e, h2] at h1; injection h1 with h1; injection h1 with _ h1 _; cases h1
 ·have h1 := h.top; rw [e, hb] at h1; cases h1
 ·have h1 := h.secs; rw [e, hb] at h1; cases h1
theorem DiskIn.keep {S : Nat} (h : DiskIn w d S M s) (h1 : w'.heap[d]? = w.heap[d]?) (h2 : w'.heap[S]? = w.heap[S]?) (h3 : w'.heap[M]? = w.heap[M]?) : DiskIn w' d S M s := by
 obtain ⟨D, hm⟩ := h.map_
 exact ⟨h.ok, h.pos, h1.trans h.top, h2.trans h.secs, D, hm.keep h3⟩
theorem DiskIn.below {S : Nat} (h : DiskIn w d S M s) (hb : Below w.heap.size w w') : DiskIn w' d S M s :=
 h.keep (hb.block d h.lt.1) (hb.block S h.lt.2.1) (hb.block M h.lt.2.2)
theorem DiskIn.drewN {S : Nat} (h : DiskIn w d S M s) (n : Nat) : DiskIn (w.drewN n) d S M s := h.keep rfl rfl rfl
theorem DiskIn.c0 {S : Nat} (h : DiskIn w d S M s) : w.cell? ⟨d, 0, none⟩ = some (.slice (some ⟨S, 0, none⟩) s.n s.n) := by rw [cell_of_row w d 0 _ _ _ h.top]; rfl
theorem DiskIn.c1 {S : Nat} (h : DiskIn w d S M s) : w.cell? ⟨d, 1, none⟩ = some (.map (some M)) := by rw [cell_of_row w d 1 _ _ _ h.top]; rfl
theorem DiskIn.c2 {S : Nat} (h : DiskIn w d S M s) : w.cell? ⟨d, 2, none⟩ = some (.bool s.dead) := by rw [cell_of_row w d 2 _ _ _ h.top]; rfl
theorem DiskIn.f2 {S : Nat} (h : DiskIn w d S M s) (i : Nat) : w.frozen? ⟨d, i, none⟩ = false := frozen_of_row w d i _ _ h.top
end Go.Proofs.YtilljaneegbhlaaGreatDoor
