/-
  A set of numbers in a map of the law's own, beside a disk; what the law DiskReads wants.
-/
import Derived.Test.YtfhkccldgbgelaaDoorDArr
import Derived.Test.YtfhkccldgbgelaaDoorWhere
namespace Go.Proofs.YtfhkccldgbgelaaDoor
open Go.RowKit Go.Deep Dk Go.Maps
/-- Block b is a map whose keys are those that wait. -/
structure MapB (w : World) (b : Nat) (D : DataW Unit) (s : St) : Prop where
  own : w.ownsMap Tryd.prog 3 (plainElem Tryd.prog 4) b (Maps.size D) D
  key : ∀ kl, Maps.has D kl = true → ∃ i : Nat, i < s.n ∧ kl = kI i
  has : ∀ i, i < s.n → Maps.has D (kI i) = (s.wt i).isSome
theorem MapB.keep {w w' : World} {b : Nat} {D : DataW Unit} {s : St} (h : MapB w b D s) (hb : w'.heap[b]? = w.heap[b]?) : MapB w' b D s := by
  obtain ⟨⟨es, clock, h1, h2⟩, h3, h4⟩ := h
  exact ⟨⟨es, clock, hb.trans h1, h2⟩, h3, h4⟩
theorem MapB.lt {w : World} {b : Nat} {D : DataW Unit} {s : St} (h : MapB w b D s) : b < w.heap.size := h.own.lt
theorem tightB {w : World} {k : TypeId} {R : Value → Option (DataW Unit × List MemPlace)} {M m : Nat} {D : DataW Unit} (h : w.ownsMap Tryd.prog k R M m D) : w.ownsMap Tryd.prog k R M (Maps.size D) D := own_tight h
theorem MapB.made (w : World) {s : St} (hs : ∀ i, s.wt i = none) : MapB (w.alloc (.map #[] 0)) w.heap.size (.map []) s :=
  ⟨World.ownsMap_made w _ _ _, fun _ h => (by cases h), fun i _ => by rw [hs i]; rfl⟩
theorem MapB.put {w w' : World} {b m i : Nat} {D : DataW Unit} {s : St} {l : Sec} (h : MapB w b D s) (hi : i < s.n) (hw : w'.ownsMap Tryd.prog 3 (plainElem Tryd.prog 4) b m (D.put (kI i) (.lit (.bool true)))) : MapB w' b (D.put (kI i) (.lit (.bool true))) (s.write i l) := by
  refine ⟨own_tight hw, fun kl hk => ?_, fun j hj => ?_⟩
  · by_cases e : kl = kI i
    · exact ⟨i, hi, e⟩
    · rw [Maps.has_put_other e] at hk; exact h.key kl hk
  · show _ = (upd s.wt i (some l) j).isSome
    by_cases e : j = i
    · subst e; rw [Maps.has_put_same h.own.isMap (kI_key j), upd_same]; rfl
    · rw [Maps.has_put_other (fun q => e (kI_inj q)), upd_other _ _ e]; exact h.has j hj
theorem MapB.size {w : World} {b : Nat} {D : DataW Unit} {s : St} (h : MapB w b D s) : Maps.size D = s.ks.length := by
  have hp : (intKeys D).Perm (s.ks.map Int.ofNat) := by
    obtain ⟨es, hD, hp, hk⟩ := h.own.entries keyed
    subst hD
    have hmem : ∀ p ∈ es, ∃ i : Nat, i < s.n ∧ p.1 = kI i := fun p hpm => h.key p.1 (by
      rw [Maps.has_eq, List.any_eq_true]
      exact ⟨p, hpm, WideAt.sameKey_self (hk p hpm)⟩)
    have hin : ∀ p ∈ es, ∃ i : Nat, i ∈ s.ks ∧ p.1 = kI i := fun p hpm => by
      obtain ⟨i, hi, e⟩ := hmem p hpm
      refine ⟨i, List.mem_filter.2 ⟨List.mem_range.2 hi, ?_⟩, e⟩
      rw [← h.has i hi, Maps.has_eq, List.any_eq_true]
      exact ⟨p, hpm, by rw [← e]; exact WideAt.sameKey_self (hk p hpm)⟩
    refine perm_of_nodup ?_ ?_ fun a => ⟨fun ha => ?_, fun ha => ?_⟩
    · show (es.map fun p => Go.intOf p.1).Nodup
      rw [List.nodup_iff_pairwise_ne, List.pairwise_map]
      refine hp.imp_of_mem fun {p q} hpm hqm hne e => hne ?_
      obtain ⟨i, _, e1⟩ := hmem p hpm
      obtain ⟨j, _, e2⟩ := hmem q hqm
      rw [e1, e2] at e ⊢
      have e : (i : Int) = (j : Int) := e
      show Lit.int .i64 (i : Int) = Lit.int .i64 (j : Int)
      rw [e]
    · rw [List.nodup_iff_pairwise_ne, List.pairwise_map]
      exact (List.nodup_iff_pairwise_ne.1 s.ks_nodup).imp fun hne e => hne (Int.ofNat.inj e)
    · obtain ⟨p, hpm, rfl⟩ := List.mem_map.1 ha
      obtain ⟨i, hi, e⟩ := hin p hpm
      exact List.mem_map.2 ⟨i, hi, by rw [e]; rfl⟩
    · obtain ⟨i, hi, rfl⟩ := List.mem_map.1 ha
      have h1 := (List.mem_filter.1 hi)
      have h2 := h.has i (List.mem_range.1 h1.1)
      rw [h1.2, Maps.has_eq, List.any_eq_true] at h2
      obtain ⟨p, hpm, e⟩ := h2
      refine List.mem_map.2 ⟨p, hpm, ?_⟩
      rw [WideAt.sameKey_eq e]; rfl
  have := hp.length_eq
  rw [List.length_map] at this
  obtain ⟨es, rfl, _⟩ := h.own.entries keyed
  rw [← this]; exact (List.length_map _).symm
theorem MapB.len {w : World} {b : Nat} {D : DataW Unit} {s : St} (h : MapB w b D s) (ty : TypeId) : (Builtin.len_ #[54] ty #[.map (some b)]).run Tryd.prog w = .ok (.int .i64 (s.ks.length : Nat)) w := by
  rw [← h.size]; exact h.own.len Tryd.underlying54 ty
theorem ks_bound (s : St) {n : Nat} (h : s.n = n) : s.ks.length ≤ n := h ▸ s.ks_length
theorem write_out {d S M B : Nat} {s : St} {w : World} {v : Value} {l : List UInt8} (h : DiskIn w d S M s) (hd : s.dead = false) (i : Int) (hv : SlB B w v l) (hno : ¬ (0 ≤ i ∧ i < s.n ∧ l.length = 128)) :
    Calls Tryd.prog 11 #[.pointer (some ⟨d, 0, none⟩), .int .i64 i, v] w (Err1 opWrite 1 i w) := by
  obtain ⟨a, cap, rfl, _⟩ := hv.len
  exact write_no w h hd i a _ cap hno
end Go.Proofs.YtfhkccldgbgelaaDoor
