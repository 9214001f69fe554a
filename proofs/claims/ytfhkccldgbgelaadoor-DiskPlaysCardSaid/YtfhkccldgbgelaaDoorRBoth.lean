/-
  A row and a mark of the reference's disk are laid in one statement, in whatever order.
-/
import Derived.Test.YtfhkccldgbgelaaDoorREntry
import Derived.Test.YtfhkccldgbgelaaDoorRRead
namespace Go.Proofs.YtfhkccldgbgelaaDoor
open Go.RowKit Go.Deep Dk Go.Maps
theorem BadIn.put {w w' : World} {E n m i : Nat} {D : DataW Unit} {f : Nat → Bool} (h : BadIn w E n D f) (hi : i < n) (b : Bool) (hw : w'.ownsMap Tryd.prog 3 boolR E m (D.put (kI i) (.lit (.bool b)))) : BadIn w' E n (D.put (kI i) (.lit (.bool b))) (upd f i b) := by
  refine ⟨own_tight hw, fun kl hk => ?_, fun j hj => ?_⟩
  · by_cases e : kl = kI i
    · exact ⟨i, hi, e⟩
    · rw [Maps.has_put_other e] at hk; exact h.key kl hk
  · by_cases e : j = i
    · subst e; rw [Maps.atKey_put_same h.own.isMap (kI_key j), upd_same]
    · rw [Maps.atKey_put_other (fun q => e (kI_inj q)), upd_other _ _ e]; exact h.at_ j hj
theorem BadIn.size {w : World} {E n : Nat} {D : DataW Unit} {f : Nat → Bool} (h : BadIn w E n D f) : Maps.size D ≤ n := by
  have hc : CacheIn w E n (.map []) (fun _ => none) → True := fun _ => trivial
  clear hc
  obtain ⟨es, hD, hp, hk⟩ := h.own.entries keyed
  subst hD
  show es.length ≤ n
  have hmem : ∀ p ∈ es, ∃ i : Nat, i < n ∧ p.1 = kI i := fun p hpm => h.key p.1 (by
    rw [Maps.has_eq, List.any_eq_true]
    exact ⟨p, hpm, WideAt.sameKey_self (hk p hpm)⟩)
  have hn : (es.map fun p => Go.intOf p.1).Nodup := by
    rw [List.nodup_iff_pairwise_ne, List.pairwise_map]
    refine hp.imp_of_mem fun {p q} hpm hqm hne e => hne ?_
    obtain ⟨i, _, e1⟩ := hmem p hpm
    obtain ⟨j, _, e2⟩ := hmem q hqm
    rw [e1, e2] at e ⊢
    have e : (i : Int) = (j : Int) := e
    show Lit.int .i64 (i : Int) = Lit.int .i64 (j : Int)
    rw [e]
  have := nodup_bound _ ((List.range n).map Int.ofNat) hn fun a ha => by
    obtain ⟨p, hpm, rfl⟩ := List.mem_map.1 ha
    obtain ⟨i, hi, e⟩ := hmem p hpm
    exact List.mem_map.2 ⟨i, List.mem_range.2 hi, by rw [e]; rfl⟩
  simpa using this
def both (s : St) (i : Nat) (l : Sec) (b : Bool) : St := { s with st := upd s.st i l, rot := upd s.rot i b }
theorem both_ok {s : St} (h : s.Ok) {i : Nat} {l : Sec} (hl : l.length = 128) (b : Bool) : (both s i l b).Ok := ⟨h.n, fun j => by show (upd s.st i l j).length = 128; unfold upd; split; exact hl; exact h.st j, h.wt⟩
theorem RefIn.both {w w' : World} {r A C E m i : Nat} {s : St} {D : DataW Unit} {cur : Array Value} {v : Value} {l : Sec} {b : Bool} (h : RefIn w r A C E s) (hB : BadIn w E s.n D s.rot) (hcur : w.heap[A]? = some (.cells cur 28 (0, 0))) (hi : i < s.n) (hr : ByteRow w v l)
    (hA : w'.heap[A]? = some (.cells (cur.setIfInBounds i v) 28 (0, 0))) (hE : w'.ownsMap Tryd.prog 3 boolR E m (D.put (kI i) (.lit (.bool b)))) (hc : RChg A A A E w w') : RefIn w' r A C E (both s i l b) ∧ RChg r A C E w w' := by
  obtain ⟨b1, b2, b3, b4⟩ := h.lt
  obtain ⟨a1, a2, a3, a4, a5⟩ := h.apart
  have key : ∀ (g : Nat) (cur : Array Value), w.heap[g]? = some (.cells cur 5 (0, 0)) → w'.heap[g]? = w.heap[g]? := fun g cur hgc => by
    have := h.off hgc
    exact hc.block g (Array.getElem?_eq_some_iff.1 hgc).1 this.2.1 this.2.1 this.2.1 this.2.2.2
  obtain ⟨capA, t1, t2⟩ := h.top
  obtain ⟨cur0, r1, r2, r3⟩ := h.rows
  have ecur : cur = cur0 := by rw [r1] at hcur; injection hcur with hcur; injection hcur with hcur _ _; exact hcur.symm
  subst ecur
  obtain ⟨Dc, hC⟩ := h.cache
  refine ⟨⟨both_ok h.ok hr.1 b, h.pos, h.ne, ⟨capA, t1, (hc.block r b1 a1 a1 a1 a3).trans t2⟩, ⟨_, hA, by show s.n ≤ _; simpa using r2, fun j hj => ?_⟩, ⟨Dc, hC.keep (hc.block C b3 (fun e => a4 e.symm) (fun e => a4 e.symm) (fun e => a4 e.symm) h.ne) key⟩, ⟨_, hB.put hi b hE⟩⟩, ⟨hc.os, hc.tape, hc.output, hc.size, fun k hk k1 k2 k3 k4 => hc.block k hk k2 k2 k2 k4⟩⟩
  obtain ⟨u, e1, e2⟩ := r3 j hj
  by_cases e : j = i
  · subst e
    refine ⟨v, by rw [Array.getElem?_setIfInBounds_self_of_lt (by omega)], ?_⟩
    show ByteRow w' v (upd s.st j l j)
    rw [upd_same]; exact hr.keep key
  · refine ⟨u, by rw [Array.getElem?_setIfInBounds_ne (fun q => e q.symm)]; exact e1, ?_⟩
    show ByteRow w' u (upd s.st i l j)
    rw [upd_other _ _ e]; exact e2.keep key
theorem grown_cell (w : World) (g i : Nat) (u : Value) : w.grownBy (w.setCell ⟨g, i, none⟩ u) (some g) :=
  ⟨rfl, rfl, rfl, ((Below.refl 0 w).setCell (p := ⟨g, i, none⟩) (Nat.zero_le _) u).size, fun j _ hr => heap_setCell_other w ⟨g, i, none⟩ j u (fun e => hr (by rw [e]))⟩
/-- The worlds on the ways of 'd.S[i], d.Bad[i] = v, b', and where they end. -/
structure Ways (P : Program) (r A C E i : Nat) (v : Value) (b : Bool) (s' : St) (w : World) : Prop where
  one : ∃ v0 born w1, (Instr.mapEntry 54 (.map (some E)) (.int .i64 (i : Int))).run P w = .ok (.tuple #[v0, .int .i64 ((born : Nat) : Int)]) w1 ∧ w1.heap[r]? = w.heap[r]? ∧ (∃ u, w1.cell? ⟨A, i, none⟩ = some u) ∧ w1.frozen? ⟨A, i, none⟩ = false ∧
    (∃ w2, (Instr.entryStore 54 (.map (some E)) (.int .i64 ((born : Nat) : Int)) (.bool b)).run P w1 = .ok () w2 ∧ w2.heap[r]? = w.heap[r]? ∧ (∃ u, w2.cell? ⟨A, i, none⟩ = some u) ∧ w2.frozen? ⟨A, i, none⟩ = false ∧ (w2.setCell ⟨A, i, none⟩ v).heap[r]? = w.heap[r]? ∧ RefIn (w2.setCell ⟨A, i, none⟩ v) r A C E s' ∧ RChg r A C E w (w2.setCell ⟨A, i, none⟩ v)) ∧
    (w1.setCell ⟨A, i, none⟩ v).heap[r]? = w.heap[r]? ∧
    (∃ w2, (Instr.entryStore 54 (.map (some E)) (.int .i64 ((born : Nat) : Int)) (.bool b)).run P (w1.setCell ⟨A, i, none⟩ v) = .ok () w2 ∧ w2.heap[r]? = w.heap[r]? ∧ RefIn w2 r A C E s' ∧ RChg r A C E w w2)
  two : ∃ v0 born w1, (Instr.mapEntry 54 (.map (some E)) (.int .i64 (i : Int))).run P (w.setCell ⟨A, i, none⟩ v) = .ok (.tuple #[v0, .int .i64 ((born : Nat) : Int)]) w1 ∧ (w.setCell ⟨A, i, none⟩ v).heap[r]? = w.heap[r]? ∧ w1.heap[r]? = w.heap[r]? ∧
    (∃ w2, (Instr.entryStore 54 (.map (some E)) (.int .i64 ((born : Nat) : Int)) (.bool b)).run P w1 = .ok () w2 ∧ w2.heap[r]? = w.heap[r]? ∧ RefIn w2 r A C E s' ∧ RChg r A C E w w2)
  cell : ∃ u, w.cell? ⟨A, i, none⟩ = some u
  frozen : w.frozen? ⟨A, i, none⟩ = false
theorem ways {w : World} {r A C E i : Nat} {s : St} {v : Value} {l : Sec} (h : RefIn w r A C E s) (hi : i < s.n) (hr : ByteRow w v l) (b : Bool) : Ways Tryd.prog r A C E i v b (both s i l b) w := by
  obtain ⟨b1, b2, b3, b4⟩ := h.lt
  obtain ⟨a1, a2, a3, a4, a5⟩ := h.apart
  obtain ⟨D, hB⟩ := h.bad
  obtain ⟨cur, r1, r2, _⟩ := h.rows
  have hn := h.ok.n
  have hsz := hB.size
  have hc0 : ∀ (wx : World) (c : Array Value), wx.heap[A]? = some (.cells c 28 (0, 0)) → i < c.size → (∃ u, wx.cell? ⟨A, i, none⟩ = some u) ∧ wx.frozen? ⟨A, i, none⟩ = false := fun wx c hx hc =>
    ⟨⟨_, by rw [cell_of_row wx A i _ _ _ hx]; exact Array.getElem?_eq_getElem hc⟩, frozen_of_row wx A i _ _ hx⟩
  have hset : ∀ (wx : World), RChg A A A E wx (wx.setCell ⟨A, i, none⟩ v) := fun wx => RChg.of_grown (grown_cell wx A i v) (by simp)
  refine ⟨?_, ?_, (hc0 w cur r1 (by omega)).1, (hc0 w cur r1 (by omega)).2⟩
  · obtain ⟨v0, born, w1, e1, g1, next⟩ := entry_two hB.own (by omega) (i := i) (by omega) b
    have q1 : RChg A A A E w w1 := RChg.of_grown g1 (by simp)
    have hA1 : w1.heap[A]? = some (.cells cur 28 (0, 0)) := (g1.block A b2 (by simpa using a5)).trans r1
    have hr1 : w1.heap[r]? = w.heap[r]? := g1.block r b1 (by simpa using a3)
    have hE1 : E < w1.heap.size := Nat.lt_of_lt_of_le b4 g1.size
    refine ⟨v0, born, w1, e1, hr1, (hc0 w1 cur hA1 (by omega)).1, (hc0 w1 cur hA1 (by omega)).2, ?_, (heap_setCell_other w1 ⟨A, i, none⟩ r v a1).trans hr1, ?_⟩
    · obtain ⟨w2, e2, g2, o2⟩ := next w1 rfl
      have hA2 : w2.heap[A]? = some (.cells cur 28 (0, 0)) := (g2.block A (Nat.lt_of_lt_of_le b2 g1.size) (by simpa using a5)).trans hA1
      have hr2 : w2.heap[r]? = w.heap[r]? := (g2.block r (Nat.lt_of_lt_of_le b1 g1.size) (by simpa using a3)).trans hr1
      have hr3 : (w2.setCell ⟨A, i, none⟩ v).heap[r]? = w.heap[r]? := (heap_setCell_other w2 ⟨A, i, none⟩ r v a1).trans hr2
      have hO : (w2.setCell ⟨A, i, none⟩ v).ownsMap Tryd.prog 3 boolR E (Maps.size D + 1) (D.put (kI i) (.lit (.bool b))) := o2.setCell (fun e => a5 e.symm) v
      exact ⟨w2, e2, hr2, (hc0 w2 cur hA2 (by omega)).1, (hc0 w2 cur hA2 (by omega)).2, hr3, h.both hB r1 hi hr (heap_setCell_same w2 A i _ _ v hA2) hO ((q1.trans (RChg.of_grown g2 (by simp))).trans (hset w2))⟩
    · have hEs : (w1.setCell ⟨A, i, none⟩ v).heap[E]? = w1.heap[E]? := heap_setCell_other w1 ⟨A, i, none⟩ E v (fun e => a5 e.symm)
      have hAs : (w1.setCell ⟨A, i, none⟩ v).heap[A]? = some (.cells (cur.setIfInBounds i v) 28 (0, 0)) := heap_setCell_same w1 A i _ _ v hA1
      have hls := (hset w1).size
      obtain ⟨w2, e2, g2, o2⟩ := next _ hEs
      exact ⟨w2, e2, (g2.block r (by have := g1.size; omega) (by simpa using a3)).trans ((heap_setCell_other w1 ⟨A, i, none⟩ r v a1).trans hr1), h.both hB r1 hi hr ((g2.block A (by have := g1.size; omega) (by simpa using a5)).trans hAs) o2 ((q1.trans (hset w1)).trans (RChg.of_grown g2 (by simp)))⟩
  · have hBs : BadIn (w.setCell ⟨A, i, none⟩ v) E s.n D s.rot := hB.keep (heap_setCell_other w ⟨A, i, none⟩ E v (fun e => a5 e.symm))
    obtain ⟨v0, born, w1, e1, g1, next⟩ := entry_two hBs.own (by omega) (i := i) (by omega) b
    have hAs : (w.setCell ⟨A, i, none⟩ v).heap[A]? = some (.cells (cur.setIfInBounds i v) 28 (0, 0)) := heap_setCell_same w A i _ _ v r1
    have hls := (hset w).size
    have hrs : (w.setCell ⟨A, i, none⟩ v).heap[r]? = w.heap[r]? := heap_setCell_other w ⟨A, i, none⟩ r v a1
    have hr1 : w1.heap[r]? = w.heap[r]? := (g1.block r (by omega) (by simpa using a3)).trans hrs
    obtain ⟨w2, e2, g2, o2⟩ := next w1 rfl
    have hl1 := g1.size
    exact ⟨v0, born, w1, e1, hrs, hr1, w2, e2, (g2.block r (by omega) (by simpa using a3)).trans hr1, h.both hB r1 hi hr ((g2.block A (by omega) (by simpa using a5)).trans ((g1.block A (by omega) (by simpa using a5)).trans hAs)) o2 (((hset w).trans (RChg.of_grown g1 (by simp))).trans (RChg.of_grown g2 (by simp)))⟩
end Go.Proofs.YtfhkccldgbgelaaDoor
