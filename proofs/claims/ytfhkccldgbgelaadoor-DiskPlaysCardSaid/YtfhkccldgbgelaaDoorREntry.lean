/-
  m[k] = v as two operations, the entry and the store into it, over keys that are numbers.
-/
import Derived.Test.YtfhkccldgbgelaaDoorRKit
namespace Go.Proofs.YtfhkccldgbgelaaDoor
open Go.RowKit Go.Deep Dk Go.Maps
noncomputable abbrev boolR : Value → Option (DataW Unit × List MemPlace) := plainElem Tryd.prog 4
/-- What the store finds by the entry's stamp. -/
theorem stamp_found {P : Program} {w2 : World} {E t : Nat} {es : Array MapEntry} {clock j born : Nat} {val : Value} (hb : w2.heap[E]? = some (.map es clock)) (hj : es.findIdx? (fun e => ((e.born : Nat) : Int) == ((born : Nat) : Int)) = some j) :
    (Instr.entryStore t (.map (some E)) (.int .i64 (born : Int)) val).run P w2 = .ok () { w2 with heap := w2.heap.setIfInBounds E (.map (es.modify j fun e => { e with val := val }) clock) } := by
  simp [Instr.entryStore, MapKept.run_getObj_map hb, asInt, asIntOf, hj, MapKept.run_setObj_map _ hb, Result.andThen]
theorem grown_block {w : World} {E : Nat} (o : Obj) : w.grownBy { w with heap := w.heap.setIfInBounds E o } (some E) :=
  ⟨rfl, rfl, rfl, by simp, fun k _ hk => by show (w.heap.setIfInBounds E o)[k]? = _; rw [Array.getElem?_setIfInBounds_ne (fun e => hk (by rw [e]))]⟩
theorem entry_two {w : World} {E m i : Nat} {D : DataW Unit} (h : w.ownsMap Tryd.prog 3 boolR E m D) (hm : m < 1000000) (hi : i < 1000000) (b : Bool) :
    ∃ v0 born w1, (Instr.mapEntry 54 (.map (some E)) (.int .i64 (i : Int))).run Tryd.prog w = .ok (.tuple #[v0, .int .i64 ((born : Nat) : Int)]) w1 ∧ w.grownBy w1 (some E) ∧
      ∀ w2 : World, w2.heap[E]? = w1.heap[E]? → ∃ w3, (Instr.entryStore 54 (.map (some E)) (.int .i64 ((born : Nat) : Int)) (.bool b)).run Tryd.prog w2 = .ok () w3 ∧ w2.grownBy w3 (some E) ∧ w3.ownsMap Tryd.prog 3 boolR E (m + 1) (D.put (kI i) (.lit (.bool b))) := by
  have hkey := key_kI (i := i) hi
  have hbool := plainElem_bool (H := Unit) Tryd.underlying4 b
  obtain ⟨w', hrun, hown, hgr⟩ := h.update keyed Tryd.underlying54 (by unfold maxLen; omega) hkey hbool
  obtain ⟨es, clock, hb, F, hsz, hD⟩ := h
  obtain ⟨s1, s2, _⟩ := F.stamped
  have hlt : E < w.heap.size := (Array.getElem?_eq_some_iff.1 hb).1
  -- whatever block the two operations leave, it is the one that the plain store leaves
  have fin : ∀ (es' : Array MapEntry) (ck : Nat), (Instr.mapUpdate 54 (.map (some E)) (.int .i64 (i : Int)) (.bool b)).run Tryd.prog w = .ok () { w with heap := w.heap.setIfInBounds E (.map es' ck) } →
      ∀ w2 : World, E < w2.heap.size → World.ownsMap { w2 with heap := w2.heap.setIfInBounds E (.map es' ck) } Tryd.prog 3 boolR E (m + 1) (D.put (kI i) (.lit (.bool b))) := fun es' ck he w2 hl => by
    rw [hrun] at he
    injection he with _ he
    obtain ⟨es2, ck2, e1, e2⟩ := hown
    rw [he] at e1
    have e3 : (w.heap.setIfInBounds E (Obj.map es' ck))[E]? = some (Obj.map es2 ck2) := e1
    rw [Array.getElem?_setIfInBounds_self_of_lt hlt] at e3
    injection e3 with e3
    injection e3 with e3 e4
    subst e3 e4
    exact ⟨es', ck, by show (w2.heap.setIfInBounds E _)[E]? = _; rw [Array.getElem?_setIfInBounds_self_of_lt hl], e2⟩
  rcases keyed.find w hkey es.toList F.keys with ⟨f1, f2⟩ | ⟨j, e0, f1, f2, f3⟩
  · have hz : (zeroValue 4).run Tryd.prog w = .ok (.bool false) w := Tryd.zeroValue4 w
    refine ⟨.bool false, clock, { w with heap := w.heap.setIfInBounds E (.map (es.push ⟨.int .i64 (i : Int), .bool false, clock⟩) (clock + 1)) }, ?_, grown_block _, fun w2 hw2 => ?_⟩
    · simp [Instr.mapEntry, run_underlying Tryd.underlying54, MapKept.run_getObj_map hb, keyed.check w false hkey, f1, hz, MapKept.run_setObj_map _ hb, Result.andThen, goInt]
    · have hw2 : w2.heap[E]? = some (.map (es.push ⟨.int .i64 (i : Int), .bool false, clock⟩) (clock + 1)) := by
        rw [hw2]; show (w.heap.setIfInBounds E _)[E]? = _; rw [Array.getElem?_setIfInBounds_self_of_lt hlt]
      have hidx : (es.push ⟨.int .i64 (i : Int), .bool false, clock⟩).findIdx? (fun e => ((e.born : Nat) : Int) == ((clock : Nat) : Int)) = some es.size := by
        rw [WideElems.findIdx_arr]
        refine WideElems.findIdx_born (e0 := ⟨.int .i64 (i : Int), .bool false, clock⟩) ?_ (by simp)
        rw [Array.toList_push, List.map_append]
        refine List.nodup_append.2 ⟨s2, by simp, fun a ha c hc e => ?_⟩
        obtain ⟨x, hx, rfl⟩ := List.mem_map.1 ha
        rw [List.map_cons, List.map_nil, List.mem_singleton] at hc
        have := s1 x hx
        have hc : c = clock := hc
        omega
      have hmod : (es.push ⟨.int .i64 (i : Int), .bool false, clock⟩).modify es.size (fun e => { e with val := .bool b }) = es.push ⟨.int .i64 (i : Int), .bool b, clock⟩ := by
        refine Array.ext' ?_
        rw [Array.toList_modify, Array.toList_push, Array.toList_push, ← Array.length_toList, WideElems.modify_last]
      refine ⟨_, stamp_found hw2 hidx, grown_block _, ?_⟩
      rw [hmod]
      refine fin _ _ ?_ w2 (Array.getElem?_eq_some_iff.1 hw2).1
      simp [Instr.mapUpdate, run_underlying Tryd.underlying54, MapKept.run_getObj_map hb, keyed.check w false hkey, f1, MapKept.run_setObj_map _ hb, Result.andThen]
  · have hj : es[j]? = some e0 := by simpa using f2
    have hself : es.modify j (fun e => { e with key := .int .i64 (i : Int) }) = es := by
      refine Array.ext' ?_
      rw [Array.toList_modify, ChangeMaps.modify_eq_set _ _ _ _ f2, show ({ e0 with key := .int .i64 (i : Int) } : MapEntry) = e0 by rw [← f3]]
      exact WideElems.set_self _ _ _ f2
    refine ⟨e0.val, e0.born, { w with heap := w.heap.setIfInBounds E (.map es clock) }, ?_, grown_block _, fun w2 hw2 => ?_⟩
    · simp [Instr.mapEntry, run_underlying Tryd.underlying54, MapKept.run_getObj_map hb, keyed.check w false hkey, f1, hj, f3, keyed.stays w hkey, hself, MapKept.run_setObj_map _ hb, Result.andThen, goInt]
    · have hw2 : w2.heap[E]? = some (.map es clock) := by
        rw [hw2]; show (w.heap.setIfInBounds E _)[E]? = _; rw [Array.getElem?_setIfInBounds_self_of_lt hlt]
      have hidx : es.findIdx? (fun e => ((e.born : Nat) : Int) == ((e0.born : Nat) : Int)) = some j := by
        rw [WideElems.findIdx_arr]; exact WideElems.findIdx_born s2 f2
      refine ⟨_, stamp_found hw2 hidx, grown_block _, ?_⟩
      refine fin _ _ ?_ w2 (Array.getElem?_eq_some_iff.1 hw2).1
      have hmod : es.modify j (fun e => { e with val := .bool b }) = es.modify j (fun e => { e with key := .int .i64 (i : Int), val := .bool b }) := by
        refine Array.ext' ?_
        rw [Array.toList_modify, Array.toList_modify, ChangeMaps.modify_eq_set _ _ _ _ f2, ChangeMaps.modify_eq_set _ _ _ _ f2, ← f3]
      rw [hmod]
      simp [Instr.mapUpdate, run_underlying Tryd.underlying54, MapKept.run_getObj_map hb, keyed.check w false hkey, f1, hj, f3, keyed.stays w hkey, MapKept.run_setObj_map _ hb, Result.andThen]
end Go.Proofs.YtfhkccldgbgelaaDoor
