/-
  (*disk.Disk).wipe, Die, Replace.
-/
import Derived.Test.YtfhkccldgbgelaaDoorDStore
namespace Go.Proofs.YtfhkccldgbgelaaDoor
open Go.RowKit Go.Deep Dk Go.Maps
def cleared (w : World) (M clock : Nat) : World := { w with heap := w.heap.setIfInBounds M (.map #[] clock) }
theorem clear_map {w : World} {M clock : Nat} {es : Array MapEntry} (h : w.heap[M]? = some (.map es clock)) (ty : TypeId) :
    (Builtin.clear_ #[74] ty #[.map (some M)]).run Tryd.prog w = .ok (.tuple #[]) (cleared w M clock) := by
  simp [Builtin.clear_, run_underlying Tryd.underlying74, MapKept.run_getObj_map h, MapKept.run_setObj_map _ h, cleared]
theorem zero_cells_flat {zs : List Value} {k : Nat} (hk : zs.length = k) (n : Nat) : (Builtin.zeroCells zs.toArray n).toList = flat n fun _ => zs := by
  have := made_flat hk n
  rw [← this]
  simp [Builtin.zeroCells, madeCells, hk]
theorem clear_secs {w : World} {S n : Nat} {st : Nat → Sec} {rot : Nat → Bool} (hst : ∀ i, (st i).length = 128) (h0 : 1 ≤ n)
    (h : w.heap[S]? = some (.cells (secsV n st rot).toArray 82 (0, 0))) (ty : TypeId) :
    (Builtin.clear_ #[73] ty #[.slice (some ⟨S, 0, none⟩) n n]).run Tryd.prog w = .ok (.tuple #[]) (w.setRow S (secsV n (fun _ => zer) (fun _ => false)).toArray) := by
  have hf : ∀ i, (secV (st i) (rot i)).length = 129 := fun i => secV_length (hst i) _
  have hlen : (secsV n st rot).length = 129 * n := flat_length hf n
  have hz := zero_cells_flat (secV_length zer_length false) n
  have hzl : (Builtin.zeroCells (secV zer false).toArray n).toList.length = 129 * n := by rw [hz]; exact flat_length (fun _ => secV_length zer_length false) n
  have hr := run_storeCells_at Tryd.prog S 0 82 (Builtin.zeroCells (secV zer false).toArray n).toList 0 (secsV n st rot).toArray w h (by rw [hzl]; simp [hlen]) (fun v hv => by
    rw [hz] at hv
    obtain ⟨i, _, hv⟩ := List.mem_flatMap.1 hv
    rcases List.mem_append.1 hv with hv | hv
    · exact bytesV_one _ v hv
    · rw [List.mem_singleton.1 hv]; rfl)
  have e : (secsV n st rot).toArray.toList.take (0 + 0) ++ (Builtin.zeroCells (secV zer false).toArray n).toList ++ (secsV n st rot).toArray.toList.drop (0 + 0 + (Builtin.zeroCells (secV zer false).toArray n).toList.length) = secsV n (fun _ => zer) (fun _ => false) := by
    rw [hzl, hz]
    simp [secsV]
    exact Nat.le_of_eq (flat_length hf n)
  rw [e] at hr
  have hz2 := zero_sector w
  generalize (secsV n (fun _ => zer) (fun _ => false)).toArray = out at hr ⊢
  obtain ⟨m, rfl⟩ : ∃ m, n = m + 1 := ⟨n - 1, by omega⟩
  generalize (secV zer false).toArray = zs at hr hz2
  simp [Builtin.clear_, run_underlying Tryd.underlying73, hz2, Value.cells, hr]
theorem cleared_other {w : World} {M clock k : Nat} (h : k ≠ M) : (cleared w M clock).heap[k]? = w.heap[k]? := by
  show (w.heap.setIfInBounds M _)[k]? = _
  rw [Array.getElem?_setIfInBounds_ne (fun e => h e.symm)]
theorem cleared_in {w : World} {M clock : Nat} {es : Array MapEntry} (h : w.heap[M]? = some (.map es clock)) (n : Nat) : MapIn (cleared w M clock) M n (fun _ => none) (.map []) := by
  have hlt : M < w.heap.size := (Array.getElem?_eq_some_iff.1 h).1
  refine ⟨⟨#[], clock, ?_, ⟨by simp, MapKept.stamped_empty clock, by simp⟩, Nat.le_refl _, rfl⟩, fun _ h => (by cases h), fun _ _ => rfl, fun _ _ _ h => (by cases h)⟩
  show (w.heap.setIfInBounds M _)[M]? = _
  rw [Array.getElem?_setIfInBounds_self_of_lt hlt]
theorem chg_cleared (d S M clock : Nat) (w : World) : Chg d S M w (cleared w M clock) := ⟨rfl, rfl, rfl, by simp [cleared], fun k _ _ _ hM => cleared_other hM⟩
set_option maxHeartbeats 1000000 in
set_option maxRecDepth 100000 in
theorem wipe_any {d S M : Nat} {s : St} (w : World) (h : DiskIn w d S M s) : Calls Tryd.prog 40 #[.pointer (some ⟨d, 0, none⟩)] w (NextD d S M (s.wipe s.dead) (.tuple #[]) w) := by
  have c0 := h.c0
  have c1 := h.c1
  obtain ⟨D, hm⟩ := h.map_
  obtain ⟨es, clock, hM, _⟩ := hm.own
  obtain ⟨a1, a2, a3⟩ := h.apart
  have HC := Lib.hid (fun ty => clear_secs h.ok.st h.pos h.secs ty)
  generalize hcs : (secsV s.n (fun _ => zer) (fun _ => false)).toArray = cs at HC
  have hw1 : (w.setRow S cs).heap[M]? = some (.map es clock) := (setRow_other w S M cs (fun e => a3 e.symm)).trans hM
  have HD := Lib.hid (fun ty => clear_map hw1 ty)
  have HN := Lib.hid (show DiskIn (cleared (w.setRow S cs) M clock) d S M (s.wipe s.dead) from
    ⟨h.ok.wipe _, h.pos, (cleared_other a2).trans ((setRow_other w S d cs a1).trans h.top), (cleared_other a3).trans (hcs ▸ setRow_heap w S _ _ _ _ h.secs), _, cleared_in hw1 _⟩)
  have HG := Lib.hid ((chg_setRow d S M w cs).trans (chg_cleared d S M clock (w.setRow S cs)))
  have hc1 : (w.setRow S cs).cell? ⟨d, 1, none⟩ = some (.map (some M)) := (World.cell?_of_block (a := ⟨d, 1, none⟩) (setRow_other w S d cs a1)).trans c1
  have e1 := HC.out 0
  have e2 := HD.out 0
  clear h hm hM hcs hw1
  generalize w.setRow S cs = w1 at *
  generalize cleared w1 M clock = w2 at *
  go_enter Tryd.func40, Tryd.ntmps40
  go_wp2
  go_end0
  exact ⟨rfl, HN.out, HG.out⟩
theorem DiskIn.setDead {w : World} {d S M : Nat} {s : St} (h : DiskIn w d S M s) (b : Bool) : DiskIn (w.setCell ⟨d, 2, none⟩ (.bool b)) d S M { s with dead := b } := by
  obtain ⟨a1, a2, a3⟩ := h.apart
  obtain ⟨D, hm⟩ := h.map_
  exact ⟨⟨h.ok.n, h.ok.st, h.ok.wt⟩, h.pos, heap_setCell_same w d 2 _ _ (.bool b) h.top, (heap_setCell_other w ⟨d, 2, none⟩ S _ (fun e => a1 e.symm)).trans h.secs, D, hm.keep (heap_setCell_other w ⟨d, 2, none⟩ M _ (fun e => a2 e.symm))⟩
theorem chg_setCell (d S M i : Nat) (v : Value) (w : World) : Chg d S M w (w.setCell ⟨d, i, none⟩ v) :=
  ⟨rfl, rfl, rfl, ((Below.refl 0 w).setCell (p := ⟨d, i, none⟩) (Nat.zero_le _) v).size, fun k _ hd _ _ => heap_setCell_other w ⟨d, i, none⟩ k v hd⟩
set_option maxHeartbeats 1000000 in
set_option maxRecDepth 100000 in
theorem die_any {d S M : Nat} {s : St} (w : World) (h : DiskIn w d S M s) : Calls Tryd.prog 16 #[.pointer (some ⟨d, 0, none⟩)] w (NextD d S M (s.wipe true) (.tuple #[]) w) := by
  have HW := Lib.hid (wipe_any w h)
  clear h
  go_enter Tryd.func16, Tryd.ntmps16
  go_wp2_with fail
  refine HW.out.mono ?_
  rintro e w1 ⟨rfl, hD, hG⟩
  have c2 := hD.c2
  have f2 := hD.f2 2
  have HD := Lib.hid (hD.setDead true)
  have HG := Lib.hid hG
  clear hD hG
  go_wp2
  go_end0
  exact ⟨rfl, HD.out, HG.out.trans (chg_setCell d S M 2 _ w1)⟩
set_option maxHeartbeats 1000000 in
set_option maxRecDepth 100000 in
theorem replace_any {d S M : Nat} {s : St} (w : World) (h : DiskIn w d S M s) : Calls Tryd.prog 28 #[.pointer (some ⟨d, 0, none⟩)] w (NextD d S M (s.wipe false) (.tuple #[]) w) := by
  have HW := Lib.hid (wipe_any w h)
  clear h
  go_enter Tryd.func28, Tryd.ntmps28
  go_wp2_with fail
  refine HW.out.mono ?_
  rintro e w1 ⟨rfl, hD, hG⟩
  have c2 := hD.c2
  have f2 := hD.f2 2
  have HD := Lib.hid (hD.setDead false)
  have HG := Lib.hid hG
  clear hD hG
  go_wp2
  go_end0
  exact ⟨rfl, HD.out, HG.out.trans (chg_setCell d S M 2 _ w1)⟩
end Go.Proofs.YtfhkccldgbgelaaDoor
