import Derived.Test.YtilljaneegbhlaaGreatDoorZDWrite
namespace Go.Proofs.YtilljaneegbhlaaGreatDoor
open Go.RowKit Go.Deep Dk Go.Maps
set_option maxHeartbeats 1000000
set_option maxRecDepth 100000
theorem fill_list : ∀ (l : List Value) (off j : Nat) (cells : Array Value), off + j + l.length ≤ cells.size →
  ((l.zipIdx j).foldl (fun (cs : Array Value) (p : Value × Nat) => cs.setIfInBounds (off + p.2) p.1) cells).toList = cells.toList.take (off + j) ++ l ++ cells.toList.drop (off + j + l.length)
 | [], off, j, cells, _ => by simp
 | v :: rest, off, j, cells, h => by
  simp only [List.length_cons] at h; rw [List.zipIdx_cons, List.foldl_cons, fill_list rest off (j + 1) _ (by simp; omega)]; have e := list_seg_step cells.toList (off + j) v rest (by simp; omega)
  simpa [Array.toList_setIfInBounds, Nat.add_assoc] using e
theorem fill_one (l : List Value) (off : Nat) (cells : Array Value) (h : off + l.length ≤ cells.size) :
  l.toArray.zipIdx.foldl (fun (cs : Array Value) (p : Value × Nat) => cs.setIfInBounds (off + p.2) p.1) cells = (cells.toList.take off ++ l ++ cells.toList.drop (off + l.length)).toArray := by
 have := fill_list l off 0 cells (by simpa using h)
 apply Array.toList_inj.1
 rw [← Array.foldl_toList, Array.toList_zipIdx]
 simpa using this
theorem build_sec {l : Sec} (hl : l.length = 128) (w : World) : (Instr.build 131 #[(0, .agg (bytesV l).toArray)]).run Tryz.prog w = .ok (.agg (secV l false).toArray) w := by
 have hf := fill_one (bytesV l) 0 (secV zer false).toArray (by simp [bytesV_length, hl, secV, zer_length])
 have e : ((secV zer false).toArray.toList.take 0 ++ bytesV l ++ (secV zer false).toArray.toList.drop (0 + (bytesV l).length)).toArray = (secV l false).toArray := by
  congr 1
  have : (secV zer false).drop (bytesV l).length = [.bool false] := by rw [bytesV_length, hl]; rfl
  simp only [Nat.zero_add, List.take_zero, List.nil_append, this]; rfl
 rw [e] at hf
 have hs : (bytesV l).toArray.size = 128 := by simp [bytesV_length, hl]
 have hz : (secV zer false).toArray.size = 129 := by simp [secV, bytesV_length, zer_length]
 generalize (secV l false).toArray = out at hf ⊢
 have hz2 := zero_sector w
 generalize (secV zer false).toArray = zs at hf hz hz2
 generalize (bytesV l).toArray = bs at hf hs
 simp only [Nat.zero_add, Array.size_zipIdx, hs] at hf
 simp [Instr.build, hz2, Instr.fill, Value.cells, hs, hz, go_sem]
 exact hf
theorem look_sec (w : World) {M n i : Nat} {f : Nat → Option Sec} {D : DataW Unit} (h : MapIn w M n f D) (hi : i < n) (hn : n ≤ 128) :
  (Instr.lookup 105 (.map (some M)) (.int .i64 (i : Int)) false).run Tryz.prog w = .ok (.agg (bytesV ((f i).getD zer)).toArray) w := by
 obtain ⟨v, ps, hr, hv⟩ := h.own.lookup keyed Tryz.underlying105 (zero_sec w) (secR_mk zer_length) (key_kI (i := i) (by omega))
 rw [hr, h.told hi hv]
variable {w : World} {n i : Nat} {rot : Nat → Bool}
theorem store_sec {S : Nat} {st : Nat → Sec} {b : Sec} (hst : ∀ i, (st i).length = 128) (hi : i < n) (hb : b.length = 128)
  (h : w.heap[S]? = some (.cells (secsV n st rot).toArray 131 (0, 0))) :
  (storeVar 131 ⟨S, i * 129, none⟩ (.agg (secV b false).toArray)).run Tryz.prog w = .ok () (w.setRow S (secsV n (upd st i b) (upd rot i false)).toArray) := by
 have hf : ∀ i, (secV (st i) (rot i)).length = 129 := fun i => secV_length (hst i) _
 have hlen : (secsV n st rot).length = 129 * n := flat_length hf n
 have hsl : (secV b false).length = 129 := secV_length hb _
 have hfit : i * 129 + 129 ≤ 129 * n := by have := apart_of (k := 129) hi; omega
 have hr := run_storeCells_at Tryz.prog S (i * 129) 131 (secV b false) 0 (secsV n st rot).toArray w h (by rw [hsl]; simp [hlen]; omega) (fun v hv => by
  rcases List.mem_append.1 hv with hv | hv
  ·exact bytesV_one b v hv
  ·rw [List.mem_singleton.1 hv]; rfl)
 have e : (secsV n st rot).toArray.toList.take (i * 129 + 0) ++ secV b false ++ (secsV n st rot).toArray.toList.drop (i * 129 + 0 + (secV b false).length) = secsV n (upd st i b) (upd rot i false) := by
  rw [hsl, Nat.add_zero, Nat.mul_comm]; have := flat_splice hf hi (v := secV b false) hsl; refine this.trans (flat_congr fun j hj => ?_)
  unfold upd; split <;> rfl
 rw [e] at hr
 have hz : (secV b false).toArray.size = 129 := by simp [hsl]
 obtain ⟨inf, h1, h2⟩ := Option.map_eq_some_iff.1 size_sector
 generalize hxs : secV b false = xs at hr hz
 simp only [storeVar, sizeOf, typeInfo, Value.cells]
 simp [h1, h2, hz, hr]
variable {d M : Nat} {s : St}
theorem DiskIn.stored {w1 w2 : World} {S m : Nat} {D : DataW Unit} (h : DiskIn w d S M s) (hm : MapIn w M s.n s.wt D)
  (e1 : w1 = w.setRow S (secsV s.n (upd s.st i ((s.wt i).getD zer)) (upd s.rot i false)).toArray) (hw : w2.ownsMap Tryz.prog 3 secR M m (D.del (kI i))) (hg : w1.grownBy w2 (some M)) : DiskIn w2 d S M (s.store i) := by
 obtain ⟨a1, a2, a3⟩ := h.apart
 obtain ⟨b1, b2, b3⟩ := h.lt
 have hs : w1.heap.size = w.heap.size := by rw [e1]; simp
 refine ⟨h.ok.store i, h.pos, ?_, ?_, _, hm.del hw⟩
 ·rw [hg.block d (by omega) (by simpa using a2), e1, setRow_other w S d _ a1]; exact h.top
 ·rw [hg.block S (by omega) (by simpa using a3), e1]; exact setRow_heap w S _ _ _ _ h.secs
theorem Chg.of_drew {S : Nat} {w' : World} (h : Chg d S M w.drew w') : Chg d S M w w' := ⟨h.os, h.tape, h.output, h.size, h.block⟩
theorem chg_setRow (d S M : Nat) (w : World) (cs : Array Value) : Chg d S M w (w.setRow S cs) := ⟨rfl, rfl, rfl, by simp, fun k _ _ hS _ => setRow_other w S k _ hS⟩
theorem store_any {S : Nat} (w : World) (h : DiskIn w d S M s) (i : Nat) (hi : i < s.n) :
  Calls Tryz.prog 103 #[.pointer (some ⟨d, 0, none⟩), .int .i64 (i : Int)] w (NextD d S M (s.store i) (.tuple #[]) w) := by
 have c0 := h.c0
 have c1 := h.c1
 obtain ⟨D, hm⟩ := h.map_
 have hn := h.ok.n
 have hl : ((s.wt i).getD zer).length = 128 := by
  cases e : s.wt i with
  | none => exact zer_length
  | some b => exact (h.ok.wt i b e).2
 have HL := hI (look_sec w.drew (hm.keep (w' := w.drew) rfl) hi hn)
 have HB := hI (build_sec hl w.drew)
 have HS := hI (store_sec (w := w.drew) (b := (s.wt i).getD zer) h.ok.st hi hl h.secs)
 have HN := hI (fun w1 w2 e hw hg => DiskIn.stored (w := w.drew) (w1 := w1) (w2 := w2) (m := Maps.size D) (i := i) (D := D) (h.keep rfl rfl rfl) (hm.keep rfl) e hw hg)
 have hap := h.apart
 have hown := hm.own
 generalize hcs : (secsV s.n (upd s.st i ((s.wt i).getD zer)) (upd s.rot i false)).toArray = cs at HS HN
 have HO := hI (show World.ownsMap (w.drew.setRow S cs) Tryz.prog 3 secR M (Maps.size D) D from (hm.keep (setRow_other w.drew S M cs (fun e => hap.2.2 e.symm))).own)
 have hc1 : (w.drew.setRow S cs).cell? ⟨d, 1, none⟩ = some (.map (some M)) := (World.cell?_of_block (a := ⟨d, 1, none⟩) (setRow_other w.drew S d cs hap.1)).trans c1
 have hslt := h.lt.2.1
 clear h hm hown hcs
 go_enter Tryz.func103, Tryz.ntmps103
 go_wp2_with fail
 refine wp_region_still_tail 13 (by kernel_rfl) (by kernel_rfl) ?_
 simp only [List.take_succ_cons, List.take_zero, List.drop_succ_cons, List.drop_zero]
 iterate 10 still_step
 refine wpStill_lookup rfl _ _ _ _ rfl _ _ _ rfl rfl HL.out ?_
 refine wpStill_build rfl _ _ _ rfl _ _ rfl HB.out ?_
 still_step
 refine wpStill_nil ?_
 refine wpList_store_run rfl _ _ _ rfl _ _ rfl rfl HS.out ?_
 generalize hw1 : w.drew.setRow S cs = w1 at HO hc1
 have HW1 := hI hw1
 clear hw1
 go_wp2_with (at_delete; refine wpList_delete_own _ rfl _ _ 105 3 rfl 129 keyed Tryz.underlying105 secR M (Maps.size D) D rfl HO.out _ (kI i) rfl (key_kI (by omega)) ?_; intro w2 hown2 ht2)
 have HQ := hI (HN.out w1 w2 HW1.out.symm hown2 ht2.grown)
 have HG := hI (show Chg d S M w w2 from Chg.of_drew ((HW1.out ▸ (chg_setRow d S M w.drew cs) : Chg d S M w.drew w1).trans (Chg.of_grown ht2.grown (Or.inr (Or.inr rfl)))))
 go_end0
 exact ⟨rfl, HQ.out, HG.out⟩
def cleared (w : World) (M clock : Nat) : World := { w with heap := w.heap.setIfInBounds M (.map #[] clock) }
variable {clock : Nat}
theorem clear_map {es : Array MapEntry} (h : w.heap[M]? = some (.map es clock)) (ty : TypeId) :
  (Builtin.clear_ #[105] ty #[.map (some M)]).run Tryz.prog w = .ok (.tuple #[]) (cleared w M clock) := by
 simp [Builtin.clear_, run_underlying Tryz.underlying105, MapKept.run_getObj_map h, MapKept.run_setObj_map _ h, cleared]
variable {k : Nat}
theorem zero_cells_flat {zs : List Value} (hk : zs.length = k) (n : Nat) : (Builtin.zeroCells zs.toArray n).toList = flat n fun _ => zs := by
 have := made_flat hk n
 rw [← this]
 simp [Builtin.zeroCells, madeCells, hk]
theorem clear_secs {S : Nat} {st : Nat → Sec} (hst : ∀ i, (st i).length = 128) (h0 : 1 ≤ n)
  (h : w.heap[S]? = some (.cells (secsV n st rot).toArray 131 (0, 0))) (ty : TypeId) :
  (Builtin.clear_ #[104] ty #[.slice (some ⟨S, 0, none⟩) n n]).run Tryz.prog w = .ok (.tuple #[]) (w.setRow S (secsV n (fun _ => zer) (fun _ => false)).toArray) := by
 have hf : ∀ i, (secV (st i) (rot i)).length = 129 := fun i => secV_length (hst i) _
 have hlen : (secsV n st rot).length = 129 * n := flat_length hf n
 have hz := zero_cells_flat (secV_length zer_length false) n
 have hzl : (Builtin.zeroCells (secV zer false).toArray n).toList.length = 129 * n := by rw [hz]; exact flat_length (fun _ => secV_length zer_length false) n
 have hr := run_storeCells_at Tryz.prog S 0 131 (Builtin.zeroCells (secV zer false).toArray n).toList 0 (secsV n st rot).toArray w h (by rw [hzl]; simp [hlen]) (fun v hv => by
  rw [hz] at hv; obtain ⟨i, _, hv⟩ := List.mem_flatMap.1 hv
  rcases List.mem_append.1 hv with hv | hv
  ·exact bytesV_one _ v hv
  ·rw [List.mem_singleton.1 hv]; rfl)
 have e : (secsV n st rot).toArray.toList.take (0 + 0) ++ (Builtin.zeroCells (secV zer false).toArray n).toList ++ (secsV n st rot).toArray.toList.drop (0 + 0 + (Builtin.zeroCells (secV zer false).toArray n).toList.length) = secsV n (fun _ => zer) (fun _ => false) := by
  rw [hzl, hz]
  simp [secsV]
  exact Nat.le_of_eq (flat_length hf n)
 rw [e] at hr
 have hz2 := zero_sector w
 generalize (secsV n (fun _ => zer) (fun _ => false)).toArray = out at hr ⊢
 obtain ⟨m, rfl⟩ : ∃ m, n = m + 1 := ⟨n - 1, by omega⟩
 generalize (secV zer false).toArray = zs at hr hz2
 simp [Builtin.clear_, run_underlying Tryz.underlying104, hz2, Value.cells, hr]
theorem cleared_other (h : k ≠ M) : (cleared w M clock).heap[k]? = w.heap[k]? := by
 show (w.heap.setIfInBounds M _)[k]? = _
 rw [Array.getElem?_setIfInBounds_ne (fun e => h e.symm)]
theorem cleared_in {es : Array MapEntry} (h : w.heap[M]? = some (.map es clock)) (n : Nat) : MapIn (cleared w M clock) M n (fun _ => none) (.map []) := by
 have hlt : M < w.heap.size := (Array.getElem?_eq_some_iff.1 h).1
 refine ⟨⟨#[], clock, ?_, ⟨by simp, MapKept.stamped_empty clock, by simp⟩, Nat.le_refl _, rfl⟩, fun _ h => (by cases h), fun _ _ => rfl, fun _ _ _ h => (by cases h)⟩
 show (w.heap.setIfInBounds M _)[M]? = _
 rw [Array.getElem?_setIfInBounds_self_of_lt hlt]
theorem chg_cleared (d S M clock : Nat) (w : World) : Chg d S M w (cleared w M clock) := ⟨rfl, rfl, rfl, by simp [cleared], fun k _ _ _ hM => cleared_other hM⟩
theorem wipe_any {S : Nat} (w : World) (h : DiskIn w d S M s) : Calls Tryz.prog 80 #[.pointer (some ⟨d, 0, none⟩)] w (NextD d S M (s.wipe s.dead) (.tuple #[]) w) := by
 have c0 := h.c0
 have c1 := h.c1
 obtain ⟨D, hm⟩ := h.map_
 obtain ⟨es, clock, hM, _⟩ := hm.own
 obtain ⟨a1, a2, a3⟩ := h.apart
 have HC := hI (fun ty => clear_secs h.ok.st h.pos h.secs ty)
 generalize hcs : (secsV s.n (fun _ => zer) (fun _ => false)).toArray = cs at HC
 have hw1 : (w.setRow S cs).heap[M]? = some (.map es clock) := (setRow_other w S M cs (fun e => a3 e.symm)).trans hM
 have HD := hI (fun ty => clear_map hw1 ty)
 have HN := hI (show DiskIn (cleared (w.setRow S cs) M clock) d S M (s.wipe s.dead) from
  ⟨h.ok.wipe _, h.pos, (cleared_other a2).trans ((setRow_other w S d cs a1).trans h.top), (cleared_other a3).trans (hcs ▸ setRow_heap w S _ _ _ _ h.secs), _, cleared_in hw1 _⟩)
 have HG := hI ((chg_setRow d S M w cs).trans (chg_cleared d S M clock (w.setRow S cs)))
 have hc1 : (w.setRow S cs).cell? ⟨d, 1, none⟩ = some (.map (some M)) := (World.cell?_of_block (a := ⟨d, 1, none⟩) (setRow_other w S d cs a1)).trans c1
 have e1 := HC.out 0
 have e2 := HD.out 0
 clear h hm hM hcs hw1
 generalize w.setRow S cs = w1 at *
 generalize cleared w1 M clock = w2 at *
 go_enter Tryz.func80, Tryz.ntmps80
 go_wp2
 go_end0
 exact ⟨rfl, HN.out, HG.out⟩
theorem DiskIn.setDead {S : Nat} (h : DiskIn w d S M s) (b : Bool) : DiskIn (w.setCell ⟨d, 2, none⟩ (.bool b)) d S M { s with dead := b } := by
 obtain ⟨a1, a2, a3⟩ := h.apart
 obtain ⟨D, hm⟩ := h.map_
 exact ⟨⟨h.ok.n, h.ok.st, h.ok.wt⟩, h.pos, heap_setCell_same w d 2 _ _ (.bool b) h.top, (heap_setCell_other w ⟨d, 2, none⟩ S _ (fun e => a1 e.symm)).trans h.secs, D, hm.keep (heap_setCell_other w ⟨d, 2, none⟩ M _ (fun e => a2 e.symm))⟩
theorem chg_setCell (d S M i : Nat) (v : Value) (w : World) : Chg d S M w (w.setCell ⟨d, i, none⟩ v) :=
 ⟨rfl, rfl, rfl, ((Below.refl 0 w).setCell (p := ⟨d, i, none⟩) (Nat.zero_le _) v).size, fun k _ hd _ _ => heap_setCell_other w ⟨d, i, none⟩ k v hd⟩
theorem die_any {S : Nat} (w : World) (h : DiskIn w d S M s) : Calls Tryz.prog 52 #[.pointer (some ⟨d, 0, none⟩)] w (NextD d S M (s.wipe true) (.tuple #[]) w) := by
 have HW := hI (wipe_any w h)
 clear h
 go_enter Tryz.func52, Tryz.ntmps52
 go_wp2_with fail
 refine HW.out.mono ?_
 rintro e w1 ⟨rfl, hD, hG⟩
 have c2 := hD.c2
 have f2 := hD.f2 2
 have HD := hI (hD.setDead true)
 have HG := hI hG
 clear hD hG
 go_wp2
 go_end0
 exact ⟨rfl, HD.out, HG.out.trans (chg_setCell d S M 2 _ w1)⟩
end Go.Proofs.YtilljaneegbhlaaGreatDoor
