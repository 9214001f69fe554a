/-
  stavekeep.Block and Frame of any numbers: the bytes told by a function.
-/
import Derived.Test.YtidnmkghmaeniaaGreatHGet
import Derived.Test.YtidnmkghmaeniaaGreatWithinV
import Derived.Test.YtidnmkghmaeniaaGreatSBase
import Derived.Test.YtidnmkghmaeniaaGreatJBase
import Derived.Test.YtidnmkghmaeniaaGreatCRows
import Derived.Deep.AppendSrc
import Derived.Great.BuildSlice
import Derived.Deep.RegionHeld3
import Derived.Laws.MakeOwn
namespace Go.Proofs.YtidnmkghmaeniaaGreat
open Go.RowKit Crc Hf
def szBk : Nat := 108
theorem szBk_run (w : World) : (sizeOf 39).run Tryz.prog w = .ok szBk w := by go_simp; rfl
theorem zero_block (w : World) : (zeroValue 39).run Tryz.prog w = .ok (.agg (bytesV (List.replicate 108 0)).toArray) w := by
  have h : (Tryz.prog.info? 39).map (fun i => (i.zero, i.size)) = some (some (.agg (bytesV (List.replicate 108 0)).toArray), 108) := by kernel_rfl
  exact (zero_of_info h).1 w
/-- A block's bytes lie in block b, and may be written. -/
def BIn (d : List UInt8) (b : Nat) (w : World) : Prop := d.length = 108 ∧ w.heap[b]? = some (.cells (bytesV d).toArray 39 (0, 0))
theorem BIn.cell {d : List UInt8} {b : Nat} {w : World} (h : BIn d b w) {i : Nat} (hi : i < 108) : w.cell? ⟨b, i, none⟩ = some (.int .u8 ((d.getD i 0).toNat : Int)) := by
  rw [cell_of_row _ b i _ _ (0, 0) h.2]
  have := bytesV_at (l := d) (i := i) (by have := h.1; omega)
  simpa using this
theorem BIn.free {d : List UInt8} {b : Nat} {w : World} (h : BIn d b w) (i : Nat) : w.frozen? ⟨b, i, none⟩ = false := by
  unfold World.frozen?
  rw [h.2]
  simp
theorem BIn.set {d : List UInt8} {b : Nat} {w : World} (h : BIn d b w) (i : Nat) (v : Int) (h0 : 0 ≤ v) (h1 : v < 256) : BIn (d.set i (UInt8.ofNat v.toNat)) b (w.setCell ⟨b, i, none⟩ (.int .u8 v)) := by
  refine ⟨by rw [List.length_set]; exact h.1, ?_⟩
  show (w.heap.modify b _)[b]? = _
  rw [Array.getElem?_modify, if_pos rfl, h.2]
  show some (Obj.cells ((bytesV d).toArray.setIfInBounds i (.int .u8 v)) _ _) = _
  congr 2
  simp only [List.setIfInBounds_toArray]
  congr 1
  rw [← bytesV_set, ofNat_toNat, show ((v.toNat % 256 : Nat) : Int) = v by omega]
theorem BIn.load {d : List UInt8} {b : Nat} {w : World} (h : BIn d b w) : (loadCellsFrom ⟨b, 0, none⟩ 0 szBk #[]).run Tryz.prog w = .ok (bytesV d).toArray w := by
  have hl : (bytesV d).length = 108 := by rw [bytesV_length]; exact h.1
  have := run_loadCells_list (P := Tryz.prog) w ⟨b, 0, none⟩ (bytesV d) (fun j v hv => by
    rw [Addr.add_mid, Nat.zero_add, cell_of_row _ b j _ _ (0, 0) h.2]; simpa using hv)
  rw [hl] at this
  exact this
theorem BIn.store {d e : List UInt8} {b : Nat} {w : World} (h : BIn d b w) (he : e.length = 108) : (storeCells ⟨b, 0, none⟩ (bytesV e) 0).run Tryz.prog w = .ok () (w.setRow b (bytesV e).toArray) := by
  have hd := h.1
  have hs := run_storeCells_at Tryz.prog b 0 39 (bytesV e) 0 (bytesV d).toArray w h.2 (by simp [bytesV_length, hd, he]) (fun v hv => by obtain ⟨c, _, rfl⟩ := List.mem_map.1 hv; rfl)
  simp only [Nat.add_zero, Nat.zero_add, List.take_zero, List.nil_append] at hs
  rw [hs, bytesV_length, he, List.drop_of_length_le (by simp [bytesV_length, hd]), List.append_nil]
theorem BIn.stored {d e : List UInt8} {b : Nat} {w : World} (h : BIn d b w) (he : e.length = 108) : BIn e b (w.setRow b (bytesV e).toArray) := ⟨he, setRow_heap w b _ _ _ _ h.2⟩
theorem BIn.below {d : List UInt8} {b B : Nat} {w w' : World} (h : BIn d b w) (hb : b < B) (hB : Below B w w') : BIn d b w' := ⟨h.1, by rw [hB.block b hb]; exact h.2⟩
theorem bin_new (w : World) : BIn (List.replicate 108 0) w.heap.size (w.alloc (.cells (bytesV (List.replicate 108 0)).toArray 39)) := ⟨by simp, heap_alloc_new w _⟩
/-- The number that byte i of a block is made of. -/
def blkV (n : Int) (i : Nat) : Int := wrap64 (wrap64 (n * ((i : Int) + 3)) + (i : Int) / 8) % 256
def blkB (n : Int) (i : Nat) : UInt8 := UInt8.ofNat (blkV n i).toNat
/-- The first k bytes of the block of n. -/
def blkP (n : Int) (k : Nat) : List UInt8 := (List.range 108).map fun i => if i < k then blkB n i else 0
def blkL (n : Int) : List UInt8 := blkP n 108
theorem blkP_length (n : Int) (k : Nat) : (blkP n k).length = 108 := by simp [blkP]
theorem blkL_length (n : Int) : (blkL n).length = 108 := blkP_length n 108
theorem blkP_zero (n : Int) : blkP n 0 = List.replicate 108 0 := by
  refine List.ext_getElem (by simp [blkP]) fun i h1 h2 => ?_
  rw [List.getElem_replicate]
  simp [blkP]
theorem blkP_succ {n : Int} {k : Nat} (hk : k < 108) : (blkP n k).set k (blkB n k) = blkP n (k + 1) := by
  refine List.ext_getElem (by simp [blkP]) fun i h1 h2 => ?_
  have hi : i < 108 := by simpa [blkP] using h2
  by_cases e : i = k
  · subst e; simp [blkP]
  · rw [List.getElem_set_ne (fun q => e q.symm)]
    simp only [blkP, List.getElem_map, List.getElem_range]
    by_cases h : i < k
    · rw [if_pos h, if_pos (by omega)]
    · rw [if_neg h, if_neg (by omega)]
/-- The block of n is answered. -/
def BlockB (n : Int) (w : World) (e : Ending) (w' : World) : Prop := e = .returned (.agg (bytesV (blkL n)).toArray) ∧ Below w.heap.size w w'
def RelBl (n : Int) (w : World) (i : Value) (wr : World) : Prop := ∃ k : Nat, k ≤ 108 ∧ i = .int .i64 k ∧ BIn (List.replicate 108 0) w.heap.size wr ∧ BIn (blkP n k) (w.heap.size + 1) wr ∧ Below w.heap.size w wr
set_option maxHeartbeats 2000000 in
set_option maxRecDepth 100000 in
theorem block_any (n : Int) (w : World) : Calls Tryz.prog 24 #[.int .i64 n] w (BlockB n w) := by
  have hz := szBk_run
  have hz0 := zero_block
  have hc : (Value.agg (bytesV (List.replicate 108 0)).toArray).cells = (bytesV (List.replicate 108 0)).toArray := rfl
  generalize hO : (bytesV (List.replicate 108 0)).toArray = O at *
  have HO := Lib.hid hO
  clear hO
  go_enter Tryz.func24, Tryz.ntmps24
  go_wp2_with fail
  go_loopw [5] (fun i wr => RelBl n w i wr) (fun i _ => 108 - (intOf i).toNat)
  case atStart =>
    refine ⟨0, Nat.zero_le _, rfl, ?_, ?_, balloc (one_below _ _) _⟩
    · rw [← HO.out]; exact (bin_new w).below (by simp) (one_below _ _)
    · rw [blkP_zero, ← HO.out]; have := bin_new (w.alloc (.cells (bytesV (List.replicate 108 0)).toArray 39)); simpa using this
  case round =>
    obtain ⟨k, hk, rfl, h0, hd, hb⟩ := hrel
    by_cases hlt : k < 108
    · have c1 := hd.cell hlt
      have c2 := hd.free k
      have HN := Lib.hid (fun (v : Int) (hv : v = blkV n k) (hv0 : 0 ≤ v) (hv1 : v < 256) => (show RelBl n w (.int .i64 ((k : Int) + 1)) (wr.setCell ⟨w.heap.size + 1, k, none⟩ (.int .u8 v)) from
        ⟨k + 1, by omega, by go_num, h0.below (Nat.lt_succ_self _) ((Below.refl (w.heap.size + 1) wr).setCell (Nat.le_refl _) _), by
          have := hd.set k v hv0 hv1
          rw [show UInt8.ofNat v.toNat = blkB n k by rw [hv]; rfl, blkP_succ hlt] at this
          exact this, hb.setCell (Nat.le_succ _) _⟩))
      generalize ((blkP n k).getD k 0).toNat = y at *
      clear h0 hd hb
      go_wp2_with fail
      go_roundw
      case rel => exact HN.out _ rfl (Int.emod_nonneg _ (by decide)) (Int.emod_lt_of_pos _ (by decide))
      case measure => simp [intOf]; omega
    · have hd1 := hd.1
      obtain rfl : k = 108 := by omega
      have hdl : (bytesV (blkP n 108)).length = szBk := by rw [bytesV_length, hd1]; rfl
      have hl1 := hd.load
      have hs1 := h0.store hd1
      have HL := Lib.hid (h0.stored hd1).load
      have HB := Lib.hid hb
      have hcd : (Value.agg (bytesV (blkP n 108)).toArray).cells = (bytesV (blkP n 108)).toArray := rfl
      clear h0 hd hb hk hlt
      generalize hbd : bytesV (blkP n 108) = D at *
      have HBD := Lib.hid hbd
      clear hbd
      go_wp2_with fail
      have hl2 := HL.out
      exact bodyPost_ret (v := .agg D.toArray) (by simp [results, Tryz.results24, go_sem, hz, hl2]) rfl ⟨by rw [← HBD.out]; rfl, setRow_below HB.out (Nat.le_refl _) _⟩
theorem wpList_val {P : Program} {w : World} {ops : Array Oper} {rest : List Oper} {o : Oper} {a : Act} {Q : Exit → Act → World → Prop} (hg : o.guard = none) (v : Value) (hr : (execOp a.eval o).run P w = .ok (.value v) w)
    (h : wpList P ops Q rest (a.put o.dst v) w) : wpList P ops Q (o :: rest) a w :=
  wpList_plain hg fun _ hK => by
    unfold Oper.wp
    rw [hr]
    exact hK _ _ h
/-- The frame of numbers. -/
def frK (k s t g n : Int) : Fr := ⟨k, s, t, g, blkL n⟩
theorem frK_is (k s t g n : Int) : (frK k s t g n).is := blkL_length n
def FrameK (f : Fr) (w : World) (e : Ending) (w' : World) : Prop := e = .returned (.agg (frA f)) ∧ Below w.heap.size w w'
end Go.Proofs.YtidnmkghmaeniaaGreat
/-
  stavebook.Within, bounds of either sign.
-/
/-
  stavekeep.Config, Fixed, Sectors.
-/
namespace Go.Proofs.YtidnmkghmaeniaaGreat
open Go.RowKit Go.Deep Crc Dk Qk Go.Maps Hf
theorem wordU_range {n : Int} (h : (Lit.int .u64 n).wf = true) : 0 ≤ n ∧ n < 18446744073709551616 := by
  simp [Lit.wf, IntKind.min, IntKind.max, IntKind.signed, IntKind.bits] at h
  omega
/-- The law's small configurations. -/
def CfgOk (c : Cf) : Prop := c.id = 7 ∧ 1 ≤ c.k ∧ c.k ≤ 4 ∧ c.k ≤ c.n ∧ c.n ≤ 6 ∧ 1 ≤ c.t ∧ c.t ≤ 6 ∧ 1 ≤ c.s ∧ c.s ≤ 4
theorem CfgOk.right {c : Cf} (h : CfgOk c) : CfRight c := by
  obtain ⟨h1, h2, h3, h4, h5, h6, h7, h8, h9⟩ := h
  exact ⟨by omega, by omega, by omega, by omega, by omega, by omega, by omega, by omega, by omega⟩
def CfNew (p : Cf → Prop) (w : World) (e : Ending) (w' : World) : Prop := ∃ c, p c ∧ e = .returned (.agg (cfA c)) ∧ Below w.heap.size w w'
set_option maxHeartbeats 1000000 in
set_option maxRecDepth 100000 in
theorem fixed_any (k n t s : Int) (w : World) (ht : 1 ≤ t ∧ t ≤ 6) (hs : 1 ≤ s ∧ s ≤ 4) : Calls Tryz.prog 14 #[.int .i64 k, .int .i64 n, .int .i64 t, .int .i64 s] w (CfNew (fun c => CfgOk c ∧ c.t = t ∧ c.s = s) w) := by
  go_enter Tryz.func14, Tryz.ntmps14
  go_wp2_with fail
  refine (within_int k 1 4 _ (by omega) (by omega) (by omega)).mono ?_
  rintro e w1 ⟨a, ha, rfl, hw⟩
  subst hw
  go_wp2_with fail
  refine (within_int n a 6 _ (by omega) (by omega) (by omega)).mono ?_
  rintro e w1 ⟨m, hm, rfl, hw⟩
  subst hw
  have HA := Lib.hid (show CfgOk ⟨7, a, m, t, s⟩ from ⟨rfl, ha.1, ha.2, hm.1, hm.2, ht.1, ht.2, hs.1, hs.2⟩)
  clear ha hm ht hs
  go_wp2_with fail
  exact bodyPost_ret (v := .agg (cfA ⟨7, a, m, t, s⟩)) (by simp [results, Tryz.results14, go_sem]) rfl ⟨_, ⟨HA.out, rfl, rfl⟩, rfl, balloc (one_below _ _) _⟩
set_option maxHeartbeats 1000000 in
set_option maxRecDepth 100000 in
theorem ksectors_any (c : Cf) (w : World) (h : CfRight c) : Calls Tryz.prog 15 #[.agg (cfA c)] w (Num c.secs w) := by
  obtain ⟨a1, a2, a3, a4⟩ := h.secs
  have HS := Lib.hid (show (1 : Int) + c.s * c.k + c.t = c.secs from rfl)
  obtain ⟨_, _, _, _, _, b1, b2, _, _⟩ := h
  go_enter Tryz.func15, Tryz.ntmps15
  go_wp2_with fail
  go_ret
  refine num ?_ (one_below _ _)
  exact HS.out
end Go.Proofs.YtidnmkghmaeniaaGreat
/-
  Slices of pieces of many cells: blocks, frames. Read, appended to.
-/
namespace Go.Proofs.YtidnmkghmaeniaaGreat
open Go.RowKit Go.Deep Crc Dk Qk Go.Maps Hf
theorem flat_get {k : Nat} : ∀ {cs : List (List Value)}, (∀ c ∈ cs, c.length = k) → ∀ {i j : Nat} {u : Value}, i < cs.length → (cs.getD i [])[j]? = some u → cs.flatten[i * k + j]? = some u
  | [], _, i, j, u, hi, _ => by simp at hi
  | c :: cs, hk, 0, j, u, _, h => by
    have hc : c.length = k := hk c (List.mem_cons_self ..)
    have hj : j < c.length := (List.getElem?_eq_some_iff.1 (show c[j]? = some u from h)).1
    rw [List.flatten_cons, Nat.zero_mul, Nat.zero_add, List.getElem?_append_left hj]; exact h
  | c :: cs, hk, i + 1, j, u, hi, h => by
    have hc : c.length = k := hk c (List.mem_cons_self ..)
    rw [List.flatten_cons, List.getElem?_append_right (by rw [hc, Nat.succ_mul]; omega), hc, show (i + 1) * k + j - k = i * k + j by rw [Nat.succ_mul]; omega]
    exact flat_get (fun c hc => hk c (List.mem_cons_of_mem _ hc)) (by simp at hi; omega) h
theorem flat_len {k : Nat} : ∀ {cs : List (List Value)}, (∀ c ∈ cs, c.length = k) → cs.flatten.length = cs.length * k
  | [], _ => by simp
  | c :: cs, h => by
    rw [List.flatten_cons, List.length_append, h c (List.mem_cons_self ..), flat_len (fun c hc => h c (List.mem_cons_of_mem _ hc)), List.length_cons, Nat.succ_mul]; omega
/-- v is a slice of pieces of k cells each, in a block ahead of B. -/
def SlC (k B : Nat) (w : World) (v : Value) (cs : List (List Value)) : Prop :=
  (cs = [] ∧ ∃ a cap, v = .slice a 0 cap) ∨ ∃ b cap, v = .slice (some ⟨b, 0, none⟩) cs.length cap ∧ b < B ∧ (∀ c ∈ cs, c.length = k) ∧ ∀ i j u, i < cs.length → (cs.getD i [])[j]? = some u → w.cell? ⟨b, i * k + j, none⟩ = some u
theorem SlC.len {k B : Nat} {w : World} {v : Value} {cs : List (List Value)} (h : SlC k B w v cs) : ∃ a cap, v = .slice a cs.length cap := by
  rcases h with ⟨rfl, a, cap, h⟩ | ⟨b, cap, h1, _⟩
  · exact ⟨a, cap, h⟩
  · exact ⟨_, cap, h1⟩
theorem SlC.below {k B : Nat} {w w' : World} {v : Value} {cs : List (List Value)} (h : SlC k B w v cs) (hb : Below B w w') : SlC k B w' v cs := by
  rcases h with h | ⟨b, cap, h1, h2, h3, h4⟩
  · exact Or.inl h
  · exact Or.inr ⟨b, cap, h1, h2, h3, fun i j u hi hu => by rw [hb.cell (p := ⟨b, i * k + j, none⟩) h2]; exact h4 i j u hi hu⟩
theorem SlC.wider {k B B' : Nat} {w : World} {v : Value} {cs : List (List Value)} (h : SlC k B w v cs) (hB : B ≤ B') : SlC k B' w v cs := by
  rcases h with h | ⟨b, cap, h1, h2, h3, h4⟩
  · exact Or.inl h
  · exact Or.inr ⟨b, cap, h1, Nat.lt_of_lt_of_le h2 hB, h3, h4⟩
theorem slC_own {k B n : Nat} {e : TypeId} {w : World} {v : Value} {cs : List (List Value)} (h : w.ownsRow B e k v n cs.flatten) (hk : ∀ c ∈ cs, c.length = k) (hn : n = cs.length) : SlC k w.heap.size w v cs := by
  subst hn
  have hh := h
  rcases hh.2 with ⟨rfl, h0⟩ | ⟨g, cap, cur, rfl, _, hg, hle, _⟩
  · exact Or.inl ⟨List.eq_nil_of_length_eq_zero h0, ⟨_, _, rfl⟩⟩
  · exact Or.inr ⟨g, cap, rfl, (Array.getElem?_eq_some_iff.1 hg).1, hk, fun i j u hi hu => holds_own h _ _ (flat_get hk hi hu)⟩
/-- One piece, as it is loaded. -/
theorem SlC.at_ {k B : Nat} {w : World} {v : Value} {cs : List (List Value)} (h : SlC k B w v cs) {i : Nat} (hi : i < cs.length) :
    ∃ b cap, v = .slice (some ⟨b, 0, none⟩) cs.length cap ∧ b < B ∧ (∀ j u, (cs.getD i [])[j]? = some u → w.cell? ⟨b, i * k + j, none⟩ = some u) ∧ (loadCellsFrom ⟨b, i * k, none⟩ 0 k #[]).run Tryz.prog w = .ok (cs.getD i []).toArray w := by
  rcases h with ⟨rfl, _⟩ | ⟨b, cap, h1, h2, h3, h4⟩
  · simp at hi
  · refine ⟨b, cap, h1, h2, fun j u hu => h4 i j u hi hu, ?_⟩
    have hl : (cs.getD i []).length = k := h3 _ (by simp [List.getD, hi])
    have := run_loadCells_list (P := Tryz.prog) w ⟨b, i * k, none⟩ (cs.getD i []) (fun j u hu => by rw [Addr.add_mid]; exact h4 i j u hi hu)
    rw [hl] at this
    exact this
/-! ### blocks -/
def SlK (B : Nat) (w : World) (v : Value) (bs : List (List UInt8)) : Prop := (∀ d ∈ bs, d.length = 108) ∧ SlC 108 B w v (bs.map bytesV)
theorem SlK.len {B : Nat} {w : World} {v : Value} {bs : List (List UInt8)} (h : SlK B w v bs) : ∃ a cap, v = .slice a bs.length cap := by
  have := h.2.len; rwa [List.length_map] at this
theorem SlK.below {B : Nat} {w w' : World} {v : Value} {bs : List (List UInt8)} (h : SlK B w v bs) (hb : Below B w w') : SlK B w' v bs := ⟨h.1, h.2.below hb⟩
theorem SlK.wider {B B' : Nat} {w : World} {v : Value} {bs : List (List UInt8)} (h : SlK B w v bs) (hB : B ≤ B') : SlK B' w v bs := ⟨h.1, h.2.wider hB⟩
theorem getD_map {α β : Type} (f : α → β) {l : List α} {i : Nat} (h : i < l.length) (x : β) (y : α) : (l.map f).getD i x = f (l.getD i y) := by simp [List.getD, h]
theorem SlK.at_ {B : Nat} {w : World} {v : Value} {bs : List (List UInt8)} (h : SlK B w v bs) {i : Nat} (hi : i < bs.length) :
    ∃ b cap, v = .slice (some ⟨b, 0, none⟩) bs.length cap ∧ b < B ∧ (loadCellsFrom ⟨b, i * szBk, none⟩ 0 szBk #[]).run Tryz.prog w = .ok (bytesV (bs.getD i z108)).toArray w ∧ (bs.getD i z108).length = 108 := by
  obtain ⟨b, cap, h1, h2, _, h3⟩ := h.2.at_ (i := i) (by rw [List.length_map]; exact hi)
  rw [List.length_map] at h1
  rw [getD_map bytesV hi [] z108] at h3
  exact ⟨b, cap, h1, h2, h3, h.1 _ (by simp [List.getD, hi])⟩
theorem bmap_len {bs : List (List UInt8)} (h : ∀ d ∈ bs, d.length = 108) : ∀ c ∈ bs.map bytesV, c.length = 108 := fun c hc => by
  obtain ⟨d, hd, rfl⟩ := List.mem_map.1 hc
  rw [bytesV_length]; exact h d hd
theorem slK_own {B n : Nat} {w : World} {v : Value} {bs : List (List UInt8)} (h : w.ownsRow B 39 108 v n (bs.map bytesV).flatten) (hk : ∀ d ∈ bs, d.length = 108) (hn : n = bs.length) : SlK w.heap.size w v bs :=
  ⟨hk, slC_own h (bmap_len hk) (by rw [List.length_map]; exact hn)⟩
/-! ### frames -/
def SlF (B : Nat) (w : World) (v : Value) (fs : List Fr) : Prop := (∀ f ∈ fs, f.is) ∧ SlC 112 B w v (fs.map frC)
theorem SlF.len {B : Nat} {w : World} {v : Value} {fs : List Fr} (h : SlF B w v fs) : ∃ a cap, v = .slice a fs.length cap := by
  have := h.2.len; rwa [List.length_map] at this
theorem SlF.below {B : Nat} {w w' : World} {v : Value} {fs : List Fr} (h : SlF B w v fs) (hb : Below B w w') : SlF B w' v fs := ⟨h.1, h.2.below hb⟩
theorem SlF.wider {B B' : Nat} {w : World} {v : Value} {fs : List Fr} (h : SlF B w v fs) (hB : B ≤ B') : SlF B' w v fs := ⟨h.1, h.2.wider hB⟩
theorem fmap_len {fs : List Fr} (h : ∀ f ∈ fs, f.is) : ∀ c ∈ fs.map frC, c.length = 112 := fun c hc => by
  obtain ⟨f, hf, rfl⟩ := List.mem_map.1 hc
  exact frC_length (h f hf)
theorem slF_own {B n : Nat} {w : World} {v : Value} {fs : List Fr} (h : w.ownsRow B 81 112 v n (fs.map frC).flatten) (hk : ∀ f ∈ fs, f.is) (hn : n = fs.length) : SlF w.heap.size w v fs :=
  ⟨hk, slC_own h (fmap_len hk) (by rw [List.length_map]; exact hn)⟩
/-- One frame: it, as it is loaded, its numbers, its bytes. -/
theorem SlF.at_ {B : Nat} {w : World} {v : Value} {fs : List Fr} (h : SlF B w v fs) {i : Nat} (hi : i < fs.length) :
    ∃ b cap, v = .slice (some ⟨b, 0, none⟩) fs.length cap ∧ b < B ∧ (loadCellsFrom ⟨b, i * szFr, none⟩ 0 szFr #[]).run Tryz.prog w = .ok (frA (fs.getD i zeroF)) w ∧
      w.cell? ⟨b, i * szFr + 2, none⟩ = some (.int .i64 (fs.getD i zeroF).t) ∧ w.cell? ⟨b, i * szFr + 3, none⟩ = some (.int .i64 (fs.getD i zeroF).g) ∧
      (loadCellsFrom ⟨b, i * szFr + 4, none⟩ 0 szBk #[]).run Tryz.prog w = .ok (bytesV (fs.getD i zeroF).d).toArray w ∧ (fs.getD i zeroF).is := by
  obtain ⟨b, cap, h1, h2, h4, h3⟩ := h.2.at_ (i := i) (by rw [List.length_map]; exact hi)
  rw [List.length_map] at h1
  rw [getD_map frC hi [] zeroF] at h3 h4
  have hf : (fs.getD i zeroF).is := h.1 _ (by simp [List.getD, hi])
  refine ⟨b, cap, h1, h2, h3, h4 2 _ rfl, h4 3 _ rfl, ?_, hf⟩
  have hl : (bytesV (fs.getD i zeroF).d).length = 108 := by rw [bytesV_length]; exact hf
  have := run_loadCells_list (P := Tryz.prog) w ⟨b, i * 112 + 4, none⟩ (bytesV (fs.getD i zeroF).d) (fun j u hu => by
    rw [Addr.add_mid, Nat.add_assoc]
    refine h4 (4 + j) u ?_
    unfold frC
    rw [List.getElem?_append_right (by simp)]
    simpa using hu)
  rw [hl] at this
  exact this
/-! ### appended to -/
theorem frC_one (f : Fr) : ∀ u ∈ frC f, u.oneCell' = true := fun u hu => by
  unfold frC at hu
  rcases List.mem_append.1 hu with hu | hu
  · simp only [List.mem_cons, List.not_mem_nil, or_false] at hu
    rcases hu with rfl | rfl | rfl | rfl <;> rfl
  · exact bytesV_one _ u hu
theorem src_cells {k : Nat} {tx e : TypeId} {w : World} {b : Nat} {cs : List Value} (hk : Tryz.prog.underlying tx = some (.slice e)) (hl : cs.length = k) (hc : ∀ j u, cs[j]? = some u → w.cell? ⟨b, j, none⟩ = some u) (h1 : ∀ u ∈ cs, u.oneCell' = true) :
    Src Tryz.prog k tx (.slice (some ⟨b, 0, none⟩) 1 1) 1 cs w :=
  Src.ofSlice _ hk ⟨b, 0, none⟩ 1 1 cs (by rw [hl, Nat.one_mul]) (fun j u hu => by rw [Addr.add_mid, Nat.zero_add]; exact hc j u hu) h1
theorem Tryz.infoBlock : (Tryz.prog.info? 39).map (fun i => (i.zero, i.size, i.bytes)) = some (some (.agg (bytesV (List.replicate 108 0)).toArray), 108, 108) := by kernel_rfl
theorem Tryz.infoFrame : (Tryz.prog.info? 81).map (fun i => (i.zero, i.size, i.bytes)) = some (some (.agg (frA zeroF)), 112, 144) := by kernel_rfl
theorem wpList_append_block (w : World) {ops : Array Oper} {rest : List Oper} {o : Oper} {a : Act} {Q : Exit → Act → World → Prop} (hgd : o.guard = none) (s x : Operand)
    (ho : o.op = .call { callee := .builtin .append, args := #[s, x], argTypes := #[29, 29] })
    (base : Nat) (v : Value) (n : Nat) (xs : List Value) (hsv : a.eval s = v) (hown : w.ownsRow base 39 108 v n xs)
    (b : Nat) (d : List UInt8) (hx : a.eval x = .slice (some ⟨b, 0, none⟩) 1 1) (hb : ∀ j u, (bytesV d)[j]? = some u → w.cell? ⟨b, j, none⟩ = some u) (hd : d.length = 108) (h63 : n + 1 ≤ 100000) (hbase : base ≤ w.heap.size)
    (h : ∀ v' w', w'.ownsRow base 39 108 v' (n + 1) (xs ++ bytesV d) → Grew w v.ownBlock w' v'.ownBlock → wpList Tryz.prog ops Q rest (a.put o.dst v') w') : wpList Tryz.prog ops Q (o :: rest) a w := by
  obtain ⟨i0, hi0, hz⟩ := Option.map_eq_some_iff.1 Tryz.infoBlock
  simp only [Prod.mk.injEq] at hz
  obtain ⟨hz0, hz1, hz2⟩ := hz
  exact wpList_append_src w hgd s x 29 29 ho base 39 i0 (.agg (bytesV (List.replicate 108 0)).toArray) 108 108 Tryz.underlying29 hi0 hz0 hz1 hz2 rfl v n xs hsv hown (.slice (some ⟨b, 0, none⟩) 1 1) 1 (bytesV d) hx
    (src_cells Tryz.underlying29 (by rw [bytesV_length]; exact hd) hb (bytesV_one d)) (by unfold maxLen; omega) (by omega) hbase fun v' w' h1 h2 _ => h v' w' h1 h2
/-! ### a slice literal of one piece -/
theorem fill_piece {n : Nat} {l : List Value} {cs : Array Value} (hl : l.length = n) (hc : cs.size = n) :
    Instr.fill (fun i => some (i * n, n)) cs [(0, .agg l.toArray)] = some l.toArray := by
  have e : Instr.fill (fun i => some (i * n, n)) cs [(0, .agg l.toArray)] = some ((l.zipIdx 0).foldl (fun cs (q : Value × Nat) => cs.setIfInBounds (0 + q.2) q.1) cs) := by
    simp only [Instr.fill, Value.cells, List.size_toArray, hl, hc]
    simp
  rw [e]
  congr 1
  apply Array.ext_getElem?
  intro i
  rw [fold_get _ _ _ _ _ (by omega), hl]
  by_cases h : i < n
  · rw [if_pos (by omega)]; simp
  · rw [if_neg (by omega), Array.getElem?_eq_none (by omega), List.getElem?_toArray, List.getElem?_eq_none (by omega)]
theorem wpList_one {P : Program} {w : World} {ops : Array Oper} {rest : List Oper} {o : Oper} {a : Act} {Q : Exit → Act → World → Prop} (hg : o.guard = none) (t e : TypeId) (x : Operand) (ho : o.op = .buildSlice t 1 #[(0, x)])
    (ie : TypeInfo) (z : Value) (n : Nat) (hu : P.underlying t = some (.slice e)) (hie : P.info? e = some ie) (hz : ie.zero = some z) (hs : ie.size = n) (h0 : 0 < n) (h1 : n ≤ 1000)
    (l : List Value) (hx : a.eval x = .agg l.toArray) (hl : l.length = n)
    (h : wpList P ops Q rest (a.put o.dst (.slice (some ⟨w.heap.size, 0, none⟩) 1 1)) (w.alloc (.cells l.toArray e))) : wpList P ops Q (o :: rest) a w :=
  wpList_buildSlice hg t e 1 _ ho l.toArray ie z hu hie hz (by rw [hs]; omega) (by rw [hs]; omega) (by
    simp only [List.map_toArray, List.map_cons, List.map_nil]
    rw [hx, hs]
    exact fill_piece hl (by simp)) h
theorem wpList_one_block {w : World} {ops : Array Oper} {rest : List Oper} {o : Oper} {a : Act} {Q : Exit → Act → World → Prop} (hg : o.guard = none) (x : Operand) (ho : o.op = .buildSlice 29 1 #[(0, x)])
    (d : List UInt8) (hx : a.eval x = .agg (bytesV d).toArray) (hd : d.length = 108)
    (h : wpList Tryz.prog ops Q rest (a.put o.dst (.slice (some ⟨w.heap.size, 0, none⟩) 1 1)) (w.alloc (.cells (bytesV d).toArray 39))) : wpList Tryz.prog ops Q (o :: rest) a w := by
  obtain ⟨i0, hi0, hz⟩ := Option.map_eq_some_iff.1 Tryz.infoBlock
  simp only [Prod.mk.injEq] at hz
  obtain ⟨hz0, hz1, hz2⟩ := hz
  exact wpList_one hg _ _ x ho i0 _ 108 Tryz.underlying29 hi0 hz0 hz1 (by decide) (by decide) (bytesV d) hx (by rw [bytesV_length]; exact hd) h
set_option maxRecDepth 100000 in
theorem wpList_append_row (w : World) {ops : Array Oper} {rest : List Oper} {o : Oper} {a : Act} {Q : Exit → Act → World → Prop} (hgd : o.guard = none) (s x : Operand)
    (ho : o.op = .call { callee := .builtin .append, args := #[s, x], argTypes := #[43, 43] })
    (base : Nat) (v : Value) (n : Nat) (xs : List Value) (hsv : a.eval s = v) (hown : w.ownsRow base 45 1 v n xs)
    (b : Nat) (u : Value) (hx : a.eval x = .slice (some ⟨b, 0, none⟩) 1 1) (hb : w.cell? ⟨b, 0, none⟩ = some u) (hu : u.oneCell' = true) (h63 : n + 1 ≤ 100000) (hbase : base ≤ w.heap.size)
    (h : ∀ v' w', w'.ownsRow base 45 1 v' (n + 1) (xs ++ [u]) → Grew w v.ownBlock w' v'.ownBlock → wpList Tryz.prog ops Q rest (a.put o.dst v') w') : wpList Tryz.prog ops Q (o :: rest) a w := by
  obtain ⟨i0, hi0, hz⟩ := Option.map_eq_some_iff.1 Tryz.info45
  simp only [Prod.mk.injEq] at hz
  obtain ⟨hz0, hz1, hz2⟩ := hz
  exact wpList_append_src w hgd s x 43 43 ho base 45 i0 (.slice none 0 0) 1 24 Tryz.underlying43 hi0 hz0 hz1 hz2 rfl v n xs hsv hown (.slice (some ⟨b, 0, none⟩) 1 1) 1 [u] hx
    (src_cells Tryz.underlying43 rfl (fun j y hy => by
      match j, hy with
      | 0, hy => injection hy with hy; subst hy; exact hb
      | j + 1, hy => simp at hy) (fun y hy => by rw [List.mem_singleton.1 hy]; exact hu)) (by unfold maxLen; omega) (by omega) hbase fun v' w' h1 h2 _ => h v' w' h1 h2
/-! ### rows that were new when the rack was there -/
theorem own_rc {w w' : World} {B e k m n : Nat} {c : Lc} {v : Value} {xs : List Value} (h : w.ownsRow B e k v m xs) (hf : Far B c n) (hc : RC c n w w') : w'.ownsRow B e k v m xs := by
  obtain ⟨h1, h2⟩ := h
  refine ⟨h1, ?_⟩
  rcases h2 with h2 | ⟨g, cap, cur, hv, hg, hh, r⟩
  · exact Or.inl h2
  · refine Or.inr ⟨g, cap, cur, hv, hg, ?_, r⟩
    rw [hc.block g (Array.getElem?_eq_some_iff.1 hh).1 (by have := hf.1; omega) (fun i hi => by have := hf.2 i hi; omega)]; exact hh
theorem OwnLs.rc {B n : Nat} {w w' : World} {c : Lc} {v : Value} {us : List Value} {ls : List (List UInt8)} (h : OwnLs B w v us ls) (hf : Far B c n) (hc : RC c n w w') : OwnLs B w' v us ls :=
  ⟨own_rc h.top hf hc, fun i hi => own_rc (h.each i hi) hf hc, h.apart, h.off⟩
end Go.Proofs.YtidnmkghmaeniaaGreat
/-
  journal.hasStripe, sector, has, right, good.
-/
namespace Go.Proofs.YtidnmkghmaeniaaGreat
open Go.RowKit Go.Deep Crc Dk Qk Go.Maps Hf
/-- The cells of a record. -/
abbrev rcA (q t : Int) (v : Value) : Array Value := #[.int .i64 q, .int .i64 t, v]
end Go.Proofs.YtidnmkghmaeniaaGreat
/-
  stavekeep.Blocks.
-/
namespace Go.Proofs.YtidnmkghmaeniaaGreat
open Go.RowKit Go.Deep Crc Dk Qk Go.Maps Hf
/-- The blocks of a number. -/
def blks (n : Int) (k : Nat) : List (List UInt8) := (List.range k).map fun (i : Nat) => blkL (wrap64 (n + 31 * (i : Int)))
theorem blks_length (n : Int) (k : Nat) : (blks n k).length = k := by simp [blks]
theorem blks_is (n : Int) (k : Nat) : ∀ d ∈ blks n k, d.length = 108 := fun d hd => by
  obtain ⟨i, _, rfl⟩ := List.mem_map.1 hd
  exact blkL_length _
theorem blks_succ (n : Int) (k : Nat) : blks n (k + 1) = blks n k ++ [blkL (wrap64 (n + 31 * (k : Int)))] := by
  unfold blks; rw [List.range_succ, List.map_append]; rfl
theorem blks_flat (n : Int) (k : Nat) : ((blks n (k + 1)).map bytesV).flatten = ((blks n k).map bytesV).flatten ++ bytesV (blkL (wrap64 (n + 31 * (k : Int)))) := by
  rw [blks_succ, List.map_append, List.flatten_append]; simp
def BlksNew (bs : List (List UInt8)) (w : World) (e : Ending) (w' : World) : Prop := ∃ v, e = .returned v ∧ w'.ownsRow w.heap.size 39 108 v bs.length (bs.map bytesV).flatten ∧ Below w.heap.size w w'
def RelJB (n : Int) (k : Nat) (w : World) (v i : Value) (wr : World) : Prop :=
  ∃ m : Nat, m ≤ k ∧ i = .int .i64 m ∧ wr.ownsRow w.heap.size 39 108 v m ((blks n m).map bytesV).flatten ∧ Below w.heap.size w wr
theorem own_slice' {w : World} {B e s n : Nat} {v : Value} {xs : List Value} (h : w.ownsRow B e s v n xs) : ∃ g c, v = .slice g n c ∧ n ≤ c := by
  rcases h.2 with ⟨rfl, rfl⟩ | ⟨g, cap, cur, rfl, _, _, hle, _⟩
  · exact ⟨_, _, rfl, Nat.le_refl _⟩
  · exact ⟨_, _, rfl, hle⟩
theorem own_block' {w : World} {B e s n k : Nat} {v : Value} {xs : List Value} (h : w.ownsRow B e s v n xs) (hk : v.ownBlock = some k) : B ≤ k ∧ k < w.heap.size := by
  rcases h.2 with ⟨rfl, _⟩ | ⟨g, cap, cur, rfl, hB, hg, _⟩
  · cases hk
  · injection hk with hk; subst hk; exact ⟨hB, (Array.getElem?_eq_some_iff.1 hg).1⟩
set_option maxHeartbeats 2000000 in
set_option maxRecDepth 100000 in
theorem blocks_any (k : Nat) (n : Int) (w : World) (hk : k ≤ 8) : Calls Tryz.prog 7 #[.int .i64 (k : Int), .int .i64 n] w (BlksNew (blks n k) w) := by
  go_enter Tryz.func7, Tryz.ntmps7
  go_wp2_with fail
  go_loopw [5, 6] (fun v i wr => RelJB n k w v i wr) (fun _ i _ => k - (intOf i).toNat)
  case atStart => exact ⟨0, Nat.zero_le _, rfl, (show w.ownsRow _ _ _ _ 0 [] from World.ownsRow_nil _ _ _ _), Below.refl _ _⟩
  case round =>
    obtain ⟨m, hm, rfl, hO, hB⟩ := hrel
    have HO := Lib.hid hO
    have HB := Lib.hid hB
    by_cases hlt : m < k
    · have HF := Lib.hid (blks_flat n m)
      have CB := Lib.hid (fun w => block_any (wrap64 (n + 31 * (m : Int))) w)
      have HD := Lib.hid (blkL_length (wrap64 (n + 31 * (m : Int))))
      unfold BlockB at CB
      have e31 : wrap64 (31 * (m : Int)) = 31 * (m : Int) := by unfold wrap64; omega
      clear hO hB
      go_wp2_with (first
        | (go_at_call 24; refine (CB.out _).mono ?_; generalize blkL (wrap64 (n + 31 * (m : Int))) = d at *; rintro e w2 ⟨rfl, hb2⟩; have HB2 := Lib.hid hb2; clear hb2)
        | (refine wpList_one_block (o := ⟨some 18, _, _, _, _, _⟩) rfl (.tmp 17) rfl _ rfl HD.out ?_)
        | (at_builtin; refine wpList_append_block _ rfl (.tmp 12) (.tmp 18) rfl w.heap.size _ _ _ rfl (own_below (own_below HO.out HB2.out) (one_below _ _)) w2.heap.size _ rfl (fun j u hu => new_cells _ _ _ _ _ (by simpa using hu)) HD.out ?_ ?_ ?_; omega; (have := HB2.out.size; have := HB.out.size; simp; omega); intro v3 w3 hown3 hg3; have HO3 := Lib.hid hown3; have HG3 := Lib.hid hg3; obtain ⟨g3, cap3, rfl, -⟩ := own_slice' hown3; clear hown3 hg3))
      go_roundw
      case rel =>
        have h1 := HO3.out
        rw [← HF.out] at h1
        have s1 := HB.out.size
        have s2 := HB2.out.size
        exact ⟨m + 1, hlt, by go_num, h1, (bthen HB.out HB2.out).trans (((balloc (Below.refl _ _) _).mono (by omega)).trans (HG3.out.below (by simp; omega) fun j hj => (own_block' HO.out hj).1))⟩
      case measure => simp [intOf]; omega
    · obtain rfl : m = k := by omega
      obtain ⟨g, cv, rfl, -⟩ := own_slice' hO
      clear hO
      go_wp2_with fail
      go_ret
      exact ⟨_, rfl, by rw [blks_length]; exact HO.out, hB⟩
end Go.Proofs.YtidnmkghmaeniaaGreat
/-
  journal.framesOf: a record's frames, as bytes. stavekeep.Blocks.
-/
namespace Go.Proofs.YtidnmkghmaeniaaGreat
open Go.RowKit Go.Deep Crc Dk Qk Go.Maps Hf
theorem jFs_take {x : Rc} {i : Nat} (h : i < x.b.length) : (jFs x).take (i + 1) = (jFs x).take i ++ [put (jF x i)] := by
  rw [List.take_succ_eq_append_getElem (by rw [jFs_length]; exact h)]; simp [jFs]
theorem storeCells_block {d : List UInt8} (hd : d.length = 108) (w : World) : (storeCells ⟨w.heap.size, 0, none⟩ (bytesV d) 0).run Tryz.prog (w.alloc (.cells (bytesV z108).toArray 39)) = .ok () (w.alloc (.cells (bytesV d).toArray 39)) := by
  have hs : (Tryz.prog.info? 39).map (·.size) = some 108 := by kernel_rfl
  have := run_storeCells_new (P := Tryz.prog) w 39 (bytesV z108).toArray (bytesV d).toArray (by rw [List.size_toArray, bytesV_length, hd]; exact hs) (by simp [bytesV_length, hd, z108]) (all_oneCell_toArray (bytesV_one d))
  simpa using this
theorem zero_blockZ (w : World) : (zeroValue 39).run Tryz.prog w = .ok (.agg (bytesV z108).toArray) w := zero_block w
theorem loadCells_block {d : List UInt8} (hd : d.length = 108) (w : World) : (loadCellsFrom ⟨w.heap.size, 0, none⟩ 0 szBk #[]).run Tryz.prog (w.alloc (.cells (bytesV d).toArray 39)) = .ok (bytesV d).toArray (w.alloc (.cells (bytesV d).toArray 39)) :=
  BIn.load (d := d) (b := w.heap.size) ⟨hd, heap_alloc_new w _⟩
theorem OwnLs.base {B B' : Nat} {w : World} {v : Value} {us : List Value} {ls : List (List UInt8)} (h : OwnLs B w v us ls) (hB : B' ≤ B) : OwnLs B' w v us ls := ⟨own_base h.top hB, fun i hi => own_base (h.each i hi) hB, h.apart, h.off⟩
def LsNew (ls : List (List UInt8)) (w : World) (e : Ending) (w' : World) : Prop := ∃ v us, e = .returned v ∧ OwnLs w.heap.size w' v us ls ∧ Below w.heap.size w w'
/-- Between two rounds: the record's struct, the block of the range's value, what was made. -/
def RelJF (x : Rc) (v0 : Value) (w : World) (v i : Value) (wr : World) : Prop :=
  ∃ (m : Nat) (us : List Value), m ≤ x.b.length ∧ i = .int .i64 m ∧ OwnLs (w.heap.size + 1) wr v us ((jFs x).take m) ∧ Below w.heap.size w wr ∧ w.heap.size < wr.heap.size ∧
    wr.cell? ⟨w.heap.size, 0, none⟩ = some (.int .i64 x.q) ∧ wr.cell? ⟨w.heap.size, 1, none⟩ = some (.int .i64 x.t) ∧ wr.cell? ⟨w.heap.size, 2, none⟩ = some v0
end Go.Proofs.YtidnmkghmaeniaaGreat
/-
  journal.write: a record's frames on each disk that is online, then a flush of each.
-/
namespace Go.Proofs.YtidnmkghmaeniaaGreat
open Go.RowKit Go.Deep Crc Dk Qk Go.Maps Hf
structure JwS (lo : Nat) (c : Lc) (cf : Cf) (F : List (List UInt8)) (U : List Nat) (vF : Value) (us : List Value) (vU : Value) (w : World) (n : Nat) (q : Rk) (w' : World) : Prop where
  rack : RackIn lo w' c q
  nn : q.n = n
  cfg : CfB cf w.heap.size w'
  fr : OwnLs (w.heap.size + 2) w' vF us F
  up : w'.ownsRow (w.heap.size + 2) 3 1 vU U.length (numsV U)
  rc : RC c n w w'
  lt : w.heap.size + 1 < w'.heap.size
theorem JwS.then {lo : Nat} {c : Lc} {cf : Cf} {F : List (List UInt8)} {U : List Nat} {vF : Value} {us : List Value} {vU : Value} {w : World} {n : Nat} {q : Rk} {w1 w2 : World} (h : JwS lo c cf F U vF us vU w n q w1) (hb : Below w1.heap.size w1 w2) : JwS lo c cf F U vF us vU w n q w2 :=
  ⟨h.rack.below hb, h.nn, CfB.below h.cfg (Nat.lt_of_succ_lt h.lt) hb, h.fr.below hb, own_below h.up hb, h.rc.trans (RC.of_below hb), Nat.lt_of_lt_of_le h.lt hb.size⟩
theorem JwS.next {lo : Nat} {c : Lc} {cf : Cf} {F : List (List UInt8)} {U : List Nat} {vF : Value} {us : List Value} {vU : Value} {w : World} {n : Nat} {q q2 : Rk} {w1 w2 : World} (h : JwS lo c cf F U vF us vU w n q w1) (hf : Far w.heap.size c n) (hr : RackIn lo w2 c q2) (hn : q2.n = q.n) (hc : RC c q.n w1 w2) : JwS lo c cf F U vF us vU w n q2 w2 := by
  have hn' := h.nn
  rw [hn'] at hc
  exact ⟨hr, hn.trans h.nn, CfB.rc h.cfg hf (Nat.lt_of_succ_lt h.lt) hc, h.fr.rc (hf.mono (by omega)) hc, own_rc h.up (hf.mono (by omega)) hc, h.rc.trans hc, Nat.lt_of_lt_of_le h.lt hc.size⟩
theorem JwS.byte {lo : Nat} {c : Lc} {cf : Cf} {F : List (List UInt8)} {U : List Nat} {vF : Value} {us : List Value} {vU : Value} {w : World} {n : Nat} {q : Rk} {w1 : World} (h : JwS lo c cf F U vF us vU w n q w1) {j : Nat} (hj : j < F.length) : SlB w1.heap.size w1 (us.getD j nilB) (F.getD j []) := h.fr.slb hj
theorem nums_cell {w : World} {B n : Nat} {v : Value} {U : List Nat} (h : w.ownsRow B 3 1 v n (numsV U)) (hn : n = U.length) {m : Nat} (hm : m < U.length) : ∃ g cap, v = .slice (some ⟨g, 0, none⟩) n cap ∧ w.cell? ⟨g, m, none⟩ = some (.int .i64 ((U.getD m 0 : Nat) : Int)) := by
  obtain ⟨a, cap, rfl, _⟩ := own_slice h
  obtain ⟨g, rfl⟩ := own_addr h (by omega)
  exact ⟨g, cap, rfl, own_cell h (numsV_at hm)⟩
theorem jops_start (base : Int) (F : List (List UInt8)) (U : List Nat) : jops base F U = wops base F U 0 ++ fops U 0 := rfl
theorem w_code (q : Rk) (i sec : Int) (l : List UInt8) : Rop.code q (.w i sec l) = q.wcode i sec l.length := rfl
def RelW1 (lo : Nat) (c : Lc) (cf : Cf) (F : List (List UInt8)) (U : List Nat) (vF : Value) (us : List Value) (vU : Value) (w : World) (q : Rk) (base : Int) (i : Value) (wr : World) : Prop :=
  ∃ (m : Nat) (r : Rk), m ≤ U.length ∧ i = .int .i64 m ∧ RunTo q (jops base F U) r (wops base F U m ++ fops U 0) ∧ JwS lo c cf F U vF us vU w q.n r wr
def RelW2 (lo : Nat) (c : Lc) (cf : Cf) (F : List (List UInt8)) (U : List Nat) (vF : Value) (us : List Value) (vU : Value) (w : World) (q : Rk) (base : Int) (d m : Nat) (i : Value) (wr : World) : Prop :=
  ∃ (j : Nat) (r : Rk), j ≤ F.length ∧ i = .int .i64 j ∧ RunTo q (jops base F U) r (dops base F d j ++ (wops base F U (m + 1) ++ fops U 0)) ∧ JwS lo c cf F U vF us vU w q.n r wr
def RelW3 (lo : Nat) (c : Lc) (cf : Cf) (F : List (List UInt8)) (U : List Nat) (vF : Value) (us : List Value) (vU : Value) (w : World) (q : Rk) (base : Int) (i : Value) (wr : World) : Prop :=
  ∃ (m : Nat) (r : Rk), m ≤ U.length ∧ i = .int .i64 m ∧ RunTo q (jops base F U) r (fops U m) ∧ JwS lo c cf F U vF us vU w q.n r wr
end Go.Proofs.YtidnmkghmaeniaaGreat
/-
  journal.Log (written by genjlog.py).
-/
namespace Go.Proofs.YtidnmkghmaeniaaGreat
open Go.RowKit Go.Deep Crc Dk Qk Go.Maps Hf
def opJLog : ByteArray := ⟨#[106, 111, 117, 114, 110, 97, 108, 46, 76, 111, 103]⟩
def opJBlank : ByteArray := ⟨#[106, 111, 117, 114, 110, 97, 108, 46, 66, 108, 97, 110, 107]⟩
def opJSlot : ByteArray := ⟨#[106, 111, 117, 114, 110, 97, 108, 46, 83, 108, 111, 116]⟩
/-- What Wrap makes of the end of a run. -/
def wrapR (op : ByteArray) (n : Int) (q : Rk) (L : List Rop) : Value := if runC q L = 0 then .nilIface else wrapV op n (runE q L)
def Rk.jlogV (q : Rk) (c : Cf) (x : Rc) : Value := if (c.fits q && jright c x) = true then wrapR opJLog x.q q (slotOps c (x.q % c.s) x q) else wrapV opJLog x.q (errV 1)
def Rk.jblankV (q : Rk) (c : Cf) (s : Int) : Value := if jhasSlot c q s = true then wrapR opJBlank s q (slotOps c s (blankR c) q) else wrapV opJBlank s (errV 1)
theorem jlog_nil {q : Rk} {c : Cf} {x : Rc} (h : Rk.jlogC q c x = 0) : Rk.jlogV q c x = .nilIface := by
  unfold Rk.jlogC at h
  unfold Rk.jlogV
  split at h
  · rename_i h1; rw [if_pos h1]; exact if_pos h
  · cases h
theorem jblank_nil {q : Rk} {c : Cf} {s : Int} (h : Rk.jblankC q c s = 0) : Rk.jblankV q c s = .nilIface := by
  unfold Rk.jblankC at h
  unfold Rk.jblankV
  split at h
  · rename_i h1; rw [if_pos h1]; exact if_pos h
  · cases h
end Go.Proofs.YtidnmkghmaeniaaGreat
/-
  journal.Blank (written by genjblank.py).
-/
namespace Go.Proofs.YtidnmkghmaeniaaGreat
open Go.RowKit Go.Deep Crc Dk Qk Go.Maps Hf
theorem rep_flat {m : Nat} {l : List Value} (hl : l.length = m) (hm : 0 < m) (k : Nat) : (madeCells l.toArray (k * m)).toList = (List.replicate k l).flatten := by
  have hall : ∀ c ∈ List.replicate k l, c.length = m := fun c hc => by rw [List.eq_of_mem_replicate hc]; exact hl
  refine List.ext_getElem (by rw [flat_len hall]; simp [madeCells]) fun p h1 h2 => ?_
  have hp : p < k * m := by simpa [madeCells] using h1
  have hi : p / m < k := (Nat.div_lt_iff_lt_mul hm).2 hp
  have hj : p % m < m := Nat.mod_lt _ hm
  have e1 : (List.replicate k l).flatten[p]? = l[p % m]? := by
    have hg : ((List.replicate k l).getD (p / m) [])[p % m]? = some (l[p % m]'(by rw [hl]; exact hj)) := by
      rw [List.getD_eq_getElem?_getD, List.getElem?_replicate, if_pos hi]
      exact List.getElem?_eq_getElem (by show p % m < l.length; rw [hl]; exact hj)
    have := flat_get hall (i := p / m) (j := p % m) (by simpa using hi) hg
    rw [Nat.mul_comm, Nat.div_add_mod] at this
    rw [this]
    exact (List.getElem?_eq_getElem (by rw [hl]; exact hj)).symm
  have e2 : (madeCells l.toArray (k * m)).toList[p]? = l[p % m]? := by
    simp [madeCells, hl, hp, hj]
  rw [List.getElem?_eq_getElem h1] at e2
  rw [List.getElem?_eq_getElem h2] at e1
  rw [← e1] at e2
  injection e2
theorem make_blocks (k : Nat) (hk : k ≤ 8) (w : World) : (Instr.makeSlice 29 (.int .i64 (k : Int)) (.int .i64 (k : Int))).run Tryz.prog w = .ok (.slice (some ⟨w.heap.size, 0, none⟩) k k) (w.alloc (.cells (madeCells (bytesV z108).toArray (k * 108)) 39)) := by
  obtain ⟨i0, hi0, hz⟩ := Option.map_eq_some_iff.1 Tryz.infoBlock
  simp only [Prod.mk.injEq] at hz
  obtain ⟨hz0, hz1, hz2⟩ := hz
  have h := run_makeSlice (P := Tryz.prog) w 29 39 i0 (.agg (bytesV z108).toArray) Tryz.underlying29 hi0 hz0 .i64 .i64 (k : Int) (k : Int) (by omega) (by omega) (by rw [hz1]; simp; omega) (by rw [hz2]; omega) (by omega)
  rw [hz1] at h
  simpa [Value.cells] using h
theorem made_blocks (k : Nat) (hk : k ≤ 8) (w : World) : SlK (w.alloc (.cells (madeCells (bytesV z108).toArray (k * 108)) 39)).heap.size (w.alloc (.cells (madeCells (bytesV z108).toArray (k * 108)) 39)) (.slice (some ⟨w.heap.size, 0, none⟩) k k) (List.replicate k z108) := by
  have h := own_new w w.heap.size (madeCells (bytesV z108).toArray (k * 108)) 39 108 k (Nat.le_refl _) (size_madeCells _ _) (by unfold maxLen; omega)
  rw [rep_flat (by rw [bytesV_length]; simp [z108]) (by decide), show List.replicate k (bytesV z108) = (List.replicate k z108).map bytesV by rw [List.map_replicate]] at h
  exact slK_own h (fun d hd => by rw [List.eq_of_mem_replicate hd]; simp [z108]) (by simp)
end Go.Proofs.YtidnmkghmaeniaaGreat
