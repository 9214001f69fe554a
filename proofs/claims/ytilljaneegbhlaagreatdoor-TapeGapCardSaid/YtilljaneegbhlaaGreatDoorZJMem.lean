import Derived.Test.YtilljaneegbhlaaGreatDoorZHGet
import Derived.Test.YtilljaneegbhlaaGreatDoorZWithinV
import Derived.Test.YtilljaneegbhlaaGreatDoorZSBase
import Derived.Test.YtilljaneegbhlaaGreatDoorZJBase
import Derived.Test.YtilljaneegbhlaaGreatDoorZCRows
import Derived.Deep.AppendSrc
import Derived.Great.BuildSlice
import Derived.Deep.RegionHeld3
import Derived.Laws.MakeOwn
namespace Go.Proofs.YtilljaneegbhlaaGreatDoor
open Go.RowKit Crc Hf
set_option maxHeartbeats 16000000
set_option maxRecDepth 100000
def szBk : Nat := 108
theorem szBk_run (w : World) : (sizeOf 87).run Tryz.prog w = .ok szBk w := by go_simp; rfl
theorem zero_block (w : World) : (zeroValue 87).run Tryz.prog w = .ok (.agg (bytesV (List.replicate 108 0)).toArray) w := by
 have h : (Tryz.prog.info? 87).map (fun i => (i.zero, i.size)) = some (some (.agg (bytesV (List.replicate 108 0)).toArray), 108) := by kernel_rfl
 exact (zero_of_info h).1 w
def BIn (d : List UInt8) (b : Nat) (w : World) : Prop := d.length = 108 ∧ w.heap[b]? = some (.cells (bytesV d).toArray 87 (0, 0))
variable {d : List UInt8} {b : Nat} {w : World}
theorem BIn.cell (h : BIn d b w) {i : Nat} (hi : i < 108) : w.cell? ⟨b, i, none⟩ = some (.int .u8 ((d.getD i 0).toNat : Int)) := by
 rw [cell_of_row _ b i _ _ (0, 0) h.2]
 have := bytesV_at (l := d) (i := i) (by have := h.1; omega)
 simpa using this
theorem BIn.free (h : BIn d b w) (i : Nat) : w.frozen? ⟨b, i, none⟩ = false := by
 unfold World.frozen?
 rw [h.2]
 simp
theorem BIn.set (h : BIn d b w) (i : Nat) (v : Int) (h0 : 0 ≤ v) (h1 : v < 256) : BIn (d.set i (UInt8.ofNat v.toNat)) b (w.setCell ⟨b, i, none⟩ (.int .u8 v)) := by
 refine ⟨by rw [List.length_set]; exact h.1, ?_⟩
 show (w.heap.modify b _)[b]? = _
 rw [Array.getElem?_modify, if_pos rfl, h.2]
 show some (Obj.cells ((bytesV d).toArray.setIfInBounds i (.int .u8 v)) _ _) = _
 congr 2
 simp only [List.setIfInBounds_toArray]
 congr 1
 rw [← bytesV_set, ofNat_toNat, show ((v.toNat % 256 : Nat) : Int) = v by omega]
theorem BIn.load (h : BIn d b w) : (loadCellsFrom ⟨b, 0, none⟩ 0 szBk #[]).run Tryz.prog w = .ok (bytesV d).toArray w := by
 have hl : (bytesV d).length = 108 := by rw [bytesV_length]; exact h.1
 have := run_loadCells_list (P := Tryz.prog) w ⟨b, 0, none⟩ (bytesV d) (fun j v hv => by
  rw [Addr.add_mid, Nat.zero_add, cell_of_row _ b j _ _ (0, 0) h.2]; simpa using hv)
 rw [hl] at this
 exact this
variable {e : List UInt8}
theorem BIn.store (h : BIn d b w) (he : e.length = 108) : (storeCells ⟨b, 0, none⟩ (bytesV e) 0).run Tryz.prog w = .ok () (w.setRow b (bytesV e).toArray) := by
 have hd := h.1
 have hs := run_storeCells_at Tryz.prog b 0 87 (bytesV e) 0 (bytesV d).toArray w h.2 (by simp [bytesV_length, hd, he]) (fun v hv => by obtain ⟨c, _, rfl⟩ := List.mem_map.1 hv; rfl)
 simp only [Nat.add_zero, Nat.zero_add, List.take_zero, List.nil_append] at hs
 rw [hs, bytesV_length, he, List.drop_of_length_le (by simp [bytesV_length, hd]), List.append_nil]
theorem BIn.stored (h : BIn d b w) (he : e.length = 108) : BIn e b (w.setRow b (bytesV e).toArray) := ⟨he, setRow_heap w b _ _ _ _ h.2⟩
theorem BIn.below {B : Nat} {w' : World} (h : BIn d b w) (hb : b < B) (hB : Below B w w') : BIn d b w' := ⟨h.1, by rw [hB.block b hb]; exact h.2⟩
theorem bin_new (w : World) : BIn (List.replicate 108 0) w.heap.size (w.alloc (.cells (bytesV (List.replicate 108 0)).toArray 87)) := ⟨by simp, heap_alloc_new w _⟩
def blkV (n : Int) (i : Nat) : Int := wrap64 (wrap64 (n * ((i : Int) + 3)) + (i : Int) / 8) % 256
def blkB (n : Int) (i : Nat) : UInt8 := UInt8.ofNat (blkV n i).toNat
def blkP (n : Int) (k : Nat) : List UInt8 := (List.range 108).map fun i => if i < k then blkB n i else 0
def blkL (n : Int) : List UInt8 := blkP n 108
theorem blkP_length (n : Int) (k : Nat) : (blkP n k).length = 108 := by simp [blkP]
theorem blkL_length (n : Int) : (blkL n).length = 108 := blkP_length n 108
theorem blkP_zero (n : Int) : blkP n 0 = List.replicate 108 0 := by
 refine List.ext_getElem (by simp [blkP]) fun i h1 h2 => ?_
 rw [List.getElem_replicate]
 simp [blkP]
theorem blkP_succ {n : Int} {k : Nat} (hk : k < 108) : (blkP n k).set k (blkB n k) = blkP n (k + 1) := by
 refine List.ext_getElem (by simp [blkP]) fun i h1 h2 => ?_
 have hi : i < 108 := by simpa [blkP] using h2
 by_cases e : i = k
 ·subst e; simp [blkP]
 ·rw [List.getElem_set_ne (fun q => e q.symm)]
  simp only [blkP, List.getElem_map, List.getElem_range]
  by_cases h : i < k
  ·rw [if_pos h, if_pos (by omega)]
  ·rw [if_neg h, if_neg (by omega)]
def BlockB (n : Int) (w : World) (e : Ending) (w' : World) : Prop := e = .returned (.agg (bytesV (blkL n)).toArray) ∧ Below w.heap.size w w'
def RelBl (n : Int) (w : World) (i : Value) (wr : World) : Prop := ∃ k : Nat, k ≤ 108 ∧ i = .int .i64 k ∧ BIn (List.replicate 108 0) w.heap.size wr ∧ BIn (blkP n k) (w.heap.size + 1) wr ∧ Below w.heap.size w wr
theorem block_any (n : Int) (w : World) : Calls Tryz.prog 51 #[.int .i64 n] w (BlockB n w) := by
 have hz := szBk_run
 have hz0 := zero_block
 have hc : (Value.agg (bytesV (List.replicate 108 0)).toArray).cells = (bytesV (List.replicate 108 0)).toArray := rfl
 generalize hO : (bytesV (List.replicate 108 0)).toArray = O at *
 have HO := hI hO
 clear hO
 go_enter Tryz.func51, Tryz.ntmps51
 go_wp2_with fail
 go_loopw [5] (fun i wr => RelBl n w i wr) (fun i _ => 108 - (intOf i).toNat)
 case atStart =>
  refine ⟨0, Nat.zero_le _, rfl, ?_, ?_, balloc (one_below _ _) _⟩
  ·rw [← HO.out]; exact (bin_new w).below (by simp) (one_below _ _)
  ·rw [blkP_zero, ← HO.out]; have := bin_new (w.alloc (.cells (bytesV (List.replicate 108 0)).toArray 87)); simpa using this
 case round =>
  obtain ⟨k, hk, rfl, h0, hd, hb⟩ := hrel
  by_cases hlt : k < 108
  ·have c1 := hd.cell hlt
   have c2 := hd.free k
   have HN := hI (fun (v : Int) (hv : v = blkV n k) (hv0 : 0 ≤ v) (hv1 : v < 256) => (show RelBl n w (.int .i64 ((k : Int) + 1)) (wr.setCell ⟨w.heap.size + 1, k, none⟩ (.int .u8 v)) from
    ⟨k + 1, by omega, by go_num, h0.below (Nat.lt_succ_self _) ((Below.refl (w.heap.size + 1) wr).setCell (Nat.le_refl _) _), by
     have := hd.set k v hv0 hv1; rw [show UInt8.ofNat v.toNat = blkB n k by rw [hv]; rfl, blkP_succ hlt] at this
     exact this, hb.setCell (Nat.le_succ _) _⟩))
   generalize ((blkP n k).getD k 0).toNat = y at *; clear h0 hd hb; go_wp2_with fail
   go_roundw
   case rel => exact HN.out _ rfl (Int.emod_nonneg _ (by decide)) (Int.emod_lt_of_pos _ (by decide))
   case measure => simp [intOf]; omega
  ·have hd1 := hd.1
   obtain rfl : k = 108 := by omega
   have hdl : (bytesV (blkP n 108)).length = szBk := by rw [bytesV_length, hd1]; rfl
   have hl1 := hd.load; have hs1 := h0.store hd1; have HL := hI (h0.stored hd1).load; have HB := hI hb; have hcd : (Value.agg (bytesV (blkP n 108)).toArray).cells = (bytesV (blkP n 108)).toArray := rfl; clear h0 hd hb hk hlt; generalize hbd : bytesV (blkP n 108) = D at *; have HBD := hI hbd; clear hbd; go_wp2_with fail; have hl2 := HL.out; exact bodyPost_ret (v := .agg D.toArray) (by simp [results, Tryz.results51, go_sem, hz, hl2]) rfl ⟨by rw [← HBD.out]; rfl, setRow_below HB.out (Nat.le_refl _) _⟩
theorem wpList_val {P : Program} {ops : Array Oper} {rest : List Oper} {o : Oper} {a : Act} {Q : Exit → Act → World → Prop} (hg : o.guard = none) (v : Value) (hr : (execOp a.eval o).run P w = .ok (.value v) w)
  (h : wpList P ops Q rest (a.put o.dst v) w) : wpList P ops Q (o :: rest) a w :=
 wpList_plain hg fun _ hK => by
  unfold Oper.wp; rw [hr]; exact hK _ _ h
end Go.Proofs.YtilljaneegbhlaaGreatDoor
namespace Go.Proofs.YtilljaneegbhlaaGreatDoor
open Go.RowKit Go.Deep Crc Dk Qk Go.Maps Hf
set_option maxHeartbeats 16000000
set_option maxRecDepth 100000
def CfgOk (c : Cf) : Prop := c.id = 7 ∧ 1 ≤ c.k ∧ c.k ≤ 4 ∧ c.k ≤ c.n ∧ c.n ≤ 6 ∧ 1 ≤ c.t ∧ c.t ≤ 6 ∧ 1 ≤ c.s ∧ c.s ≤ 4
theorem CfgOk.right {c : Cf} (h : CfgOk c) : CfRight c := by
 obtain ⟨h1, h2, h3, h4, h5, h6, h7, h8, h9⟩ := h
 exact ⟨by omega, by omega, by omega, by omega, by omega, by omega, by omega, by omega, by omega⟩
def CfNew (p : Cf → Prop) (w : World) (e : Ending) (w' : World) : Prop := ∃ c, p c ∧ e = .returned (.agg (cfA c)) ∧ Below w.heap.size w w'
theorem fixed_any (k n t s : Int) (w : World) (ht : 1 ≤ t ∧ t ≤ 6) (hs : 1 ≤ s ∧ s ≤ 4) : Calls Tryz.prog 7 #[.int .i64 k, .int .i64 n, .int .i64 t, .int .i64 s] w (CfNew (fun c => CfgOk c ∧ c.t = t ∧ c.s = s) w) := by
 go_enter Tryz.func7, Tryz.ntmps7
 go_wp2_with fail
 refine (within_int k 1 4 _ (by omega) (by omega) (by omega)).mono ?_
 rintro e w1 ⟨a, ha, rfl, hw⟩
 subst hw
 go_wp2_with fail
 refine (within_int n a 6 _ (by omega) (by omega) (by omega)).mono ?_
 rintro e w1 ⟨m, hm, rfl, hw⟩
 subst hw
 have HA := hI (show CfgOk ⟨7, a, m, t, s⟩ from ⟨rfl, ha.1, ha.2, hm.1, hm.2, ht.1, ht.2, hs.1, hs.2⟩)
 clear ha hm ht hs
 go_wp2_with fail
 exact bodyPost_ret (v := .agg (cfA ⟨7, a, m, t, s⟩)) (by simp [results, Tryz.results7, go_sem]) rfl ⟨_, ⟨HA.out, rfl, rfl⟩, rfl, balloc (one_below _ _) _⟩
theorem ksectors_any (c : Cf) (w : World) (h : CfRight c) : Calls Tryz.prog 9 #[.agg (cfA c)] w (Num c.secs w) := by
 obtain ⟨a1, a2, a3, a4⟩ := h.secs
 have HS := hI (show (1 : Int) + c.s * c.k + c.t = c.secs from rfl)
 obtain ⟨_, _, _, _, _, b1, b2, _, _⟩ := h
 go_enter Tryz.func9, Tryz.ntmps9
 go_wp2_with fail
 go_ret
 refine num ?_ (one_below _ _)
 exact HS.out
theorem flat_get {k : Nat} : ∀ {cs : List (List Value)}, (∀ c ∈ cs, c.length = k) → ∀ {i j : Nat} {u : Value}, i < cs.length → (cs.getD i [])[j]? = some u → cs.flatten[i * k + j]? = some u
 | [], _, i, j, u, hi, _ => by simp at hi
 | c :: cs, hk, 0, j, u, _, h => by
  have hc : c.length = k := hk c (List.mem_cons_self ..); have hj : j < c.length := (List.getElem?_eq_some_iff.1 (show c[j]? = some u from h)).1; rw [List.flatten_cons, Nat.zero_mul, Nat.zero_add, List.getElem?_append_left hj]; exact h
 | c :: cs, hk, i + 1, j, u, hi, h => by
  have hc : c.length = k := hk c (List.mem_cons_self ..); rw [List.flatten_cons, List.getElem?_append_right (by rw [hc, Nat.succ_mul]; omega), hc, show (i + 1) * k + j - k = i * k + j by rw [Nat.succ_mul]; omega]; exact flat_get (fun c hc => hk c (List.mem_cons_of_mem _ hc)) (by simp at hi; omega) h
theorem flat_len {k : Nat} : ∀ {cs : List (List Value)}, (∀ c ∈ cs, c.length = k) → cs.flatten.length = cs.length * k
 | [], _ => by simp
 | c :: cs, h => by
  rw [List.flatten_cons, List.length_append, h c (List.mem_cons_self ..), flat_len (fun c hc => h c (List.mem_cons_of_mem _ hc)), List.length_cons, Nat.succ_mul]; omega
def SlC (k B : Nat) (w : World) (v : Value) (cs : List (List Value)) : Prop :=
 (cs = [] ∧ ∃ a cap, v = .slice a 0 cap) ∨ ∃ b cap, v = .slice (some ⟨b, 0, none⟩) cs.length cap ∧ b < B ∧ (∀ c ∈ cs, c.length = k) ∧ ∀ i j u, i < cs.length → (cs.getD i [])[j]? = some u → w.cell? ⟨b, i * k + j, none⟩ = some u
variable {k B : Nat} {w : World} {v : Value}
theorem SlC.len {cs : List (List Value)} (h : SlC k B w v cs) : ∃ a cap, v = .slice a cs.length cap := by
 rcases h with ⟨rfl, a, cap, h⟩ | ⟨b, cap, h1, _⟩
 ·exact ⟨a, cap, h⟩
 ·exact ⟨_, cap, h1⟩
variable {w' : World}
theorem SlC.below {cs : List (List Value)} (h : SlC k B w v cs) (hb : Below B w w') : SlC k B w' v cs := by
 rcases h with h | ⟨b, cap, h1, h2, h3, h4⟩
 ·exact Or.inl h
 ·exact Or.inr ⟨b, cap, h1, h2, h3, fun i j u hi hu => by rw [hb.cell (p := ⟨b, i * k + j, none⟩) h2]; exact h4 i j u hi hu⟩
variable {B' : Nat}
theorem SlC.wider {cs : List (List Value)} (h : SlC k B w v cs) (hB : B ≤ B') : SlC k B' w v cs := by
 rcases h with h | ⟨b, cap, h1, h2, h3, h4⟩
 ·exact Or.inl h
 ·exact Or.inr ⟨b, cap, h1, Nat.lt_of_lt_of_le h2 hB, h3, h4⟩
variable {n : Nat}
theorem slC_own {e : TypeId} {cs : List (List Value)} (h : w.ownsRow B e k v n cs.flatten) (hk : ∀ c ∈ cs, c.length = k) (hn : n = cs.length) : SlC k w.heap.size w v cs := by
 subst hn
 have hh := h
 rcases hh.2 with ⟨rfl, h0⟩ | ⟨g, cap, cur, rfl, _, hg, hle, _⟩
 ·exact Or.inl ⟨List.eq_nil_of_length_eq_zero h0, ⟨_, _, rfl⟩⟩
 ·exact Or.inr ⟨g, cap, rfl, (Array.getElem?_eq_some_iff.1 hg).1, hk, fun i j u hi hu => holds_own h _ _ (flat_get hk hi hu)⟩
theorem SlC.at_ {cs : List (List Value)} (h : SlC k B w v cs) {i : Nat} (hi : i < cs.length) :
  ∃ b cap, v = .slice (some ⟨b, 0, none⟩) cs.length cap ∧ b < B ∧ (∀ j u, (cs.getD i [])[j]? = some u → w.cell? ⟨b, i * k + j, none⟩ = some u) ∧ (loadCellsFrom ⟨b, i * k, none⟩ 0 k #[]).run Tryz.prog w = .ok (cs.getD i []).toArray w := by
 rcases h with ⟨rfl, _⟩ | ⟨b, cap, h1, h2, h3, h4⟩
 ·simp at hi
 ·refine ⟨b, cap, h1, h2, fun j u hu => h4 i j u hi hu, ?_⟩
  have hl : (cs.getD i []).length = k := h3 _ (by simp [List.getD, hi]); have := run_loadCells_list (P := Tryz.prog) w ⟨b, i * k, none⟩ (cs.getD i []) (fun j u hu => by rw [Addr.add_mid]; exact h4 i j u hi hu); rw [hl] at this; exact this
def SlK (B : Nat) (w : World) (v : Value) (bs : List (List UInt8)) : Prop := (∀ d ∈ bs, d.length = 108) ∧ SlC 108 B w v (bs.map bytesV)
variable {bs : List (List UInt8)}
theorem SlK.len (h : SlK B w v bs) : ∃ a cap, v = .slice a bs.length cap := by
 have := h.2.len; rwa [List.length_map] at this
theorem SlK.below (h : SlK B w v bs) (hb : Below B w w') : SlK B w' v bs := ⟨h.1, h.2.below hb⟩
theorem SlK.wider (h : SlK B w v bs) (hB : B ≤ B') : SlK B' w v bs := ⟨h.1, h.2.wider hB⟩
theorem getD_map {α β : Type} (f : α → β) {l : List α} {i : Nat} (h : i < l.length) (x : β) (y : α) : (l.map f).getD i x = f (l.getD i y) := by simp [List.getD, h]
theorem SlK.at_ (h : SlK B w v bs) {i : Nat} (hi : i < bs.length) :
  ∃ b cap, v = .slice (some ⟨b, 0, none⟩) bs.length cap ∧ b < B ∧ (loadCellsFrom ⟨b, i * szBk, none⟩ 0 szBk #[]).run Tryz.prog w = .ok (bytesV (bs.getD i z108)).toArray w ∧ (bs.getD i z108).length = 108 := by
 obtain ⟨b, cap, h1, h2, _, h3⟩ := h.2.at_ (i := i) (by rw [List.length_map]; exact hi)
 rw [List.length_map] at h1
 rw [getD_map bytesV hi [] z108] at h3
 exact ⟨b, cap, h1, h2, h3, h.1 _ (by simp [List.getD, hi])⟩
theorem bmap_len (h : ∀ d ∈ bs, d.length = 108) : ∀ c ∈ bs.map bytesV, c.length = 108 := fun c hc => by
 obtain ⟨d, hd, rfl⟩ := List.mem_map.1 hc
 rw [bytesV_length]; exact h d hd
theorem slK_own (h : w.ownsRow B 87 108 v n (bs.map bytesV).flatten) (hk : ∀ d ∈ bs, d.length = 108) (hn : n = bs.length) : SlK w.heap.size w v bs :=
 ⟨hk, slC_own h (bmap_len hk) (by rw [List.length_map]; exact hn)⟩
def SlF (B : Nat) (w : World) (v : Value) (fs : List Fr) : Prop := (∀ f ∈ fs, f.is) ∧ SlC 112 B w v (fs.map frC)
variable {fs : List Fr}
theorem SlF.len (h : SlF B w v fs) : ∃ a cap, v = .slice a fs.length cap := by
 have := h.2.len; rwa [List.length_map] at this
theorem SlF.below (h : SlF B w v fs) (hb : Below B w w') : SlF B w' v fs := ⟨h.1, h.2.below hb⟩
theorem SlF.wider (h : SlF B w v fs) (hB : B ≤ B') : SlF B' w v fs := ⟨h.1, h.2.wider hB⟩
theorem fmap_len (h : ∀ f ∈ fs, f.is) : ∀ c ∈ fs.map frC, c.length = 112 := fun c hc => by
 obtain ⟨f, hf, rfl⟩ := List.mem_map.1 hc
 exact frC_length (h f hf)
theorem slF_own (h : w.ownsRow B 151 112 v n (fs.map frC).flatten) (hk : ∀ f ∈ fs, f.is) (hn : n = fs.length) : SlF w.heap.size w v fs :=
 ⟨hk, slC_own h (fmap_len hk) (by rw [List.length_map]; exact hn)⟩
theorem SlF.at_ (h : SlF B w v fs) {i : Nat} (hi : i < fs.length) :
  ∃ b cap, v = .slice (some ⟨b, 0, none⟩) fs.length cap ∧ b < B ∧ (loadCellsFrom ⟨b, i * szFr, none⟩ 0 szFr #[]).run Tryz.prog w = .ok (frA (fs.getD i zeroF)) w ∧
   w.cell? ⟨b, i * szFr + 2, none⟩ = some (.int .i64 (fs.getD i zeroF).t) ∧ w.cell? ⟨b, i * szFr + 3, none⟩ = some (.int .i64 (fs.getD i zeroF).g) ∧
   (loadCellsFrom ⟨b, i * szFr + 4, none⟩ 0 szBk #[]).run Tryz.prog w = .ok (bytesV (fs.getD i zeroF).d).toArray w ∧ (fs.getD i zeroF).is := by
 obtain ⟨b, cap, h1, h2, h4, h3⟩ := h.2.at_ (i := i) (by rw [List.length_map]; exact hi)
 rw [List.length_map] at h1
 rw [getD_map frC hi [] zeroF] at h3 h4
 have hf : (fs.getD i zeroF).is := h.1 _ (by simp [List.getD, hi])
 refine ⟨b, cap, h1, h2, h3, h4 2 _ rfl, h4 3 _ rfl, ?_, hf⟩
 have hl : (bytesV (fs.getD i zeroF).d).length = 108 := by rw [bytesV_length]; exact hf
 have := run_loadCells_list (P := Tryz.prog) w ⟨b, i * 112 + 4, none⟩ (bytesV (fs.getD i zeroF).d) (fun j u hu => by
  rw [Addr.add_mid, Nat.add_assoc]; refine h4 (4 + j) u ?_; unfold frC; rw [List.getElem?_append_right (by simp)]
  simpa using hu)
 rw [hl] at this
 exact this
theorem frC_one (f : Fr) : ∀ u ∈ frC f, u.oneCell' = true := fun u hu => by
 unfold frC at hu
 rcases List.mem_append.1 hu with hu | hu
 ·simp only [List.mem_cons, List.not_mem_nil, or_false] at hu
  rcases hu with rfl | rfl | rfl | rfl <;> rfl
 ·exact bytesV_one _ u hu
variable {b : Nat}
theorem src_cells {tx e : TypeId} {cs : List Value} (hk : Tryz.prog.underlying tx = some (.slice e)) (hl : cs.length = k) (hc : ∀ j u, cs[j]? = some u → w.cell? ⟨b, j, none⟩ = some u) (h1 : ∀ u ∈ cs, u.oneCell' = true) :
  Src Tryz.prog k tx (.slice (some ⟨b, 0, none⟩) 1 1) 1 cs w :=
 Src.ofSlice _ hk ⟨b, 0, none⟩ 1 1 cs (by rw [hl, Nat.one_mul]) (fun j u hu => by rw [Addr.add_mid, Nat.zero_add]; exact hc j u hu) h1
theorem Tryz.infoBlock : (Tryz.prog.info? 87).map (fun i => (i.zero, i.size, i.bytes)) = some (some (.agg (bytesV (List.replicate 108 0)).toArray), 108, 108) := by kernel_rfl
theorem Tryz.infoFrame : (Tryz.prog.info? 151).map (fun i => (i.zero, i.size, i.bytes)) = some (some (.agg (frA zeroF)), 112, 144) := by kernel_rfl
theorem wpList_append_block (w : World) {ops : Array Oper} {rest : List Oper} {o : Oper} {a : Act} {Q : Exit → Act → World → Prop} (hgd : o.guard = none) (s x : Operand)
  (ho : o.op = .call { callee := .builtin .append, args := #[s, x], argTypes := #[59, 59] })
  (base : Nat) (v : Value) (n : Nat) (xs : List Value) (hsv : a.eval s = v) (hown : w.ownsRow base 87 108 v n xs)
  (b : Nat) (d : List UInt8) (hx : a.eval x = .slice (some ⟨b, 0, none⟩) 1 1) (hb : ∀ j u, (bytesV d)[j]? = some u → w.cell? ⟨b, j, none⟩ = some u) (hd : d.length = 108) (h63 : n + 1 ≤ 100000) (hbase : base ≤ w.heap.size)
  (h : ∀ v' w', w'.ownsRow base 87 108 v' (n + 1) (xs ++ bytesV d) → Grew w v.ownBlock w' v'.ownBlock → wpList Tryz.prog ops Q rest (a.put o.dst v') w') : wpList Tryz.prog ops Q (o :: rest) a w := by
 obtain ⟨i0, hi0, hz⟩ := Option.map_eq_some_iff.1 Tryz.infoBlock
 simp only [Prod.mk.injEq] at hz
 obtain ⟨hz0, hz1, hz2⟩ := hz
 exact wpList_append_src w hgd s x 59 59 ho base 87 i0 (.agg (bytesV (List.replicate 108 0)).toArray) 108 108 Tryz.underlying59 hi0 hz0 hz1 hz2 rfl v n xs hsv hown (.slice (some ⟨b, 0, none⟩) 1 1) 1 (bytesV d) hx
  (src_cells Tryz.underlying59 (by rw [bytesV_length]; exact hd) hb (bytesV_one d)) (by unfold maxLen; omega) (by omega) hbase fun v' w' h1 h2 _ => h v' w' h1 h2
theorem wpList_append_frame (w : World) {ops : Array Oper} {rest : List Oper} {o : Oper} {a : Act} {Q : Exit → Act → World → Prop} (hgd : o.guard = none) (s x : Operand)
  (ho : o.op = .call { callee := .builtin .append, args := #[s, x], argTypes := #[145, 145] })
  (base : Nat) (v : Value) (n : Nat) (xs : List Value) (hsv : a.eval s = v) (hown : w.ownsRow base 151 112 v n xs)
  (b : Nat) (f : Fr) (hx : a.eval x = .slice (some ⟨b, 0, none⟩) 1 1) (hb : ∀ j u, (frC f)[j]? = some u → w.cell? ⟨b, j, none⟩ = some u) (hf : f.is) (h63 : n + 1 ≤ 100000) (hbase : base ≤ w.heap.size)
  (h : ∀ v' w', w'.ownsRow base 151 112 v' (n + 1) (xs ++ frC f) → Grew w v.ownBlock w' v'.ownBlock → wpList Tryz.prog ops Q rest (a.put o.dst v') w') : wpList Tryz.prog ops Q (o :: rest) a w := by
 obtain ⟨i0, hi0, hz⟩ := Option.map_eq_some_iff.1 Tryz.infoFrame
 simp only [Prod.mk.injEq] at hz
 obtain ⟨hz0, hz1, hz2⟩ := hz
 exact wpList_append_src w hgd s x 145 145 ho base 151 i0 (.agg (frA zeroF)) 112 144 Tryz.underlying145 hi0 hz0 hz1 hz2 rfl v n xs hsv hown (.slice (some ⟨b, 0, none⟩) 1 1) 1 (frC f) hx
  (src_cells Tryz.underlying145 (frC_length hf) hb (frC_one f)) (by unfold maxLen; omega) (by omega) hbase fun v' w' h1 h2 _ => h v' w' h1 h2
variable {l : List Value}
theorem fill_piece {cs : Array Value} (hl : l.length = n) (hc : cs.size = n) :
  Instr.fill (fun i => some (i * n, n)) cs [(0, .agg l.toArray)] = some l.toArray := by
 have e : Instr.fill (fun i => some (i * n, n)) cs [(0, .agg l.toArray)] = some ((l.zipIdx 0).foldl (fun cs (q : Value × Nat) => cs.setIfInBounds (0 + q.2) q.1) cs) := by
  simp only [Instr.fill, Value.cells, List.size_toArray, hl, hc]
  simp
 rw [e]
 congr 1
 apply Array.ext_getElem?
 intro i
 rw [fold_get _ _ _ _ _ (by omega), hl]
 by_cases h : i < n
 ·rw [if_pos (by omega)]; simp
 ·rw [if_neg (by omega), Array.getElem?_eq_none (by omega), List.getElem?_toArray, List.getElem?_eq_none (by omega)]
variable {a : Act}
theorem wpList_one {P : Program} {ops : Array Oper} {rest : List Oper} {o : Oper} {Q : Exit → Act → World → Prop} (hg : o.guard = none) (t e : TypeId) (x : Operand) (ho : o.op = .buildSlice t 1 #[(0, x)])
  (ie : TypeInfo) (z : Value) (n : Nat) (hu : P.underlying t = some (.slice e)) (hie : P.info? e = some ie) (hz : ie.zero = some z) (hs : ie.size = n) (h0 : 0 < n) (h1 : n ≤ 1000)
  (l : List Value) (hx : a.eval x = .agg l.toArray) (hl : l.length = n)
  (h : wpList P ops Q rest (a.put o.dst (.slice (some ⟨w.heap.size, 0, none⟩) 1 1)) (w.alloc (.cells l.toArray e))) : wpList P ops Q (o :: rest) a w :=
 wpList_buildSlice hg t e 1 _ ho l.toArray ie z hu hie hz (by rw [hs]; omega) (by rw [hs]; omega) (by
  simp only [List.map_toArray, List.map_cons, List.map_nil]; rw [hx, hs]
  exact fill_piece hl (by simp)) h
theorem wpList_one_block {ops : Array Oper} {rest : List Oper} {o : Oper} {Q : Exit → Act → World → Prop} (hg : o.guard = none) (x : Operand) (ho : o.op = .buildSlice 59 1 #[(0, x)])
  (d : List UInt8) (hx : a.eval x = .agg (bytesV d).toArray) (hd : d.length = 108)
  (h : wpList Tryz.prog ops Q rest (a.put o.dst (.slice (some ⟨w.heap.size, 0, none⟩) 1 1)) (w.alloc (.cells (bytesV d).toArray 87))) : wpList Tryz.prog ops Q (o :: rest) a w := by
 obtain ⟨i0, hi0, hz⟩ := Option.map_eq_some_iff.1 Tryz.infoBlock
 simp only [Prod.mk.injEq] at hz
 obtain ⟨hz0, hz1, hz2⟩ := hz
 exact wpList_one hg _ _ x ho i0 _ 108 Tryz.underlying59 hi0 hz0 hz1 (by decide) (by decide) (bytesV d) hx (by rw [bytesV_length]; exact hd) h
theorem wpList_one_frame {ops : Array Oper} {rest : List Oper} {o : Oper} {Q : Exit → Act → World → Prop} (hg : o.guard = none) (x : Operand) (ho : o.op = .buildSlice 145 1 #[(0, x)])
  (f : Fr) (hx : a.eval x = .agg (frA f)) (hf : f.is)
  (h : wpList Tryz.prog ops Q rest (a.put o.dst (.slice (some ⟨w.heap.size, 0, none⟩) 1 1)) (w.alloc (.cells (frA f) 151))) : wpList Tryz.prog ops Q (o :: rest) a w := by
 obtain ⟨i0, hi0, hz⟩ := Option.map_eq_some_iff.1 Tryz.infoFrame
 simp only [Prod.mk.injEq] at hz
 obtain ⟨hz0, hz1, hz2⟩ := hz
 exact wpList_one hg _ _ x ho i0 _ 112 Tryz.underlying145 hi0 hz0 hz1 (by decide) (by decide) (frC f) hx (frC_length hf) h
theorem wpList_append_row (w : World) {ops : Array Oper} {rest : List Oper} {o : Oper} {a : Act} {Q : Exit → Act → World → Prop} (hgd : o.guard = none) (s x : Operand)
  (ho : o.op = .call { callee := .builtin .append, args := #[s, x], argTypes := #[22, 22] })
  (base : Nat) (v : Value) (n : Nat) (xs : List Value) (hsv : a.eval s = v) (hown : w.ownsRow base 37 1 v n xs)
  (b : Nat) (u : Value) (hx : a.eval x = .slice (some ⟨b, 0, none⟩) 1 1) (hb : w.cell? ⟨b, 0, none⟩ = some u) (hu : u.oneCell' = true) (h63 : n + 1 ≤ 100000) (hbase : base ≤ w.heap.size)
  (h : ∀ v' w', w'.ownsRow base 37 1 v' (n + 1) (xs ++ [u]) → Grew w v.ownBlock w' v'.ownBlock → wpList Tryz.prog ops Q rest (a.put o.dst v') w') : wpList Tryz.prog ops Q (o :: rest) a w := by
 obtain ⟨i0, hi0, hz⟩ := Option.map_eq_some_iff.1 Tryz.info37
 simp only [Prod.mk.injEq] at hz
 obtain ⟨hz0, hz1, hz2⟩ := hz
 exact wpList_append_src w hgd s x 22 22 ho base 37 i0 (.slice none 0 0) 1 24 Tryz.underlying22 hi0 hz0 hz1 hz2 rfl v n xs hsv hown (.slice (some ⟨b, 0, none⟩) 1 1) 1 [u] hx
  (src_cells Tryz.underlying22 rfl (fun j y hy => by
   match j, hy with
   | 0, hy => injection hy with hy; subst hy; exact hb
   | j + 1, hy => simp at hy) (fun y hy => by rw [List.mem_singleton.1 hy]; exact hu)) (by unfold maxLen; omega) (by omega) hbase fun v' w' h1 h2 _ => h v' w' h1 h2
variable {e m : Nat} {c : Lc} {xs : List Value}
theorem own_rc (h : w.ownsRow B e k v m xs) (hf : Far B c n) (hc : RC c n w w') : w'.ownsRow B e k v m xs := by
 obtain ⟨h1, h2⟩ := h
 refine ⟨h1, ?_⟩
 rcases h2 with h2 | ⟨g, cap, cur, hv, hg, hh, r⟩
 ·exact Or.inl h2
 ·refine Or.inr ⟨g, cap, cur, hv, hg, ?_, r⟩
  rw [hc.block g (Array.getElem?_eq_some_iff.1 hh).1 (by have := hf.1; omega) (fun i hi => by have := hf.2 i hi; omega)]; exact hh
abbrev rcA (q t : Int) (v : Value) : Array Value := #[.int .i64 q, .int .i64 t, v]
theorem jstripe_any (c : Cf) (s : Int) (w : World) : Calls Tryz.prog 143 #[.agg (cfA c), .int .i64 s] w (Bit (decide (0 ≤ s) && decide (s < c.t)) w) := by
 by_cases h0 : 0 ≤ s
 ·by_cases h1 : s < c.t
  ·have HR := hI (show (decide (0 ≤ s) && decide (s < c.t)) = true by simp [h0, h1])
   rw [HR.out]
   go_enter Tryz.func143, Tryz.ntmps143
   go_wp2_with fail; go_ret; exact bit (by first | rfl | exact decide_eq_true (by omega)) (one_below _ _)
  ·have HR := hI (show (decide (0 ≤ s) && decide (s < c.t)) = false by simp [h0, h1])
   rw [HR.out]
   go_enter Tryz.func143, Tryz.ntmps143
   go_wp2_with fail; go_ret; exact bit (by first | rfl | exact decide_eq_false (by omega)) (one_below _ _)
 ·have HR := hI (show (decide (0 ≤ s) && decide (s < c.t)) = false by simp [h0])
  rw [HR.out]
  go_enter Tryz.func143, Tryz.ntmps143
  go_wp2_with fail; go_ret; exact bit (by first | rfl | exact decide_eq_false (by omega)) (one_below _ _)
theorem jsector_any (c : Cf) (s i : Int) (w : World) (h : CfRight c) (h0 : 0 ≤ s) (h1 : s < c.s) (h2 : 0 ≤ i) (h3 : i < c.k) : Calls Tryz.prog 109 #[.agg (cfA c), .int .i64 s, .int .i64 i] w (Num (jbase c s + i) w) := by
 obtain ⟨_, _, a3, a4⟩ := h.secs
 obtain ⟨m1, m2⟩ := mul_lt_slots h0 h1 (show 0 ≤ c.k by omega)
 have HS := hI (show (1 : Int) + s * c.k + i = jbase c s + i from rfl)
 go_enter Tryz.func109, Tryz.ntmps109
 go_wp2_with fail
 go_ret
 refine num ?_ (one_below _ _)
 exact HS.out
variable {lo : Nat} {q : Rk}
theorem jhas_any (w : World) (h : RackIn lo w c q) (cf : Cf) (s : Int) : Calls Tryz.prog 85 #[.pointer (some ⟨c.r, 0, none⟩), .agg (cfA cf), .int .i64 s] w (Bit (jhasSlot cf q s) w) := by
 have h1 := ftS_new h cf
 have HF := hI (sfits_any _ h1.1 cf)
 have H1 := hI h1
 obtain ⟨d0, d1, d2, d3, d4⟩ := h1.2.1.cells
 have HR := hI (show jhasSlot cf q s = (cf.fits q && (decide (0 ≤ s) && decide (s < cf.s))) from rfl)
 rw [HR.out]
 clear h h1 HR
 cases hf : cf.fits q with
 | false =>
  rw [hf] at HF; clear hf; rw [Bool.false_and]
  go_enter Tryz.func85, Tryz.ntmps85
  go_wp2_with (go_at_call 34; refine HF.out.mono ?_; rintro e w2 ⟨rfl, hb2⟩; have H2 := hI (FtS.then H1.out hb2); clear hb2); go_ret; exact bit rfl H2.out.2.2.2
 | true =>
  rw [hf] at HF; clear hf; rw [Bool.true_and]
  by_cases h0 : 0 ≤ s
  ·have HD := hI (decide_eq_true h0)
   rw [HD.out, Bool.true_and]
   by_cases hs : s < cf.s
   ·have HE := hI (decide_eq_true hs)
    rw [HE.out]
    go_enter Tryz.func85, Tryz.ntmps85
    go_wp2_with (go_at_call 34; refine HF.out.mono ?_; rintro e w2 ⟨rfl, hb2⟩; have H2 := hI (FtS.then H1.out hb2); have e4 := H2.out.2.1.cells.2.2.2.2; clear hb2); go_ret; exact bit (by first | rfl | exact decide_eq_true (by omega)) H2.out.2.2.2
   ·have HE := hI (decide_eq_false hs)
    rw [HE.out]
    go_enter Tryz.func85, Tryz.ntmps85
    go_wp2_with (go_at_call 34; refine HF.out.mono ?_; rintro e w2 ⟨rfl, hb2⟩; have H2 := hI (FtS.then H1.out hb2); have e4 := H2.out.2.1.cells.2.2.2.2; clear hb2); go_ret; exact bit (by first | rfl | exact decide_eq_false (by omega)) H2.out.2.2.2
  ·have HD := hI (decide_eq_false h0)
   rw [HD.out, Bool.false_and]
   go_enter Tryz.func85, Tryz.ntmps85
   go_wp2_with (go_at_call 34; refine HF.out.mono ?_; rintro e w2 ⟨rfl, hb2⟩; have H2 := hI (FtS.then H1.out hb2); have e4 := H2.out.2.1.cells.2.2.2.2; clear hb2); go_ret; exact bit (by first | rfl | exact decide_eq_false (by omega)) H2.out.2.2.2
theorem jright_any (c : Cf) (x : Rc) (a : Option Addr) (cap : Nat) (w : World) : Calls Tryz.prog 123 #[.agg (cfA c), .agg (rcA x.q x.t (.slice a x.b.length cap))] w (Bit (jright c x) w) := by
 have CS := hI (fun w => jstripe_any c x.t w)
 have HR := hI (show jright c x = (decide (2 ≤ x.q) && decide (x.q ≤ 1152921504606846976) && (decide (0 ≤ x.t) && decide (x.t < c.t)) && decide ((x.b.length : Int) = c.k)) from rfl)
 rw [HR.out]
 clear HR
 have HC := hI (cfB_new w c)
 generalize x.b.length = n at *
 generalize (decide (0 ≤ x.t) && decide (x.t < c.t)) = b at *
 by_cases h0 : 2 ≤ x.q
 ·have D0 := hI (decide_eq_true h0)
  rw [D0.out, Bool.true_and]
  by_cases h1 : x.q ≤ 1152921504606846976
  ·have D1 := hI (decide_eq_true h1)
   rw [D1.out, Bool.true_and]
   cases hb : b with
   | true =>
    subst hb; rw [Bool.true_and]
    by_cases h2 : (n : Int) = c.k
    ·have e1 : ((n : Int) == c.k) = true := by simpa using h2
     have D2 := hI (decide_eq_true h2); rw [D2.out]; clear h2
     go_enter Tryz.func123, Tryz.ntmps123
     go_wp2_with (go_at_call 143; refine (CS.out _).mono ?_; rintro e w2 ⟨rfl, hb2⟩; have HB := hI (bthen (balloc (one_below w (.cells (cfA c) 24)) (.cells (rcA x.q x.t (.slice a n cap)) 135)) hb2); have x1 := (((HC.out.below (B := w.heap.size + 1) (by omega) ((one_below _ (.cells (rcA x.q x.t (.slice a n cap)) 135)).mono (by simp))).below (B := w.heap.size + 1) (by omega) (hb2.mono (by simp)))).cells.2.1; have x2 : w2.cell? ⟨w.heap.size + 1, 2, none⟩ = some (.slice a n cap) := by { rw [hb2.cell (by simp)]; simp }; clear hb2); go_ret; exact bit (by first | rfl | exact e1) HB.out
    ·have e1 : ((n : Int) == c.k) = false := by simpa using h2
     have D2 := hI (decide_eq_false h2); rw [D2.out]; clear h2
     go_enter Tryz.func123, Tryz.ntmps123
     go_wp2_with (go_at_call 143; refine (CS.out _).mono ?_; rintro e w2 ⟨rfl, hb2⟩; have HB := hI (bthen (balloc (one_below w (.cells (cfA c) 24)) (.cells (rcA x.q x.t (.slice a n cap)) 135)) hb2); have x1 := (((HC.out.below (B := w.heap.size + 1) (by omega) ((one_below _ (.cells (rcA x.q x.t (.slice a n cap)) 135)).mono (by simp))).below (B := w.heap.size + 1) (by omega) (hb2.mono (by simp)))).cells.2.1; have x2 : w2.cell? ⟨w.heap.size + 1, 2, none⟩ = some (.slice a n cap) := by { rw [hb2.cell (by simp)]; simp }; clear hb2); go_ret; exact bit (by first | rfl | exact e1) HB.out
   | false =>
    subst hb; rw [Bool.false_and]
    go_enter Tryz.func123, Tryz.ntmps123
    go_wp2_with (go_at_call 143; refine (CS.out _).mono ?_; rintro e w2 ⟨rfl, hb2⟩; have HB := hI (bthen (balloc (one_below w (.cells (cfA c) 24)) (.cells (rcA x.q x.t (.slice a n cap)) 135)) hb2); clear hb2); go_ret; exact bit rfl HB.out
  ·have D1 := hI (decide_eq_false h1)
   rw [D1.out, Bool.false_and, Bool.false_and]
   go_enter Tryz.func123, Tryz.ntmps123
   go_wp2_with fail; go_ret; exact bit (by first | rfl | exact decide_eq_false (by omega)) (balloc (one_below _ _) _)
 ·have D0 := hI (decide_eq_false h0)
  rw [D0.out, Bool.false_and, Bool.false_and, Bool.false_and]
  go_enter Tryz.func123, Tryz.ntmps123
  go_wp2_with fail; go_ret; exact bit (by first | rfl | exact decide_eq_false (by omega)) (balloc (one_below _ _) _)
theorem jgood_any (c : Cf) (s : Int) (f : Fr) (w : World) (hc : CfRight c) (hi : f.is) : Calls Tryz.prog 150 #[.agg (cfA c), .int .i64 s, .agg (frA f)] w (Bit (jgood c s f) w) := by
 have a2 := frC_2 f
 have a3 := frC_3 f
 have hcf : (Value.agg (frA f)).cells = frA f := rfl
 have HI := hI hi
 have CS := hI (fun w => jstripe_any c f.t w)
 have HR := hI (show jgood c s f = ((decide (0 ≤ f.t) && decide (f.t < c.t)) && (decide (f.g = 0) || (decide (2 ≤ f.g) && decide (f.g % c.s = s)))) from rfl)
 rw [HR.out]
 clear HR hi
 have HC := hI (cfB_new w c)
 have hs1 : 1 ≤ c.s := hc.2.2.2.2.2.2.2.1
 have hs4 : c.s ≤ 4 := hc.2.2.2.2.2.2.2.2
 clear hc
 generalize (decide (0 ≤ f.t) && decide (f.t < c.t)) = b at *
 cases hb : b with
 | false =>
  subst hb; rw [Bool.false_and]; have HV := hI (rfl : false = false)
  go_enter Tryz.func150, Tryz.ntmps150
  go_wp2_with (go_at_call 143; refine (CS.out _).mono ?_; rintro e w2 ⟨rfl, hb2⟩; have HB := hI (bthen (balloc (one_below w (.cells (cfA c) 24)) (.cells (frA f) 151)) hb2); have x4 := (((HC.out.below (B := w.heap.size + 1) (by omega) ((one_below _ (.cells (frA f) 151)).mono (by simp))).below (B := w.heap.size + 1) (by omega) (hb2.mono (by simp)))).cells.2.2.2.2; have x3 : w2.cell? ⟨w.heap.size + 1, 3, none⟩ = some (.int .i64 f.g) := by { have hf3 := (frIn_new (w.alloc (.cells (cfA c) 24)) f HI.out).c3; rw [hb2.cell (by simp)]; simpa using hf3 }; clear hb2); go_ret; exact bit (by first | rfl | exact HV.out | exact HV.out.symm | exact decide_eq_false (by omega) | exact decide_eq_true (by omega)) HB.out
 | true =>
  subst hb; rw [Bool.true_and]
  by_cases h0 : f.g = 0
  ·have e0 : (f.g == 0) = true := by simpa using h0
   have HV := hI (decide_eq_true h0); rw [HV.out, Bool.true_or]; clear h0
   go_enter Tryz.func150, Tryz.ntmps150
   go_wp2_with (go_at_call 143; refine (CS.out _).mono ?_; rintro e w2 ⟨rfl, hb2⟩; have HB := hI (bthen (balloc (one_below w (.cells (cfA c) 24)) (.cells (frA f) 151)) hb2); have x4 := (((HC.out.below (B := w.heap.size + 1) (by omega) ((one_below _ (.cells (frA f) 151)).mono (by simp))).below (B := w.heap.size + 1) (by omega) (hb2.mono (by simp)))).cells.2.2.2.2; have x3 : w2.cell? ⟨w.heap.size + 1, 3, none⟩ = some (.int .i64 f.g) := by { have hf3 := (frIn_new (w.alloc (.cells (cfA c) 24)) f HI.out).c3; rw [hb2.cell (by simp)]; simpa using hf3 }; clear hb2); go_ret; exact bit (by first | rfl | exact HV.out | exact HV.out.symm | exact decide_eq_false (by omega) | exact decide_eq_true (by omega)) HB.out
  ·have e0 : (f.g == 0) = false := by simpa using h0
   have D0 := hI (decide_eq_false h0); rw [D0.out, Bool.false_or]
   by_cases h1 : 2 ≤ f.g
   ·have D1 := hI (decide_eq_true h1)
    rw [D1.out, Bool.true_and]; clear h0
    by_cases h2 : f.g % c.s = s
    ·have et : Int.tmod f.g c.s = f.g % c.s := Int.tmod_eq_emod_of_nonneg (by omega)
     have HV := hI (decide_eq_true h2); rw [HV.out]
     have e2 : (f.g % c.s == s) = true := by simpa using h2
     have e3 : (Int.tmod f.g c.s == s) = true := by rw [et]; exact e2
     clear h2
     go_enter Tryz.func150, Tryz.ntmps150
     go_wp2_with (go_at_call 143; refine (CS.out _).mono ?_; rintro e w2 ⟨rfl, hb2⟩; have HB := hI (bthen (balloc (one_below w (.cells (cfA c) 24)) (.cells (frA f) 151)) hb2); have x4 := (((HC.out.below (B := w.heap.size + 1) (by omega) ((one_below _ (.cells (frA f) 151)).mono (by simp))).below (B := w.heap.size + 1) (by omega) (hb2.mono (by simp)))).cells.2.2.2.2; have x3 : w2.cell? ⟨w.heap.size + 1, 3, none⟩ = some (.int .i64 f.g) := by { have hf3 := (frIn_new (w.alloc (.cells (cfA c) 24)) f HI.out).c3; rw [hb2.cell (by simp)]; simpa using hf3 }; clear hb2); go_ret; exact bit (by first | rfl | exact HV.out | exact HV.out.symm | exact decide_eq_false (by omega) | exact decide_eq_true (by omega)) HB.out
    ·have et : Int.tmod f.g c.s = f.g % c.s := Int.tmod_eq_emod_of_nonneg (by omega)
     have HV := hI (decide_eq_false h2); rw [HV.out]
     have e2 : (f.g % c.s == s) = false := by simpa using h2
     have e3 : (Int.tmod f.g c.s == s) = false := by rw [et]; exact e2
     clear h2
     go_enter Tryz.func150, Tryz.ntmps150
     go_wp2_with (go_at_call 143; refine (CS.out _).mono ?_; rintro e w2 ⟨rfl, hb2⟩; have HB := hI (bthen (balloc (one_below w (.cells (cfA c) 24)) (.cells (frA f) 151)) hb2); have x4 := (((HC.out.below (B := w.heap.size + 1) (by omega) ((one_below _ (.cells (frA f) 151)).mono (by simp))).below (B := w.heap.size + 1) (by omega) (hb2.mono (by simp)))).cells.2.2.2.2; have x3 : w2.cell? ⟨w.heap.size + 1, 3, none⟩ = some (.int .i64 f.g) := by { have hf3 := (frIn_new (w.alloc (.cells (cfA c) 24)) f HI.out).c3; rw [hb2.cell (by simp)]; simpa using hf3 }; clear hb2); go_ret; exact bit (by first | rfl | exact HV.out | exact HV.out.symm | exact decide_eq_false (by omega) | exact decide_eq_true (by omega)) HB.out
   ·have HV := hI (decide_eq_false h1)
    rw [HV.out, Bool.false_and]; clear h0
    go_enter Tryz.func150, Tryz.ntmps150
    go_wp2_with (go_at_call 143; refine (CS.out _).mono ?_; rintro e w2 ⟨rfl, hb2⟩; have HB := hI (bthen (balloc (one_below w (.cells (cfA c) 24)) (.cells (frA f) 151)) hb2); have x4 := (((HC.out.below (B := w.heap.size + 1) (by omega) ((one_below _ (.cells (frA f) 151)).mono (by simp))).below (B := w.heap.size + 1) (by omega) (hb2.mono (by simp)))).cells.2.2.2.2; have x3 : w2.cell? ⟨w.heap.size + 1, 3, none⟩ = some (.int .i64 f.g) := by { have hf3 := (frIn_new (w.alloc (.cells (cfA c) 24)) f HI.out).c3; rw [hb2.cell (by simp)]; simpa using hf3 }; clear hb2); go_ret; exact bit (by first | rfl | exact HV.out | exact HV.out.symm | exact decide_eq_false (by omega) | exact decide_eq_true (by omega)) HB.out
def blks (n : Int) (k : Nat) : List (List UInt8) := (List.range k).map fun (i : Nat) => blkL (wrap64 (n + 31 * (i : Int)))
theorem blks_length (n : Int) (k : Nat) : (blks n k).length = k := by simp [blks]
theorem blks_is (n : Int) (k : Nat) : ∀ d ∈ blks n k, d.length = 108 := fun d hd => by
 obtain ⟨i, _, rfl⟩ := List.mem_map.1 hd
 exact blkL_length _
theorem blks_succ (n : Int) (k : Nat) : blks n (k + 1) = blks n k ++ [blkL (wrap64 (n + 31 * (k : Int)))] := by
 unfold blks; rw [List.range_succ, List.map_append]; rfl
theorem blks_flat (n : Int) (k : Nat) : ((blks n (k + 1)).map bytesV).flatten = ((blks n k).map bytesV).flatten ++ bytesV (blkL (wrap64 (n + 31 * (k : Int)))) := by
 rw [blks_succ, List.map_append, List.flatten_append]; simp
def BlksNew (bs : List (List UInt8)) (w : World) (e : Ending) (w' : World) : Prop := ∃ v, e = .returned v ∧ w'.ownsRow w.heap.size 87 108 v bs.length (bs.map bytesV).flatten ∧ Below w.heap.size w w'
def RelJB (n : Int) (k : Nat) (w : World) (v i : Value) (wr : World) : Prop :=
 ∃ m : Nat, m ≤ k ∧ i = .int .i64 m ∧ wr.ownsRow w.heap.size 87 108 v m ((blks n m).map bytesV).flatten ∧ Below w.heap.size w wr
variable {s : Nat}
theorem own_slice' (h : w.ownsRow B e s v n xs) : ∃ g c, v = .slice g n c ∧ n ≤ c := by
 rcases h.2 with ⟨rfl, rfl⟩ | ⟨g, cap, cur, rfl, _, _, hle, _⟩
 ·exact ⟨_, _, rfl, Nat.le_refl _⟩
 ·exact ⟨_, _, rfl, hle⟩
theorem own_block' (h : w.ownsRow B e s v n xs) (hk : v.ownBlock = some k) : B ≤ k ∧ k < w.heap.size := by
 rcases h.2 with ⟨rfl, _⟩ | ⟨g, cap, cur, rfl, hB, hg, _⟩
 ·cases hk
 ·injection hk with hk; subst hk; exact ⟨hB, (Array.getElem?_eq_some_iff.1 hg).1⟩
theorem blocks_any (k : Nat) (n : Int) (w : World) (hk : k ≤ 8) : Calls Tryz.prog 25 #[.int .i64 (k : Int), .int .i64 n] w (BlksNew (blks n k) w) := by
 go_enter Tryz.func25, Tryz.ntmps25
 go_wp2_with fail
 go_loopw [5, 6] (fun v i wr => RelJB n k w v i wr) (fun _ i _ => k - (intOf i).toNat)
 case atStart => exact ⟨0, Nat.zero_le _, rfl, (show w.ownsRow _ _ _ _ 0 [] from World.ownsRow_nil _ _ _ _), Below.refl _ _⟩
 case round =>
  obtain ⟨m, hm, rfl, hO, hB⟩ := hrel; have HO := hI hO; have HB := hI hB
  by_cases hlt : m < k
  ·have HF := hI (blks_flat n m)
   have CB := hI (fun w => block_any (wrap64 (n + 31 * (m : Int))) w); have HD := hI (blkL_length (wrap64 (n + 31 * (m : Int)))); unfold BlockB at CB
   have e31 : wrap64 (31 * (m : Int)) = 31 * (m : Int) := by unfold wrap64; omega
   clear hO hB
   go_wp2_with (first
    | (go_at_call 51; refine (CB.out _).mono ?_; generalize blkL (wrap64 (n + 31 * (m : Int))) = d at *; rintro e w2 ⟨rfl, hb2⟩; have HB2 := hI hb2; clear hb2)
    | (refine wpList_one_block (o := ⟨some 18, _, _, _, _, _⟩) rfl (.tmp 17) rfl _ rfl HD.out ?_)
    | (at_builtin; refine wpList_append_block _ rfl (.tmp 12) (.tmp 18) rfl w.heap.size _ _ _ rfl (own_below (own_below HO.out HB2.out) (one_below _ _)) w2.heap.size _ rfl (fun j u hu => new_cells _ _ _ _ _ (by simpa using hu)) HD.out ?_ ?_ ?_; omega; (have := HB2.out.size; have := HB.out.size; simp; omega); intro v3 w3 hown3 hg3; have HO3 := hI hown3; have HG3 := hI hg3; obtain ⟨g3, cap3, rfl, -⟩ := own_slice' hown3; clear hown3 hg3))
   go_roundw
   case rel =>
    have h1 := HO3.out; rw [← HF.out] at h1; have s1 := HB.out.size; have s2 := HB2.out.size; exact ⟨m + 1, hlt, by go_num, h1, (bthen HB.out HB2.out).trans (((balloc (Below.refl _ _) _).mono (by omega)).trans (HG3.out.below (by simp; omega) fun j hj => (own_block' HO.out hj).1))⟩
   case measure => simp [intOf]; omega
  ·obtain rfl : m = k := by omega
   obtain ⟨g, cv, rfl, -⟩ := own_slice' hO; clear hO; go_wp2_with fail; go_ret; exact ⟨_, rfl, by rw [blks_length]; exact HO.out, hB⟩
variable {d : List UInt8}
theorem storeCells_block (hd : d.length = 108) (w : World) : (storeCells ⟨w.heap.size, 0, none⟩ (bytesV d) 0).run Tryz.prog (w.alloc (.cells (bytesV z108).toArray 87)) = .ok () (w.alloc (.cells (bytesV d).toArray 87)) := by
 have hs : (Tryz.prog.info? 87).map (·.size) = some 108 := by kernel_rfl
 have := run_storeCells_new (P := Tryz.prog) w 87 (bytesV z108).toArray (bytesV d).toArray (by rw [List.size_toArray, bytesV_length, hd]; exact hs) (by simp [bytesV_length, hd, z108]) (all_oneCell_toArray (bytesV_one d))
 simpa using this
theorem zero_blockZ (w : World) : (zeroValue 87).run Tryz.prog w = .ok (.agg (bytesV z108).toArray) w := zero_block w
theorem loadCells_block (hd : d.length = 108) (w : World) : (loadCellsFrom ⟨w.heap.size, 0, none⟩ 0 szBk #[]).run Tryz.prog (w.alloc (.cells (bytesV d).toArray 87)) = .ok (bytesV d).toArray (w.alloc (.cells (bytesV d).toArray 87)) :=
 BIn.load (d := d) (b := w.heap.size) ⟨hd, heap_alloc_new w _⟩
theorem OwnLs.base {us : List Value} {ls : List (List UInt8)} (h : OwnLs B w v us ls) (hB : B' ≤ B) : OwnLs B' w v us ls := ⟨own_base h.top hB, fun i hi => own_base (h.each i hi) hB, h.apart, h.off⟩
theorem new_cells1 (w : World) (o : Obj) (cs : Array Value) (T : TypeId) (i : Nat) (v : Value) (h : cs.toList[i]? = some v) : ((w.alloc o).alloc (.cells cs T)).cell? ⟨w.heap.size + 1, i, none⟩ = some v := by
 have h1 := new_cells (w.alloc o) cs T i v h
 rw [show (w.alloc o).heap.size = w.heap.size + 1 by simp] at h1
 exact h1
def FrsNew (fs : List Fr) (w : World) (e : Ending) (w' : World) : Prop := ∃ v, e = .returned v ∧ w'.ownsRow w.heap.size 151 112 v fs.length (fs.map frC).flatten ∧ Below w.heap.size w w'
theorem frs_flat (fs : List Fr) (f : Fr) : ((fs ++ [f]).map frC).flatten = (fs.map frC).flatten ++ frC f := by rw [List.map_append, List.flatten_append]; simp
def RelJF (x : Rc) (v0 : Value) (w : World) (v i : Value) (wr : World) : Prop :=
 ∃ m : Nat, m ≤ x.b.length ∧ i = .int .i64 m ∧ wr.ownsRow (w.heap.size + 1) 151 112 v m (((jFl x).take m).map frC).flatten ∧ Below w.heap.size w wr ∧ w.heap.size < wr.heap.size ∧
  wr.cell? ⟨w.heap.size, 0, none⟩ = some (.int .i64 x.q) ∧ wr.cell? ⟨w.heap.size, 1, none⟩ = some (.int .i64 x.t) ∧ wr.cell? ⟨w.heap.size, 2, none⟩ = some v0
theorem jframes_any (x : Rc) (v0 : Value) (w : World) (hx : x.is) (hv : SlK w.heap.size w v0 x.b) (hn : x.b.length ≤ 8) : Calls Tryz.prog 108 #[.agg (rcA x.q x.t v0)] w (FrsNew (jFl x) w) := by
 have HV := hI hv
 have HX := hI hx
 obtain ⟨a, cap, rfl⟩ := hv.len
 clear hv hx
 go_enter Tryz.func108, Tryz.ntmps108
 go_wp2_with fail
 go_loopw [3, 9] (fun v i wr => RelJF x (.slice a x.b.length cap) w v i wr) (fun _ i _ => x.b.length - (intOf i).toNat)
 case atStart => exact ⟨0, Nat.zero_le _, rfl, World.ownsRow_nil _ _ _ _, one_below _ _, by simp, by simp, by simp, by simp⟩
 case round =>
  obtain ⟨m, hm, rfl, hO, hB, hlt0, c0, c1, c2⟩ := hrel
  by_cases hlt : m < x.b.length
  ·obtain ⟨b, cap', hs, hbB, hload, hlen⟩ := (HV.out.below (hB.mono (Nat.le_refl _))).at_ hlt
   injection hs with hs1 hs2 hs3; subst hs1 hs3; clear hs2; have HJ := hI (run_build_frame 2 m x.t x.q (x.b.getD m z108) hlen); have HJF := hI (show (jF x m) = ⟨2, m, x.t, x.q, x.b.getD m z108⟩ from rfl); have HFI := hI (jF_is HX.out m); have HT := hI (jFl_take hlt); rw [← HJF.out] at HJ; clear HJF; have HO := hI hO; have HB := hI hB
   have hst : ∀ W : World, (storeCells ⟨W.heap.size, 0, none⟩ (bytesV (x.b.getD m z108)) 0).run Tryz.prog (W.alloc (.cells (bytesV z108).toArray 87)) = .ok () (W.alloc (.cells (bytesV (x.b.getD m z108)).toArray 87)) := fun W => storeCells_block hlen W
   have hld : ∀ W : World, (loadCellsFrom ⟨W.heap.size, 0, none⟩ 0 szBk #[]).run Tryz.prog (W.alloc (.cells (bytesV (x.b.getD m z108)).toArray 87)) = .ok (bytesV (x.b.getD m z108)).toArray (W.alloc (.cells (bytesV (x.b.getD m z108)).toArray 87)) := fun W => loadCells_block hlen W
   have hz := szBk_run; have hz0 := zero_blockZ; have hcc : (Value.agg (bytesV (x.b.getD m z108)).toArray).cells = (bytesV (x.b.getD m z108)).toArray := rfl
   have hsz : (bytesV (x.b.getD m z108)).length = szBk := by rw [bytesV_length]; exact hlen
   clear hO hB hlen; generalize jF x m = F at *; generalize bytesV (x.b.getD m z108) = D at *
   go_wp2_with (first
    | (refine wpList_val (o := ⟨some 21, _, _, _, _, _⟩) rfl (.agg (frA F)) (run_build_op rfl ?_ (HJ.out _)) ?_; · go_simp)
    | (refine wpList_one_frame (o := ⟨some 22, _, _, _, _, _⟩) rfl (.tmp 21) rfl F rfl HFI.out ?_)
    | (at_builtin; refine wpList_append_frame _ rfl (.tmp 14) (.tmp 22) rfl (w.heap.size + 1) _ _ _ rfl (own_below (own_below HO.out (one_below _ _)) (one_below _ _)) _ F rfl (fun j u hu => new_cells _ _ _ _ _ (by simpa using hu)) HFI.out ?_ ?_ ?_; omega; (have := HB.out.size; simp; omega); intro v7 w7 hown7 hg7; have HO7 := hI hown7; have HG7 := hI hg7; obtain ⟨g7, cap7, rfl, -⟩ := own_slice' hown7; clear hown7 hg7))
   go_roundw
   case rel =>
    have h7 := HO7.out; rw [← frs_flat, ← HT.out] at h7; have hB2 : Below wr.heap.size wr ((wr.alloc (.cells D.toArray 87)).alloc (.cells (frA F) 151)) := balloc (one_below _ _) _
    have hB3 := HG7.out.below (B := w.heap.size + 1) (by simp; omega) fun k hk => (own_block' HO.out hk).1
    have hB4 := (hB2.mono (Nat.succ_le_of_lt hlt0)).trans hB3; refine ⟨m + 1, by omega, by go_num, h7, HB.out.trans (hB4.mono (by omega)), Nat.lt_of_lt_of_le hlt0 hB4.size, ?_, ?_, ?_⟩
    ·rw [hB4.cell (p := ⟨w.heap.size, 0, none⟩) (Nat.lt_succ_self _)]; exact c0
    ·rw [hB4.cell (p := ⟨w.heap.size, 1, none⟩) (Nat.lt_succ_self _)]; exact c1
    ·rw [hB4.cell (p := ⟨w.heap.size, 2, none⟩) (Nat.lt_succ_self _)]; exact c2
   case measure => simp [intOf]; omega
  ·obtain rfl : m = x.b.length := by omega
   have HO := hI hO; have HE := hI (show (jFl x).take x.b.length = jFl x by rw [← jFl_length x, List.take_length]); rw [HE.out] at HO; obtain ⟨g, cv, rfl, -⟩ := own_slice' HO.out; clear hO; go_wp2_with fail; go_ret; exact ⟨_, rfl, by rw [jFl_length]; exact own_base HO.out (Nat.le_succ _), hB⟩
structure JwS (lo : Nat) (c : Lc) (cf : Cf) (F : List Fr) (U : List Nat) (vF : Value) (vU : Value) (w : World) (n : Nat) (q : Rk) (w' : World) : Prop where
 rack : RackIn lo w' c q
 nn : q.n = n
 cfg : CfB cf w.heap.size w'
 fr : w'.ownsRow (w.heap.size + 2) 151 112 vF F.length (F.map frC).flatten
 up : w'.ownsRow (w.heap.size + 2) 3 1 vU U.length (numsV U)
 rc : RC c n w w'
 lt : w.heap.size + 1 < w'.heap.size
variable {F : List Fr} {U : List Nat} {vF vU : Value} {w1 w2 : World}
theorem JwS.then {cf : Cf} (h : JwS lo c cf F U vF vU w n q w1) (hb : Below w1.heap.size w1 w2) : JwS lo c cf F U vF vU w n q w2 :=
 ⟨h.rack.below hb, h.nn, CfB.below h.cfg (Nat.lt_of_succ_lt h.lt) hb, own_below h.fr hb, own_below h.up hb, h.rc.trans (RC.of_below hb), Nat.lt_of_lt_of_le h.lt hb.size⟩
theorem JwS.next {cf : Cf} {q2 : Rk} (h : JwS lo c cf F U vF vU w n q w1) (hf : Far w.heap.size c n) (hr : RackIn lo w2 c q2) (hn : q2.n = q.n) (hc : RC c q.n w1 w2) : JwS lo c cf F U vF vU w n q2 w2 := by
 have hn' := h.nn
 rw [hn'] at hc
 exact ⟨hr, hn.trans h.nn, CfB.rc h.cfg hf (Nat.lt_of_succ_lt h.lt) hc, own_rc h.fr (hf.mono (by omega)) hc, own_rc h.up (hf.mono (by omega)) hc, h.rc.trans hc, Nat.lt_of_lt_of_le h.lt hc.size⟩
theorem nums_cell (h : w.ownsRow B 3 1 v n (numsV U)) (hn : n = U.length) {m : Nat} (hm : m < U.length) : ∃ g cap, v = .slice (some ⟨g, 0, none⟩) n cap ∧ w.cell? ⟨g, m, none⟩ = some (.int .i64 ((U.getD m 0 : Nat) : Int)) := by
 obtain ⟨a, cap, rfl, _⟩ := own_slice h
 obtain ⟨g, rfl⟩ := own_addr h (by omega)
 exact ⟨g, cap, rfl, own_cell h (numsV_at hm)⟩
def TvS (cf : Cf) (b : Nat) (fr : Fr) (gb : Nat) (w : World) : Prop := (CfB cf b w ∧ b < w.heap.size) ∧ FrB fr gb w ∧ gb < w.heap.size
variable {gb : Nat} {fr : Fr}
theorem TvS.then {cf : Cf} (h : TvS cf b fr gb w) (hb : Below w.heap.size w w') : TvS cf b fr gb w' :=
 ⟨⟨CfB.below h.1.1 h.1.2 hb, Nat.lt_of_lt_of_le h.1.2 hb.size⟩, h.2.1.below h.2.2 hb, Nat.lt_of_lt_of_le h.2.2 hb.size⟩
theorem TvS.drew {cf : Cf} (h : TvS cf b fr gb w) : TvS cf b fr gb w.drew := h
theorem TvS.rc {cf : Cf} (h : TvS cf b fr gb w) (hf : Far b c n) (hg : Far gb c n) (hc : RC c n w w') : TvS cf b fr gb w' :=
 ⟨⟨CfB.rc h.1.1 hf h.1.2 hc, Nat.lt_of_lt_of_le h.1.2 hc.size⟩, ⟨h.2.1.1, by rw [hc.block gb h.2.2 (by have := hg.1; omega) (fun i hi => by have := hg.2 i hi; omega)]; exact h.2.1.2⟩, Nat.lt_of_lt_of_le h.2.2 hc.size⟩
def RelW1 (lo : Nat) (c : Lc) (cf : Cf) (F : List Fr) (G : List (List UInt8)) (U : List Nat) (vF : Value) (vU : Value) (w : World) (q : Rk) (base : Int) (i : Value) (wr : World) : Prop :=
 ∃ (m : Nat) (r : Rk), m ≤ U.length ∧ i = .int .i64 m ∧ RunTo q (jops base G U) r (wops base G U m ++ fops U 0) ∧ JwS lo c cf F U vF vU w q.n r wr
def RelW2 (lo : Nat) (c : Lc) (cf : Cf) (F : List Fr) (G : List (List UInt8)) (U : List Nat) (vF : Value) (vU : Value) (w : World) (q : Rk) (base : Int) (d m : Nat) (i : Value) (wr : World) : Prop :=
 ∃ (j : Nat) (r : Rk), j ≤ F.length ∧ i = .int .i64 j ∧ RunTo q (jops base G U) r (dops base G d j ++ (wops base G U (m + 1) ++ fops U 0)) ∧ JwS lo c cf F U vF vU w q.n r wr
def RelW3 (lo : Nat) (c : Lc) (cf : Cf) (F : List Fr) (G : List (List UInt8)) (U : List Nat) (vF : Value) (vU : Value) (w : World) (q : Rk) (base : Int) (i : Value) (wr : World) : Prop :=
 ∃ (m : Nat) (r : Rk), m ≤ U.length ∧ i = .int .i64 m ∧ RunTo q (jops base G U) r (fops U m) ∧ JwS lo c cf F U vF vU w q.n r wr
theorem jwrite_any (w : World) (h : RackIn lo w c q) (cf : Cf) (s : Int) (x : Rc) (v0 : Value) (hf : cf.fits q = true) (h0 : 0 ≤ s) (h1 : s < cf.s) (hx : x.is) (hn : (x.b.length : Int) = cf.k) (hv : SlK w.heap.size w v0 x.b) :
  Calls Tryz.prog 86 #[.pointer (some ⟨c.r, 0, none⟩), .agg (cfA cf), .int .i64 s, .agg (rcA x.q x.t v0)] w (NextR lo c q.n (runS q (slotOps cf s x q)) (runE q (slotOps cf s x q)) w) := by
 obtain ⟨a0, cap0, rfl⟩ := hv.len
 have hr := (fits_right hf).1
 have HSL := hI (show slotOps cf s x q = jops (jbase cf s) (jFs x) (ups q) from rfl)
 rw [HSL.out]
 have HFAR := hI (show Far w.heap.size c q.n from h.far)
 have HCS := hI (fun (i : Nat) (w : World) (hi : (i : Int) < cf.k) => jsector_any cf s i w hr h0 h1 (by omega) hi)
 have HBL := hI (show Below w.heap.size w ((w.alloc (.cells (cfA cf) 24)).alloc (.cells (rcA x.q x.t (.slice a0 x.b.length cap0)) 135)) from balloc (one_below _ _) _)
 have CF := hI (jframes_any x (.slice a0 x.b.length cap0) ((w.alloc (.cells (cfA cf) 24)).alloc (.cells (rcA x.q x.t (.slice a0 x.b.length cap0)) 135)) hx ((hv.below HBL.out).wider HBL.out.size) (by have := hr.2.2.2.1; have := hr.2.2.2.2.1; omega))
 have HC0 := hI (show CfB cf w.heap.size ((w.alloc (.cells (cfA cf) 24)).alloc (.cells (rcA x.q x.t (.slice a0 x.b.length cap0)) 135)) from CfB.below (cfB_new w cf) (B := w.heap.size + 1) (by omega) ((one_below _ _).mono (by simp)))
 have HR0 := hI (h.below HBL.out)
 have HFL := hI (show ((jFl x).length : Int) = cf.k by rw [jFl_length]; exact hn)
 have hfl : (jFl x).length ≤ 8 := by have := HFL.out; have := hr.2.2.2.1; have := hr.2.2.2.2.1; omega
 have HGL := hI (show (jFs x).length = (jFl x).length by rw [jFl_length, jFs_length])
 have HGD := hI (fun (j : Nat) (hj : j < (jFl x).length) => show (jFs x).getD j [] = put ((jFl x).getD j zeroF) by rw [jFs_jFl, getD_map put hj [] zeroF])
 have HFIS := hI (show ∀ f ∈ jFl x, f.is from jFl_is hx)
 clear h hv hf h0 h1 hx hn hr HSL
 generalize jbase cf s = base at *
 go_enter Tryz.func86, Tryz.ntmps86
 go_wp2_with fail
 refine CF.out.mono ?_
 generalize jFs x = G at *
 generalize jFl x = F at *
 rintro e w1 ⟨vF, rfl, hO1, hb1⟩
 have HO1 := hI (show w1.ownsRow (w.heap.size + 2) 151 112 vF F.length (F.map frC).flatten by simpa using hO1)
 have HB1 := hI hb1
 have CU := hI (qonline_any w1 (HR0.out.below hb1))
 clear hO1 hb1
 go_wp2_with fail
 refine CU.out.mono ?_
 rintro e w2 ⟨vU, rfl, hU, hb2⟩
 have H2 := hI (show JwS lo c cf F (ups q) vF vU w q.n q w2 from ⟨(HR0.out.below HB1.out).below hb2, rfl, CfB.below (CfB.below HC0.out (by simp; omega) HB1.out) (by have := HB1.out.size; simp at this; omega) hb2, own_below HO1.out hb2, own_base hU (by have := HB1.out.size; simp at this; omega), RC.of_below (bthen HBL.out (bthen HB1.out hb2)), by have := HB1.out.size; have := hb2.size; simp at *; omega⟩)
 obtain ⟨aU, cU, rfl, -⟩ := own_slice hU
 obtain ⟨aF, cF, rfl, -⟩ := own_slice' HO1.out
 have HUL := hI (upsN_length q q.n)
 have hn8 : q.n ≤ 8 := HR0.out.ok.n8
 clear hU hb2
 generalize hUd : ups q = U at *
 have HUD := hI hUd
 have hul : U.length ≤ 8 := by have := HUL.out; rw [← hUd]; unfold ups; omega
 clear hUd
 go_wp2_with fail
 go_loopw [23] (fun i wr => RelW1 lo c cf F G U (.slice aF F.length cF) (.slice aU U.length cU) w q base i wr) (fun i _ => U.length - (intOf i).toNat)
 case atStart => exact ⟨0, q, Nat.zero_le _, rfl, RunTo.refl _ _, H2.out⟩
 case round =>
  obtain ⟨m, r, hm, rfl, hrun, hS⟩ := hrel
  by_cases hlt : m < U.length
  ·obtain ⟨gU, cU', hs, hcell⟩ := nums_cell hS.up rfl hlt
   injection hs with hs1 hs2 hs3; subst hs1 hs3; clear hs2; have HRUN := hI (hrun.congr (show wops base G U m ++ fops U 0 = dops base G (U.getD m 0) 0 ++ (wops base G U (m + 1) ++ fops U 0) by rw [wops_next hlt, List.append_assoc])); have HS := hI hS; clear hrun hS; generalize U.getD m 0 = d at *; go_wp2_with fail
   go_loopw [29] (fun i wr => RelW2 lo c cf F G U (.slice aF F.length cF) (.slice (some ⟨gU, 0, none⟩) U.length cU) w q base d m i wr) (fun i _ => F.length - (intOf i).toNat)
   case atStart => exact ⟨0, r, Nat.zero_le _, rfl, HRUN.out, HS.out⟩
   case round =>
    obtain ⟨j, r2, hj, rfl, hrun2, hS2⟩ := hrel
    by_cases hjl : j < F.length
    ·obtain ⟨gF, cF', hs, _, hld0, _, _, _, hfi⟩ := (slF_own hS2.fr HFIS.out rfl).at_ hjl
     injection hs with hs1 hs2 hs3; subst hs1 hs3; clear hs2; have HRN := hI (hrun2.congr (show dops base G d j ++ (wops base G U (m + 1) ++ fops U 0) = .w (d : Int) (base + j) (put (F.getD j zeroF)) :: (dops base G d (j + 1) ++ (wops base G U (m + 1) ++ fops U 0)) by rw [dops_next (by rw [HGL.out]; exact hjl), HGD.out j hjl]; rfl)); have HS2 := hI hS2; have CS := hI (fun W => HCS.out j W (by have := HFL.out; omega)); have HFI := hI hfi; have CP := hI (fun W => put_any (F.getD j zeroF) W HFI.out); clear hrun2 hS2 hfi; generalize F.getD j zeroF = fr at *; generalize put fr = l at *; have hz := szFr_run; have hz0 := zero_frame; have hc2 : (Value.agg (frA fr)).cells = frA fr := rfl; have hc0 : (Value.agg (frA zeroF)).cells = frA zeroF := rfl; have hsz : (frC fr).length = szFr := frC_length HFI.out
     have hst : ∀ W : World, (storeCells ⟨W.heap.size, 0, none⟩ (frC fr) 0).run Tryz.prog (W.alloc (.cells (frA zeroF) 151)) = .ok () (W.alloc (.cells (frA fr) 151)) := fun W => storeCells_frame zeroF_is HFI.out W
     go_wp2_with fail; have HSA := hI (HS2.out.then (one_below wr (.cells (frA fr) 151))); have HTV := hI (show TvS cf w.heap.size fr wr.heap.size (wr.alloc (.cells (frA fr) 151)) from ⟨⟨HSA.out.cfg, Nat.lt_of_succ_lt HSA.out.lt⟩, frB_new wr fr HFI.out, by simp⟩); have HGB := hI (show Far wr.heap.size c q.n from HFAR.out.mono HS2.out.rc.size); clear hst hz0 hc0 hld0; generalize wr.alloc (.cells (frA fr) 151) = wA at *; generalize wr.heap.size = gb at *; generalize hbw : w.heap.size = b at *; have h2 := HTV.out
     have d0 : ∀ w', TvS cf b fr gb w' → w'.cell? ⟨b, 0, none⟩ = some (.int .i64 cf.id) := fun w' h => h.1.1.cell 0
     have d1 : ∀ w', TvS cf b fr gb w' → w'.cell? ⟨b, 1, none⟩ = some (.int .i64 cf.k) := fun w' h => h.1.1.cell 1
     have d2 : ∀ w', TvS cf b fr gb w' → w'.cell? ⟨b, 2, none⟩ = some (.int .i64 cf.n) := fun w' h => h.1.1.cell 2
     have d3 : ∀ w', TvS cf b fr gb w' → w'.cell? ⟨b, 3, none⟩ = some (.int .i64 cf.t) := fun w' h => h.1.1.cell 3
     have d4 : ∀ w', TvS cf b fr gb w' → w'.cell? ⟨b, 4, none⟩ = some (.int .i64 cf.s) := fun w' h => h.1.1.cell 4
     have hlf : ∀ w', TvS cf b fr gb w' → (loadCellsFrom ⟨gb, 0, none⟩ 0 szFr #[]).run Tryz.prog w' = .ok (frA fr) w' := fun w' h => h.2.1.fin.load
     by_cases hw : r2.wcode (d : Int) (base + (j : Int)) l.length = 0
     ·have HN := hI (HRN.out.next hw)
      have HW := hI (fun (w3 : World) (v : Value) (hR : RackIn lo w3 c r2) (hv : SlB w3.heap.size w3 v l) => qwrite_any w3 hR (d : Int) (base + (j : Int)) v l hv); simp only [hw, evs_zero] at HW; clear hw; refine wp_region_noPanic ?_; refine wp_region_held_drew (S := (fun w' => TvS cf b fr gb w')) (by kernel_rfl) h2.drew (fun hHeld => ?_); refine hT 0 ⟨some 34, _, _, _, _, _⟩ rfl hHeld ?_; simp only [hP]; refine hT 1 ⟨some 35, _, _, _, _, _⟩ rfl hHeld ?_; simp only [hP]; refine hT 2 ⟨some 36, _, _, _, _, _⟩ rfl hHeld ?_; simp only [hP]; refine hT 3 ⟨some 37, _, _, _, _, _⟩ rfl hHeld ?_; simp only [hP]; refine hT 4 ⟨some 38, _, _, _, _, _⟩ rfl hHeld ?_; simp only [hP]; refine hT 6 ⟨some 40, _, _, _, _, _⟩ rfl hHeld ?_; simp only [hP]
      refine hC 5 rfl fun K hK => ?_
      go_simp; refine (CS.out _).mono ?_; rintro e w3 ⟨rfl, hb3⟩
      have h3 := TvS.then hHeld hb3
      have HS3 := hI (HSA.out.then (bthen (Below.drew (Below.refl _ _)) hb3)); clear hb3; refine hK.out _ _ h3 (fun _ => ?_); clear hK K
      refine hC 7 rfl fun K hK => ?_
      go_simp; refine (CP.out _).mono ?_; rintro e w4 ⟨v4, rfl, hown4, hb4⟩
      have h4 := TvS.then h3 hb4
      have HS4 := hI (HS3.out.then hb4); have HV4 := hI (slb_own hown4); obtain ⟨g4, c4, rfl, -⟩ := own_slice hown4; clear hown4 hb4; refine hK.out _ _ h4 (fun _ => ?_); clear hK K
      refine hC 8 rfl fun K hK => ?_
      go_simp; refine (HW.out _ _ HS4.out.rack HV4.out).mono ?_; rintro e w5 ⟨rfl, hR5, hC5⟩; have h5 := TvS.rc h4 HFAR.out HGB.out (by have := hC5; rw [HS4.out.nn] at this; exact this); have HS5 := hI (HS4.out.next (by rw [hbw]; exact HFAR.out) hR5 (write_n _ _ _ _) hC5); clear hR5 hC5; refine hK.out _ _ h5 (fun _ => ?_); clear hK K; refine hT 9 ⟨some 14, _, _, _, _, _⟩ rfl h5 ?_; simp only [hP]; refine wpAnyH_done (by kernel_rfl) ?_ _; refine NoPanic.normal ?_; clear d0 d1 d2 d3 d4 hlf h2 hHeld h3 h4 h5; subst hbw; go_wp2_with fail
      go_roundw
      case rel => exact ⟨j + 1, _, hjl, by go_num, HN.out, HS5.out⟩
      case measure => simp [intOf]; omega
     ·obtain ⟨e1, e2, e3⟩ := HRN.out.fail hw
      have hev : Rop.ev r2 (.w (d : Int) (base + (j : Int)) l) = wrapV opQWrite (d : Int) (errV (r2.wcode (d : Int) (base + (j : Int)) l.length)) := evs_some _ _ hw; rw [hev] at e3; have E1 := hI e1; have E3 := hI e3; have HW := hI (fun (w3 : World) (v : Value) (hR : RackIn lo w3 c r2) (hv : SlB w3.heap.size w3 v l) => qwrite_any w3 hR (d : Int) (base + (j : Int)) v l hv); simp only [evs_some _ _ hw] at HW; unfold wrapV errV at HW; clear e1 e2 e3 hev hw; refine wp_region_noPanic ?_; refine wp_region_held_drew (S := (fun w' => TvS cf b fr gb w')) (by kernel_rfl) h2.drew (fun hHeld => ?_); refine hT 0 ⟨some 34, _, _, _, _, _⟩ rfl hHeld ?_; simp only [hP]; refine hT 1 ⟨some 35, _, _, _, _, _⟩ rfl hHeld ?_; simp only [hP]; refine hT 2 ⟨some 36, _, _, _, _, _⟩ rfl hHeld ?_; simp only [hP]; refine hT 3 ⟨some 37, _, _, _, _, _⟩ rfl hHeld ?_; simp only [hP]; refine hT 4 ⟨some 38, _, _, _, _, _⟩ rfl hHeld ?_; simp only [hP]; refine hT 6 ⟨some 40, _, _, _, _, _⟩ rfl hHeld ?_; simp only [hP]
      refine hC 5 rfl fun K hK => ?_
      go_simp; refine (CS.out _).mono ?_; rintro e w3 ⟨rfl, hb3⟩
      have h3 := TvS.then hHeld hb3
      have HS3 := hI (HSA.out.then (bthen (Below.drew (Below.refl _ _)) hb3)); clear hb3; refine hK.out _ _ h3 (fun _ => ?_); clear hK K
      refine hC 7 rfl fun K hK => ?_
      go_simp; refine (CP.out _).mono ?_; rintro e w4 ⟨v4, rfl, hown4, hb4⟩
      have h4 := TvS.then h3 hb4
      have HS4 := hI (HS3.out.then hb4); have HV4 := hI (slb_own hown4); obtain ⟨g4, c4, rfl, -⟩ := own_slice hown4; clear hown4 hb4; refine hK.out _ _ h4 (fun _ => ?_); clear hK K
      refine hC 8 rfl fun K hK => ?_
      go_simp; refine (HW.out _ _ HS4.out.rack HV4.out).mono ?_; rintro e w5 ⟨rfl, hR5, hC5⟩; have h5 := TvS.rc h4 HFAR.out HGB.out (by have := hC5; rw [HS4.out.nn] at this; exact this); have HS5 := hI (HS4.out.next (by rw [hbw]; exact HFAR.out) hR5 (write_n _ _ _ _) hC5); clear hR5 hC5; refine hK.out _ _ h5 (fun _ => ?_); clear hK K; refine hT 9 ⟨some 14, _, _, _, _, _⟩ rfl h5 ?_; simp only [hP]; refine wpAnyH_done (by kernel_rfl) ?_ _; refine NoPanic.normal ?_; clear d0 d1 d2 d3 d4 hlf h2 hHeld h3 h4 h5; go_wp2_with fail; rw [E1.out, E3.out]; exact bodyPost_ret (v := wrapV opQWrite (d : Int) (errV (r2.wcode (d : Int) (base + (j : Int)) l.length))) (by simp [results, Tryz.results86, go_sem, wrapV, errV, opQWrite]) rfl ⟨rfl, HS5.out.rack, HS5.out.rc⟩
    ·obtain rfl : j = F.length := by omega
     have HRN := hI (hrun2.congr (show dops base G d F.length ++ (wops base G U (m + 1) ++ fops U 0) = wops base G U (m + 1) ++ fops U 0 by rw [← HGL.out, dops_end]; rfl)); have HS2 := hI hS2; clear hrun2 hS2; go_wp2_with fail
     go_roundw
     case rel => exact ⟨m + 1, _, hlt, by go_num, HRN.out, HS2.out⟩
     case measure => simp [intOf]; omega
  ·obtain rfl : m = U.length := by omega
   have HRUN := hI (hrun.congr (show wops base G U U.length ++ fops U 0 = fops U 0 by rw [wops_end]; rfl)); have HS := hI hS; have CU2 := hI (qonline_any wr hS.rack); rw [hrun.u, HUD.out] at CU2; clear hrun hS; go_wp2_with fail; refine CU2.out.mono ?_; rintro e w3 ⟨vV, rfl, hV, hb3⟩; have H3 := hI (show JwS lo c cf F U (.slice aF F.length cF) vV w q.n r w3 from ⟨HS.out.rack.below hb3, HS.out.nn, CfB.below HS.out.cfg (Nat.lt_of_succ_lt HS.out.lt) hb3, own_below HS.out.fr hb3, own_base hV (by have := HS.out.lt; omega), HS.out.rc.trans (RC.of_below hb3), Nat.lt_of_lt_of_le HS.out.lt hb3.size⟩); obtain ⟨aV, cV, rfl, -⟩ := own_slice hV; clear hV hb3; go_wp2_with fail
   go_loopw [51] (fun i wr => RelW3 lo c cf F G U (.slice aF F.length cF) (.slice aV U.length cV) w q base i wr) (fun i _ => U.length - (intOf i).toNat)
   case atStart => exact ⟨0, r, Nat.zero_le _, rfl, HRUN.out, H3.out⟩
   case round =>
    obtain ⟨m, r2, hm2, rfl, hrun2, hS2⟩ := hrel
    by_cases hlt2 : m < U.length
    ·obtain ⟨gV, cV', hs, hcell⟩ := nums_cell hS2.up rfl hlt2
     injection hs with hs1 hs2 hs3; subst hs1 hs3; clear hs2; have HRN := hI (hrun2.congr (fops_next hlt2)); have HS2 := hI hS2; clear hrun2 hS2; generalize U.getD m 0 = d at *; have HW := hI (qflush_any wr HS2.out.rack (d : Int))
     by_cases hw : r2.fcode (d : Int) = 0
     ·rw [hw, evs_zero] at HW
      have HN := hI (HRN.out.next hw); clear hw; go_wp2_with fail; refine HW.out.mono ?_; rintro e w4 ⟨rfl, hR4, hC4⟩; have HS4 := hI (HS2.out.next HFAR.out hR4 (flush_n _ _) hC4); clear hR4 hC4; go_wp2_with fail
      go_roundw
      case rel => exact ⟨m + 1, _, hlt2, by go_num, HN.out, HS4.out⟩
      case measure => simp [intOf]; omega
     ·rw [evs_some _ _ hw] at HW
      obtain ⟨e1, e2, e3⟩ := HRN.out.fail hw; have hev : Rop.ev r2 (.f (d : Int)) = wrapV opQFlush (d : Int) (errV (r2.fcode (d : Int))) := evs_some _ _ hw; rw [hev] at e3; have E1 := hI e1; have E3 := hI e3; clear e1 e2 e3 hev hw; unfold wrapV errV at HW; go_wp2_with fail; refine HW.out.mono ?_; rintro e w4 ⟨rfl, hR4, hC4⟩; have HS4 := hI (HS2.out.next HFAR.out hR4 (flush_n _ _) hC4); clear hR4 hC4; go_wp2_with fail; rw [E1.out, E3.out]; exact bodyPost_ret (v := wrapV opQFlush (d : Int) (errV (r2.fcode (d : Int)))) (by simp [results, Tryz.results86, go_sem, wrapV, errV, opQFlush]) rfl ⟨rfl, HS4.out.rack, HS4.out.rc⟩
    ·obtain rfl : m = U.length := by omega
     have HRN := hI (hrun2.congr (fops_end U)); have HS2 := hI hS2; clear hrun2 hS2; obtain ⟨e1, e2, e3⟩ := HRN.out.done; have E1 := hI e1; have E3 := hI e3; clear e1 e2 e3; go_wp2_with fail; rw [E1.out, E3.out]; go_ret; exact ⟨rfl, HS2.out.rack, HS2.out.rc⟩
def opJLog : ByteArray := ⟨#[106, 111, 117, 114, 110, 97, 108, 46, 76, 111, 103]⟩
def opJBlank : ByteArray := ⟨#[106, 111, 117, 114, 110, 97, 108, 46, 66, 108, 97, 110, 107]⟩
def opJSlot : ByteArray := ⟨#[106, 111, 117, 114, 110, 97, 108, 46, 83, 108, 111, 116]⟩
def wrapR (op : ByteArray) (n : Int) (q : Rk) (L : List Rop) : Value := if runC q L = 0 then .nilIface else wrapV op n (runE q L)
def Rk.jlogV (q : Rk) (c : Cf) (x : Rc) : Value := if (c.fits q && jright c x) = true then wrapR opJLog x.q q (slotOps c (x.q % c.s) x q) else wrapV opJLog x.q (errV 1)
def Rk.jblankV (q : Rk) (c : Cf) (s : Int) : Value := if jhasSlot c q s = true then wrapR opJBlank s q (slotOps c s (blankR c) q) else wrapV opJBlank s (errV 1)
def JlS (cf : Cf) (x : Rc) (v0 : Value) (w w' : World) : Prop := CfB cf w.heap.size w' ∧ w'.heap[w.heap.size + 1]? = some (.cells (rcA x.q x.t v0) 135 (0, 0))
variable {x : Rc} {v0 : Value}
theorem JlS.rec {cf : Cf} (h : JlS cf x v0 w w') : w'.cell? ⟨w.heap.size + 1, 0, none⟩ = some (.int .i64 x.q) ∧ w'.cell? ⟨w.heap.size + 1, 1, none⟩ = some (.int .i64 x.t) ∧ w'.cell? ⟨w.heap.size + 1, 2, none⟩ = some v0 := by
 refine ⟨?_, ?_, ?_⟩ <;> rw [cell_of_row _ _ _ _ _ (0, 0) h.2] <;> rfl
theorem JlS.lt {cf : Cf} (h : JlS cf x v0 w w') : w.heap.size + 1 < w'.heap.size := (Array.getElem?_eq_some_iff.1 h.2).1
theorem JlS.drew {cf : Cf} (h : JlS cf x v0 w w') : JlS cf x v0 w w'.drew := h
theorem JlS.then {cf : Cf} (h : JlS cf x v0 w w1) (hb : Below w1.heap.size w1 w2) : JlS cf x v0 w w2 := ⟨CfB.below h.1 (Nat.lt_of_succ_lt h.lt) hb, (hb.block _ h.lt).trans h.2⟩
theorem JlS.rc {cf : Cf} (h : JlS cf x v0 w w1) (hf : Far w.heap.size c n) (hc : RC c n w1 w2) : JlS cf x v0 w w2 :=
 ⟨CfB.rc h.1 hf (Nat.lt_of_succ_lt h.lt) hc, (hc.block _ h.lt (by have := hf.1; omega) (fun i hi => by have := hf.2 i hi; omega)).trans h.2⟩
theorem jlS_new (w : World) (cf : Cf) (x : Rc) (v0 : Value) : JlS cf x v0 w ((w.alloc (.cells (cfA cf) 24)).alloc (.cells (rcA x.q x.t v0) 135)) :=
 ⟨CfB.below (cfB_new w cf) (B := w.heap.size + 1) (by omega) ((one_below _ _).mono (by simp)), by have := heap_alloc_new (w.alloc (.cells (cfA cf) 24)) (.cells (rcA x.q x.t v0) 135); simpa using this⟩
theorem jlog_no (w : World) (h : RackIn lo w c q) (cf : Cf) (x : Rc) (v0 : Value) (hv : SlK w.heap.size w v0 x.b) (hno : (cf.fits q && jright cf x) = false) :
  Calls Tryz.prog 101 #[.pointer (some ⟨c.r, 0, none⟩), .agg (cfA cf), .agg (rcA x.q x.t v0)] w (NextR lo c q.n q (wrapV opJLog x.q (errV 1)) w) := by
 obtain ⟨a0, cap0, rfl⟩ := hv.len
 have HB := hI (show Below w.heap.size w ((w.alloc (.cells (cfA cf) 24)).alloc (.cells (rcA x.q x.t (.slice a0 x.b.length cap0)) 135)) from balloc (one_below _ _) _)
 have h1 := jlS_new w cf x (.slice a0 x.b.length cap0)
 have H1 := hI h1
 have HF := hI (sfits_any _ (h.below HB.out) cf)
 have HR := hI (h.below HB.out)
 have CR := hI (fun w => jright_any cf x a0 cap0 w)
 obtain ⟨d0, d1, d2, d3, d4⟩ := h1.1.cells
 obtain ⟨x0, x1, x2⟩ := h1.rec
 clear h hv h1
 cases hf : cf.fits q with
 | false =>
  rw [hf] at HF; clear hf hno
  go_enter Tryz.func101, Tryz.ntmps101
  go_wp2_with (first
   | (go_at_call 34; refine HF.out.mono ?_; rintro e w2 ⟨rfl, hb2⟩; have H2 := hI (H1.out.then hb2); have HB2 := hI (bthen HB.out hb2); have HR2 := hI (HR.out.below hb2); obtain ⟨y0, y1, y2⟩ := H2.out.rec; clear hb2)
   | (go_at_call 32; refine (wrap_some _ _ _ _ _).mono ?_; rintro e w' ⟨rfl, rfl⟩))
  exact bodyPost_ret (v := wrapV opJLog x.q (errV 1)) (by simp [results, Tryz.results101, go_sem, wrapV, errV, opJLog]) rfl ⟨rfl, HR2.out, RC.of_below HB2.out⟩
 | true =>
  rw [hf] at HF hno; rw [Bool.true_and] at hno; rw [hno] at CR; clear hf hno
  go_enter Tryz.func101, Tryz.ntmps101
  go_wp2_with fail; refine HF.out.mono ?_; rintro e w2 ⟨rfl, hb2⟩; have H2 := hI (H1.out.then hb2); have HB2 := hI (bthen HB.out hb2); have HR2 := hI (HR.out.below hb2); obtain ⟨e0, e1, e2, e3, e4⟩ := H2.out.1.cells; obtain ⟨y0, y1, y2⟩ := H2.out.rec; clear hb2
  go_wp2_with (first
   | (go_at_call 123; refine (CR.out _).mono ?_; rintro e w3 ⟨rfl, hb3⟩; have H3 := hI (H2.out.then hb3); have HB3 := hI (bthen HB2.out hb3); have HR3 := hI (HR2.out.below hb3); obtain ⟨z0, z1, z2⟩ := H3.out.rec; clear hb3)
   | (go_at_call 32; refine (wrap_some _ _ _ _ _).mono ?_; rintro e w' ⟨rfl, rfl⟩))
  exact bodyPost_ret (v := wrapV opJLog x.q (errV 1)) (by simp [results, Tryz.results101, go_sem, wrapV, errV, opJLog]) rfl ⟨rfl, HR3.out, RC.of_below HB3.out⟩
theorem jlog_yes (w : World) (h : RackIn lo w c q) (cf : Cf) (x : Rc) (v0 : Value) (hx : x.is) (hv : SlK w.heap.size w v0 x.b) (hf : cf.fits q = true) (hj : jright cf x = true) :
  Calls Tryz.prog 101 #[.pointer (some ⟨c.r, 0, none⟩), .agg (cfA cf), .agg (rcA x.q x.t v0)] w (NextR lo c q.n (runS q (slotOps cf (x.q % cf.s) x q)) (wrapR opJLog x.q q (slotOps cf (x.q % cf.s) x q)) w) := by
 obtain ⟨a0, cap0, rfl⟩ := hv.len
 obtain ⟨j1, j2, j3, j4, j5⟩ := jright_iff.1 hj
 have HB := hI (show Below w.heap.size w ((w.alloc (.cells (cfA cf) 24)).alloc (.cells (rcA x.q x.t (.slice a0 x.b.length cap0)) 135)) from balloc (one_below _ _) _)
 have h1 := jlS_new w cf x (.slice a0 x.b.length cap0)
 have H1 := hI h1
 have HF := hI (sfits_any _ (h.below HB.out) cf)
 rw [hf] at HF
 have HR := hI (h.below HB.out)
 have CR := hI (fun w => jright_any cf x a0 cap0 w)
 rw [hj] at CR
 have HFAR := hI (show Far w.heap.size c q.n from h.far)
 obtain ⟨d0, d1, d2, d3, d4⟩ := h1.1.cells
 obtain ⟨x0, x1, x2⟩ := h1.rec
 have hs1 : 1 ≤ cf.s := (fits_right hf).1.2.2.2.2.2.2.2.1
 have hmod : 0 ≤ x.q % cf.s ∧ x.q % cf.s < cf.s := ⟨Int.emod_nonneg _ (by omega), Int.emod_lt_of_pos _ (by omega)⟩
 have htm : Int.tmod x.q cf.s = x.q % cf.s := Int.tmod_eq_emod_of_nonneg (by omega)
 have CW := hI (fun (w' : World) (hw : RackIn lo w' c q ∧ Below w.heap.size w w') => jwrite_any w' hw.1 cf (x.q % cf.s) x (.slice a0 x.b.length cap0) hf hmod.1 hmod.2 hx j5 ((hv.below hw.2).wider hw.2.size))
 have hs0 : ¬ cf.s = 0 := by omega
 have hs0b : (cf.s == 0) = false := by simpa using hs0
 have hq0 : 0 ≤ x.q := by omega
 clear h hv h1 hj hf j1 j2 j3 j4 j5 hx
 go_enter Tryz.func101, Tryz.ntmps101
 go_wp2_with fail
 refine HF.out.mono ?_
 rintro e w2 ⟨rfl, hb2⟩
 have H2 := hI (H1.out.then hb2)
 have HB2 := hI (bthen HB.out hb2)
 have HR2 := hI (HR.out.below hb2)
 obtain ⟨e0, e1, e2, e3, e4⟩ := H2.out.1.cells
 obtain ⟨y0, y1, y2⟩ := H2.out.rec
 clear hb2
 go_wp2_with (go_at_call 123; refine (CR.out _).mono ?_; rintro e w3 ⟨rfl, hb3⟩; have H3 := hI (H2.out.then hb3); have HB3 := hI (bthen HB2.out hb3); have HR3 := hI (HR2.out.below hb3); clear hb3)
 have HRK := hI (show RackIn lo w3.drew c q ∧ Below w.heap.size w w3.drew from ⟨HR3.out.drewN 1, HB3.out.drew⟩)
 have HRC := hI (show RC c q.n w w3.drew from RC.of_below HB3.out.drew)
 have h2 := H3.out
 clear d0 d1 d2 d3 d4 x0 x1 x2 e0 e1 e2 e3 e4 y0 y1 y2
 have d0 : ∀ w', JlS cf x (.slice a0 x.b.length cap0) w w' → w'.cell? ⟨w.heap.size, 0, none⟩ = some (.int .i64 cf.id) := fun w' h => h.1.cell 0
 have d1 : ∀ w', JlS cf x (.slice a0 x.b.length cap0) w w' → w'.cell? ⟨w.heap.size, 1, none⟩ = some (.int .i64 cf.k) := fun w' h => h.1.cell 1
 have d2 : ∀ w', JlS cf x (.slice a0 x.b.length cap0) w w' → w'.cell? ⟨w.heap.size, 2, none⟩ = some (.int .i64 cf.n) := fun w' h => h.1.cell 2
 have d3 : ∀ w', JlS cf x (.slice a0 x.b.length cap0) w w' → w'.cell? ⟨w.heap.size, 3, none⟩ = some (.int .i64 cf.t) := fun w' h => h.1.cell 3
 have d4 : ∀ w', JlS cf x (.slice a0 x.b.length cap0) w w' → w'.cell? ⟨w.heap.size, 4, none⟩ = some (.int .i64 cf.s) := fun w' h => h.1.cell 4
 have x0 : ∀ w', JlS cf x (.slice a0 x.b.length cap0) w w' → w'.cell? ⟨w.heap.size + 1, 0, none⟩ = some (.int .i64 x.q) := fun w' h => h.rec.1
 have x1 : ∀ w', JlS cf x (.slice a0 x.b.length cap0) w w' → w'.cell? ⟨w.heap.size + 1, 1, none⟩ = some (.int .i64 x.t) := fun w' h => h.rec.2.1
 have x2 : ∀ w', JlS cf x (.slice a0 x.b.length cap0) w w' → w'.cell? ⟨w.heap.size + 1, 2, none⟩ = some (.slice a0 x.b.length cap0) := fun w' h => h.rec.2.2
 rcases runE_form (slotOps cf (x.q % cf.s) x q) q with ⟨r1, r2⟩ | ⟨r1, op, i, r2⟩
 ·have EW := hI (show wrapR opJLog x.q q (slotOps cf (x.q % cf.s) x q) = .nilIface from if_pos r1)
  generalize wrapR opJLog x.q q (slotOps cf (x.q % cf.s) x q) = WR at *; rw [r2] at CW; clear r1 r2; generalize runS q (slotOps cf (x.q % cf.s) x q) = q2 at *; refine wp_region_noPanic ?_; refine wp_region_held_drew (S := (fun w' => JlS cf x (.slice a0 x.b.length cap0) w w')) (by kernel_rfl) h2.drew (fun hHeld => ?_); refine hT 0 ⟨some 21, _, _, _, _, _⟩ rfl hHeld ?_; simp only [hP]; refine hT 1 ⟨some 22, _, _, _, _, _⟩ rfl hHeld ?_; simp only [hP]; refine hT 2 ⟨some 23, _, _, _, _, _⟩ rfl hHeld ?_; simp only [hP]; refine hT 3 ⟨some 24, _, _, _, _, _⟩ rfl hHeld ?_; simp only [hP]; refine hT 4 ⟨some 25, _, _, _, _, _⟩ rfl hHeld ?_; simp only [hP]; refine hT 5 ⟨some 26, _, _, _, _, _⟩ rfl hHeld ?_; simp only [hP]; refine hT 6 ⟨some 27, _, _, _, _, _⟩ rfl hHeld ?_; simp only [hP]; refine hT 7 ⟨some 28, _, _, _, _, _⟩ rfl hHeld ?_; simp only [hP]; refine hT 8 ⟨some 29, _, _, _, _, _⟩ rfl hHeld ?_; simp only [hP]; refine hT 9 ⟨some 30, _, _, _, _, _⟩ rfl hHeld ?_; simp only [hP]
  refine hC 10 rfl fun K hK => ?_
  go_simp; refine (CW.out _ HRK.out).mono ?_; rintro e w3 ⟨rfl, hR3, hC3⟩; have h3 := JlS.rc hHeld HFAR.out hC3; have HR3 := hI hR3; have HC3 := hI (HRC.out.trans hC3); clear hR3 hC3; refine hK.out _ _ h3 (fun _ => ?_); clear hK K
  refine hC 11 rfl fun K hK => ?_
  go_simp; refine (wrap_nil _ _ _).mono ?_; rintro e w' ⟨rfl, rfl⟩; refine hK.out _ _ h3 (fun _ => ?_); clear hK K; refine hT 12 ⟨some 6, _, _, _, _, _⟩ rfl h3 ?_; simp only [hP]; refine wpAnyH_done (by kernel_rfl) ?_ _; refine NoPanic.normal ?_; go_wp2_with fail; rw [EW.out]; go_ret; exact ⟨rfl, HR3.out, HC3.out⟩
 ·have EW := hI (show wrapR opJLog x.q q (slotOps cf (x.q % cf.s) x q) = wrapV opJLog x.q (wrapV op i (errV (runC q (slotOps cf (x.q % cf.s) x q)))) by rw [← r2]; exact if_neg r1)
  generalize wrapR opJLog x.q q (slotOps cf (x.q % cf.s) x q) = WR at *; rw [r2] at CW; clear r1 r2; generalize runS q (slotOps cf (x.q % cf.s) x q) = q2 at *; generalize runC q (slotOps cf (x.q % cf.s) x q) = rc at *; unfold wrapV errV at CW; refine wp_region_noPanic ?_; refine wp_region_held_drew (S := (fun w' => JlS cf x (.slice a0 x.b.length cap0) w w')) (by kernel_rfl) h2.drew (fun hHeld => ?_); refine hT 0 ⟨some 21, _, _, _, _, _⟩ rfl hHeld ?_; simp only [hP]; refine hT 1 ⟨some 22, _, _, _, _, _⟩ rfl hHeld ?_; simp only [hP]; refine hT 2 ⟨some 23, _, _, _, _, _⟩ rfl hHeld ?_; simp only [hP]; refine hT 3 ⟨some 24, _, _, _, _, _⟩ rfl hHeld ?_; simp only [hP]; refine hT 4 ⟨some 25, _, _, _, _, _⟩ rfl hHeld ?_; simp only [hP]; refine hT 5 ⟨some 26, _, _, _, _, _⟩ rfl hHeld ?_; simp only [hP]; refine hT 6 ⟨some 27, _, _, _, _, _⟩ rfl hHeld ?_; simp only [hP]; refine hT 7 ⟨some 28, _, _, _, _, _⟩ rfl hHeld ?_; simp only [hP]; refine hT 8 ⟨some 29, _, _, _, _, _⟩ rfl hHeld ?_; simp only [hP]; refine hT 9 ⟨some 30, _, _, _, _, _⟩ rfl hHeld ?_; simp only [hP]
  refine hC 10 rfl fun K hK => ?_
  go_simp; refine (CW.out _ HRK.out).mono ?_; rintro e w3 ⟨rfl, hR3, hC3⟩; have h3 := JlS.rc hHeld HFAR.out hC3; have HR3 := hI hR3; have HC3 := hI (HRC.out.trans hC3); clear hR3 hC3; refine hK.out _ _ h3 (fun _ => ?_); clear hK K
  refine hC 11 rfl fun K hK => ?_
  go_simp; refine (wrap_some _ _ _ _ _).mono ?_; rintro e w' ⟨rfl, rfl⟩; refine hK.out _ _ h3 (fun _ => ?_); clear hK K; refine hT 12 ⟨some 6, _, _, _, _, _⟩ rfl h3 ?_; simp only [hP]; refine wpAnyH_done (by kernel_rfl) ?_ _; refine NoPanic.normal ?_; go_wp2_with fail; rw [EW.out]; exact bodyPost_ret (v := wrapV opJLog x.q (wrapV op i (errV rc))) (by simp [results, Tryz.results101, go_sem, wrapV, errV, opJLog]) rfl ⟨rfl, HR3.out, HC3.out⟩
theorem jlog_any (w : World) (h : RackIn lo w c q) (cf : Cf) (x : Rc) (v0 : Value) (hx : x.is) (hv : SlK w.heap.size w v0 x.b) :
  Calls Tryz.prog 101 #[.pointer (some ⟨c.r, 0, none⟩), .agg (cfA cf), .agg (rcA x.q x.t v0)] w (NextR lo c q.n (Rk.jlog q cf x) (Rk.jlogV q cf x) w) := by
 cases hb : (cf.fits q && jright cf x) with
 | false =>
  rw [show Rk.jlog q cf x = q from if_neg (by rw [hb]; decide), show Rk.jlogV q cf x = wrapV opJLog x.q (errV 1) from if_neg (by rw [hb]; decide)]; exact jlog_no w h cf x v0 hv hb
 | true =>
  rw [show Rk.jlog q cf x = _ from if_pos hb, show Rk.jlogV q cf x = _ from if_pos hb]; simp only [Bool.and_eq_true] at hb; exact jlog_yes w h cf x v0 hx hv hb.1 hb.2
theorem rep_flat (hl : l.length = m) (hm : 0 < m) (k : Nat) : (madeCells l.toArray (k * m)).toList = (List.replicate k l).flatten := by
 have hall : ∀ c ∈ List.replicate k l, c.length = m := fun c hc => by rw [List.eq_of_mem_replicate hc]; exact hl
 refine List.ext_getElem (by rw [flat_len hall]; simp [madeCells]) fun p h1 h2 => ?_
 have hp : p < k * m := by simpa [madeCells] using h1
 have hi : p / m < k := (Nat.div_lt_iff_lt_mul hm).2 hp
 have hj : p % m < m := Nat.mod_lt _ hm
 have e1 : (List.replicate k l).flatten[p]? = l[p % m]? := by
  have hg : ((List.replicate k l).getD (p / m) [])[p % m]? = some (l[p % m]'(by rw [hl]; exact hj)) := by
   rw [List.getD_eq_getElem?_getD, List.getElem?_replicate, if_pos hi]; exact List.getElem?_eq_getElem (by show p % m < l.length; rw [hl]; exact hj)
  have := flat_get hall (i := p / m) (j := p % m) (by simpa using hi) hg; rw [Nat.mul_comm, Nat.div_add_mod] at this; rw [this]; exact (List.getElem?_eq_getElem (by rw [hl]; exact hj)).symm
 have e2 : (madeCells l.toArray (k * m)).toList[p]? = l[p % m]? := by
  simp [madeCells, hl, hp, hj]
 rw [List.getElem?_eq_getElem h1] at e2
 rw [List.getElem?_eq_getElem h2] at e1
 rw [← e1] at e2
 injection e2
theorem make_blocks (k : Nat) (hk : k ≤ 8) (w : World) : (Instr.makeSlice 59 (.int .i64 (k : Int)) (.int .i64 (k : Int))).run Tryz.prog w = .ok (.slice (some ⟨w.heap.size, 0, none⟩) k k) (w.alloc (.cells (madeCells (bytesV z108).toArray (k * 108)) 87)) := by
 obtain ⟨i0, hi0, hz⟩ := Option.map_eq_some_iff.1 Tryz.infoBlock
 simp only [Prod.mk.injEq] at hz
 obtain ⟨hz0, hz1, hz2⟩ := hz
 have h := run_makeSlice (P := Tryz.prog) w 59 87 i0 (.agg (bytesV z108).toArray) Tryz.underlying59 hi0 hz0 .i64 .i64 (k : Int) (k : Int) (by omega) (by omega) (by rw [hz1]; simp; omega) (by rw [hz2]; omega) (by omega)
 rw [hz1] at h
 simpa [Value.cells] using h
theorem jblank_no (w : World) (h : RackIn lo w c q) (cf : Cf) (s : Int) (hno : jhasSlot cf q s = false) :
  Calls Tryz.prog 63 #[.pointer (some ⟨c.r, 0, none⟩), .agg (cfA cf), .int .i64 s] w (NextR lo c q.n q (wrapV opJBlank s (errV 1)) w) := by
 have HB := hI (one_below w (.cells (cfA cf) 24))
 have HF := hI (jhas_any _ (h.below HB.out) cf s)
 rw [hno] at HF
 have HR := hI (h.below HB.out)
 obtain ⟨d0, d1, d2, d3, d4⟩ := (cfB_new w cf).cells
 clear h hno
 go_enter Tryz.func63, Tryz.ntmps63
 go_wp2_with (first
  | (go_at_call 85; refine HF.out.mono ?_; rintro e w2 ⟨rfl, hb2⟩; have HB2 := hI (bthen HB.out hb2); have HR2 := hI (HR.out.below hb2); clear hb2)
  | (go_at_call 32; refine (wrap_some _ _ _ _ _).mono ?_; rintro e w' ⟨rfl, rfl⟩))
 exact bodyPost_ret (v := wrapV opJBlank s (errV 1)) (by simp [results, Tryz.results63, go_sem, wrapV, errV, opJBlank]) rfl ⟨rfl, HR2.out, RC.of_below HB2.out⟩
def RcNew (x : Rc) (w : World) (e : Ending) (w' : World) : Prop := ∃ v, e = .returned (.agg (rcA x.q x.t v)) ∧ w'.ownsRow w.heap.size 87 108 v x.b.length (x.b.map bytesV).flatten ∧ Below w.heap.size w w'
theorem junused_any (cf : Cf) (w : World) (h : CfRight cf) : Calls Tryz.prog 87 #[.agg (cfA cf)] w (RcNew (blankR cf) w) := by
 have HB := hI (balloc (one_below w (.cells (cfA cf) 24)) (.cells #[.int .i64 0, .int .i64 0, .slice none 0 0] 135))
 obtain ⟨k, hk⟩ := Int.eq_ofNat_of_zero_le (show 0 ≤ cf.k by have := h.2.2.1; omega)
 have hk8 : k ≤ 8 := by have := h.2.2.2.1; have := h.2.2.2.2.1; omega
 have CR := hI (fun W => sright_any cf W)
 simp only [show cfRightB cf = true from decide_eq_true h] at CR
 have HBR := hI (show blankR cf = ⟨0, 0, List.replicate k z108⟩ by unfold blankR; rw [hk]; rfl)
 rw [HBR.out]
 have hmk := make_blocks k hk8
 have HMD := hI (fun (W : World) (hW : w.heap.size ≤ W.heap.size) => show (W.alloc (.cells (madeCells (bytesV z108).toArray (k * 108)) 87)).ownsRow w.heap.size 87 108 (.slice (some ⟨W.heap.size, 0, none⟩) k k) (List.replicate k z108).length ((List.replicate k z108).map bytesV).flatten by
  have h := own_new W w.heap.size (madeCells (bytesV z108).toArray (k * 108)) 87 108 k hW (size_madeCells _ _) (by unfold maxLen; omega); rw [rep_flat (by rw [bytesV_length]; simp [z108]) (by decide), show List.replicate k (bytesV z108) = (List.replicate k z108).map bytesV by rw [List.map_replicate]] at h; rw [List.length_replicate]
  exact h)
 have HC0 := hI (show CfB cf w.heap.size ((w.alloc (.cells (cfA cf) 24)).alloc (.cells #[.int .i64 0, .int .i64 0, .slice none 0 0] 135)) from CfB.below (cfB_new w cf) (B := w.heap.size + 1) (by omega) ((one_below _ _).mono (by simp)))
 obtain ⟨d0, d1, d2, d3, d4⟩ := HC0.out.cells
 have HK := hI hk
 clear h hk
 go_enter Tryz.func87, Tryz.ntmps87
 go_wp2_with fail
 refine (CR.out _).mono ?_
 rintro e w3 ⟨rfl, hb3⟩
 have HB3 := hI (bthen HB.out hb3)
 have hs3 := hb3.size
 have HX := hI (show w3.heap[w.heap.size + 1]? = some (.cells #[.int .i64 0, .int .i64 0, .slice none 0 0] 135 (0, 0)) by
  rw [hb3.block (w.heap.size + 1) (by simp)]; have := heap_alloc_new (w.alloc (.cells (cfA cf) 24)) (.cells #[.int .i64 0, .int .i64 0, .slice none 0 0] 135)
  simpa using this)
 have e1 : w3.cell? ⟨w.heap.size, 1, none⟩ = some (.int .i64 (k : Int)) := by
  rw [hb3.cell (p := ⟨w.heap.size, 1, none⟩) (by simp; omega), ← HK.out]; exact d1
 simp at hs3
 clear hb3 d0 d1 d2 d3 d4
 have HX5 := hI (fun o => show (w3.alloc o).heap[w.heap.size + 1]? = _ from ((one_below w3 o).block (w.heap.size + 1) (by omega)).trans HX.out)
 have x0 : ∀ o, (w3.alloc o).cell? ⟨w.heap.size + 1, 0, none⟩ = some (.int .i64 0) := fun o => by rw [cell_of_row _ _ _ _ _ (0, 0) (HX5.out o)]; rfl
 have x1 : ∀ o, (w3.alloc o).cell? ⟨w.heap.size + 1, 1, none⟩ = some (.int .i64 0) := fun o => by rw [cell_of_row _ _ _ _ _ (0, 0) (HX5.out o)]; rfl
 have x2 : ∀ o, (w3.alloc o).cell? ⟨w.heap.size + 1, 2, none⟩ = some (.slice none 0 0) := fun o => by rw [cell_of_row _ _ _ _ _ (0, 0) (HX5.out o)]; rfl
 have f0 : ∀ o, (w3.alloc o).frozen? ⟨w.heap.size + 1, 0, none⟩ = false := fun o => by unfold World.frozen?; simp only [HX5.out o]; simp
 have f1 : ∀ o, (w3.alloc o).frozen? ⟨w.heap.size + 1, 1, none⟩ = false := fun o => by unfold World.frozen?; simp only [HX5.out o]; simp
 have f2 : ∀ o, (w3.alloc o).frozen? ⟨w.heap.size + 1, 2, none⟩ = false := fun o => by unfold World.frozen?; simp only [HX5.out o]; simp
 go_wp2_with fail
 have hne : (Value.slice (some ⟨w3.heap.size, 0, none⟩) k k).ownBlock = none ∨ (Value.slice (some ⟨w3.heap.size, 0, none⟩) k k).ownBlock ≠ some (w.heap.size + 1) := Or.inr fun e => by
  injection e with e; have e : w3.heap.size = w.heap.size + 1 := e; omega
 have HRW := hI (own_kept_set (i := 2) (u := .slice (some ⟨w3.heap.size, 0, none⟩) k k) (own_kept_set (i := 1) (u := .int .i64 0) (own_kept_set (i := 0) (u := .int .i64 0) (HMD.out w3 (by omega)) hne) hne) hne)
 have HBF := hI ((((balloc HB3.out (.cells (madeCells (bytesV z108).toArray (k * 108)) 87)).setCell (p := ⟨w.heap.size + 1, 0, none⟩) (Nat.le_succ _) (.int .i64 0)).setCell (p := ⟨w.heap.size + 1, 1, none⟩) (Nat.le_succ _) (.int .i64 0)).setCell (p := ⟨w.heap.size + 1, 2, none⟩) (Nat.le_succ _) (.slice (some ⟨w3.heap.size, 0, none⟩) k k))
 clear hne
 exact bodyPost_ret (v := .agg #[.int .i64 0, .int .i64 0, .slice (some ⟨w3.heap.size, 0, none⟩) k k]) (by simp [results, Tryz.results87, go_sem, x0, x1, x2]) rfl ⟨_, rfl, HRW.out, HBF.out⟩
theorem jblank_yes (w : World) (h : RackIn lo w c q) (cf : Cf) (s : Int) (hy : jhasSlot cf q s = true) :
  Calls Tryz.prog 63 #[.pointer (some ⟨c.r, 0, none⟩), .agg (cfA cf), .int .i64 s] w (NextR lo c q.n (runS q (slotOps cf s (blankR cf) q)) (wrapR opJBlank s q (slotOps cf s (blankR cf) q)) w) := by
 have HB := hI (one_below w (.cells (cfA cf) 24))
 have HF := hI (jhas_any _ (h.below HB.out) cf s)
 rw [hy] at HF
 have HR := hI (h.below HB.out)
 have HFAR := hI (show Far w.heap.size c q.n from h.far)
 have HCB := hI (cfB_new w cf)
 obtain ⟨d0, d1, d2, d3, d4⟩ := (cfB_new w cf).cells
 unfold jhasSlot at hy
 simp only [Bool.and_eq_true, decide_eq_true_eq] at hy
 obtain ⟨hf, h0, h1⟩ := hy
 have hr := (fits_right hf).1
 have hlb : (((blankR cf).b.length : Nat) : Int) = cf.k := by unfold blankR; rw [List.length_replicate]; have := hr.2.2.1; omega
 have CW0 := hI (fun (w' : World) (hw : RackIn lo w' c q) (v0 : Value) (hv : SlK w'.heap.size w' v0 (blankR cf).b) => jwrite_any w' hw cf s (blankR cf) v0 hf h0 h1 (blankR_is cf) hlb hv)
 have CN := hI (fun W => junused_any cf W hr)
 clear h hf h0 h1 hr hlb
 go_enter Tryz.func63, Tryz.ntmps63
 go_wp2_with (go_at_call 85; refine HF.out.mono ?_; rintro e w3 ⟨rfl, hb2⟩; have HB2 := hI (bthen HB.out hb2); have HR2 := hI (HR.out.below hb2); have H3 := hI (CfB.below HCB.out (B := (w.alloc (.cells (cfA cf) 24)).heap.size) (by simp) hb2); have HL3 := hI (show w.heap.size < w3.heap.size by have := hb2.size; simp at this; omega); clear hb2)
 have h3 : CfB cf w.heap.size w3.drew ∧ w.heap.size < w3.drew.heap.size := ⟨H3.out, HL3.out⟩
 clear d0 d1 d2 d3 d4
 have d0 : ∀ w', (CfB cf w.heap.size w' ∧ w.heap.size < w'.heap.size) → w'.cell? ⟨w.heap.size, 0, none⟩ = some (.int .i64 cf.id) := fun w' h => h.1.cell 0
 have d1 : ∀ w', (CfB cf w.heap.size w' ∧ w.heap.size < w'.heap.size) → w'.cell? ⟨w.heap.size, 1, none⟩ = some (.int .i64 cf.k) := fun w' h => h.1.cell 1
 have d2 : ∀ w', (CfB cf w.heap.size w' ∧ w.heap.size < w'.heap.size) → w'.cell? ⟨w.heap.size, 2, none⟩ = some (.int .i64 cf.n) := fun w' h => h.1.cell 2
 have d3 : ∀ w', (CfB cf w.heap.size w' ∧ w.heap.size < w'.heap.size) → w'.cell? ⟨w.heap.size, 3, none⟩ = some (.int .i64 cf.t) := fun w' h => h.1.cell 3
 have d4 : ∀ w', (CfB cf w.heap.size w' ∧ w.heap.size < w'.heap.size) → w'.cell? ⟨w.heap.size, 4, none⟩ = some (.int .i64 cf.s) := fun w' h => h.1.cell 4
 have hrcA : ∀ v, rcA (blankR cf).q (blankR cf).t v = #[.int .i64 0, .int .i64 0, v] := fun v => rfl
 simp only [hrcA] at CN CW0
 rcases runE_form (slotOps cf s (blankR cf) q) q with ⟨r1, r2⟩ | ⟨r1, op, i, r2⟩
 ·have EW := hI (show wrapR opJBlank s q (slotOps cf s (blankR cf) q) = .nilIface from if_pos r1)
  generalize wrapR opJBlank s q (slotOps cf s (blankR cf) q) = WR at *; clear r1; generalize runE q (slotOps cf s (blankR cf) q) = re at *; generalize runS q (slotOps cf s (blankR cf) q) = q2 at *; refine wp_region_noPanic ?_; refine wp_region_held_drew (S := (fun w' => CfB cf w.heap.size w' ∧ w.heap.size < w'.heap.size)) (by kernel_rfl) ⟨h3.1, h3.2⟩ (fun hHeld => ?_); refine hT 0 ⟨some 15, _, _, _, _, _⟩ rfl hHeld ?_; simp only [hP]; refine hT 1 ⟨some 16, _, _, _, _, _⟩ rfl hHeld ?_; simp only [hP]; refine hT 2 ⟨some 17, _, _, _, _, _⟩ rfl hHeld ?_; simp only [hP]; refine hT 3 ⟨some 18, _, _, _, _, _⟩ rfl hHeld ?_; simp only [hP]; refine hT 4 ⟨some 19, _, _, _, _, _⟩ rfl hHeld ?_; simp only [hP]
  refine hC 5 rfl fun K hK => ?_
  go_simp; refine (CN.out _).mono ?_; rintro e w5 ⟨v5, rfl, ho5, hb5⟩
  have h5 : CfB cf w.heap.size w5 ∧ w.heap.size < w5.heap.size := ⟨CfB.below hHeld.1 hHeld.2 hb5, Nat.lt_of_lt_of_le hHeld.2 hb5.size⟩
  have HR5 := hI ((HR2.out.drewN 1).below hb5); have HB5 := hI (bthen HB2.out.drew hb5); have HW5 := hI (CW0.out w5 HR5.out v5 (slK_own ho5 (blankR_is cf) rfl)); rw [r2] at HW5; obtain ⟨g5, c5, rfl, -⟩ := own_slice' ho5; clear ho5 hb5; refine hK.out _ _ h5 (fun _ => ?_); clear hK K
  refine hC 6 rfl fun K hK => ?_
  go_simp; refine HW5.out.mono ?_; rintro e w4 ⟨rfl, hR4, hC4⟩
  have h4 : CfB cf w.heap.size w4 ∧ w.heap.size < w4.heap.size := ⟨CfB.rc h5.1 HFAR.out h5.2 hC4, Nat.lt_of_lt_of_le h5.2 hC4.size⟩
  have HR4 := hI hR4; have HC4 := hI ((RC.of_below HB5.out).trans hC4); clear hR4 hC4; refine hK.out _ _ h4 (fun _ => ?_); clear hK K
  refine hC 7 rfl fun K hK => ?_
  go_simp; refine (wrap_nil _ _ _).mono ?_; rintro e w' ⟨rfl, rfl⟩; refine hK.out _ _ h4 (fun _ => ?_); clear hK K; refine hT 8 ⟨some 6, _, _, _, _, _⟩ rfl h4 ?_; simp only [hP]; refine wpAnyH_done (by kernel_rfl) ?_ _; refine NoPanic.normal ?_; go_wp2_with fail; rw [EW.out]; go_ret; exact ⟨rfl, HR4.out, HC4.out⟩
 ·have EW := hI (show wrapR opJBlank s q (slotOps cf s (blankR cf) q) = wrapV opJBlank s (wrapV op i (errV (runC q (slotOps cf s (blankR cf) q)))) by rw [← r2]; exact if_neg r1)
  generalize wrapR opJBlank s q (slotOps cf s (blankR cf) q) = WR at *; clear r1; generalize runE q (slotOps cf s (blankR cf) q) = re at *; generalize runS q (slotOps cf s (blankR cf) q) = q2 at *; generalize runC q (slotOps cf s (blankR cf) q) = rc at *; refine wp_region_noPanic ?_; refine wp_region_held_drew (S := (fun w' => CfB cf w.heap.size w' ∧ w.heap.size < w'.heap.size)) (by kernel_rfl) ⟨h3.1, h3.2⟩ (fun hHeld => ?_); refine hT 0 ⟨some 15, _, _, _, _, _⟩ rfl hHeld ?_; simp only [hP]; refine hT 1 ⟨some 16, _, _, _, _, _⟩ rfl hHeld ?_; simp only [hP]; refine hT 2 ⟨some 17, _, _, _, _, _⟩ rfl hHeld ?_; simp only [hP]; refine hT 3 ⟨some 18, _, _, _, _, _⟩ rfl hHeld ?_; simp only [hP]; refine hT 4 ⟨some 19, _, _, _, _, _⟩ rfl hHeld ?_; simp only [hP]
  refine hC 5 rfl fun K hK => ?_
  go_simp; refine (CN.out _).mono ?_; rintro e w5 ⟨v5, rfl, ho5, hb5⟩
  have h5 : CfB cf w.heap.size w5 ∧ w.heap.size < w5.heap.size := ⟨CfB.below hHeld.1 hHeld.2 hb5, Nat.lt_of_lt_of_le hHeld.2 hb5.size⟩
  have HR5 := hI ((HR2.out.drewN 1).below hb5); have HB5 := hI (bthen HB2.out.drew hb5); have HW5 := hI (CW0.out w5 HR5.out v5 (slK_own ho5 (blankR_is cf) rfl)); rw [r2] at HW5; unfold wrapV errV at HW5; obtain ⟨g5, c5, rfl, -⟩ := own_slice' ho5; clear ho5 hb5; refine hK.out _ _ h5 (fun _ => ?_); clear hK K
  refine hC 6 rfl fun K hK => ?_
  go_simp; refine HW5.out.mono ?_; rintro e w4 ⟨rfl, hR4, hC4⟩
  have h4 : CfB cf w.heap.size w4 ∧ w.heap.size < w4.heap.size := ⟨CfB.rc h5.1 HFAR.out h5.2 hC4, Nat.lt_of_lt_of_le h5.2 hC4.size⟩
  have HR4 := hI hR4; have HC4 := hI ((RC.of_below HB5.out).trans hC4); clear hR4 hC4; refine hK.out _ _ h4 (fun _ => ?_); clear hK K
  refine hC 7 rfl fun K hK => ?_
  go_simp; refine (wrap_some _ _ _ _ _).mono ?_; rintro e w' ⟨rfl, rfl⟩; refine hK.out _ _ h4 (fun _ => ?_); clear hK K; refine hT 8 ⟨some 6, _, _, _, _, _⟩ rfl h4 ?_; simp only [hP]; refine wpAnyH_done (by kernel_rfl) ?_ _; refine NoPanic.normal ?_; go_wp2_with fail; rw [EW.out]; exact bodyPost_ret (v := wrapV opJBlank s (wrapV op i (errV rc))) (by simp [results, Tryz.results63, go_sem, wrapV, errV, opJBlank]) rfl ⟨rfl, HR4.out, HC4.out⟩
theorem jblank_any (w : World) (h : RackIn lo w c q) (cf : Cf) (s : Int) :
  Calls Tryz.prog 63 #[.pointer (some ⟨c.r, 0, none⟩), .agg (cfA cf), .int .i64 s] w (NextR lo c q.n (Rk.jblank q cf s) (Rk.jblankV q cf s) w) := by
 cases hb : jhasSlot cf q s with
 | false =>
  rw [show Rk.jblank q cf s = q from if_neg (by rw [hb]; decide), show Rk.jblankV q cf s = wrapV opJBlank s (errV 1) from if_neg (by rw [hb]; decide)]; exact jblank_no w h cf s hb
 | true =>
  rw [show Rk.jblank q cf s = _ from if_pos hb, show Rk.jblankV q cf s = _ from if_pos hb]; exact jblank_yes w h cf s hb
end Go.Proofs.YtilljaneegbhlaaGreatDoor
