/-
  A frame that lies in a block; what a chain of appends lays.
-/
import Derived.Test.YtjkponhdpeelpaaHKit
import Derived.Test.YtjkponhdpeelpaaKTurnL
import Derived.Laws.MakeOwn
namespace Go.Proofs.Ytjkponhdpeelpaa
open Go.RowKit Crc Hf
/-- The frame lies in block b. -/
def FrIn (f : Fr) (b : Nat) (w : World) : Prop := f.is ∧ ∀ j v, (frC f)[j]? = some v → w.cell? ⟨b, j, none⟩ = some v
theorem FrIn.below {f : Fr} {b B : Nat} {w w' : World} (h : FrIn f b w) (hb : b < B) (hB : Below B w w') : FrIn f b w' := ⟨h.1, fun j v hv => by rw [hB.cell (p := ⟨b, j, none⟩) hb]; exact h.2 j v hv⟩
theorem frIn_new (w : World) (f : Fr) (h : f.is) : FrIn f w.heap.size (w.alloc (.cells (frA f) 24)) := ⟨h, fun j v hv => new_cells w _ _ j v (by simpa [frA] using hv)⟩
theorem FrIn.c0 {f : Fr} {b : Nat} {w : World} (h : FrIn f b w) : w.cell? ⟨b, 0, none⟩ = some (.int .i64 f.k) := h.2 0 _ rfl
theorem FrIn.c1 {f : Fr} {b : Nat} {w : World} (h : FrIn f b w) : w.cell? ⟨b, 1, none⟩ = some (.int .i64 f.s) := h.2 1 _ rfl
theorem FrIn.c2 {f : Fr} {b : Nat} {w : World} (h : FrIn f b w) : w.cell? ⟨b, 2, none⟩ = some (.int .i64 f.t) := h.2 2 _ rfl
theorem FrIn.c3 {f : Fr} {b : Nat} {w : World} (h : FrIn f b w) : w.cell? ⟨b, 3, none⟩ = some (.int .i64 f.g) := h.2 3 _ rfl
theorem FrIn.range {f : Fr} {b : Nat} {w : World} (h : FrIn f b w) : w.rangeAt b 0 (frC f) := fun j v hv => by rw [Nat.zero_add]; exact h.2 j v hv
theorem FrIn.data {f : Fr} {b : Nat} {w : World} (h : FrIn f b w) : SlB (b + 1) w (.slice (some ⟨b, 4, none⟩) 108 108) f.d := by
  have hi : f.d.length = 108 := h.1
  refine Or.inr ⟨b, 4, 108, by rw [hi], by omega, fun x hx => ?_, by omega, by omega⟩
  refine h.2 (4 + x) _ ?_
  rw [show 4 + x = x + 4 by omega]
  exact bytesV_at hx
theorem run_load_frame {f : Fr} {b : Nat} {w : World} (h : FrIn f b w) : (Instr.loadAt 24 (.pointer (some ⟨b, 0, none⟩))).run Try.prog w = .ok (.agg (frA f)) w :=
  run_loadAt_mid w b 0 _ (frC f) _ h.range Try.underlying24 rfl (by rw [frC_length h.1]; exact size_frame)
/-- The size of a frame under one name: so that the walk leaves loads and stores of frames whole. -/
def szFr : Nat := 112
theorem szFr_run (w : World) : (sizeOf 24).run Try.prog w = .ok szFr w := by go_simp; rfl
theorem FrIn.load {f : Fr} {b : Nat} {w' : World} (h : FrIn f b w') : (loadCellsFrom ⟨b, 0, none⟩ 0 szFr #[]).run Try.prog w' = .ok (frA f) w' := by
  have := run_loadCells_list (P := Try.prog) w' ⟨b, 0, none⟩ (frC f) (fun j v hv => by rw [Addr.add_mid, Nat.zero_add]; exact h.2 j v hv)
  rw [frC_length h.1] at this
  exact this
theorem zero_frame (w : World) : (zeroValue 24).run Try.prog w = .ok (.agg (frA zeroF)) w := by
  have h : (Try.prog.info? 24).map (fun i => (i.zero, i.size)) = some (some (.agg (frA zeroF)), 112) := by kernel_rfl
  exact (zero_of_info h).1 w
theorem frA_one (g : Fr) : (frA g).all (·.oneCell') = true := by
  refine all_oneCell_toArray fun v hv => ?_
  simp only [frC, List.mem_append, List.mem_cons, List.not_mem_nil, or_false] at hv
  rcases hv with (rfl | rfl | rfl | rfl) | hv
  · rfl
  · rfl
  · rfl
  · rfl
  · obtain ⟨c, _, rfl⟩ := List.mem_map.1 hv
    rfl
theorem store_frame {f g : Fr} (hf : f.is) (hg : g.is) (w : World) : (storeVar 24 ⟨w.heap.size, 0, none⟩ (.agg (frA g))).run Try.prog (w.alloc (.cells (frA f) 24)) = .ok () (w.alloc (.cells (frA g) 24)) :=
  run_storeVar_new (P := Try.prog) w 24 (frA f) (frA g) (by rw [frA_size hg]; exact size_frame) (by rw [frA_size hf, frA_size hg]) (frA_one g)
theorem storeCells_frame {f g : Fr} (hf : f.is) (hg : g.is) (w : World) : (storeCells ⟨w.heap.size, 0, none⟩ (frC g) 0).run Try.prog (w.alloc (.cells (frA f) 24)) = .ok () (w.alloc (.cells (frA g) 24)) := by
  have := run_storeCells_new (P := Try.prog) w 24 (frA f) (frA g) (by rw [frA_size hg]; exact size_frame) (by rw [frA_size hf, frA_size hg]) (frA_one g)
  simpa using this
theorem make_room (w : World) : (Instr.makeSlice 25 (.int .i64 0) (.int .i64 128)).run Try.prog w = .ok (.slice (some ⟨w.heap.size, 0, none⟩) 0 128) (w.alloc (.cells (madeCells #[.int .u8 0] 128) 5)) := by
  obtain ⟨i0, hi0, hz0, hz1, hz2⟩ := info_u8
  have h := run_makeSlice (P := Try.prog) w 25 5 i0 (.int .u8 0) Try.underlying25 hi0 hz0 .i64 .i64 0 128 (by decide) (by decide) (by rw [hz1]; decide) (by rw [hz2]; decide) (by decide)
  rw [hz1] at h
  exact h
theorem made_own {w : World} {g : Nat} (h : w.heap.size = g) : (w.alloc (.cells (madeCells #[.int .u8 0] 128) 5)).ownsRow g 5 1 (.slice (some ⟨g, 0, none⟩) 0 128) 0 (bytesV []) := by
  subst h
  exact World.ownsRow_made w _ 128 (Nat.le_refl _) (by decide) (by rw [size_madeCells])
theorem wpList_append_str (w : World) {ops : Array Oper} {rest : List Oper} {o : Oper} {a : Act} {Q : Exit → Act → World → Prop} (hgd : o.guard = none) (s x : Operand)
    (ho : o.op = .call { callee := .builtin .append, args := #[s, x], argTypes := #[25, 9] })
    (base : Nat) (v : Value) (n : Nat) (xs : List Value) (hsv : a.eval s = v) (hown : w.ownsRow base 5 1 v n xs)
    (y : ByteArray) (hx : a.eval x = .string y) (h63 : n + y.size ≤ 10000000) (hbase : base ≤ w.heap.size)
    (h : ∀ v' w', w'.ownsRow base 5 1 v' (n + y.size) (xs ++ byteCells y) → Grew w v.ownBlock w' v'.ownBlock → wpList Try.prog ops Q rest (a.put o.dst v') w') : wpList Try.prog ops Q (o :: rest) a w := by
  obtain ⟨i0, hi0, hz0, hz1, hz2⟩ := info_u8
  exact wpList_append_src w hgd s x 25 9 ho base 5 i0 (.int .u8 0) 1 1 Try.underlying25 hi0 hz0 hz1 hz2 rfl v n xs hsv hown _ y.size _ hx (Src.ofString _ Try.underlying9 y) (by unfold maxLen; omega) (by omega) hbase fun v' w' h1 h2 _ => h v' w' h1 h2
/-- What a chain of appends has laid: the row, and that nothing ahead of block B has turned. -/
def Laid (B : Nat) (w0 : World) (v : Value) (l : List UInt8) (w : World) : Prop := w.ownsRow B 5 1 v l.length (bytesV l) ∧ Below B w0 w ∧ B ≤ w.heap.size
theorem laid_str {w0 w w' : World} {B : Nat} {v v' : Value} {l m : List UInt8} {y : ByteArray} (hw : Laid B w0 v l w) (hm : byteCells y = bytesV m) (hs : y.size = m.length) (ho : w'.ownsRow B 5 1 v' (l.length + y.size) (bytesV l ++ byteCells y)) (hg : Grew w v.ownBlock w' v'.ownBlock) : Laid B w0 v' (l ++ m) w' := by
  refine ⟨?_, hw.2.1.trans (hg.below hw.2.2 fun _ hq => (own_block hw.1 hq).1), Nat.le_trans hw.2.2 hg.size⟩
  rw [List.length_append, bytesV_append, ← hm, ← hs]; exact ho
theorem laid_lit {w0 w w' wl : World} {B : Nat} {v v' : Value} {l m : List UInt8} (hw : Laid B w0 v l w) (hl : Below w.heap.size w wl) (ho : w'.ownsRow B 5 1 v' (l.length + m.length) (bytesV l ++ bytesV m)) (hg : Grew wl v.ownBlock w' v'.ownBlock) : Laid B w0 v' (l ++ m) w' := by
  refine ⟨?_, hw.2.1.trans ((hl.mono hw.2.2).trans (hg.below (Nat.le_trans hw.2.2 hl.size) fun _ hq => (own_block hw.1 hq).1)), Nat.le_trans hw.2.2 (Nat.le_trans hl.size hg.size)⟩
  rw [List.length_append, bytesV_append]; exact ho
theorem laid_num {w0 w w' : World} {B : Nat} {v v' : Value} {l m : List UInt8} (hw : Laid B w0 v l w) (ho : w'.ownsRow B 5 1 v' m.length (bytesV m)) (hg : Grew w v.ownBlock w' v'.ownBlock) : Laid B w0 v' m w' :=
  ⟨ho, hw.2.1.trans (hg.below hw.2.2 fun _ hq => (own_block hw.1 hq).1), Nat.le_trans hw.2.2 hg.size⟩
end Go.Proofs.Ytjkponhdpeelpaa
