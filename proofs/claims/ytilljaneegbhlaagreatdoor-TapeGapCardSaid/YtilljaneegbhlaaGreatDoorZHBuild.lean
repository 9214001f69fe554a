import Derived.Test.YtilljaneegbhlaaGreatDoorZBytes
import Derived.Test.YtilljaneegbhlaaGreatDoorZHModel
import Derived.ChangeKeysEq
import Derived.Deep.MidRow
import Derived.Deep.WholeRow
import Derived.Test.YtilljaneegbhlaaGreatDoorZKTurnL
import Derived.Laws.MakeOwn
import Derived.Laws.Tables
namespace Go.Proofs.YtilljaneegbhlaaGreatDoor
open Go.RowKit Hf
def frC (f : Fr) : List Value := [.int .i64 f.k, .int .i64 f.s, .int .i64 f.t, .int .i64 f.g] ++ bytesV f.d
abbrev frA (f : Fr) : Array Value := (frC f).toArray
variable {f : Fr}
theorem frC_length (h : f.is) : (frC f).length = 112 := by unfold Fr.is at h; simp [frC, bytesV_length, h]
theorem frA_size (h : f.is) : (frA f).size = 112 := by simp [frA, frC_length h]
theorem frC_0 (f : Fr) : (frC f)[0]? = some (.int .i64 f.k) := rfl
theorem frC_1 (f : Fr) : (frC f)[1]? = some (.int .i64 f.s) := rfl
theorem frC_2 (f : Fr) : (frC f)[2]? = some (.int .i64 f.t) := rfl
theorem frC_3 (f : Fr) : (frC f)[3]? = some (.int .i64 f.g) := rfl
theorem frA_0 (f : Fr) : (frA f)[0]? = some (.int .i64 f.k) := rfl
theorem frA_1 (f : Fr) : (frA f)[1]? = some (.int .i64 f.s) := rfl
theorem frA_2 (f : Fr) : (frA f)[2]? = some (.int .i64 f.t) := rfl
theorem frA_3 (f : Fr) : (frA f)[3]? = some (.int .i64 f.g) := rfl
theorem size_frame : (Tryz.prog.info? 151).map (·.size) = some 112 := by kernel_rfl
theorem size_data : (Tryz.prog.info? 86).map (·.size) = some 108 := by kernel_rfl
def frEq (f g : Fr) : Bool := decide (f.k = g.k) && decide (f.s = g.s) && decide (f.t = g.t) && decide (f.g = g.g) && decide (f.d = g.d)
theorem frEq_iff (f g : Fr) : frEq f g = true ↔ f = g := by
 unfold frEq
 simp only [Bool.and_eq_true, decide_eq_true_eq]
 exact ⟨fun ⟨⟨⟨⟨h1, h2⟩, h3⟩, h4⟩, h5⟩ => Fr.same h1 h2 h3 h4 h5, fun h => by subst h; exact ⟨⟨⟨⟨rfl, rfl⟩, rfl⟩, rfl⟩, rfl⟩⟩
theorem plain_u8 : Tryz.prog.plainKey 5 = true := by kernel_rfl
theorem cells_u8 : Tryz.prog.cellsOf 5 = 1 := by kernel_rfl
theorem eq_items (w : World) (d : Nat) (l m : List UInt8) : ∀ (is : List Nat), (∀ i ∈ is, i < l.length ∧ i < m.length) →
  (Op.eqItems (d + 1) 5 1 (bytesV l).toArray (bytesV m).toArray is).run Tryz.prog w = .ok (is.all fun i => decide (l.getD i 0 = m.getD i 0)) w
 | [], _ => by simp [Op.eqItems]
 | i :: is, h => by
  obtain ⟨h1, h2⟩ := h i (List.mem_cons_self ..)
  have e1 : (bytesV l).toArray[i * 1]? = some (.int .u8 (l.getD i 0).toNat) := by rw [Nat.mul_one]; simpa using bytesV_at h1
  have e2 : (bytesV m).toArray[i * 1]? = some (.int .u8 (m.getD i 0).toNat) := by rw [Nat.mul_one]; simpa using bytesV_at h2
  have ih := eq_items w d l m is fun j hj => h j (List.mem_cons_of_mem _ hj)
  have hb : (((l.getD i 0).toNat : Int) == ((m.getD i 0).toNat : Int)) = decide (l.getD i 0 = m.getD i 0) := by
   rw [Bool.eq_iff_iff]; simp only [beq_iff_eq, decide_eq_true_eq]; exact ⟨fun e => UInt8.toNat_inj.1 (by omega), fun e => by rw [e]⟩
  simp only [Op.eqItems, Sem.run_bind, run_part_plain w plain_u8 e1, run_part_plain w plain_u8 e2, Result.andThen_ok, run_equalIn_int w d _ .u8 .u8 _ _ Tryz.underlying5, hb, List.all_cons]
  cases hq : decide (l.getD i 0 = m.getD i 0)
  ·simp
  ·simpa using ih
theorem all_eq {l m : List UInt8} {n : Nat} (hl : l.length = n) (hm : m.length = n) : ((List.range n).all fun i => decide (l.getD i 0 = m.getD i 0)) = decide (l = m) := by
 rw [Bool.eq_iff_iff]
 simp only [List.all_eq_true, List.mem_range, decide_eq_true_eq]
 exact ⟨fun h => list_eq_getD (by omega) fun x hx => h x (by omega), fun h => by subst h; intros; rfl⟩
theorem eq_data (w : World) (d : Nat) {l m : List UInt8} (hl : l.length = 108) (hm : m.length = 108) :
  (Op.equalIn (d + 2) 86 (.agg (bytesV l).toArray) (.agg (bytesV m).toArray)).run Tryz.prog w = .ok (decide (l = m)) w := by
 obtain ⟨i0, hi0, _⟩ := info_u8
 rw [run_equalIn_array w (d + 1) _ _ Tryz.underlying86 hi0, cells_u8, eq_items w d l m _ (fun i hi => by simp at hi; omega), all_eq hl hm]
theorem part_int (w : World) (cs : Array Value) (i : Nat) (v : Value) (h : cs[i]? = some v) : (part 3 cs i).run Tryz.prog w = .ok v w :=
 run_part_plain w (by kernel_rfl) h
theorem frC_data (f : Fr) (h : f.is) : List.take 108 (List.drop 4 (frC f)) = bytesV f.d := by
 unfold Fr.is at h
 show (bytesV f.d).take 108 = bytesV f.d
 rw [List.take_of_length_le (by rw [bytesV_length]; omega)]
theorem part_data (w : World) (f : Fr) (h : f.is) : (part 86 (frA f) 4).run Tryz.prog w = .ok (.agg (bytesV f.d).toArray) w := by
 have hs := size_data
 cases hq : Tryz.prog.info? 86 with
 | none => simp [hq] at hs
 | some i =>
  have hi : i.size = 108 := by simpa [hq] using hs
  simp [part, isAgg, run_underlying Tryz.underlying86, sizeOf, typeInfo, hq, hi, frC_data f h]
theorem eqFields_step (w : World) (d : Nat) (xs ys : Array Value) (f : Field) (fs : List Field) {nm : String} {ty : TypeId} {off : Nat} (h : (f.name, f.type, f.offset) = (nm, ty, off)) (hn : nm ≠ "_") {x y : Value} {r : Bool}
  (h1 : (part ty xs off).run Tryz.prog w = .ok x w) (h2 : (part ty ys off).run Tryz.prog w = .ok y w) (h3 : (Op.equalIn d ty x y).run Tryz.prog w = .ok r w) :
  (Op.eqFields d xs ys (f :: fs)).run Tryz.prog w = if r = true then (Op.eqFields d xs ys fs).run Tryz.prog w else .ok false w := by
 simp only [Prod.mk.injEq] at h
 obtain ⟨a1, a2, a3⟩ := h
 simp only [Op.eqFields, a1, a2, a3, hn, ne_eq, not_false_eq_true, if_true, Sem.run_bind, h1, h2, h3, Result.andThen_ok]
 cases r <;> simp
theorem eq_frames (w : World) (f g : Fr) (hf : f.is) (hg : g.is) : (Op.equalIn 10000 151 (.agg (frA f)) (.agg (frA g))).run Tryz.prog w = .ok (frEq f g) w := by
 have hfs : (Tryz.prog.fieldsOf 151).toList.map (fun q => (q.name, q.type, q.offset)) = [("Kind", 3, 0), ("Slot", 3, 1), ("Stripe", 3, 2), ("Gen", 3, 3), ("Data", 86, 4)] := by kernel_rfl
 rw [run_equalIn_struct w 9999 _ _ _ (by kernel_rfl) (by kernel_rfl)]
 generalize (Tryz.prog.fieldsOf 151).toList = fs at hfs
 obtain ⟨a, fs, rfl, ha, hfs⟩ := List.map_eq_cons_iff.1 hfs
 obtain ⟨b, fs, rfl, hb, hfs⟩ := List.map_eq_cons_iff.1 hfs
 obtain ⟨c, fs, rfl, hc, hfs⟩ := List.map_eq_cons_iff.1 hfs
 obtain ⟨d, fs, rfl, hd, hfs⟩ := List.map_eq_cons_iff.1 hfs
 obtain ⟨e, fs, rfl, he, hfs⟩ := List.map_eq_cons_iff.1 hfs
 obtain rfl := List.map_eq_nil_iff.1 hfs
 have ei : ∀ (x y : Int), (Op.equalIn 9999 3 (.int .i64 x) (.int .i64 y)).run Tryz.prog w = .ok (x == y) w := fun x y => run_equalIn_int w 9998 _ .i64 .i64 _ _ Tryz.underlying3
 rw [eqFields_step w 9999 _ _ a _ ha (by decide) (part_int w _ _ _ (frA_0 _)) (part_int w _ _ _ (frA_0 _)) (ei _ _),
  eqFields_step w 9999 _ _ b _ hb (by decide) (part_int w _ _ _ (frA_1 _)) (part_int w _ _ _ (frA_1 _)) (ei _ _),
  eqFields_step w 9999 _ _ c _ hc (by decide) (part_int w _ _ _ (frA_2 _)) (part_int w _ _ _ (frA_2 _)) (ei _ _),
  eqFields_step w 9999 _ _ d _ hd (by decide) (part_int w _ _ _ (frA_3 _)) (part_int w _ _ _ (frA_3 _)) (ei _ _),
  eqFields_step w 9999 _ _ e _ he (by decide) (part_data w _ hf) (part_data w _ hg) (eq_data w 9997 hf hg)]
 unfold frEq
 simp only [Op.eqFields, Sem.run_pure, beq_iff_eq, decide_eq_true_eq]
 by_cases h1 : f.k = g.k
 ·by_cases h2 : f.s = g.s
  ·by_cases h3 : f.t = g.t
   ·by_cases h4 : f.g = g.g
    ·by_cases h5 : f.d = g.d
     ·simp [h1, h2, h3, h4, h5]
     ·simp [h1, h2, h3, h4, h5]
    ·simp [h1, h2, h3, h4]
   ·simp [h1, h2, h3]
  ·simp [h1, h2]
 ·simp [h1]
end Go.Proofs.YtilljaneegbhlaaGreatDoor
namespace Go.Proofs.YtilljaneegbhlaaGreatDoor
open Go.RowKit Crc Hf
def FrIn (f : Fr) (b : Nat) (w : World) : Prop := f.is ∧ ∀ j v, (frC f)[j]? = some v → w.cell? ⟨b, j, none⟩ = some v
variable {f : Fr} {b B : Nat} {w w' : World}
theorem FrIn.below (h : FrIn f b w) (hb : b < B) (hB : Below B w w') : FrIn f b w' := ⟨h.1, fun j v hv => by rw [hB.cell (p := ⟨b, j, none⟩) hb]; exact h.2 j v hv⟩
theorem frIn_new (w : World) (f : Fr) (h : f.is) : FrIn f w.heap.size (w.alloc (.cells (frA f) 151)) := ⟨h, fun j v hv => new_cells w _ _ j v (by simpa [frA] using hv)⟩
theorem FrIn.c0 (h : FrIn f b w) : w.cell? ⟨b, 0, none⟩ = some (.int .i64 f.k) := h.2 0 _ rfl
theorem FrIn.c1 (h : FrIn f b w) : w.cell? ⟨b, 1, none⟩ = some (.int .i64 f.s) := h.2 1 _ rfl
theorem FrIn.c2 (h : FrIn f b w) : w.cell? ⟨b, 2, none⟩ = some (.int .i64 f.t) := h.2 2 _ rfl
theorem FrIn.c3 (h : FrIn f b w) : w.cell? ⟨b, 3, none⟩ = some (.int .i64 f.g) := h.2 3 _ rfl
theorem FrIn.range (h : FrIn f b w) : w.rangeAt b 0 (frC f) := fun j v hv => by rw [Nat.zero_add]; exact h.2 j v hv
theorem FrIn.data (h : FrIn f b w) : SlB (b + 1) w (.slice (some ⟨b, 4, none⟩) 108 108) f.d := by
 have hi : f.d.length = 108 := h.1
 refine Or.inr ⟨b, 4, 108, by rw [hi], by omega, fun x hx => ?_, by omega, by omega⟩
 refine h.2 (4 + x) _ ?_
 rw [show 4 + x = x + 4 by omega]
 exact bytesV_at hx
def szFr : Nat := 112
theorem szFr_run (w : World) : (sizeOf 151).run Tryz.prog w = .ok szFr w := by go_simp; rfl
theorem FrIn.load (h : FrIn f b w') : (loadCellsFrom ⟨b, 0, none⟩ 0 szFr #[]).run Tryz.prog w' = .ok (frA f) w' := by
 have := run_loadCells_list (P := Tryz.prog) w' ⟨b, 0, none⟩ (frC f) (fun j v hv => by rw [Addr.add_mid, Nat.zero_add]; exact h.2 j v hv)
 rw [frC_length h.1] at this
 exact this
theorem zero_frame (w : World) : (zeroValue 151).run Tryz.prog w = .ok (.agg (frA zeroF)) w := by
 have h : (Tryz.prog.info? 151).map (fun i => (i.zero, i.size)) = some (some (.agg (frA zeroF)), 112) := by kernel_rfl
 exact (zero_of_info h).1 w
theorem frA_one (g : Fr) : (frA g).all (·.oneCell') = true := by
 refine all_oneCell_toArray fun v hv => ?_
 simp only [frC, List.mem_append, List.mem_cons, List.not_mem_nil, or_false] at hv
 rcases hv with (rfl | rfl | rfl | rfl) | hv
 ·rfl
 ·rfl
 ·rfl
 ·rfl
 ·obtain ⟨c, _, rfl⟩ := List.mem_map.1 hv
  rfl
variable {g : Fr}
theorem store_frame (hf : f.is) (hg : g.is) (w : World) : (storeVar 151 ⟨w.heap.size, 0, none⟩ (.agg (frA g))).run Tryz.prog (w.alloc (.cells (frA f) 151)) = .ok () (w.alloc (.cells (frA g) 151)) :=
 run_storeVar_new (P := Tryz.prog) w 151 (frA f) (frA g) (by rw [frA_size hg]; exact size_frame) (by rw [frA_size hf, frA_size hg]) (frA_one g)
theorem storeCells_frame (hf : f.is) (hg : g.is) (w : World) : (storeCells ⟨w.heap.size, 0, none⟩ (frC g) 0).run Tryz.prog (w.alloc (.cells (frA f) 151)) = .ok () (w.alloc (.cells (frA g) 151)) := by
 have := run_storeCells_new (P := Tryz.prog) w 151 (frA f) (frA g) (by rw [frA_size hg]; exact size_frame) (by rw [frA_size hf, frA_size hg]) (frA_one g)
 simpa using this
theorem make_room (w : World) : (Instr.makeSlice 37 (.int .i64 0) (.int .i64 128)).run Tryz.prog w = .ok (.slice (some ⟨w.heap.size, 0, none⟩) 0 128) (w.alloc (.cells (madeCells #[.int .u8 0] 128) 5)) := by
 obtain ⟨i0, hi0, hz0, hz1, hz2⟩ := info_u8
 have h := run_makeSlice (P := Tryz.prog) w 37 5 i0 (.int .u8 0) Tryz.underlying37 hi0 hz0 .i64 .i64 0 128 (by decide) (by decide) (by rw [hz1]; decide) (by rw [hz2]; decide) (by decide)
 rw [hz1] at h
 exact h
theorem hmade_own {g : Nat} (h : w.heap.size = g) : (w.alloc (.cells (madeCells #[.int .u8 0] 128) 5)).ownsRow g 5 1 (.slice (some ⟨g, 0, none⟩) 0 128) 0 (bytesV []) := by
 subst h
 exact World.ownsRow_made w _ 128 (Nat.le_refl _) (by decide) (by rw [size_madeCells])
theorem wpList_append_str (w : World) {ops : Array Oper} {rest : List Oper} {o : Oper} {a : Act} {Q : Exit → Act → World → Prop} (hgd : o.guard = none) (s x : Operand)
  (ho : o.op = .call { callee := .builtin .append, args := #[s, x], argTypes := #[37, 9] })
  (base : Nat) (v : Value) (n : Nat) (xs : List Value) (hsv : a.eval s = v) (hown : w.ownsRow base 5 1 v n xs)
  (y : ByteArray) (hx : a.eval x = .string y) (h63 : n + y.size ≤ 10000000) (hbase : base ≤ w.heap.size)
  (h : ∀ v' w', w'.ownsRow base 5 1 v' (n + y.size) (xs ++ byteCells y) → Grew w v.ownBlock w' v'.ownBlock → wpList Tryz.prog ops Q rest (a.put o.dst v') w') : wpList Tryz.prog ops Q (o :: rest) a w := by
 obtain ⟨i0, hi0, hz0, hz1, hz2⟩ := info_u8
 exact wpList_append_src w hgd s x 37 9 ho base 5 i0 (.int .u8 0) 1 1 Tryz.underlying37 hi0 hz0 hz1 hz2 rfl v n xs hsv hown _ y.size _ hx (Src.ofString _ Tryz.underlying9 y) (by unfold maxLen; omega) (by omega) hbase fun v' w' h1 h2 _ => h v' w' h1 h2
def Laid (B : Nat) (w0 : World) (v : Value) (l : List UInt8) (w : World) : Prop := w.ownsRow B 5 1 v l.length (bytesV l) ∧ Below B w0 w ∧ B ≤ w.heap.size
variable {w0 : World} {v v' : Value} {l m : List UInt8}
theorem laid_str {y : ByteArray} (hw : Laid B w0 v l w) (hm : byteCells y = bytesV m) (hs : y.size = m.length) (ho : w'.ownsRow B 5 1 v' (l.length + y.size) (bytesV l ++ byteCells y)) (hg : Grew w v.ownBlock w' v'.ownBlock) : Laid B w0 v' (l ++ m) w' := by
 refine ⟨?_, hw.2.1.trans (hg.below hw.2.2 fun _ hq => (own_block hw.1 hq).1), Nat.le_trans hw.2.2 hg.size⟩
 rw [List.length_append, bytesV_append, ← hm, ← hs]; exact ho
theorem laid_lit {wl : World} (hw : Laid B w0 v l w) (hl : Below w.heap.size w wl) (ho : w'.ownsRow B 5 1 v' (l.length + m.length) (bytesV l ++ bytesV m)) (hg : Grew wl v.ownBlock w' v'.ownBlock) : Laid B w0 v' (l ++ m) w' := by
 refine ⟨?_, hw.2.1.trans ((hl.mono hw.2.2).trans (hg.below (Nat.le_trans hw.2.2 hl.size) fun _ hq => (own_block hw.1 hq).1)), Nat.le_trans hw.2.2 (Nat.le_trans hl.size hg.size)⟩
 rw [List.length_append, bytesV_append]; exact ho
theorem laid_num (hw : Laid B w0 v l w) (ho : w'.ownsRow B 5 1 v' m.length (bytesV m)) (hg : Grew w v.ownBlock w' v'.ownBlock) : Laid B w0 v' m w' :=
 ⟨ho, hw.2.1.trans (hg.below hw.2.2 fun _ hq => (own_block hw.1 hq).1), Nat.le_trans hw.2.2 hg.size⟩
theorem fold_get : ∀ (l : List Value) (off j i : Nat) (cs : Array Value), off + j + l.length ≤ cs.size →
  ((l.zipIdx j).foldl (fun cs (q : Value × Nat) => cs.setIfInBounds (off + q.2) q.1) cs)[i]? = if off + j ≤ i ∧ i < off + j + l.length then l[i - (off + j)]? else cs[i]?
 | [], off, j, i, cs, _ => by rw [if_neg (by simp)]; rfl
 | v :: l, off, j, i, cs, h => by
  simp only [List.length_cons] at h; simp only [List.zipIdx_cons, List.foldl_cons, List.length_cons]; rw [fold_get l off (j + 1) i _ (by simp; omega), Array.getElem?_setIfInBounds]
  by_cases h1 : i = off + j
  ·subst h1
   rw [if_neg (by omega), if_pos rfl, if_pos (by omega), if_pos (by omega), Nat.sub_self]
   rfl
  ·by_cases h2 : off + (j + 1) ≤ i ∧ i < off + (j + 1) + l.length
   ·rw [if_pos h2, if_pos (by omega), show i - (off + j) = (i - (off + (j + 1))) + 1 by omega]
    rfl
   ·rw [if_neg h2, if_neg (by omega), if_neg (by omega)]
def places : Array (Nat × Nat) := #[(0, 1), (1, 1), (2, 1), (3, 1), (4, 108)]
theorem built_eq (parts : List (Nat × Value)) : Tryz.prog.built 151 parts = Instr.fill (places[·]?) (frA zeroF) parts := by kernel_rfl
theorem hfill_one (i off : Nat) (v : Value) (cs : Array Value) (rest : List (Nat × Value)) (hp : places[i]? = some (off, 1)) (hv : v.cells = #[v]) (hc : off < cs.size) :
  Instr.fill (places[·]?) cs ((i, v) :: rest) = Instr.fill (places[·]?) (cs.setIfInBounds off v) rest := by
 have : ¬ (off + 1 > cs.size) := by omega
 simp [Instr.fill, hp, hv, this]
theorem fill_data (l : List Value) (cs : Array Value) (hl : l.length = 108) (hc : cs.size = 112) :
  Instr.fill (places[·]?) cs [(4, .agg l.toArray)] = some ((l.zipIdx 0).foldl (fun cs (q : Value × Nat) => cs.setIfInBounds (4 + q.2) q.1) cs) := by
 have hp : places[4]? = some (4, 108) := rfl
 simp only [Instr.fill, hp, Value.cells, List.size_toArray, hl, hc]
 simp
theorem run_build_frame (k s t g : Int) (d : List UInt8) (hd : d.length = 108) (w : World) :
  (Instr.build 151 #[(0, .int .i64 k), (1, .int .i64 s), (2, .int .i64 t), (3, .int .i64 g), (4, .agg (bytesV d).toArray)]).run Tryz.prog w = .ok (.agg (frA ⟨k, s, t, g, d⟩)) w := by
 refine run_build w _ _ _ ?_
 have hz : (frC zeroF).length = 112 := frC_length zeroF_is
 have hl : (bytesV d).length = 108 := by rw [bytesV_length, hd]
 rw [built_eq, hfill_one 0 0 _ _ _ rfl rfl (by simp; omega), hfill_one 1 1 _ _ _ rfl rfl (by simp; omega), hfill_one 2 2 _ _ _ rfl rfl (by simp; omega), hfill_one 3 3 _ _ _ rfl rfl (by simp; omega), fill_data _ _ hl (by simp; omega)]
 congr 1
 apply Array.ext_getElem?
 intro i
 rw [fold_get _ _ _ _ _ (by simp; omega), hl]
 have e2 : (frA ⟨k, s, t, g, d⟩)[i]? = ([.int .i64 k, .int .i64 s, .int .i64 t, .int .i64 g] ++ bytesV d)[i]? := by simp [frC]
 rw [e2]
 by_cases h : 4 ≤ i
 ·rw [List.getElem?_append_right (by simpa using h)]
  by_cases h2 : i < 112
  ·rw [if_pos (by omega)]; rfl
  ·rw [if_neg (by omega), Array.getElem?_eq_none (by simp; omega), List.getElem?_eq_none (by simp; omega)]
 ·rw [if_neg (by omega), List.getElem?_append_left (by simp; omega)]
  have h4 : i = 0 ∨ i = 1 ∨ i = 2 ∨ i = 3 := by omega
  rcases h4 with rfl | rfl | rfl | rfl <;> simp [hz]
theorem slice_data (a : Addr) (cap : Nat) (W : World) : (Instr.arrayAt 86 (.slice (some a) 108 cap)).run Tryz.prog W = .ok (.pointer (some a)) W := by
 simp [Instr.arrayAt, run_underlying Tryz.underlying86]
end Go.Proofs.YtilljaneegbhlaaGreatDoor
