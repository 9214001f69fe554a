/-
  A frame as a value: its cells; two frames compared; a frame in a block of its own.
-/
import Derived.Test.YtjkponhdpeelpaaBytes
import Derived.Test.YtjkponhdpeelpaaHModel
import Derived.ChangeKeysEq
import Derived.Deep.MidRow
import Derived.Deep.WholeRow
namespace Go.Proofs.Ytjkponhdpeelpaa
open Go.RowKit Hf
def frC (f : Fr) : List Value := [.int .i64 f.k, .int .i64 f.s, .int .i64 f.t, .int .i64 f.g] ++ bytesV f.d
abbrev frA (f : Fr) : Array Value := (frC f).toArray
theorem frC_length {f : Fr} (h : f.is) : (frC f).length = 112 := by unfold Fr.is at h; simp [frC, bytesV_length, h]
theorem frA_size {f : Fr} (h : f.is) : (frA f).size = 112 := by simp [frA, frC_length h]
theorem frC_0 (f : Fr) : (frC f)[0]? = some (.int .i64 f.k) := rfl
theorem frC_1 (f : Fr) : (frC f)[1]? = some (.int .i64 f.s) := rfl
theorem frC_2 (f : Fr) : (frC f)[2]? = some (.int .i64 f.t) := rfl
theorem frC_3 (f : Fr) : (frC f)[3]? = some (.int .i64 f.g) := rfl
theorem frA_0 (f : Fr) : (frA f)[0]? = some (.int .i64 f.k) := rfl
theorem frA_1 (f : Fr) : (frA f)[1]? = some (.int .i64 f.s) := rfl
theorem frA_2 (f : Fr) : (frA f)[2]? = some (.int .i64 f.t) := rfl
theorem frA_3 (f : Fr) : (frA f)[3]? = some (.int .i64 f.g) := rfl
theorem size_frame : (Try.prog.info? 24).map (·.size) = some 112 := by kernel_rfl
theorem size_data : (Try.prog.info? 22).map (·.size) = some 108 := by kernel_rfl
def frEq (f g : Fr) : Bool := decide (f.k = g.k) && decide (f.s = g.s) && decide (f.t = g.t) && decide (f.g = g.g) && decide (f.d = g.d)
theorem frEq_iff (f g : Fr) : frEq f g = true ↔ f = g := by
  unfold frEq
  simp only [Bool.and_eq_true, decide_eq_true_eq]
  exact ⟨fun ⟨⟨⟨⟨h1, h2⟩, h3⟩, h4⟩, h5⟩ => Fr.same h1 h2 h3 h4 h5, fun h => by subst h; exact ⟨⟨⟨⟨rfl, rfl⟩, rfl⟩, rfl⟩, rfl⟩⟩
theorem plain_u8 : Try.prog.plainKey 5 = true := by kernel_rfl
theorem cells_u8 : Try.prog.cellsOf 5 = 1 := by kernel_rfl
theorem eq_items (w : World) (d : Nat) (l m : List UInt8) : ∀ (is : List Nat), (∀ i ∈ is, i < l.length ∧ i < m.length) →
    (Op.eqItems (d + 1) 5 1 (bytesV l).toArray (bytesV m).toArray is).run Try.prog w = .ok (is.all fun i => decide (l.getD i 0 = m.getD i 0)) w
  | [], _ => by simp [Op.eqItems]
  | i :: is, h => by
    obtain ⟨h1, h2⟩ := h i (List.mem_cons_self ..)
    have e1 : (bytesV l).toArray[i * 1]? = some (.int .u8 (l.getD i 0).toNat) := by rw [Nat.mul_one]; simpa using bytesV_at h1
    have e2 : (bytesV m).toArray[i * 1]? = some (.int .u8 (m.getD i 0).toNat) := by rw [Nat.mul_one]; simpa using bytesV_at h2
    have ih := eq_items w d l m is fun j hj => h j (List.mem_cons_of_mem _ hj)
    have hb : (((l.getD i 0).toNat : Int) == ((m.getD i 0).toNat : Int)) = decide (l.getD i 0 = m.getD i 0) := by
      rw [Bool.eq_iff_iff]; simp only [beq_iff_eq, decide_eq_true_eq]
      exact ⟨fun e => UInt8.toNat_inj.1 (by omega), fun e => by rw [e]⟩
    simp only [Op.eqItems, Sem.run_bind, run_part_plain w plain_u8 e1, run_part_plain w plain_u8 e2, Result.andThen_ok, run_equalIn_int w d _ .u8 .u8 _ _ Try.underlying5, hb, List.all_cons]
    cases hq : decide (l.getD i 0 = m.getD i 0)
    · simp
    · simpa using ih
theorem all_eq {l m : List UInt8} {n : Nat} (hl : l.length = n) (hm : m.length = n) : ((List.range n).all fun i => decide (l.getD i 0 = m.getD i 0)) = decide (l = m) := by
  rw [Bool.eq_iff_iff]
  simp only [List.all_eq_true, List.mem_range, decide_eq_true_eq]
  exact ⟨fun h => list_eq_getD (by omega) fun x hx => h x (by omega), fun h => by subst h; intros; rfl⟩
theorem eq_data (w : World) (d : Nat) {l m : List UInt8} (hl : l.length = 108) (hm : m.length = 108) :
    (Op.equalIn (d + 2) 22 (.agg (bytesV l).toArray) (.agg (bytesV m).toArray)).run Try.prog w = .ok (decide (l = m)) w := by
  obtain ⟨i0, hi0, _⟩ := info_u8
  rw [run_equalIn_array w (d + 1) _ _ Try.underlying22 hi0, cells_u8, eq_items w d l m _ (fun i hi => by simp at hi; omega), all_eq hl hm]
theorem part_int (w : World) (cs : Array Value) (i : Nat) (v : Value) (h : cs[i]? = some v) : (part 3 cs i).run Try.prog w = .ok v w :=
  run_part_plain w (by kernel_rfl) h
theorem frC_data (f : Fr) (h : f.is) : List.take 108 (List.drop 4 (frC f)) = bytesV f.d := by
  unfold Fr.is at h
  show (bytesV f.d).take 108 = bytesV f.d
  rw [List.take_of_length_le (by rw [bytesV_length]; omega)]
theorem part_data (w : World) (f : Fr) (h : f.is) : (part 22 (frA f) 4).run Try.prog w = .ok (.agg (bytesV f.d).toArray) w := by
  have hs := size_data
  cases hq : Try.prog.info? 22 with
  | none => simp [hq] at hs
  | some i =>
    have hi : i.size = 108 := by simpa [hq] using hs
    simp [part, isAgg, run_underlying Try.underlying22, sizeOf, typeInfo, hq, hi, frC_data f h]
theorem eqFields_step (w : World) (d : Nat) (xs ys : Array Value) (f : Field) (fs : List Field) {nm : String} {ty : TypeId} {off : Nat} (h : (f.name, f.type, f.offset) = (nm, ty, off)) (hn : nm ≠ "_") {x y : Value} {r : Bool}
    (h1 : (part ty xs off).run Try.prog w = .ok x w) (h2 : (part ty ys off).run Try.prog w = .ok y w) (h3 : (Op.equalIn d ty x y).run Try.prog w = .ok r w) :
    (Op.eqFields d xs ys (f :: fs)).run Try.prog w = if r = true then (Op.eqFields d xs ys fs).run Try.prog w else .ok false w := by
  simp only [Prod.mk.injEq] at h
  obtain ⟨a1, a2, a3⟩ := h
  simp only [Op.eqFields, a1, a2, a3, hn, ne_eq, not_false_eq_true, if_true, Sem.run_bind, h1, h2, h3, Result.andThen_ok]
  cases r <;> simp
theorem eq_frames (w : World) (f g : Fr) (hf : f.is) (hg : g.is) : (Op.equalIn 10000 24 (.agg (frA f)) (.agg (frA g))).run Try.prog w = .ok (frEq f g) w := by
  have hfs : (Try.prog.fieldsOf 24).toList.map (fun q => (q.name, q.type, q.offset)) = [("Kind", 3, 0), ("Slot", 3, 1), ("Stripe", 3, 2), ("Gen", 3, 3), ("Data", 22, 4)] := by kernel_rfl
  rw [run_equalIn_struct w 9999 _ _ _ (by kernel_rfl) (by kernel_rfl)]
  generalize (Try.prog.fieldsOf 24).toList = fs at hfs
  obtain ⟨a, fs, rfl, ha, hfs⟩ := List.map_eq_cons_iff.1 hfs
  obtain ⟨b, fs, rfl, hb, hfs⟩ := List.map_eq_cons_iff.1 hfs
  obtain ⟨c, fs, rfl, hc, hfs⟩ := List.map_eq_cons_iff.1 hfs
  obtain ⟨d, fs, rfl, hd, hfs⟩ := List.map_eq_cons_iff.1 hfs
  obtain ⟨e, fs, rfl, he, hfs⟩ := List.map_eq_cons_iff.1 hfs
  obtain rfl := List.map_eq_nil_iff.1 hfs
  have ei : ∀ (x y : Int), (Op.equalIn 9999 3 (.int .i64 x) (.int .i64 y)).run Try.prog w = .ok (x == y) w := fun x y => run_equalIn_int w 9998 _ .i64 .i64 _ _ Try.underlying3
  rw [eqFields_step w 9999 _ _ a _ ha (by decide) (part_int w _ _ _ (frA_0 _)) (part_int w _ _ _ (frA_0 _)) (ei _ _),
    eqFields_step w 9999 _ _ b _ hb (by decide) (part_int w _ _ _ (frA_1 _)) (part_int w _ _ _ (frA_1 _)) (ei _ _),
    eqFields_step w 9999 _ _ c _ hc (by decide) (part_int w _ _ _ (frA_2 _)) (part_int w _ _ _ (frA_2 _)) (ei _ _),
    eqFields_step w 9999 _ _ d _ hd (by decide) (part_int w _ _ _ (frA_3 _)) (part_int w _ _ _ (frA_3 _)) (ei _ _),
    eqFields_step w 9999 _ _ e _ he (by decide) (part_data w _ hf) (part_data w _ hg) (eq_data w 9997 hf hg)]
  unfold frEq
  simp only [Op.eqFields, Sem.run_pure, beq_iff_eq, decide_eq_true_eq]
  by_cases h1 : f.k = g.k
  · by_cases h2 : f.s = g.s
    · by_cases h3 : f.t = g.t
      · by_cases h4 : f.g = g.g
        · by_cases h5 : f.d = g.d
          · simp [h1, h2, h3, h4, h5]
          · simp [h1, h2, h3, h4, h5]
        · simp [h1, h2, h3, h4]
      · simp [h1, h2, h3]
    · simp [h1, h2]
  · simp [h1]
theorem eql_frames (f g : Fr) (hf : f.is) (hg : g.is) (w : World) : (binOp .eql 24 (.agg (frA f)) (.agg (frA g))).run Try.prog w = .ok (.bool (frEq f g)) w := by
  rw [run_eql_struct, eq_frames w f g hf hg]
  rfl
end Go.Proofs.Ytjkponhdpeelpaa
