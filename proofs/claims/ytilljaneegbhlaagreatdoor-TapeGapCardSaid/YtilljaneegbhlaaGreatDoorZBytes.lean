import Derived.Test.YtilljaneegbhlaaGreatDoorZKit
namespace Go.Proofs.YtilljaneegbhlaaGreatDoor
open Go.RowKit
def bytesV (l : List UInt8) : List Value := l.map fun b => .int .u8 b.toNat
theorem bytesV_append (a b : List UInt8) : bytesV (a ++ b) = bytesV a ++ bytesV b := by simp [bytesV]
theorem bytesV_length (a : List UInt8) : (bytesV a).length = a.length := by simp [bytesV]
variable {l : List UInt8}
theorem bytesV_at {i : Nat} (h : i < l.length) : (bytesV l)[i]? = some (.int .u8 (l.getD i 0).toNat) := by simp [bytesV, List.getD, h]
theorem Tryz.info5 : (Tryz.prog.info? 5).map (fun i => (i.zero, i.size, i.bytes)) = some (some (.int .u8 0), 1, 1) := by kernel_rfl
def BytesAt (w : World) (b o : Nat) (l : List UInt8) : Prop := ∀ x, x < l.length → w.cell? ⟨b, o + x, none⟩ = some (.int .u8 (l.getD x 0).toNat)
def SlB (B : Nat) (w : World) (v : Value) (l : List UInt8) : Prop :=
 (l = [] ∧ ∃ a cap, v = .slice a 0 cap) ∨ ∃ b o cap, v = .slice (some ⟨b, o, none⟩) l.length cap ∧ b < B ∧ BytesAt w b o l ∧ 0 < l.length ∧ l.length ≤ cap
variable {B : Nat} {w w' : World} {v : Value}
theorem SlB.mono (h : SlB B w v l) (hc : ∀ b o, b < B → w'.cell? ⟨b, o, none⟩ = w.cell? ⟨b, o, none⟩) : SlB B w' v l := by
 rcases h with h | ⟨b, o, cap, h1, h2, h3, h4⟩
 ·exact Or.inl h
 ·exact Or.inr ⟨b, o, cap, h1, h2, fun x hx => by rw [hc _ _ h2]; exact h3 x hx, h4⟩
theorem SlB.below (h : SlB B w v l) (hb : Below B w w') : SlB B w' v l := h.mono fun b o hl => hb.cell (p := ⟨b, o, none⟩) hl
theorem SlB.wider {B' : Nat} (h : SlB B w v l) (hB : B ≤ B') : SlB B' w v l := by
 rcases h with h | ⟨b, o, cap, h1, h2, h3, h4⟩
 ·exact Or.inl h
 ·exact Or.inr ⟨b, o, cap, h1, by omega, h3, h4⟩
theorem SlB.len (h : SlB B w v l) : ∃ a cap, v = .slice a l.length cap ∧ l.length ≤ cap := by
 rcases h with ⟨rfl, a, cap, h⟩ | ⟨b, o, cap, h1, _, _, _, h2⟩
 ·exact ⟨a, cap, h, Nat.zero_le _⟩
 ·exact ⟨_, cap, h1, h2⟩
theorem new_cells (w : World) (cs : Array Value) (T : TypeId) (i : Nat) (v : Value) (h : cs.toList[i]? = some v) : (w.alloc (.cells cs T)).cell? ⟨w.heap.size, i, none⟩ = some v := by
 rw [cell_of_row _ w.heap.size i cs T (0, 0) (heap_alloc_new w _)]
 simpa using h
def Holds (w : World) (b : Nat) (xs : List Value) : Prop := ∀ i v, xs[i]? = some v → w.cell? ⟨b, i, none⟩ = some v
theorem holds_new (w : World) (cs : Array Value) (T : TypeId) (xs : List Value) (h : cs.toList = xs) : Holds (w.alloc (.cells cs T)) w.heap.size xs := fun i v hv => new_cells w cs T i v (by rw [h]; exact hv)
variable {e n cap g : Nat} {xs : List Value}
theorem holds_own {size : Nat} (h : w.ownsRow B e size (.slice (some ⟨g, 0, none⟩) n cap) n xs) : Holds w g xs := fun i v hv => by
 have := h.cells (g := g) rfl i v hv
 by_cases h0 : i = 0
 ·subst h0; simpa [Addr.add] using this
 ·simpa [Addr.add, h0] using this
variable {b : Nat}
theorem slb_lit {W : World} (h : Holds W b (bytesV l)) (hb : b < B) (hc : l.length ≤ cap) : SlB B W (.slice (some ⟨b, 0, none⟩) l.length cap) l := by
 rcases Nat.eq_zero_or_pos l.length with h0 | h0
 ·exact Or.inl ⟨List.eq_nil_of_length_eq_zero h0, by rw [h0]; exact ⟨_, _, rfl⟩⟩
 ·refine Or.inr ⟨b, 0, cap, rfl, hb, fun x hx => ?_, h0, hc⟩
  rw [Nat.zero_add]; refine h x _ ?_
  simp [bytesV, List.getD, hx]
theorem slb_own (h : w.ownsRow B 5 1 v l.length (bytesV l)) : SlB w.heap.size w v l := by
 have hh := h
 rcases hh.2 with ⟨rfl, h0⟩ | ⟨g, cap, cur, rfl, _, hg, hle, _⟩
 ·exact Or.inl ⟨List.eq_nil_of_length_eq_zero h0, ⟨_, _, rfl⟩⟩
 ·exact slb_lit (holds_own h) (Array.getElem?_eq_some_iff.1 hg).1 hle
theorem own_some {size : Nat} (h : w.ownsRow B e size v n xs) (h0 : 0 < n) : ∃ g cap, v = .slice (some ⟨g, 0, none⟩) n cap ∧ B ≤ g ∧ g < w.heap.size ∧ n ≤ cap ∧ cap ≤ maxLen ∧ Holds w g xs := by
 have hh := h
 rcases hh.2 with ⟨rfl, h1⟩ | ⟨g, cap, cur, rfl, hB, hg, hle, hm, _⟩
 ·omega
 ·exact ⟨g, cap, rfl, hB, (Array.getElem?_eq_some_iff.1 hg).1, hle, hm, holds_own h⟩
theorem own_new (w : World) (B : Nat) (cs : Array Value) (E size n : Nat) (hB : B ≤ w.heap.size) (hs : cs.size = n * size) (hm : n ≤ maxLen) : (w.alloc (.cells cs E)).ownsRow B E size (.slice (some ⟨w.heap.size, 0, none⟩) n n) n cs.toList :=
 ⟨by simpa using hs, Or.inr ⟨w.heap.size, n, cs, rfl, hB, heap_alloc_new w _, Nat.le_refl _, hm, hs, by rw [← hs]; exact List.take_of_length_le (by simp)⟩⟩
variable {m c : Nat}
theorem src_bytes {off : Nat} (h : ∀ j u, (bytesV l)[j]? = some u → w.cell? ⟨b, off + j, none⟩ = some u) (hm : l.length = m) :
  Src Tryz.prog 1 37 (.slice (some ⟨b, off, none⟩) m c) m (bytesV l) w := by
 refine Src.ofSlice _ Tryz.underlying37 ⟨b, off, none⟩ m c (bytesV l) (by rw [bytesV_length, hm, Nat.mul_one]) (fun j u hu => ?_) (fun u hu => ?_)
 ·have hadd : (⟨b, off, none⟩ : Addr).add j = ⟨b, off + j, none⟩ := by unfold Addr.add; split <;> simp_all
  rw [hadd]; exact h j u hu
 ·obtain ⟨c, _, rfl⟩ := List.mem_map.1 hu
  rfl
theorem list_eq_getD {m : List UInt8} (hl : l.length = m.length) (h : ∀ x, x < l.length → l.getD x 0 = m.getD x 0) : l = m := by
 refine List.ext_getElem hl fun i h1 h2 => ?_
 have := h i h1
 simpa [List.getD, h1, h2] using this
theorem SlB.byte {wr : World} (h : SlB B w v l) (hB : B ≤ w.heap.size) (hb : Below w.heap.size w wr) {k : Nat} (hk : k < l.length) :
  ∃ b o cap, v = .slice (some ⟨b, o, none⟩) l.length cap ∧ wr.cell? ⟨b, o + k, none⟩ = some (.int .u8 (l.getD k 0).toNat) := by
 rcases h with ⟨rfl, _⟩ | ⟨b, o, cap, h1, h2, h3, _⟩
 ·simp at hk
 ·exact ⟨b, o, cap, h1, by rw [hb.cell (by show b < _; omega)]; exact h3 k hk⟩
theorem own_cell (h : w.ownsRow B e 1 (.slice (some ⟨g, 0, none⟩) n cap) n xs) {i : Nat} {u : Value} (hi : xs[i]? = some u) : w.cell? ⟨g, i, none⟩ = some u := holds_own h i u hi
theorem own_frozen (h : w.ownsRow B e 1 (.slice (some ⟨g, 0, none⟩) n cap) n xs) (i : Nat) : w.frozen? ⟨g, i, none⟩ = false := by
 rcases h.2 with ⟨h1, _⟩ | ⟨g', cap', cur, h1, _, hg, _⟩
 ·cases h1
 ·injection h1 with h1 _ h2
  injection h1 with h1; injection h1 with h1 _ _; subst h1; unfold World.frozen?; rw [hg]
  simp
theorem own_set (h : w.ownsRow B e 1 (.slice (some ⟨g, 0, none⟩) n cap) n xs) (i : Nat) (u : Value) : (w.setCell ⟨g, i, none⟩ u).ownsRow B e 1 (.slice (some ⟨g, 0, none⟩) n cap) n (xs.set i u) := by
 obtain ⟨hl, h⟩ := h
 rcases h with ⟨h1, _⟩ | ⟨g', cap', cur, h1, hB, hg, hle, hm, hs, ht⟩
 ·cases h1
 ·injection h1 with h1 _ h2
  injection h1 with h1; injection h1 with h1 _ _; subst h1 h2; refine ⟨by simpa using hl, Or.inr ⟨g, cap, cur.setIfInBounds i u, rfl, hB, ?_, hle, hm, by simpa using hs, ?_⟩⟩
  ·show (w.heap.modify g _)[g]? = _
   rw [Array.getElem?_modify, if_pos rfl, hg]; rfl
  ·rw [Array.toList_setIfInBounds, Nat.mul_one] at *
   rw [List.take_set, ht]
theorem own_lt (h : w.ownsRow B e 1 (.slice (some ⟨g, 0, none⟩) n cap) n xs) : B ≤ g ∧ g < w.heap.size ∧ n ≤ cap := by
 rcases h.2 with ⟨h1, _⟩ | ⟨g', cap', cur, h1, hB, hg, hle, _⟩
 ·cases h1
 ·injection h1 with h1 _ h2
  injection h1 with h1; injection h1 with h1 _ _; subst h1 h2; exact ⟨hB, (Array.getElem?_eq_some_iff.1 hg).1, hle⟩
theorem own_slice (h : w.ownsRow B e 1 v n xs) : ∃ g c, v = .slice g n c ∧ n ≤ c := by
 rcases h.2 with ⟨rfl, h0⟩ | ⟨g, c, cur, rfl, _, _, h, _⟩
 ·exact ⟨none, 0, by rw [h0], by omega⟩
 ·exact ⟨_, _, rfl, h⟩
variable {a : Option Addr}
theorem own_addr (h : w.ownsRow B e 1 (.slice a n c) n xs) (h0 : 0 < n) : ∃ g, a = some ⟨g, 0, none⟩ := by
 obtain ⟨g, cap, h1, _⟩ := own_some h h0
 injection h1 with h1
 exact ⟨g, h1⟩
theorem slb_take (h : SlB B w (.slice a l.length cap) l) (hm : m ≤ l.length) : SlB B w (.slice a m cap) (l.take m) := by
 have hl : (l.take m).length = m := by rw [List.length_take]; omega
 rcases Nat.eq_zero_or_pos m with rfl | h0
 ·exact Or.inl ⟨rfl, _, _, rfl⟩
 rcases h with ⟨rfl, _⟩ | ⟨b, o, cap', h1, h2, h3, _, h5⟩
 ·simp at hm; omega
 ·injection h1 with h1 _ h1'
  subst h1 h1'; refine Or.inr ⟨b, o, cap, by rw [hl], h2, fun y hy => ?_, by omega, by omega⟩; rw [hl] at hy; rw [h3 y (by omega)]
  simp [List.getD, hy]
theorem own_block {k : Nat} (h : w.ownsRow B e 1 v n xs) (hk : v.ownBlock = some k) : B ≤ k ∧ k < w.heap.size := by
 rcases h.2 with ⟨rfl, _⟩ | ⟨g, c, cur, rfl, hB, hg, _⟩
 ·cases hk
 ·injection hk with hk
  subst hk; exact ⟨hB, (Array.getElem?_eq_some_iff.1 hg).1⟩
theorem SlB.src (h : SlB B w v l) : Src Tryz.prog 1 37 v l.length (bytesV l) w := by
 rcases h with ⟨rfl, a, cap, rfl⟩ | ⟨b, o, cap, rfl, _, hB, _, _⟩
 ·cases a with
  | none => exact Src.ofNil _ Tryz.underlying37 _
  | some a => exact Src.ofSlice _ Tryz.underlying37 a 0 cap _ rfl (by simp [bytesV]) (by simp [bytesV])
 ·refine src_bytes (fun j u hu => ?_) rfl
  simp only [bytesV, List.getElem?_map, Option.map_eq_some_iff] at hu; obtain ⟨c, hc, rfl⟩ := hu; have hj : j < l.length := (List.getElem?_eq_some_iff.1 hc).1; have := hB j hj
  rwa [show l.getD j 0 = c by simp [List.getD, hc]] at this
theorem info_u8 : ∃ i, Tryz.prog.info? 5 = some i ∧ i.zero = some (.int .u8 0) ∧ i.size = 1 ∧ i.bytes = 1 := by
 have h := Tryz.info5
 cases hi : Tryz.prog.info? 5 with
 | none => rw [hi] at h; cases h
 | some i =>
  rw [hi] at h; simp only [Option.map_some, Option.some.injEq, Prod.mk.injEq] at h; exact ⟨i, rfl, h.1, h.2.1, h.2.2⟩
theorem wpList_append_bytes (w : World) {ops : Array Oper} {rest : List Oper} {o : Oper} {a : Act} {Q : Exit → Act → World → Prop} (hgd : o.guard = none) (s x : Operand)
  (ho : o.op = .call { callee := .builtin .append, args := #[s, x], argTypes := #[37, 37] })
  (base : Nat) (v : Value) (n : Nat) (xs : List Value) (hsv : a.eval s = v) (hown : w.ownsRow base 5 1 v n xs)
  (B : Nat) (y : Value) (l : List UInt8) (hx : a.eval x = y) (hs : SlB B w y l) (h63 : n + l.length ≤ 10000000) (hbase : base ≤ w.heap.size)
  (h : ∀ v' w', w'.ownsRow base 5 1 v' (n + l.length) (xs ++ bytesV l) → Grew w v.ownBlock w' v'.ownBlock → wpList Tryz.prog ops Q rest (a.put o.dst v') w') : wpList Tryz.prog ops Q (o :: rest) a w := by
 obtain ⟨i0, hi0, hz0, hz1, hz2⟩ := info_u8
 exact wpList_append_src w hgd s x 37 37 ho base 5 i0 (.int .u8 0) 1 1 Tryz.underlying37 hi0 hz0 hz1 hz2 rfl v n xs hsv hown y l.length (bytesV l) hx hs.src (by unfold maxLen; omega) (by omega) hbase fun v' w' h1 h2 _ => h v' w' h1 h2
end Go.Proofs.YtilljaneegbhlaaGreatDoor
