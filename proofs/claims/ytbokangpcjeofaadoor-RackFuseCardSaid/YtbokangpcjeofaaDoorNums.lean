/-
  Slices of numbers: read, compared, appended to.
-/
import Derived.Test.YtbokangpcjeofaaDoorCTab
namespace Go.Proofs.YtbokangpcjeofaaDoor
open Go.RowKit Go.Deep
def numsV (l : List Nat) : List Value := l.map fun (i : Nat) => Value.int .i64 (i : Int)
theorem numsV_at {l : List Nat} {i : Nat} (h : i < l.length) : (numsV l)[i]? = some (.int .i64 ((l.getD i 0 : Nat) : Int)) := by simp [numsV, List.getD, h]
/-- v is a slice of the numbers l, in blocks ahead of B. -/
def SlN (B : Nat) (w : World) (v : Value) (l : List Nat) : Prop :=
  (l = [] ∧ ∃ a cap, v = .slice a 0 cap) ∨ ∃ b cap, v = .slice (some ⟨b, 0, none⟩) l.length cap ∧ b < B ∧ ∀ x, x < l.length → w.cell? ⟨b, x, none⟩ = some (.int .i64 ((l.getD x 0 : Nat) : Int))
theorem SlN.len {B : Nat} {w : World} {v : Value} {l : List Nat} (h : SlN B w v l) : ∃ a cap, v = .slice a l.length cap := by
  rcases h with ⟨rfl, a, cap, h⟩ | ⟨b, cap, h1, _⟩
  · exact ⟨a, cap, h⟩
  · exact ⟨_, cap, h1⟩
theorem SlN.below {B : Nat} {w w' : World} {v : Value} {l : List Nat} (h : SlN B w v l) (hb : Below B w w') : SlN B w' v l := by
  rcases h with h | ⟨b, cap, h1, h2, h3⟩
  · exact Or.inl h
  · exact Or.inr ⟨b, cap, h1, h2, fun x hx => by rw [hb.cell (p := ⟨b, x, none⟩) h2]; exact h3 x hx⟩
theorem SlN.num {B : Nat} {w wr : World} {v : Value} {l : List Nat} (h : SlN B w v l) (hB : B ≤ w.heap.size) (hb : Below w.heap.size w wr) {k : Nat} (hk : k < l.length) :
    ∃ b cap, v = .slice (some ⟨b, 0, none⟩) l.length cap ∧ wr.cell? ⟨b, k, none⟩ = some (.int .i64 ((l.getD k 0 : Nat) : Int)) := by
  rcases h with ⟨rfl, _⟩ | ⟨b, cap, h1, h2, h3⟩
  · simp at hk
  · exact ⟨b, cap, h1, by rw [hb.cell (by show b < _; omega)]; exact h3 k hk⟩
theorem sln_own {B n : Nat} {w : World} {v : Value} {l : List Nat} (h : w.ownsRow B 3 1 v n (numsV l)) (hn : n = l.length) : SlN w.heap.size w v l := by
  subst hn
  have hh := h
  rcases hh.2 with ⟨rfl, h0⟩ | ⟨g, cap, cur, rfl, _, hg, hle, _⟩
  · exact Or.inl ⟨List.eq_nil_of_length_eq_zero h0, ⟨_, _, rfl⟩⟩
  · exact Or.inr ⟨g, cap, rfl, (Array.getElem?_eq_some_iff.1 hg).1, fun x hx => holds_own h x _ (numsV_at hx)⟩
theorem nums_eq_getD {l m : List Nat} (hl : l.length = m.length) (h : ∀ x, x < l.length → l.getD x 0 = m.getD x 0) : l = m := by
  refine List.ext_getElem hl fun i h1 h2 => ?_
  have := h i h1
  simpa [List.getD, h1, h2] using this
def RelSN (l m : List Nat) (w : World) (c : Value) (wr : World) : Prop := ∃ k : Nat, k ≤ l.length ∧ c = .int .i64 k ∧ (∀ x, x < k → l.getD x 0 = m.getD x 0) ∧ Below w.heap.size w wr
theorem info_int : (Tryd.prog.info? 3).map (fun i => (i.zero, i.size, i.bytes)) = some (some (.int .i64 0), 1, 8) := by kernel_rfl
set_option maxRecDepth 100000 in
theorem wpList_append_num (w : World) {ops : Array Oper} {rest : List Oper} {o : Oper} {a : Act} {Q : Exit → Act → World → Prop} (hgd : o.guard = none) (s x : Operand)
    (ho : o.op = .call { callee := .builtin .append, args := #[s, x], argTypes := #[44, 44] })
    (base : Nat) (v : Value) (n : Nat) (xs : List Value) (hsv : a.eval s = v) (hown : w.ownsRow base 3 1 v n xs)
    (b : Nat) (u : Value) (hx : a.eval x = .slice (some ⟨b, 0, none⟩) 1 1) (hb : w.cell? ⟨b, 0, none⟩ = some u) (hu : u.oneCell' = true) (h63 : n + 1 ≤ 100000) (hbase : base ≤ w.heap.size)
    (h : ∀ v' w', w'.ownsRow base 3 1 v' (n + 1) (xs ++ [u]) → Grew w v.ownBlock w' v'.ownBlock → wpList Tryd.prog ops Q rest (a.put o.dst v') w') : wpList Tryd.prog ops Q (o :: rest) a w := by
  obtain ⟨i0, hi0, hz⟩ := Option.map_eq_some_iff.1 info_int
  simp only [Prod.mk.injEq] at hz
  obtain ⟨hz0, hz1, hz2⟩ := hz
  have hsrc : Src Tryd.prog 1 44 (.slice (some ⟨b, 0, none⟩) 1 1) 1 [u] w := Src.ofSlice _ Tryd.underlying44 ⟨b, 0, none⟩ 1 1 [u] rfl (fun j y hy => by
    match j, hy with
    | 0, hy => injection hy with hy; subst hy; simpa [Addr.add] using hb
    | j + 1, hy => simp at hy) (fun y hy => by rw [List.mem_singleton.1 hy]; exact hu)
  exact wpList_append_src w hgd s x 44 44 ho base 3 i0 (.int .i64 0) 1 8 Tryd.underlying44 hi0 hz0 hz1 hz2 rfl v n xs hsv hown (.slice (some ⟨b, 0, none⟩) 1 1) 1 [u] hx hsrc (by unfold maxLen; omega) (by omega) hbase fun v' w' h1 h2 _ => h v' w' h1 h2
end Go.Proofs.YtbokangpcjeofaaDoor
