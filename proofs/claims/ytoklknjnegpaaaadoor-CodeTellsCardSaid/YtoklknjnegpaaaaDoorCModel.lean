/-
  The erasure code in numbers: rows of factors, sums of products, that any k rows are enough, and what elimination keeps. Nothing of the program.
-/
import Derived.Test.YtoklknjnegpaaaaDoorFModel
namespace Go.Proofs.YtoklknjnegpaaaaDoor.Cd
open Gf

/-- What fragment a multiplies block j by. -/
def cf (k a j : Nat) : Nat := if a < k then (if j = a then 1 else 0) else inv (a ^^^ j)
theorem cf_lt (k a j : Nat) : cf k a j < 256 := by
  unfold cf; split
  · split <;> omega
  · exact inv_lt _
/-- The sum of the first products. -/
def dot (c v : Nat → Nat) : Nat → Nat
  | 0 => 0
  | n + 1 => dot c v n ^^^ mul (v n) (c n)
def B8 (f : Nat → Nat) : Prop := ∀ j, f j < 256
theorem dot_lt (c v : Nat → Nat) : ∀ n, dot c v n < 256
  | 0 => by show 0 < 256; omega
  | n + 1 => xor_lt (dot_lt c v n) (mul_lt _ _)
theorem dot_congr {c c' v v' : Nat → Nat} : ∀ {n : Nat}, (∀ j, j < n → c j = c' j ∧ v j = v' j) → dot c v n = dot c' v' n
  | 0, _ => rfl
  | n + 1, h => by
    show dot c v n ^^^ mul (v n) (c n) = dot c' v' n ^^^ mul (v' n) (c' n)
    rw [dot_congr (n := n) fun j hj => h j (by omega), (h n (by omega)).1, (h n (by omega)).2]
theorem dot_zero {c v : Nat → Nat} : ∀ {n : Nat}, (∀ j, j < n → mul (v j) (c j) = 0) → dot c v n = 0
  | 0, _ => rfl
  | n + 1, h => by
    show dot c v n ^^^ mul (v n) (c n) = 0
    rw [dot_zero (n := n) fun j hj => h j (by omega), h n (by omega)]; rfl
theorem dot_one {c v : Nat → Nat} {i : Nat} : ∀ {n : Nat}, i < n → (∀ j, j < n → j ≠ i → mul (v j) (c j) = 0) → dot c v n = mul (v i) (c i)
  | 0, h, _ => by omega
  | n + 1, h, hz => by
    show dot c v n ^^^ mul (v n) (c n) = _
    by_cases e : i = n
    · subst e
      rw [dot_zero fun j hj => hz j (by omega) (by omega), Nat.zero_xor]
    · rw [dot_one (n := n) (by omega) fun j hj => hz j (by omega), hz n (by omega) (by omega), Nat.xor_zero]
theorem dot_two {c v : Nat → Nat} {i i' : Nat} (hi : i < i') : ∀ {n : Nat}, i' < n → (∀ j, j < n → j ≠ i → j ≠ i' → mul (v j) (c j) = 0) → dot c v n = mul (v i) (c i) ^^^ mul (v i') (c i')
  | 0, h, _ => by omega
  | n + 1, h, hz => by
    show dot c v n ^^^ mul (v n) (c n) = _
    by_cases e : i' = n
    · subst e
      rw [dot_one (n := i') (i := i) (by omega) fun j hj h1 => hz j (by omega) h1 (by omega)]
    · rw [dot_two hi (n := n) (by omega) fun j hj => hz j (by omega), hz n (by omega) (by omega) (by omega), Nat.xor_zero]
theorem x4 (a b c d : Nat) : (a ^^^ b) ^^^ (c ^^^ d) = (a ^^^ c) ^^^ (b ^^^ d) := by
  rw [Nat.xor_assoc, Nat.xor_assoc, ← Nat.xor_assoc b, ← Nat.xor_assoc c, Nat.xor_comm b c]
theorem dot_c_mul {d v : Nat → Nat} (hd : B8 d) (hv : B8 v) {a : Nat} (ha : a < 256) : ∀ n, dot (fun j => mul (d j) a) v n = mul (dot d v n) a
  | 0 => by show 0 = mul 0 a; rw [zero_mul]
  | n + 1 => by
    show dot (fun j => mul (d j) a) v n ^^^ mul (v n) (mul (d n) a) = mul (dot d v n ^^^ mul (v n) (d n)) a
    rw [dot_c_mul hd hv ha n, xor_mul (dot_lt _ _ _) (mul_lt _ _), mul_assoc (hv n) (hd n) ha]
theorem dot_c_add {c d v : Nat → Nat} (hc : B8 c) (hd : B8 d) (hv : B8 v) {a : Nat} (ha : a < 256) : ∀ n, dot (fun j => c j ^^^ mul (d j) a) v n = dot c v n ^^^ mul (dot d v n) a
  | 0 => by show 0 = 0 ^^^ mul 0 a; rw [zero_mul]; rfl
  | n + 1 => by
    show dot (fun j => c j ^^^ mul (d j) a) v n ^^^ mul (v n) (c n ^^^ mul (d n) a) = (dot c v n ^^^ mul (v n) (c n)) ^^^ mul (dot d v n ^^^ mul (v n) (d n)) a
    rw [dot_c_add hc hd hv ha n, mul_xor (hc n) (mul_lt _ _), xor_mul (dot_lt _ _ _) (mul_lt _ _), mul_assoc (hv n) (hd n) ha, x4]
theorem dot_v_xor {c v u : Nat → Nat} (hv : B8 v) (hu : B8 u) : ∀ n, dot c (fun j => v j ^^^ u j) n = dot c v n ^^^ dot c u n
  | 0 => by show 0 = 0 ^^^ 0; rfl
  | n + 1 => by
    show dot c (fun j => v j ^^^ u j) n ^^^ mul (v n ^^^ u n) (c n) = (dot c v n ^^^ mul (v n) (c n)) ^^^ (dot c u n ^^^ mul (u n) (c n))
    rw [dot_v_xor hv hu n, xor_mul (hv n) (hu n), x4]

/-! ### the Cauchy rows -/
theorem mul_eq_zero {a b : Nat} (h : mul a b = 0) : a = 0 ∨ b = 0 := by
  by_cases ha : a = 0
  · exact Or.inl ha
  · by_cases hb : b = 0
    · exact Or.inr hb
    · exact absurd h (mul_ne ha hb)
theorem mul_left_comm {a b c : Nat} (ha : a < 256) (hb : b < 256) (hc : c < 256) : mul a (mul b c) = mul b (mul a c) := by
  rw [← mul_assoc ha hb hc, mul_comm a b, mul_assoc hb ha hc]
theorem xor_eq_of_zero {a b : Nat} (h : a ^^^ b = 0) : a = b := by
  have h1 : (a ^^^ b) ^^^ b = b := by rw [h, Nat.zero_xor]
  rwa [Nat.xor_assoc, Nat.xor_self, Nat.xor_zero] at h1
theorem xor_ne {a b : Nat} (h : a ≠ b) : a ^^^ b ≠ 0 := fun e => h (xor_eq_of_zero e)
theorem xor_shift (a b c : Nat) : (a ^^^ c) ^^^ (b ^^^ c) = a ^^^ b := by rw [x4, Nat.xor_self, Nat.xor_zero]
def S (v : Nat → Nat) (t : Nat) : List Nat → Nat
  | [] => 0
  | c :: cs => mul (v c) (inv (t ^^^ c)) ^^^ S v t cs
theorem S_lt (v : Nat → Nat) (t : Nat) : ∀ cs, S v t cs < 256
  | [] => by show 0 < 256; omega
  | c :: cs => xor_lt (mul_lt _ _) (S_lt v t cs)
theorem term {t t0 c c0 V : Nat} (ht : t < 256) (ht0 : t0 < 256) (hc : c < 256) (hc0 : c0 < 256) (hV : V < 256) (h1 : t ≠ c) (h2 : t0 ≠ c) :
    mul (t ^^^ c0) (mul V (inv (t ^^^ c))) ^^^ mul (t0 ^^^ c0) (mul V (inv (t0 ^^^ c))) = mul (t ^^^ t0) (mul (mul (mul V (c0 ^^^ c)) (inv (t0 ^^^ c))) (inv (t ^^^ c))) := by
  have e1 : t ^^^ c0 = (t ^^^ c) ^^^ (c0 ^^^ c) := (xor_shift ..).symm
  have e2 : t0 ^^^ c0 = (t0 ^^^ c) ^^^ (c0 ^^^ c) := (xor_shift ..).symm
  have e3 : t ^^^ t0 = (t ^^^ c) ^^^ (t0 ^^^ c) := (xor_shift ..).symm
  rw [e1, e2, e3]
  have hT : t ^^^ c < 256 := xor_lt ht hc
  have hT0 : t0 ^^^ c < 256 := xor_lt ht0 hc
  have hD : c0 ^^^ c < 256 := xor_lt hc0 hc
  have i1 := mul_inv hT (xor_ne h1)
  have i2 := mul_inv hT0 (xor_ne h2)
  have hA := inv_lt (t ^^^ c)
  have hB := inv_lt (t0 ^^^ c)
  generalize inv (t ^^^ c) = A at *
  generalize inv (t0 ^^^ c) = B at *
  generalize t ^^^ c = T at *
  generalize t0 ^^^ c = T0 at *
  generalize c0 ^^^ c = D at *
  have l1 : mul (T ^^^ D) (mul V A) = mul V (1 ^^^ mul D A) := by rw [mul_left_comm (xor_lt hT hD) hV hA, xor_mul hT hD, i1]
  have l2 : mul (T0 ^^^ D) (mul V B) = mul V (1 ^^^ mul D B) := by rw [mul_left_comm (xor_lt hT0 hD) hV hB, xor_mul hT0 hD, i2]
  have l3 : (1 ^^^ mul D A) ^^^ (1 ^^^ mul D B) = mul D (A ^^^ B) := by rw [x4, Nat.xor_self, Nat.zero_xor, ← mul_xor hA hB]
  have r1 : mul (T ^^^ T0) (mul (mul (mul V D) B) A) = mul (mul V D) (mul (T ^^^ T0) (mul B A)) := by
    rw [mul_assoc (mul_lt _ _) hB hA, mul_left_comm (xor_lt hT hT0) (mul_lt _ _) (mul_lt _ _)]
  have r2 : mul (T ^^^ T0) (mul B A) = A ^^^ B := by
    rw [xor_mul hT hT0, mul_left_comm hT hB hA, i1, ← mul_assoc hT0 hB hA, i2, mul_one hB, mul_comm, mul_one hA, Nat.xor_comm]
  rw [l1, l2, ← mul_xor (xor_lt (by omega) (mul_lt _ _)) (xor_lt (by omega) (mul_lt _ _)), l3, r1, r2, mul_assoc hV hD (xor_lt hA hB)]
theorem sum_term {t t0 c0 : Nat} {v : Nat → Nat} (ht : t < 256) (ht0 : t0 < 256) (hc0 : c0 < 256) (hv : B8 v) : ∀ cs : List Nat, (∀ c ∈ cs, c < 256 ∧ t ≠ c ∧ t0 ≠ c) →
    mul (t ^^^ c0) (S v t cs) ^^^ mul (t0 ^^^ c0) (S v t0 cs) = mul (t ^^^ t0) (S (fun c => mul (mul (v c) (c0 ^^^ c)) (inv (t0 ^^^ c))) t cs)
  | [], _ => by show mul _ 0 ^^^ mul _ 0 = mul _ 0; simp [mul_zero]
  | c :: cs, h => by
    obtain ⟨h1, h2, h3⟩ := h c (List.mem_cons_self ..)
    show mul _ (mul (v c) (inv (t ^^^ c)) ^^^ S v t cs) ^^^ mul _ (mul (v c) (inv (t0 ^^^ c)) ^^^ S v t0 cs) = mul _ (mul (mul (mul (v c) (c0 ^^^ c)) (inv (t0 ^^^ c))) (inv (t ^^^ c)) ^^^ S _ t cs)
    rw [mul_xor (mul_lt _ _) (S_lt ..), mul_xor (mul_lt _ _) (S_lt ..), mul_xor (mul_lt _ _) (S_lt ..), x4, term ht ht0 h1 hc0 (hv c) h2 h3, sum_term ht ht0 hc0 hv cs fun c hc => h c (List.mem_cons_of_mem _ hc)]
theorem S_zero {v : Nat → Nat} {t : Nat} : ∀ {cs : List Nat}, (∀ c ∈ cs, v c = 0) → S v t cs = 0
  | [], _ => rfl
  | c :: cs, h => by
    show mul (v c) _ ^^^ S v t cs = 0
    rw [h c (List.mem_cons_self ..), zero_mul, S_zero fun c hc => h c (List.mem_cons_of_mem _ hc)]; rfl
/-- A Cauchy square has no kernel. -/
theorem cauchy : ∀ (cs ts : List Nat) (v : Nat → Nat), cs.Nodup → ts.Nodup → cs.length ≤ ts.length → (∀ c ∈ cs, c < 256) → (∀ t ∈ ts, t < 256) → (∀ c ∈ cs, ∀ t ∈ ts, t ≠ c) → B8 v → (∀ t ∈ ts, S v t cs = 0) → ∀ c ∈ cs, v c = 0
  | [], _, _, _, _, _, _, _, _, _, _ => fun c hc => by cases hc
  | c0 :: cs, [], _, _, _, hl, _, _, _, _, _ => by simp at hl
  | c0 :: cs, t0 :: ts, v, hn, hm, hl, hc, ht, hd, hv, h => by
    have hn' := List.nodup_cons.1 hn
    have hm' := List.nodup_cons.1 hm
    have h0c := hc c0 (List.mem_cons_self ..)
    have h0t := ht t0 (List.mem_cons_self ..)
    have hne0 := hd c0 (List.mem_cons_self ..) t0 (List.mem_cons_self ..)
    have e0 : mul (t0 ^^^ c0) (S v t0 cs) = v c0 := by
      have h1 : mul (v c0) (inv (t0 ^^^ c0)) ^^^ S v t0 cs = 0 := h t0 (List.mem_cons_self ..)
      rw [← xor_eq_of_zero h1, mul_left_comm (xor_lt h0t h0c) (hv c0) (inv_lt _), mul_inv (xor_lt h0t h0c) (xor_ne hne0), mul_one (hv c0)]
    have key : ∀ t ∈ ts, S (fun c => mul (mul (v c) (c0 ^^^ c)) (inv (t0 ^^^ c))) t cs = 0 := fun t hmem => by
      have htl := ht t (List.mem_cons_of_mem _ hmem)
      have hne := hd c0 (List.mem_cons_self ..) t (List.mem_cons_of_mem _ hmem)
      have h1 : mul (v c0) (inv (t ^^^ c0)) ^^^ S v t cs = 0 := h t (List.mem_cons_of_mem _ hmem)
      have e1 : mul (t ^^^ c0) (S v t cs) = v c0 := by
        rw [← xor_eq_of_zero h1, mul_left_comm (xor_lt htl h0c) (hv c0) (inv_lt _), mul_inv (xor_lt htl h0c) (xor_ne hne), mul_one (hv c0)]
      have h2 := sum_term htl h0t h0c hv cs fun c hmc => ⟨hc c (List.mem_cons_of_mem _ hmc), hd c (List.mem_cons_of_mem _ hmc) t (List.mem_cons_of_mem _ hmem), hd c (List.mem_cons_of_mem _ hmc) t0 (List.mem_cons_self ..)⟩
      rw [e1, e0, Nat.xor_self] at h2
      rcases mul_eq_zero h2.symm with h3 | h3
      · exact absurd h3 (xor_ne fun e => hm'.1 (e ▸ hmem))
      · exact h3
    have ih := cauchy cs ts _ hn'.2 hm'.2 (by simp at hl; omega) (fun c hmc => hc c (List.mem_cons_of_mem _ hmc)) (fun t hmt => ht t (List.mem_cons_of_mem _ hmt)) (fun c hmc t hmt => hd c (List.mem_cons_of_mem _ hmc) t (List.mem_cons_of_mem _ hmt)) (fun c => mul_lt _ _) key
    have hz : ∀ c ∈ cs, v c = 0 := fun c hmc => by
      rcases mul_eq_zero (ih c hmc) with h1 | h1
      · rcases mul_eq_zero h1 with h2 | h2
        · exact h2
        · exact absurd h2 (xor_ne fun e => hn'.1 (e ▸ hmc))
      · exact absurd h1 (inv_ne (xor_ne (hd c (List.mem_cons_of_mem _ hmc) t0 (List.mem_cons_self ..))))
    intro c hmc
    rcases List.mem_cons.1 hmc with rfl | hmc
    · rw [← e0, S_zero hz, mul_zero]
    · exact hz c hmc
theorem S_snoc (v : Nat → Nat) (t c : Nat) : ∀ cs : List Nat, S v t (cs ++ [c]) = S v t cs ^^^ mul (v c) (inv (t ^^^ c))
  | [] => by show mul _ _ ^^^ 0 = 0 ^^^ _; rw [Nat.xor_zero, Nat.zero_xor]
  | d :: cs => by show mul _ _ ^^^ S v t (cs ++ [c]) = (mul _ _ ^^^ S v t cs) ^^^ _; rw [S_snoc v t c cs, Nat.xor_assoc]
theorem dot_S (v : Nat → Nat) (t : Nat) : ∀ n, dot (fun j => inv (t ^^^ j)) v n = S v t (List.range n)
  | 0 => rfl
  | n + 1 => by rw [List.range_succ, S_snoc, ← dot_S v t n]; rfl
theorem S_filter {v : Nat → Nat} {t : Nat} (p : Nat → Bool) : ∀ {cs : List Nat}, (∀ c ∈ cs, p c = false → v c = 0) → S v t cs = S v t (cs.filter p)
  | [], _ => rfl
  | c :: cs, h => by
    have ih := S_filter p (t := t) fun d hd => h d (List.mem_cons_of_mem _ hd)
    by_cases e : p c = true
    · rw [List.filter_cons_of_pos e]; show mul _ _ ^^^ _ = mul _ _ ^^^ _; rw [ih]
    · have e' : p c = false := by simpa using e
      rw [List.filter_cons_of_neg e]; show mul (v c) _ ^^^ _ = _; rw [h c (List.mem_cons_self ..) e', zero_mul, Nat.zero_xor, ih]
theorem nodup_filter {l : List Nat} (p : Nat → Bool) (h : l.Nodup) : (l.filter p).Nodup := h.sublist List.filter_sublist
theorem filter_two (l : List Nat) (p : Nat → Bool) : l.length = (l.filter p).length + (l.filter fun a => !p a).length := by
  induction l with
  | nil => rfl
  | cons a l ih => by_cases e : p a = true <;> simp [e] <;> omega
/-- Any k rows are enough: no other blocks have the same fragments. -/
theorem rows_ns {k : Nat} {ats : List Nat} {v : Nat → Nat} (hk : k ≤ 256) (hn : ats.Nodup) (hl : k ≤ ats.length) (hlt : ∀ a ∈ ats, a < 256) (hv : B8 v) (h : ∀ a ∈ ats, dot (cf k a) v k = 0) : ∀ j, j < k → v j = 0 := by
  have hsmall : ∀ a ∈ ats, a < k → v a = 0 := fun a ha hak => by
    have h1 := h a ha
    rw [dot_one (i := a) hak fun j _ hne => by unfold cf; rw [if_pos hak, if_neg hne, mul_zero]] at h1
    unfold cf at h1
    rw [if_pos hak, if_pos rfl, mul_one (hv a)] at h1
    exact h1
  let p : Nat → Bool := fun c => !ats.contains c
  let q : Nat → Bool := fun a => decide (k ≤ a)
  have hcs : ((List.range k).filter p).length ≤ (ats.filter q).length := by
    have e1 := filter_two (List.range k) p
    have e2 := filter_two ats q
    have e3 : (ats.filter fun a => !q a).length ≤ ((List.range k).filter fun c => !p c).length := by
      refine (nodup_filter _ hn).length_le_of_subset fun a ha => ?_
      obtain ⟨h1, h2⟩ := List.mem_filter.1 ha
      have h3 : a < k := by simp [q] at h2; omega
      exact List.mem_filter.2 ⟨List.mem_range.2 h3, by simp [p, h1]⟩
    rw [List.length_range] at e1
    omega
  have hz := cauchy ((List.range k).filter p) (ats.filter q) v (nodup_filter _ List.nodup_range) (nodup_filter _ hn) hcs
    (fun c hc => by have := List.mem_range.1 (List.mem_filter.1 hc).1; omega) (fun t ht => hlt t (List.mem_filter.1 ht).1)
    (fun c hc t ht => by
      have h1 := (List.mem_filter.1 hc).2
      have h2 := (List.mem_filter.1 ht).1
      intro e; subst e; simp [p, h2] at h1) hv
    (fun t ht => by
      obtain ⟨h1, h2⟩ := List.mem_filter.1 ht
      have h3 : k ≤ t := by simpa [q] using h2
      rw [← S_filter p fun c hc hp => hsmall c (by simpa [p] using hp) (List.mem_range.1 hc), ← dot_S, ← h t h1]
      exact dot_congr fun j _ => ⟨by unfold cf; rw [if_neg (by omega)], rfl⟩)
  intro j hj
  by_cases e : j ∈ ats
  · exact hsmall j e hj
  · exact hz j (List.mem_filter.2 ⟨List.mem_range.2 hj, by simp [p, e]⟩)

/-! ### elimination -/
abbrev Row := Nat → Nat
abbrev Mat := Nat → Row
structure Lin (F : Row → Nat) : Prop where
  add : ∀ (r s : Row) (a : Nat), B8 r → B8 s → a < 256 → F (fun c => r c ^^^ mul (s c) a) = F r ^^^ mul (F s) a
  mul : ∀ (s : Row) (a : Nat), B8 s → a < 256 → F (fun c => mul (s c) a) = mul (F s) a
theorem lin_dot {v : Nat → Nat} (hv : B8 v) (k : Nat) : Lin (fun r => dot r v k) := ⟨fun _ _ _ hr hs ha => dot_c_add hr hs hv ha k, fun _ _ hs ha => dot_c_mul hs hv ha k⟩
theorem lin_aug {v : Nat → Nat} (hv : B8 v) (k x : Nat) : Lin (fun r => dot r v k ^^^ r x) :=
  ⟨fun r s a hr hs ha => by simp only [dot_c_add hr hs hv ha k]; rw [xor_mul (dot_lt _ _ _) (hs x), x4], fun s a hs ha => by simp only [dot_c_mul hs hv ha k]; rw [xor_mul (dot_lt _ _ _) (hs x)]⟩
def NSing (k : Nat) (M : Mat) : Prop := ∀ v, B8 v → (∀ i, i < k → dot (M i) v k = 0) → ∀ j, j < k → v j = 0
def UnitTo (k j : Nat) (M : Mat) : Prop := ∀ c, c < j → ∀ i, i < k → M i c = if i = c then 1 else 0
def BM (M : Mat) : Prop := ∀ i, B8 (M i)
def swapM (M : Mat) (p j : Nat) : Mat := fun i => if i = j then M p else if i = p then M j else M i
def stepM (N : Mat) (j : Nat) : Mat := fun i => if i = j then fun c => mul (N j c) (inv (N j j)) else fun c => N i c ^^^ mul (mul (N j c) (inv (N j j))) (N i j)
/-- The same equations. -/
def SameEq (k : Nat) (M M' : Mat) : Prop := ∀ F, Lin F → ((∀ i, i < k → F (M i) = 0) ↔ ∀ i, i < k → F (M' i) = 0)
theorem SameEq.refl (k : Nat) (M : Mat) : SameEq k M M := fun _ _ => Iff.rfl
theorem SameEq.trans {k : Nat} {M N O : Mat} (h : SameEq k M N) (h' : SameEq k N O) : SameEq k M O := fun F hF => (h F hF).trans (h' F hF)
theorem SameEq.ns {k : Nat} {M N : Mat} (h : SameEq k M N) (hn : NSing k M) : NSing k N := fun v hv hz => hn v hv ((h _ (lin_dot hv k)).2 hz)
theorem swap_bm {M : Mat} (h : BM M) (p j : Nat) : BM (swapM M p j) := fun i => by unfold swapM; split; exact h p; split; exact h j; exact h i
theorem step_bm {N : Mat} (h : BM N) (j : Nat) : BM (stepM N j) := fun i c => by
  unfold stepM; split
  · exact mul_lt _ _
  · exact xor_lt (h i c) (mul_lt _ _)
theorem swap_same {k p j : Nat} (M : Mat) (hp : p < k) (hj : j < k) : SameEq k M (swapM M p j) := by
  intro F _
  constructor
  · intro h i hi
    unfold swapM; split
    · exact h p hp
    · split
      · exact h j hj
      · exact h i hi
  · intro h i hi
    by_cases e : i = p
    · subst e; have := h j hj; unfold swapM at this; rwa [if_pos rfl] at this
    · by_cases e2 : i = j
      · subst e2; have := h p hp; unfold swapM at this; rwa [if_neg (by omega), if_pos rfl] at this
      · have := h i hi; unfold swapM at this; rwa [if_neg e2, if_neg e] at this
theorem step_same {k j : Nat} {N : Mat} (hb : BM N) (hj : j < k) (hne : N j j ≠ 0) : SameEq k N (stepM N j) := by
  intro F hF
  have hm : (fun c => mul (N j c) (inv (N j j))) = stepM N j j := by unfold stepM; rw [if_pos rfl]
  have e1 : F (stepM N j j) = mul (F (N j)) (inv (N j j)) := by rw [← hm]; exact hF.mul _ _ (hb j) (inv_lt _)
  have e2 : ∀ i, i ≠ j → F (stepM N j i) = F (N i) ^^^ mul (F (stepM N j j)) (N i j) := fun i hi => by
    have : stepM N j i = fun c => N i c ^^^ mul (stepM N j j c) (N i j) := by rw [← hm]; unfold stepM; rw [if_neg hi]
    rw [this]; exact hF.add _ _ _ (hb i) (fun c => step_bm hb j j c) (hb i j)
  constructor
  · intro h i hi
    have h0 : F (stepM N j j) = 0 := by rw [e1, h j hj, zero_mul]
    by_cases e : i = j
    · rw [e]; exact h0
    · rw [e2 i e, h0, h i hi, zero_mul]; rfl
  · intro h i hi
    have h0 := h j hj
    by_cases e : i = j
    · rw [e1] at h0
      rw [e]
      rcases mul_eq_zero h0 with h1 | h1
      · exact h1
      · exact absurd h1 (inv_ne hne)
    · have := h i hi
      rwa [e2 i e, h0, zero_mul, Nat.xor_zero] at this
theorem swap_unit {k p j : Nat} {M : Mat} (h : UnitTo k j M) (hp : p < k) (hj : j ≤ p) : UnitTo k j (swapM M p j) := by
  intro c hc i hi
  unfold swapM
  by_cases e : i = j
  · rw [if_pos e, h c hc p hp, if_neg (by omega), if_neg (by omega)]
  · rw [if_neg e]
    by_cases e2 : i = p
    · rw [if_pos e2, h c hc j (by omega), if_neg (by omega), if_neg (by omega)]
    · rw [if_neg e2]; exact h c hc i hi
theorem step_unit {k j : Nat} {N : Mat} (hb : BM N) (h : UnitTo k j N) (hj : j < k) (hne : N j j ≠ 0) : UnitTo k (j + 1) (stepM N j) := by
  intro c hc i hi
  unfold stepM
  by_cases ec : c = j
  · subst ec
    by_cases e : i = c
    · rw [if_pos e, if_pos e]; exact mul_inv (hb c c) hne
    · rw [if_neg e, if_neg e]
      show N i c ^^^ mul (mul (N c c) (inv (N c c))) (N i c) = 0
      rw [mul_inv (hb c c) hne, mul_comm, mul_one (hb i c), Nat.xor_self]
  · have h1 := h c (by omega) j hj
    rw [if_neg (by omega)] at h1
    by_cases e : i = j
    · rw [if_pos e, if_neg (by omega)]
      show mul (N j c) _ = 0
      rw [h1, zero_mul]
    · rw [if_neg e]
      show N i c ^^^ mul (mul (N j c) _) _ = _
      rw [h1, zero_mul, zero_mul, Nat.xor_zero]; exact h c (by omega) i hi
theorem pivot_ex {k j : Nat} {M : Mat} (hb : BM M) (hn : NSing k M) (hu : UnitTo k j M) (hj : j < k) : ∃ p, j ≤ p ∧ p < k ∧ M p j ≠ 0 := by
  by_cases hx : ∃ p, j ≤ p ∧ p < k ∧ M p j ≠ 0
  · exact hx
  exfalso
  have hall : ∀ i, j ≤ i → i < k → M i j = 0 := fun i h1 h2 => by
    by_cases e : M i j = 0
    · exact e
    · exact absurd ⟨i, h1, h2, e⟩ hx
  let v : Nat → Nat := fun c => if c = j then 1 else if c < j then M c j else 0
  have hv : B8 v := fun c => by
    show (if c = j then 1 else if c < j then M c j else 0) < 256
    split
    · omega
    · split
      · exact hb c j
      · omega
  have hvj : v j = 1 := by show (if j = j then 1 else _) = 1; rw [if_pos rfl]
  have hvl : ∀ c, c < j → v c = M c j := fun c hc => by show (if c = j then 1 else if c < j then M c j else 0) = _; rw [if_neg (by omega), if_pos hc]
  have hvg : ∀ c, j < c → v c = 0 := fun c hc => by show (if c = j then 1 else if c < j then M c j else 0) = _; rw [if_neg (by omega), if_neg (by omega)]
  have := hn v hv (fun i hi => by
    by_cases hij : i < j
    · rw [dot_two (i := i) (i' := j) hij hj fun c hc h1 h2 => ?_]
      · rw [hvl i hij, hvj, hu i hij i hi, if_pos rfl, mul_one (hb i j), mul_comm, mul_one (hb i j), Nat.xor_self]
      · by_cases hcj : c < j
        · rw [hu c hcj i hi, if_neg (by omega), mul_zero]
        · rw [hvg c (by omega), zero_mul]
    · refine dot_zero fun c hc => ?_
      by_cases hcj : c < j
      · rw [hu c hcj i hi, if_neg (by omega), mul_zero]
      · by_cases e : c = j
        · rw [e, hall i (by omega) hi, mul_zero]
        · rw [hvg c (by omega), zero_mul]) j hj
  omega
/-- Behind the last step the lines tell the solution. -/
theorem unit_dot {k : Nat} {M : Mat} {v : Nat → Nat} (hv : B8 v) (hu : UnitTo k k M) {i : Nat} (hi : i < k) : dot (M i) v k = v i := by
  rw [dot_one hi fun c hc hne => by rw [hu c hc i hi, if_neg (by omega), mul_zero], hu i hi i hi, if_pos rfl, mul_one (hv i)]
theorem solved {k w : Nat} {M M' : Mat} (hb : BM M') (hs : SameEq k M M') (hu : UnitTo k k M') : ∀ x, x < w → ∀ i, i < k → dot (M i) (fun j => M' j (k + x)) k = M i (k + x) := by
  intro x _ i hi
  have hv : B8 (fun j => M' j (k + x)) := fun j => hb j _
  exact xor_eq_of_zero ((hs _ (lin_aug hv k (k + x))).2 (fun i hi => by show dot (M' i) _ k ^^^ M' i (k + x) = 0; rw [unit_dot hv hu hi, Nat.xor_self]) i hi)
end Go.Proofs.YtoklknjnegpaaaaDoor.Cd
