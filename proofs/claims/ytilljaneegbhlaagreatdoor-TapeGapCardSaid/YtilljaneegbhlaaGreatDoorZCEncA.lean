import Derived.Test.YtilljaneegbhlaaGreatDoorZCGf
import Derived.Test.YtilljaneegbhlaaGreatDoorZCRows
import Derived.Test.YtilljaneegbhlaaGreatDoorZKind
import Derived.Deep.RegionLaw
import Derived.Deep.RegionHeld3
import Derived.Deep.DrawnRows
import Derived.Test.YtilljaneegbhlaaGreatDoorZFind
namespace Go.Proofs.YtilljaneegbhlaaGreatDoor.Cd
open Gf
set_option maxHeartbeats 2000000
set_option maxRecDepth 100000
def cf (k a j : Nat) : Nat := if a < k then (if j = a then 1 else 0) else inv (a ^^^ j)
theorem cf_lt (k a j : Nat) : cf k a j < 256 := by
 unfold cf; split
 ·split <;> omega
 ·exact inv_lt _
def dot (c v : Nat → Nat) : Nat → Nat
 | 0 => 0
 | n + 1 => dot c v n ^^^ mul (v n) (c n)
def B8 (f : Nat → Nat) : Prop := ∀ j, f j < 256
theorem dot_lt (c v : Nat → Nat) : ∀ n, dot c v n < 256
 | 0 => by show 0 < 256; omega
 | n + 1 => xor_lt (dot_lt c v n) (mul_lt _ _)
theorem dot_congr {c c' v v' : Nat → Nat} : ∀ {n : Nat}, (∀ j, j < n → c j = c' j ∧ v j = v' j) → dot c v n = dot c' v' n
 | 0, _ => rfl
 | n + 1, h => by
  show dot c v n ^^^ mul (v n) (c n) = dot c' v' n ^^^ mul (v' n) (c' n)
  rw [dot_congr (n := n) fun j hj => h j (by omega), (h n (by omega)).1, (h n (by omega)).2]
theorem dot_zero {c v : Nat → Nat} : ∀ {n : Nat}, (∀ j, j < n → mul (v j) (c j) = 0) → dot c v n = 0
 | 0, _ => rfl
 | n + 1, h => by
  show dot c v n ^^^ mul (v n) (c n) = 0
  rw [dot_zero (n := n) fun j hj => h j (by omega), h n (by omega)]; rfl
theorem dot_one {c v : Nat → Nat} {i : Nat} : ∀ {n : Nat}, i < n → (∀ j, j < n → j ≠ i → mul (v j) (c j) = 0) → dot c v n = mul (v i) (c i)
 | 0, h, _ => by omega
 | n + 1, h, hz => by
  show dot c v n ^^^ mul (v n) (c n) = _
  by_cases e : i = n
  ·subst e
   rw [dot_zero fun j hj => hz j (by omega) (by omega), Nat.zero_xor]
  ·rw [dot_one (n := n) (by omega) fun j hj => hz j (by omega), hz n (by omega) (by omega), Nat.xor_zero]
theorem dot_two {c v : Nat → Nat} {i i' : Nat} (hi : i < i') : ∀ {n : Nat}, i' < n → (∀ j, j < n → j ≠ i → j ≠ i' → mul (v j) (c j) = 0) → dot c v n = mul (v i) (c i) ^^^ mul (v i') (c i')
 | 0, h, _ => by omega
 | n + 1, h, hz => by
  show dot c v n ^^^ mul (v n) (c n) = _
  by_cases e : i' = n
  ·subst e
   rw [dot_one (n := i') (i := i) (by omega) fun j hj h1 => hz j (by omega) h1 (by omega)]
  ·rw [dot_two hi (n := n) (by omega) fun j hj => hz j (by omega), hz n (by omega) (by omega) (by omega), Nat.xor_zero]
theorem x4 (a b c d : Nat) : (a ^^^ b) ^^^ (c ^^^ d) = (a ^^^ c) ^^^ (b ^^^ d) := by
 rw [Nat.xor_assoc, Nat.xor_assoc, ← Nat.xor_assoc b, ← Nat.xor_assoc c, Nat.xor_comm b c]
theorem dot_c_mul {d v : Nat → Nat} (hd : B8 d) (hv : B8 v) {a : Nat} (ha : a < 256) : ∀ n, dot (fun j => mul (d j) a) v n = mul (dot d v n) a
 | 0 => by show 0 = mul 0 a; rw [zero_mul]
 | n + 1 => by
  show dot (fun j => mul (d j) a) v n ^^^ mul (v n) (mul (d n) a) = mul (dot d v n ^^^ mul (v n) (d n)) a
  rw [dot_c_mul hd hv ha n, xor_mul (dot_lt _ _ _) (mul_lt _ _), mul_assoc (hv n) (hd n) ha]
theorem dot_c_add {c d v : Nat → Nat} (hc : B8 c) (hd : B8 d) (hv : B8 v) {a : Nat} (ha : a < 256) : ∀ n, dot (fun j => c j ^^^ mul (d j) a) v n = dot c v n ^^^ mul (dot d v n) a
 | 0 => by show 0 = 0 ^^^ mul 0 a; rw [zero_mul]; rfl
 | n + 1 => by
  show dot (fun j => c j ^^^ mul (d j) a) v n ^^^ mul (v n) (c n ^^^ mul (d n) a) = (dot c v n ^^^ mul (v n) (c n)) ^^^ mul (dot d v n ^^^ mul (v n) (d n)) a
  rw [dot_c_add hc hd hv ha n, mul_xor (hc n) (mul_lt _ _), xor_mul (dot_lt _ _ _) (mul_lt _ _), mul_assoc (hv n) (hd n) ha, x4]
theorem dot_v_xor {c v u : Nat → Nat} (hv : B8 v) (hu : B8 u) : ∀ n, dot c (fun j => v j ^^^ u j) n = dot c v n ^^^ dot c u n
 | 0 => by show 0 = 0 ^^^ 0; rfl
 | n + 1 => by
  show dot c (fun j => v j ^^^ u j) n ^^^ mul (v n ^^^ u n) (c n) = (dot c v n ^^^ mul (v n) (c n)) ^^^ (dot c u n ^^^ mul (u n) (c n))
  rw [dot_v_xor hv hu n, xor_mul (hv n) (hu n), x4]
variable {a b : Nat}
theorem mul_eq_zero (h : mul a b = 0) : a = 0 ∨ b = 0 := by
 by_cases ha : a = 0
 ·exact Or.inl ha
 ·by_cases hb : b = 0
  ·exact Or.inr hb
  ·exact absurd h (mul_ne ha hb)
variable {c : Nat}
theorem mul_left_comm (ha : a < 256) (hb : b < 256) (hc : c < 256) : mul a (mul b c) = mul b (mul a c) := by
 rw [← mul_assoc ha hb hc, mul_comm a b, mul_assoc hb ha hc]
theorem xor_eq_of_zero (h : a ^^^ b = 0) : a = b := by
 have h1 : (a ^^^ b) ^^^ b = b := by rw [h, Nat.zero_xor]
 rwa [Nat.xor_assoc, Nat.xor_self, Nat.xor_zero] at h1
theorem xor_ne (h : a ≠ b) : a ^^^ b ≠ 0 := fun e => h (xor_eq_of_zero e)
theorem xor_shift (a b c : Nat) : (a ^^^ c) ^^^ (b ^^^ c) = a ^^^ b := by rw [x4, Nat.xor_self, Nat.xor_zero]
def S (v : Nat → Nat) (t : Nat) : List Nat → Nat
 | [] => 0
 | c :: cs => mul (v c) (inv (t ^^^ c)) ^^^ S v t cs
theorem S_lt (v : Nat → Nat) (t : Nat) : ∀ cs, S v t cs < 256
 | [] => by show 0 < 256; omega
 | c :: cs => xor_lt (mul_lt _ _) (S_lt v t cs)
theorem term {t t0 c0 V : Nat} (ht : t < 256) (ht0 : t0 < 256) (hc : c < 256) (hc0 : c0 < 256) (hV : V < 256) (h1 : t ≠ c) (h2 : t0 ≠ c) :
  mul (t ^^^ c0) (mul V (inv (t ^^^ c))) ^^^ mul (t0 ^^^ c0) (mul V (inv (t0 ^^^ c))) = mul (t ^^^ t0) (mul (mul (mul V (c0 ^^^ c)) (inv (t0 ^^^ c))) (inv (t ^^^ c))) := by
 have e1 : t ^^^ c0 = (t ^^^ c) ^^^ (c0 ^^^ c) := (xor_shift ..).symm
 have e2 : t0 ^^^ c0 = (t0 ^^^ c) ^^^ (c0 ^^^ c) := (xor_shift ..).symm
 have e3 : t ^^^ t0 = (t ^^^ c) ^^^ (t0 ^^^ c) := (xor_shift ..).symm
 rw [e1, e2, e3]
 have hT : t ^^^ c < 256 := xor_lt ht hc
 have hT0 : t0 ^^^ c < 256 := xor_lt ht0 hc
 have hD : c0 ^^^ c < 256 := xor_lt hc0 hc
 have i1 := mul_inv hT (xor_ne h1)
 have i2 := mul_inv hT0 (xor_ne h2)
 have hA := inv_lt (t ^^^ c)
 have hB := inv_lt (t0 ^^^ c)
 generalize inv (t ^^^ c) = A at *
 generalize inv (t0 ^^^ c) = B at *
 generalize t ^^^ c = T at *
 generalize t0 ^^^ c = T0 at *
 generalize c0 ^^^ c = D at *
 have l1 : mul (T ^^^ D) (mul V A) = mul V (1 ^^^ mul D A) := by rw [mul_left_comm (xor_lt hT hD) hV hA, xor_mul hT hD, i1]
 have l2 : mul (T0 ^^^ D) (mul V B) = mul V (1 ^^^ mul D B) := by rw [mul_left_comm (xor_lt hT0 hD) hV hB, xor_mul hT0 hD, i2]
 have l3 : (1 ^^^ mul D A) ^^^ (1 ^^^ mul D B) = mul D (A ^^^ B) := by rw [x4, Nat.xor_self, Nat.zero_xor, ← mul_xor hA hB]
 have r1 : mul (T ^^^ T0) (mul (mul (mul V D) B) A) = mul (mul V D) (mul (T ^^^ T0) (mul B A)) := by
  rw [mul_assoc (mul_lt _ _) hB hA, mul_left_comm (xor_lt hT hT0) (mul_lt _ _) (mul_lt _ _)]
 have r2 : mul (T ^^^ T0) (mul B A) = A ^^^ B := by
  rw [xor_mul hT hT0, mul_left_comm hT hB hA, i1, ← mul_assoc hT0 hB hA, i2, mul_one hB, mul_comm, mul_one hA, Nat.xor_comm]
 rw [l1, l2, ← mul_xor (xor_lt (by omega) (mul_lt _ _)) (xor_lt (by omega) (mul_lt _ _)), l3, r1, r2, mul_assoc hV hD (xor_lt hA hB)]
theorem sum_term {t t0 c0 : Nat} {v : Nat → Nat} (ht : t < 256) (ht0 : t0 < 256) (hc0 : c0 < 256) (hv : B8 v) : ∀ cs : List Nat, (∀ c ∈ cs, c < 256 ∧ t ≠ c ∧ t0 ≠ c) →
  mul (t ^^^ c0) (S v t cs) ^^^ mul (t0 ^^^ c0) (S v t0 cs) = mul (t ^^^ t0) (S (fun c => mul (mul (v c) (c0 ^^^ c)) (inv (t0 ^^^ c))) t cs)
 | [], _ => by show mul _ 0 ^^^ mul _ 0 = mul _ 0; simp [mul_zero]
 | c :: cs, h => by
  obtain ⟨h1, h2, h3⟩ := h c (List.mem_cons_self ..)
  show mul _ (mul (v c) (inv (t ^^^ c)) ^^^ S v t cs) ^^^ mul _ (mul (v c) (inv (t0 ^^^ c)) ^^^ S v t0 cs) = mul _ (mul (mul (mul (v c) (c0 ^^^ c)) (inv (t0 ^^^ c))) (inv (t ^^^ c)) ^^^ S _ t cs)
  rw [mul_xor (mul_lt _ _) (S_lt ..), mul_xor (mul_lt _ _) (S_lt ..), mul_xor (mul_lt _ _) (S_lt ..), x4, term ht ht0 h1 hc0 (hv c) h2 h3, sum_term ht ht0 hc0 hv cs fun c hc => h c (List.mem_cons_of_mem _ hc)]
theorem S_zero {v : Nat → Nat} {t : Nat} : ∀ {cs : List Nat}, (∀ c ∈ cs, v c = 0) → S v t cs = 0
 | [], _ => rfl
 | c :: cs, h => by
  show mul (v c) _ ^^^ S v t cs = 0
  rw [h c (List.mem_cons_self ..), zero_mul, S_zero fun c hc => h c (List.mem_cons_of_mem _ hc)]; rfl
theorem cauchy : ∀ (cs ts : List Nat) (v : Nat → Nat), cs.Nodup → ts.Nodup → cs.length ≤ ts.length → (∀ c ∈ cs, c < 256) → (∀ t ∈ ts, t < 256) → (∀ c ∈ cs, ∀ t ∈ ts, t ≠ c) → B8 v → (∀ t ∈ ts, S v t cs = 0) → ∀ c ∈ cs, v c = 0
 | [], _, _, _, _, _, _, _, _, _, _ => fun c hc => by cases hc
 | c0 :: cs, [], _, _, _, hl, _, _, _, _, _ => by simp at hl
 | c0 :: cs, t0 :: ts, v, hn, hm, hl, hc, ht, hd, hv, h => by
  have hn' := List.nodup_cons.1 hn; have hm' := List.nodup_cons.1 hm; have h0c := hc c0 (List.mem_cons_self ..); have h0t := ht t0 (List.mem_cons_self ..); have hne0 := hd c0 (List.mem_cons_self ..) t0 (List.mem_cons_self ..)
  have e0 : mul (t0 ^^^ c0) (S v t0 cs) = v c0 := by
   have h1 : mul (v c0) (inv (t0 ^^^ c0)) ^^^ S v t0 cs = 0 := h t0 (List.mem_cons_self ..); rw [← xor_eq_of_zero h1, mul_left_comm (xor_lt h0t h0c) (hv c0) (inv_lt _), mul_inv (xor_lt h0t h0c) (xor_ne hne0), mul_one (hv c0)]
  have key : ∀ t ∈ ts, S (fun c => mul (mul (v c) (c0 ^^^ c)) (inv (t0 ^^^ c))) t cs = 0 := fun t hmem => by
   have htl := ht t (List.mem_cons_of_mem _ hmem); have hne := hd c0 (List.mem_cons_self ..) t (List.mem_cons_of_mem _ hmem); have h1 : mul (v c0) (inv (t ^^^ c0)) ^^^ S v t cs = 0 := h t (List.mem_cons_of_mem _ hmem)
   have e1 : mul (t ^^^ c0) (S v t cs) = v c0 := by
    rw [← xor_eq_of_zero h1, mul_left_comm (xor_lt htl h0c) (hv c0) (inv_lt _), mul_inv (xor_lt htl h0c) (xor_ne hne), mul_one (hv c0)]
   have h2 := sum_term htl h0t h0c hv cs fun c hmc => ⟨hc c (List.mem_cons_of_mem _ hmc), hd c (List.mem_cons_of_mem _ hmc) t (List.mem_cons_of_mem _ hmem), hd c (List.mem_cons_of_mem _ hmc) t0 (List.mem_cons_self ..)⟩
   rw [e1, e0, Nat.xor_self] at h2
   rcases mul_eq_zero h2.symm with h3 | h3
   ·exact absurd h3 (xor_ne fun e => hm'.1 (e ▸ hmem))
   ·exact h3
  have ih := cauchy cs ts _ hn'.2 hm'.2 (by simp at hl; omega) (fun c hmc => hc c (List.mem_cons_of_mem _ hmc)) (fun t hmt => ht t (List.mem_cons_of_mem _ hmt)) (fun c hmc t hmt => hd c (List.mem_cons_of_mem _ hmc) t (List.mem_cons_of_mem _ hmt)) (fun c => mul_lt _ _) key
  have hz : ∀ c ∈ cs, v c = 0 := fun c hmc => by
   rcases mul_eq_zero (ih c hmc) with h1 | h1
   ·rcases mul_eq_zero h1 with h2 | h2
    ·exact h2
    ·exact absurd h2 (xor_ne fun e => hn'.1 (e ▸ hmc))
   ·exact absurd h1 (inv_ne (xor_ne (hd c (List.mem_cons_of_mem _ hmc) t0 (List.mem_cons_self ..))))
  intro c hmc
  rcases List.mem_cons.1 hmc with rfl | hmc
  ·rw [← e0, S_zero hz, mul_zero]
  ·exact hz c hmc
theorem S_snoc (v : Nat → Nat) (t c : Nat) : ∀ cs : List Nat, S v t (cs ++ [c]) = S v t cs ^^^ mul (v c) (inv (t ^^^ c))
 | [] => by show mul _ _ ^^^ 0 = 0 ^^^ _; rw [Nat.xor_zero, Nat.zero_xor]
 | d :: cs => by show mul _ _ ^^^ S v t (cs ++ [c]) = (mul _ _ ^^^ S v t cs) ^^^ _; rw [S_snoc v t c cs, Nat.xor_assoc]
theorem dot_S (v : Nat → Nat) (t : Nat) : ∀ n, dot (fun j => inv (t ^^^ j)) v n = S v t (List.range n)
 | 0 => rfl
 | n + 1 => by rw [List.range_succ, S_snoc, ← dot_S v t n]; rfl
theorem S_filter {v : Nat → Nat} {t : Nat} (p : Nat → Bool) : ∀ {cs : List Nat}, (∀ c ∈ cs, p c = false → v c = 0) → S v t cs = S v t (cs.filter p)
 | [], _ => rfl
 | c :: cs, h => by
  have ih := S_filter p (t := t) fun d hd => h d (List.mem_cons_of_mem _ hd)
  by_cases e : p c = true
  ·rw [List.filter_cons_of_pos e]; show mul _ _ ^^^ _ = mul _ _ ^^^ _; rw [ih]
  ·have e' : p c = false := by simpa using e
   rw [List.filter_cons_of_neg e]; show mul (v c) _ ^^^ _ = _; rw [h c (List.mem_cons_self ..) e', zero_mul, Nat.zero_xor, ih]
theorem nodup_filter {l : List Nat} (p : Nat → Bool) (h : l.Nodup) : (l.filter p).Nodup := h.sublist List.filter_sublist
theorem filter_two (l : List Nat) (p : Nat → Bool) : l.length = (l.filter p).length + (l.filter fun a => !p a).length := by
 induction l with
 | nil => rfl
 | cons a l ih => by_cases e : p a = true <;> simp [e] <;> omega
variable {k : Nat}
theorem rows_ns {ats : List Nat} {v : Nat → Nat} (hk : k ≤ 256) (hn : ats.Nodup) (hl : k ≤ ats.length) (hlt : ∀ a ∈ ats, a < 256) (hv : B8 v) (h : ∀ a ∈ ats, dot (cf k a) v k = 0) : ∀ j, j < k → v j = 0 := by
 have hsmall : ∀ a ∈ ats, a < k → v a = 0 := fun a ha hak => by
  have h1 := h a ha; rw [dot_one (i := a) hak fun j _ hne => by unfold cf; rw [if_pos hak, if_neg hne, mul_zero]] at h1; unfold cf at h1; rw [if_pos hak, if_pos rfl, mul_one (hv a)] at h1; exact h1
 let p : Nat → Bool := fun c => !ats.contains c
 let q : Nat → Bool := fun a => decide (k ≤ a)
 have hcs : ((List.range k).filter p).length ≤ (ats.filter q).length := by
  have e1 := filter_two (List.range k) p; have e2 := filter_two ats q
  have e3 : (ats.filter fun a => !q a).length ≤ ((List.range k).filter fun c => !p c).length := by
   refine (nodup_filter _ hn).length_le_of_subset fun a ha => ?_
   obtain ⟨h1, h2⟩ := List.mem_filter.1 ha
   have h3 : a < k := by simp [q] at h2; omega
   exact List.mem_filter.2 ⟨List.mem_range.2 h3, by simp [p, h1]⟩
  rw [List.length_range] at e1; omega
 have hz := cauchy ((List.range k).filter p) (ats.filter q) v (nodup_filter _ List.nodup_range) (nodup_filter _ hn) hcs
  (fun c hc => by have := List.mem_range.1 (List.mem_filter.1 hc).1; omega) (fun t ht => hlt t (List.mem_filter.1 ht).1)
  (fun c hc t ht => by
   have h1 := (List.mem_filter.1 hc).2; have h2 := (List.mem_filter.1 ht).1
   intro e; subst e; simp [p, h2] at h1) hv
  (fun t ht => by
   obtain ⟨h1, h2⟩ := List.mem_filter.1 ht
   have h3 : k ≤ t := by simpa [q] using h2
   rw [← S_filter p fun c hc hp => hsmall c (by simpa [p] using hp) (List.mem_range.1 hc), ← dot_S, ← h t h1]
   exact dot_congr fun j _ => ⟨by unfold cf; rw [if_neg (by omega)], rfl⟩)
 intro j hj
 by_cases e : j ∈ ats
 ·exact hsmall j e hj
 ·exact hz j (List.mem_filter.2 ⟨List.mem_range.2 hj, by simp [p, e]⟩)
abbrev Row := Nat → Nat
abbrev Mat := Nat → Row
structure Lin (F : Row → Nat) : Prop where
 add : ∀ (r s : Row) (a : Nat), B8 r → B8 s → a < 256 → F (fun c => r c ^^^ mul (s c) a) = F r ^^^ mul (F s) a
 mul : ∀ (s : Row) (a : Nat), B8 s → a < 256 → F (fun c => mul (s c) a) = mul (F s) a
theorem lin_dot {v : Nat → Nat} (hv : B8 v) (k : Nat) : Lin (fun r => dot r v k) := ⟨fun _ _ _ hr hs ha => dot_c_add hr hs hv ha k, fun _ _ hs ha => dot_c_mul hs hv ha k⟩
theorem lin_aug {v : Nat → Nat} (hv : B8 v) (k x : Nat) : Lin (fun r => dot r v k ^^^ r x) :=
 ⟨fun r s a hr hs ha => by simp only [dot_c_add hr hs hv ha k]; rw [xor_mul (dot_lt _ _ _) (hs x), x4], fun s a hs ha => by simp only [dot_c_mul hs hv ha k]; rw [xor_mul (dot_lt _ _ _) (hs x)]⟩
def NSing (k : Nat) (M : Mat) : Prop := ∀ v, B8 v → (∀ i, i < k → dot (M i) v k = 0) → ∀ j, j < k → v j = 0
def UnitTo (k j : Nat) (M : Mat) : Prop := ∀ c, c < j → ∀ i, i < k → M i c = if i = c then 1 else 0
def BM (M : Mat) : Prop := ∀ i, B8 (M i)
def swapM (M : Mat) (p j : Nat) : Mat := fun i => if i = j then M p else if i = p then M j else M i
def stepM (N : Mat) (j : Nat) : Mat := fun i => if i = j then fun c => mul (N j c) (inv (N j j)) else fun c => N i c ^^^ mul (mul (N j c) (inv (N j j))) (N i j)
def SameEq (k : Nat) (M M' : Mat) : Prop := ∀ F, Lin F → ((∀ i, i < k → F (M i) = 0) ↔ ∀ i, i < k → F (M' i) = 0)
theorem SameEq.refl (k : Nat) (M : Mat) : SameEq k M M := fun _ _ => Iff.rfl
theorem SameEq.trans {M N O : Mat} (h : SameEq k M N) (h' : SameEq k N O) : SameEq k M O := fun F hF => (h F hF).trans (h' F hF)
theorem SameEq.ns {M N : Mat} (h : SameEq k M N) (hn : NSing k M) : NSing k N := fun v hv hz => hn v hv ((h _ (lin_dot hv k)).2 hz)
theorem swap_bm {M : Mat} (h : BM M) (p j : Nat) : BM (swapM M p j) := fun i => by unfold swapM; split; exact h p; split; exact h j; exact h i
theorem step_bm {N : Mat} (h : BM N) (j : Nat) : BM (stepM N j) := fun i c => by
 unfold stepM; split
 ·exact mul_lt _ _
 ·exact xor_lt (h i c) (mul_lt _ _)
variable {p j : Nat}
theorem swap_same (M : Mat) (hp : p < k) (hj : j < k) : SameEq k M (swapM M p j) := by
 intro F _
 constructor
 ·intro h i hi
  unfold swapM; split
  ·exact h p hp
  ·split
   ·exact h j hj
   ·exact h i hi
 ·intro h i hi
  by_cases e : i = p
  ·subst e; have := h j hj; unfold swapM at this; rwa [if_pos rfl] at this
  ·by_cases e2 : i = j
   ·subst e2; have := h p hp; unfold swapM at this; rwa [if_neg (by omega), if_pos rfl] at this
   ·have := h i hi; unfold swapM at this; rwa [if_neg e2, if_neg e] at this
theorem step_same {N : Mat} (hb : BM N) (hj : j < k) (hne : N j j ≠ 0) : SameEq k N (stepM N j) := by
 intro F hF
 have hm : (fun c => mul (N j c) (inv (N j j))) = stepM N j j := by unfold stepM; rw [if_pos rfl]
 have e1 : F (stepM N j j) = mul (F (N j)) (inv (N j j)) := by rw [← hm]; exact hF.mul _ _ (hb j) (inv_lt _)
 have e2 : ∀ i, i ≠ j → F (stepM N j i) = F (N i) ^^^ mul (F (stepM N j j)) (N i j) := fun i hi => by
  have : stepM N j i = fun c => N i c ^^^ mul (stepM N j j c) (N i j) := by rw [← hm]; unfold stepM; rw [if_neg hi]
  rw [this]; exact hF.add _ _ _ (hb i) (fun c => step_bm hb j j c) (hb i j)
 constructor
 ·intro h i hi
  have h0 : F (stepM N j j) = 0 := by rw [e1, h j hj, zero_mul]
  by_cases e : i = j
  ·rw [e]; exact h0
  ·rw [e2 i e, h0, h i hi, zero_mul]; rfl
 ·intro h i hi
  have h0 := h j hj
  by_cases e : i = j
  ·rw [e1] at h0
   rw [e]
   rcases mul_eq_zero h0 with h1 | h1
   ·exact h1
   ·exact absurd h1 (inv_ne hne)
  ·have := h i hi
   rwa [e2 i e, h0, zero_mul, Nat.xor_zero] at this
theorem swap_unit {M : Mat} (h : UnitTo k j M) (hp : p < k) (hj : j ≤ p) : UnitTo k j (swapM M p j) := by
 intro c hc i hi
 unfold swapM
 by_cases e : i = j
 ·rw [if_pos e, h c hc p hp, if_neg (by omega), if_neg (by omega)]
 ·rw [if_neg e]
  by_cases e2 : i = p
  ·rw [if_pos e2, h c hc j (by omega), if_neg (by omega), if_neg (by omega)]
  ·rw [if_neg e2]; exact h c hc i hi
theorem step_unit {N : Mat} (hb : BM N) (h : UnitTo k j N) (hj : j < k) (hne : N j j ≠ 0) : UnitTo k (j + 1) (stepM N j) := by
 intro c hc i hi
 unfold stepM
 by_cases ec : c = j
 ·subst ec
  by_cases e : i = c
  ·rw [if_pos e, if_pos e]; exact mul_inv (hb c c) hne
  ·rw [if_neg e, if_neg e]
   show N i c ^^^ mul (mul (N c c) (inv (N c c))) (N i c) = 0
   rw [mul_inv (hb c c) hne, mul_comm, mul_one (hb i c), Nat.xor_self]
 ·have h1 := h c (by omega) j hj
  rw [if_neg (by omega)] at h1
  by_cases e : i = j
  ·rw [if_pos e, if_neg (by omega)]
   show mul (N j c) _ = 0
   rw [h1, zero_mul]
  ·rw [if_neg e]
   show N i c ^^^ mul (mul (N j c) _) _ = _
   rw [h1, zero_mul, zero_mul, Nat.xor_zero]; exact h c (by omega) i hi
theorem pivot_ex {M : Mat} (hb : BM M) (hn : NSing k M) (hu : UnitTo k j M) (hj : j < k) : ∃ p, j ≤ p ∧ p < k ∧ M p j ≠ 0 := by
 by_cases hx : ∃ p, j ≤ p ∧ p < k ∧ M p j ≠ 0
 ·exact hx
 exfalso
 have hall : ∀ i, j ≤ i → i < k → M i j = 0 := fun i h1 h2 => by
  by_cases e : M i j = 0
  ·exact e
  ·exact absurd ⟨i, h1, h2, e⟩ hx
 let v : Nat → Nat := fun c => if c = j then 1 else if c < j then M c j else 0
 have hv : B8 v := fun c => by
  show (if c = j then 1 else if c < j then M c j else 0) < 256
  split
  ·omega
  ·split
   ·exact hb c j
   ·omega
 have hvj : v j = 1 := by show (if j = j then 1 else _) = 1; rw [if_pos rfl]
 have hvl : ∀ c, c < j → v c = M c j := fun c hc => by show (if c = j then 1 else if c < j then M c j else 0) = _; rw [if_neg (by omega), if_pos hc]
 have hvg : ∀ c, j < c → v c = 0 := fun c hc => by show (if c = j then 1 else if c < j then M c j else 0) = _; rw [if_neg (by omega), if_neg (by omega)]
 have := hn v hv (fun i hi => by
  by_cases hij : i < j
  ·rw [dot_two (i := i) (i' := j) hij hj fun c hc h1 h2 => ?_]
   ·rw [hvl i hij, hvj, hu i hij i hi, if_pos rfl, mul_one (hb i j), mul_comm, mul_one (hb i j), Nat.xor_self]
   ·by_cases hcj : c < j
    ·rw [hu c hcj i hi, if_neg (by omega), mul_zero]
    ·rw [hvg c (by omega), zero_mul]
  ·refine dot_zero fun c hc => ?_
   by_cases hcj : c < j
   ·rw [hu c hcj i hi, if_neg (by omega), mul_zero]
   ·by_cases e : c = j
    ·rw [e, hall i (by omega) hi, mul_zero]
    ·rw [hvg c (by omega), zero_mul]) j hj
 omega
theorem unit_dot {M : Mat} {v : Nat → Nat} (hv : B8 v) (hu : UnitTo k k M) {i : Nat} (hi : i < k) : dot (M i) v k = v i := by
 rw [dot_one hi fun c hc hne => by rw [hu c hc i hi, if_neg (by omega), mul_zero], hu i hi i hi, if_pos rfl, mul_one (hv i)]
theorem solved {w : Nat} {M M' : Mat} (hb : BM M') (hs : SameEq k M M') (hu : UnitTo k k M') : ∀ x, x < w → ∀ i, i < k → dot (M i) (fun j => M' j (k + x)) k = M i (k + x) := by
 intro x _ i hi
 have hv : B8 (fun j => M' j (k + x)) := fun j => hb j _
 exact xor_eq_of_zero ((hs _ (lin_aug hv k (k + x))).2 (fun i hi => by show dot (M' i) _ k ^^^ M' i (k + x) = 0; rw [unit_dot hv hu hi, Nat.xor_self]) i hi)
end Go.Proofs.YtilljaneegbhlaaGreatDoor.Cd
namespace Go.Proofs.YtilljaneegbhlaaGreatDoor
open Go.RowKit Gf Cd
set_option maxHeartbeats 2000000
set_option maxRecDepth 100000
def rowB (k a : Nat) : List UInt8 := tab k (cf k a)
def NewB (l : List UInt8) (w : World) (e : Ending) (w' : World) : Prop := ∃ u, e = .returned u ∧ w'.ownsRow w.heap.size 5 1 u l.length (bytesV l) ∧ Below w.heap.size w w'
theorem newB {l m : List UInt8} {w w' : World} {u : Value} (h : l = m) (ho : w'.ownsRow w.heap.size 5 1 u l.length (bytesV l)) (hb : Below w.heap.size w w') : NewB m w (.returned u) w' := ⟨u, rfl, by rw [← h]; exact ho, hb⟩
def RelRow (k a n : Nat) (w : World) (c : Value) (wr : World) : Prop :=
 ∃ j : Nat, j ≤ k ∧ c = .int .i64 j ∧ wr.ownsRow w.heap.size 5 1 (.slice (some ⟨w.heap.size, 0, none⟩) k k) k (bytesV (tab k fun i => if i < j then cf k a i else 0)) ∧ Below w.heap.size w wr ∧ n = n
theorem wrap8 (n : Nat) (h : n < 256) : IntKind.u8.wrap (n : Int) = n := by rw [IntKind.wrap_u8]; omega
theorem row_any (k a fb : Nat) (w : World) (hF : FieldIn w fb) (hk : k ≤ 8) (ha : a < 8) : Calls Tryz.prog 139 #[.pointer (some ⟨fb, 0, none⟩), .int .i64 k, .int .i64 a] w (NewB (rowB k a) w) := by
 have hmk := make_u8 k (by omega)
 have HF := hI hF
 have hfl : fb < w.heap.size := World.block_lt_of_cell? w ⟨fb, 255, none⟩ hF.none_
 clear hF
 have hO := made_own w w.heap.size k (Nat.le_refl _) (by omega)
 by_cases hak : a < k
 ·have HS := hI (show (w.alloc (.cells ((madeCells #[.int .u8 0] k).setIfInBounds a (.int .u8 1)) 5)).ownsRow w.heap.size 5 1 (.slice (some ⟨w.heap.size, 0, none⟩) k k) k (bytesV (rowB k a)) by
   have := own_set hO a (.int .u8 1); rw [show (w.alloc (.cells (madeCells #[.int .u8 0] k) 5)).setCell ⟨w.heap.size, a, none⟩ (.int .u8 1) = w.alloc (.cells ((madeCells #[.int .u8 0] k).setIfInBounds a (.int .u8 1)) 5) from World.setCell_alloc_at _ _ _ _ _ rfl] at this; rw [zeros_tab, show (Value.int .u8 1) = .int .u8 ((1 : Nat) : Int) from rfl, tab_set (g := cf k a) (i := a) (x := 1) (by omega) (fun j _ hj => by unfold cf; rw [if_pos hak, if_neg hj]) (by unfold cf; rw [if_pos hak, if_pos rfl])] at this
   exact this)
  have hlen : a < (bytesV (zeros k)).length := by rw [bytesV_length, zeros_length]; exact hak
  have hc := own_cell hO (List.getElem?_eq_getElem hlen); have hfz := own_frozen hO a; generalize (bytesV (zeros k))[a] = x at hc; clear hO hlen
  go_enter Tryz.func139, Tryz.ntmps139
  go_wp2_with fail; go_ret; exact newB rfl (by rw [show (rowB k a).length = k from tab_length ..]; exact HS.out) (one_below _ _)
 ·have HO := hI hO
  have HB := hI (one_below w (.cells (madeCells #[.int .u8 0] k) 5)); clear hO
  go_enter Tryz.func139, Tryz.ntmps139
  go_wp2_with fail
  go_loopw [20] (fun c wr => RelRow k a 0 w c wr) (fun c _ => k - (intOf c).toNat)
  case atStart => exact ⟨0, Nat.zero_le _, rfl, by have := HO.out; rw [zeros_tab] at this; rw [tab_congr (g := fun _ => 0) fun i _ => by rw [if_neg (by omega)]]; exact this, HB.out, rfl⟩
  case round =>
   obtain ⟨j, hj, rfl, hown, hb, -⟩ := hrel
   by_cases hlt : j < k
   ·have hlen : j < (bytesV (tab k fun i => if i < j then cf k a i else 0)).length := by rw [bytesV_length, tab_length]; exact hlt
    have hc := own_cell hown (List.getElem?_eq_getElem hlen); have hfz := own_frozen hown j; have HW := hI (own_set hown j (.int .u8 ((inv (a ^^^ j) : Nat) : Int))); generalize (bytesV (tab k fun i => if i < j then cf k a i else 0))[j] = x at hc; have HB2 := hI hb; have HF2 := hI (HF.out.below hfl hb); have hx : a ^^^ j < 256 := xor_lt (by omega) (by omega); have hx1 := i64_xor_nat a j (by omega) (by omega); have hx2 := wrap8 _ hx; have hset := tab_set (n := k) (f := fun i => if i < j then cf k a i else 0) (g := fun i => if i < j + 1 then cf k a i else 0) (i := j) (x := inv (a ^^^ j)) (inv_lt _) (fun i _ hi => by simp only [show i < j + 1 ↔ i < j by omega]) (by simp only [show j < j + 1 by omega, if_pos]; unfold cf; rw [if_neg hak]); have HSET := hI hset; clear hown hb hlen hset; generalize a ^^^ j = y at *; go_wp2_with (go_at_call 166; refine (inv_any _ _ HF2.out _ hx).mono ?_; rintro e w' ⟨rfl, rfl⟩)
    go_roundw
    case rel => exact ⟨j + 1, by omega, by go_num, by have := HW.out; rw [HSET.out] at this; exact this, HB2.out.setCell (Nat.le_refl _) _, rfl⟩
    case measure => simp [intOf]; omega
   ·obtain rfl : j = k := by omega
    have HO2 := hI hown; have HB2 := hI hb; clear hown hb; go_wp2_with fail; go_ret; exact newB (tab_congr (g := cf j a) fun i hi => if_pos hi) (by rw [tab_length]; exact HO2.out) HB2.out
end Go.Proofs.YtilljaneegbhlaaGreatDoor
namespace Go.Proofs.YtilljaneegbhlaaGreatDoor
open Go.RowKit Gf Cd Go.Deep
set_option maxHeartbeats 2000000
set_option maxRecDepth 100000
attribute [local go_sem ↓] Go.wp_at_zero Go.wp_at_succ
def rowsL (k n : Nat) : List (List UInt8) := (List.range n).map (rowB k)
theorem rowsL_length (k n : Nat) : (rowsL k n).length = n := by simp [rowsL]
variable {k n i : Nat}
theorem rowsL_getD (h : i < n) : (rowsL k n).getD i [] = rowB k i := by simp [rowsL, List.getD, h]
theorem rowB_length (k a : Nat) : (rowB k a).length = k := tab_length ..
variable {j : Nat}
theorem rowB_nat {a : Nat} (h : j < k) : ((rowB k a).getD j 0).toNat = cf k a j := tab_nat _ h (cf_lt ..)
structure CodeIn (B : Nat) (w : World) (c k n : Nat) : Prop where
 k_ : w.cell? ⟨c, 0, none⟩ = some (.int .i64 k)
 rows : ∃ rv, w.cell? ⟨c, 1, none⟩ = some rv ∧ SlBs B w rv (rowsL k n)
 field : ∃ fb, w.cell? ⟨c, 2, none⟩ = some (.pointer (some ⟨fb, 0, none⟩)) ∧ FieldIn w fb ∧ fb < B
 lt : c < B
 small : 1 ≤ k ∧ k ≤ n ∧ n ≤ 8
variable {B c : Nat} {w w' : World}
theorem CodeIn.below (h : CodeIn B w c k n) (hb : Below B w w') : CodeIn B w' c k n := by
 obtain ⟨h1, ⟨rv, h2, h3⟩, ⟨fb, h4, h5, h6⟩, h7, h8⟩ := h
 refine ⟨by rw [hb.cell (by exact h7)]; exact h1, ⟨rv, by rw [hb.cell (by exact h7)]; exact h2, h3.below hb⟩, ⟨fb, by rw [hb.cell (by exact h7)]; exact h4, ⟨fun i hi => ?_, ?_, fun a ha h0 => ?_⟩, h6⟩, h7, h8⟩
 ·rw [hb.cell (by exact h6)]; exact h5.exp i hi
 ·rw [hb.cell (by exact h6)]; exact h5.none_
 ·rw [hb.cell (by exact h6)]; exact h5.log a ha h0
theorem step_append_row (w : World) {ops : Array Oper} {o : Oper} {a : Act} {K : Act → World → Prop} {Q : Exit → Act → World → Prop} {E : Prop} (hgd : o.guard = none) (s x : Operand)
  (ho : o.op = .call { callee := .builtin .append, args := #[s, x], argTypes := #[22, 22] })
  (base : Nat) (v : Value) (n : Nat) (xs : List Value) (hsv : a.eval s = v) (hown : w.ownsRow base 37 1 v n xs)
  (b : Nat) (u : Value) (hx : a.eval x = .slice (some ⟨b, 0, none⟩) 1 1) (hb : w.cell? ⟨b, 0, none⟩ = some u) (hu : u.oneCell' = true) (h63 : n + 1 ≤ 100000) (hbase : base ≤ w.heap.size)
  (h : ∀ v' w', w'.ownsRow base 37 1 v' (n + 1) (xs ++ [u]) → Grew w v.ownBlock w' v'.ownBlock → K (a.put o.dst v') w') : if Region.wanted o (yielded ops a.tmps) = true then Oper.wp Tryz.prog o a w K Q else E := by
 have hw : Region.wanted o (yielded ops a.tmps) = true := by simp [Region.wanted, hgd]
 rw [if_pos hw]
 obtain ⟨i0, hi0, hz⟩ := Option.map_eq_some_iff.1 Tryz.info37
 simp only [Prod.mk.injEq] at hz
 obtain ⟨hz0, hz1, hz2⟩ := hz
 have hsrc : Src Tryz.prog 1 22 (.slice (some ⟨b, 0, none⟩) 1 1) 1 [u] w := Src.ofSlice _ Tryz.underlying22 ⟨b, 0, none⟩ 1 1 [u] rfl (fun j y hy => by
  match j, hy with
  | 0, hy => injection hy with hy; subst hy; simpa [Addr.add] using hb
  | j + 1, hy => simp at hy) (fun y hy => by rw [List.mem_singleton.1 hy]; exact hu)
 exact wp_append_src w s x 22 22 ho base 37 i0 (.slice none 0 0) 1 24 Tryz.underlying22 hi0 hz0 hz1 hz2 rfl v n xs hsv hown (.slice (some ⟨b, 0, none⟩) 1 1) 1 [u] hx hsrc (by unfold maxLen; omega) (by omega) hbase fun v' w' h1 h2 _ => h v' w' h1 h2
variable {w2 wx w3 : World} {r r' : Option Nat} {x : Value}
theorem cell_after (hb : Below w2.heap.size w2 wx) (hg : Grew wx r w3 r') (hl : c < w2.heap.size) (hr : r ≠ some c) (h : w2.cell? ⟨c, i, none⟩ = some x) : w3.cell? ⟨c, i, none⟩ = some x := by
 rw [hg.cell (a := ⟨c, i, none⟩) (Nat.lt_of_lt_of_le hl hb.size) (fun e => hr e.symm), hb.cell (p := ⟨c, i, none⟩) hl]; exact h
theorem frozen_after (hb : Below w2.heap.size w2 wx) (hg : Grew wx r w3 r') (hl : c < w2.heap.size) (hr : r ≠ some c) (h : w2.frozen? ⟨c, i, none⟩ = false) : w3.frozen? ⟨c, i, none⟩ = false := by
 rw [hg.frozen (a := ⟨c, i, none⟩) (Nat.lt_of_lt_of_le hl hb.size) (fun e => hr e.symm), hb.frozen (p := ⟨c, i, none⟩) hl]; exact h
def Row3 (w : World) (c k fb : Nat) (v : Value) : Prop := w.heap[c]? = some (.cells #[.int .i64 k, v, .pointer (some ⟨fb, 0, none⟩)] 232 (0, 0))
variable {fb : Nat} {v : Value}
theorem Row3.set (h : Row3 w c k fb v) (u : Value) : Row3 (w.setCell ⟨c, 1, none⟩ u) c k fb u := by
 unfold Row3 at *
 show (w.heap.modify c _)[c]? = _
 rw [Array.getElem?_modify, if_pos rfl, h]; rfl
theorem Row3.grew (h : Row3 w c k fb v) (hg : Grew w r w' r') (hr : r ≠ some c) : Row3 w' c k fb v := by
 unfold Row3 at *
 rw [hg.by_.block c (Array.getElem?_eq_some_iff.1 h).1 (fun e => hr e.symm)]; exact h
theorem Row3.lt (h : Row3 w c k fb v) : c < w.heap.size := (Array.getElem?_eq_some_iff.1 h).1
theorem Row3.cells (h : Row3 w c k fb v) : w.cell? ⟨c, 0, none⟩ = some (.int .i64 k) ∧ w.cell? ⟨c, 1, none⟩ = some v ∧ w.cell? ⟨c, 2, none⟩ = some (.pointer (some ⟨fb, 0, none⟩)) ∧ w.frozen? ⟨c, 1, none⟩ = false := by
 unfold Row3 at h
 refine ⟨?_, ?_, ?_, ?_⟩
 ·rw [cell_of_row _ c 0 _ _ (0, 0) h]; rfl
 ·rw [cell_of_row _ c 1 _ _ (0, 0) h]; rfl
 ·rw [cell_of_row _ c 2 _ _ (0, 0) h]; rfl
 ·unfold World.frozen?; rw [h]; simp
def NewCode (k n : Nat) (w : World) (e : Ending) (w' : World) : Prop := ∃ c, e = .returned (.tuple #[.pointer (some ⟨c, 0, none⟩), .nilIface]) ∧ CodeIn w'.heap.size w' c k n ∧ Below w.heap.size w w'
def RelNew (k n c fb : Nat) (w : World) (i : Value) (wr : World) : Prop :=
 ∃ (j : Nat) (v : Value) (us : List Value), j ≤ n ∧ i = .int .i64 j ∧ Row3 wr c k fb v ∧ OwnLs (c + 1) wr v us ((rowsL k n).take j) ∧ FieldIn wr fb ∧ Below w.heap.size w wr
variable {us : List Value}
theorem OwnLs.set_off {g : Nat} {ls : List (List UInt8)} (h : OwnLs B w v us ls) (hg : g < B) : OwnLs B (w.setCell ⟨g, i, none⟩ x) v us ls :=
 h.grew (r := some g) (r' := some g) ⟨grownBy_set _ _ _ _, Or.inl rfl⟩ (fun k hk => by injection hk with hk; omega)
theorem ctake_next {α : Type} (l : List α) (k : Nat) (d : α) (hk : k < l.length) : l.take (k + 1) = l.take k ++ [l.getD k d] := by
 rw [List.take_succ_eq_append_getElem hk]; simp [List.getD, hk]
theorem relNew_next {wr : World} {v' u : Value} {o : Obj} {T : List (List UInt8)} (hT : T = (rowsL k n).take j) (hr3 : Row3 wr c k fb v) (hO : OwnLs (c + 1) wr v us T) (hF : FieldIn wr fb) (hfb : fb < c) (hB : Below w.heap.size w wr) (hc : w.heap.size ≤ c)
  (hb : Below wr.drew.heap.size wr.drew w2) (hu : w2.ownsRow wr.drew.heap.size 5 1 u (rowB k j).length (bytesV (rowB k j))) (htop : w3.ownsRow (c + 1) 37 1 v' (T.length + 1) (us ++ [u])) (hg : Grew (w2.alloc o) v.ownBlock w3 v'.ownBlock) (hj : j < n) :
  RelNew k n c fb w (.int .i64 ((j : Int) + 1)) (w3.setCell ⟨c, 1, none⟩ v') := by
 subst hT
 have hcl := hr3.lt
 have hbw : Below wr.heap.size wr w2 := (Below.refl _ wr).drew.trans hb
 have hbx : Below wr.heap.size wr (w2.alloc o) := balloc hbw o
 have hvb : v.ownBlock ≠ some c := fun e => by have := (own_block hO.top e).1; omega
 have hvf : v.ownBlock ≠ some fb := fun e => by have := (own_block hO.top e).1; omega
 have hO3 := hO.snoc_new (by omega) hbw hu (one_below w2 o) htop hg
 have hlt3 : c < w3.heap.size := Nat.lt_of_lt_of_le (Nat.lt_of_lt_of_le hcl hbx.size) hg.size
 have hr3x : Row3 (w2.alloc o) c k fb v := by unfold Row3 at *; rw [hbx.block c hcl]; exact hr3
 refine ⟨j + 1, v', us ++ [u], by omega, by go_num, (hr3x.grew hg hvb).set v', ?_, ?_, ?_⟩
 ·rw [ctake_next _ _ [] (by rw [rowsL_length]; exact hj), rowsL_getD hj]
  exact hO3.set_off (by omega)
 ·refine FieldIn.grew (r := some c) (r' := some c) ((hF.below (by omega) hbx).grew hg hvf) ⟨grownBy_set _ _ _ _, Or.inl rfl⟩ (fun e => by injection e; omega)
 ·refine Below.setCell ?_ hc _
  exact (hB.trans (hbx.mono hB.size)).trans (hg.below (Nat.le_trans hB.size hbx.size) fun k hk => by have := (own_block hO.top hk).1; omega)
theorem codeIn_of {wr : World} (hr3 : Row3 wr c k fb v) (hO : OwnLs (c + 1) wr v us ((rowsL k n).take n)) (hF : FieldIn wr fb) (hfb : fb < c) (hB : Below w.heap.size w wr) (h : 1 ≤ k ∧ k ≤ n ∧ n ≤ 8) : NewCode k n w (.returned (.tuple #[.pointer (some ⟨c, 0, none⟩), .nilIface])) wr := by
 obtain ⟨c0, c1, c2, _⟩ := hr3.cells
 have := hr3.lt
 rw [List.take_of_length_le (by rw [rowsL_length]; omega)] at hO
 exact ⟨c, rfl, ⟨c0, ⟨v, c1, hO.slbs⟩, ⟨fb, c2, hF, by omega⟩, by omega, h⟩, hB⟩
theorem cnew_yes (k n : Nat) (w : World) (h1 : 1 ≤ k) (h2 : k ≤ n) (h3 : n ≤ 8) : Calls Tryz.prog 121 #[.int .i64 k, .int .i64 n] w (NewCode k n w) := by
 go_enter Tryz.func121, Tryz.ntmps121
 go_wp2_with (go_at_call 138; refine (fmake_any _).mono ?_; rintro e w1 ⟨rfl, hF, hz, hbl⟩; have HF := hI hF; have HZ := hI hz; have HB := hI hbl; clear hF hz hbl)
 have hw1 : w.heap.size < w1.heap.size := by have := HZ.out; omega
 go_loopw [26] (fun c wr => RelNew k n w1.heap.size w.heap.size w c wr) (fun c _ => n - (intOf c).toNat)
 case atStart =>
  refine ⟨0, nilB, [], Nat.zero_le _, rfl, ?_, ?_, ?_, ?_⟩
  ·unfold Row3 nilB; exact heap_alloc_new w1 _
  ·rw [List.take_zero]; exact ownLs_nil _ _
  ·exact HF.out.below hw1 (one_below _ _)
  ·exact bthen HB.out (one_below _ _)
 case round =>
  obtain ⟨j, v, us, hj, rfl, hr3, hown, hF, hb⟩ := hrel
  by_cases hlt : j < n
  ·obtain ⟨c0, c1, c2, c3⟩ := hr3.cells
   have HR3 := hI hr3; have HO := hI hown; have HF2 := hI hF; have HB2 := hI hb; clear hr3 hown hF hb; have hfl : w.heap.size < wr.heap.size := Nat.lt_of_lt_of_le hw1 (Nat.le_of_lt HR3.out.lt); have hcl : w1.heap.size < wr.heap.size := HR3.out.lt
   have hlj : ((rowsL k n).take j).length = j := by rw [List.length_take, rowsL_length]; omega
   have HLJ := hI hlj; clear hlj
   obtain ⟨T, hT⟩ : ∃ T, T = (rowsL k n).take j := ⟨_, rfl⟩
   rw [← hT] at HO HLJ; have HT := hI hT; clear hT; have HNE := hI (show v.ownBlock ≠ some w1.heap.size from fun e => by have := (own_block HO.out.top e).1; omega); go_wp2_with fail
   go_region_law (first | (refine step_append_row _ rfl (.tmp 33) (.tmp 41) (by rfl) (w1.heap.size + 1) _ _ us (by rfl) (own_below HO.out.top (by repeat (first | exact Below.refl _ _ | assumption | apply Below.drew | apply below_drewN | refine balloc ?_ _ | refine bthen ?_ HB3.out))) _ _ (by rfl) (by simp) (own_one HU.out) (by have := HLJ.out; omega) (by have := HB3.out.size; simp at *; omega) ?_; intro v' w3 hown3 hg3; have c1d := cell_after (by repeat (first | exact Below.refl _ _ | assumption | apply Below.drew | apply below_drewN | refine balloc ?_ _)) hg3 hcl2 HNE.out c1b; have c3d := frozen_after (by repeat (first | exact Below.refl _ _ | assumption | apply Below.drew | apply below_drewN | refine balloc ?_ _)) hg3 hcl2 HNE.out c3b; have HO3 := hI hown3; have HG3 := hI hg3; obtain ⟨gv, cv, rfl, _⟩ := own_slice hown3; clear hown3 hg3) | (go_simp; go_at_call 139; (with_reducible refine (row_any k j w.heap.size _ (by repeat (first | exact HF2.out | apply FieldIn.drewN | apply FieldIn.drew)) (by omega) (by omega)).mono ?_); rintro e w2 ⟨u, rfl, hu, hb2⟩; have c1b := (hb2.cell (p := ⟨w1.heap.size, 1, none⟩) hcl).trans c1; have c3b := (hb2.frozen (p := ⟨w1.heap.size, 1, none⟩) hcl).trans c3; have hcl2 := Nat.lt_of_lt_of_le hcl hb2.size; have HU := hI hu; obtain ⟨gu, cu, rfl, _⟩ := own_slice hu; have HB3 := hI hb2; clear hu hb2))
   all_goals
    go_wp2_with fail
    go_roundw
    case rel => exact relNew_next HT.out HR3.out HO.out HF2.out hw1 HB2.out (by omega) HB3.out HU.out HO3.out HG3.out hlt
    case measure => simp [intOf]; omega
  ·obtain rfl : j = n := by omega
   have HR3 := hI hr3; have HO := hI hown; have HF2 := hI hF; have HB2 := hI hb; clear hr3 hown hF hb; go_wp2_with fail; exact bodyPost_ret (v := .tuple #[.pointer (some ⟨w1.heap.size, 0, none⟩), .nilIface]) (by simp [results, Tryz.results121, go_sem]) rfl (codeIn_of HR3.out HO.out HF2.out hw1 HB2.out ⟨h1, h2, h3⟩)
end Go.Proofs.YtilljaneegbhlaaGreatDoor
namespace Go.Proofs.YtilljaneegbhlaaGreatDoor
open Go.RowKit
set_option maxHeartbeats 2000000
set_option maxRecDepth 100000
def opDecode : ByteArray := ⟨#[99, 111, 100, 101, 46, 68, 101, 99, 111, 100, 101]⟩
def CErr2 (z : Value) (op : ByteArray) (k at_ : Int) (w : World) (e : Ending) (w' : World) : Prop := e = .returned (.tuple #[z, wrapV op at_ (errV k)]) ∧ Below w.heap.size w w'
def unlike (n : Nat) (l : List UInt8) : Bool := decide (l.length ≠ n)
theorem unlike_one (a a0 : Option Addr) (lx c n0 c0 p b o m cap : Nat) (w : World) (hp : w.cell? ⟨p, 0, none⟩ = some (.slice (some ⟨b, o, none⟩) m cap)) (hm : 0 < m) (h0 : w.cell? ⟨b, o + 0, none⟩ = some (.slice a0 n0 c0)) :
  Calls Tryz.prog 176 #[.slice a lx c, .pointer (some ⟨p, 0, none⟩)] w (BitSame (decide (lx ≠ n0)) w) := by
 have h0' : w.cell? ⟨b, o, none⟩ = some (.slice a0 n0 c0) := h0
 clear h0
 have hm' : (0 : Int) < m := by omega
 by_cases e : lx = n0
 ·subst e
  rw [decide_eq_false (by omega)]
  go_enter Tryz.func176, Tryz.ntmps176
  go_wp2
  go_ret; exact bitSame (by simp)
 ·have e1 : ((lx : Int) != n0) = true := by simpa using (by omega : ¬ (lx : Int) = n0)
  rw [decide_eq_true e]
  go_enter Tryz.func176, Tryz.ntmps176
  go_wp2
  go_ret; exact bitSame (by simp)
def RelUn (n : Nat) (ls : List (List UInt8)) (c : Value) : Prop := ∃ k : Nat, k ≤ ls.length ∧ c = .int .i64 k ∧ ∀ x, x < k → unlike n (ls.getD x []) = false
def NumS (n : Int) (w : World) (e : Ending) (w' : World) : Prop := e = .returned (.int .i64 n) ∧ w = w'
theorem numS {a b : Int} {w : World} (h : a = b) : NumS b w (.returned (.int .i64 a)) w := ⟨by rw [h], rfl⟩
theorem index_unlike (B p b o cap : Nat) (ls : List (List UInt8)) (w : World) (h : SlBs B w (.slice (some ⟨b, o, none⟩) ls.length cap) ls) (hp : w.cell? ⟨p, 0, none⟩ = some (.slice (some ⟨b, o, none⟩) ls.length cap)) (hl : ls.length ≤ 100000) :
  Calls Tryz.prog 197 #[.slice (some ⟨b, o, none⟩) ls.length cap, .func (.func 176) #[] #[.pointer (some ⟨p, 0, none⟩)]] w (NumS (firstAt (unlike (ls.getD 0 []).length) ls 0) w) := by
 have H := hI h
 obtain ⟨_, _, _, hcl⟩ := h.len
 clear h
 have HP := hI hp
 clear hp
 go_enter Tryz.func197, Tryz.ntmps197
 go_wp2
 go_loop [8] (fun c => RelUn (ls.getD 0 []).length ls c) (fun c => ls.length - (intOf c).toNat)
 case atStart => exact ⟨0, Nat.zero_le _, rfl, fun x hx => by omega⟩
 case round =>
  obtain ⟨k, hk, rfl, hno⟩ := hrel; have HN := hI hno; clear hno
  by_cases hlt : k < ls.length
  ·obtain ⟨u, hc, hu⟩ := H.out.row' hlt
   obtain ⟨u0, hc0, hu0⟩ := H.out.row' (i := 0) (by omega); obtain ⟨a1, c1, rfl, _⟩ := hu.len; obtain ⟨a2, c2, rfl, _⟩ := hu0.len; have HC := hI (unlike_one a1 a2 (ls.getD k []).length c1 (ls.getD 0 []).length c2 p b o ls.length cap w HP.out (by omega) hc0); clear hu hu0 hc0; have HE := hI (show unlike (ls.getD 0 []).length (ls.getD k []) = decide ((ls.getD k []).length ≠ (ls.getD 0 []).length) from rfl); generalize (ls.getD k []).length = m1 at *; generalize (ls.getD 0 []).length = m0 at *
   cases hd : decide (m1 ≠ m0)
   ·rw [hd] at HC HE
    clear hd; go_wp2_with fail; refine HC.out.mono ?_; rintro e w' ⟨rfl, rfl⟩; go_wp2_with fail
    go_round
    case rel =>
     refine ⟨k + 1, by omega, by go_num, fun x hx => ?_⟩
     rcases Nat.lt_or_ge x k with h | h
     ·exact HN.out x h
     ·obtain rfl : x = k := by omega
      exact HE.out
    case measure => simp [intOf]; omega
   ·rw [hd] at HC HE
    clear hd; go_wp2_with fail; refine HC.out.mono ?_; rintro e w' ⟨rfl, rfl⟩; go_wp2_with fail; go_ret; exact numS (firstAt_here _ [] ls k hlt HN.out HE.out).symm
  ·obtain rfl : k = ls.length := by omega
   go_wp2_with fail; go_ret; exact numS (firstAt_none _ [] ls HN.out).symm
theorem index_unlike_none (f : Value) (a : Option Addr) (cap : Nat) (w : World) :
  Calls Tryz.prog 197 #[.slice a 0 cap, f] w (NumS (-1) w) := by
 go_enter Tryz.func197, Tryz.ntmps197
 go_wp2
 refine wp_loop_rounds 1 ?_
 rw [rounds_succ]
 go_wp2
 go_ret
 exact ⟨rfl, rfl⟩
def sameLen (ls : List (List UInt8)) : Bool := !(ls.any (unlike (ls.getD 0 []).length))
theorem contains_unlike (B p : Nat) (v : Value) (ls : List (List UInt8)) (w : World) (h : SlBs B w v ls) (hp : w.cell? ⟨p, 0, none⟩ = some v) (hl : ls.length ≤ 100000) :
  Calls Tryz.prog 177 #[v, .func (.func 176) #[] #[.pointer (some ⟨p, 0, none⟩)]] w (BitSame (ls.any (unlike (ls.getD 0 []).length)) w) := by
 have hi : Calls Tryz.prog 197 #[v, .func (.func 176) #[] #[.pointer (some ⟨p, 0, none⟩)]] w (NumS (firstAt (unlike (ls.getD 0 []).length) ls 0) w) := by
  rcases h with ⟨rfl, a, cap, rfl⟩ | ⟨b, o, cap, rfl, h2⟩
  ·exact index_unlike_none _ _ _ _
  ·exact index_unlike B p b o cap ls w (Or.inr ⟨b, o, cap, rfl, h2⟩) hp hl
 have ha := firstAt_any (unlike (ls.getD 0 []).length) ls 0
 rw [← ha]
 generalize firstAt (unlike (ls.getD 0 []).length) ls 0 = n at *
 have HI := hI hi
 clear hi h hp ha
 go_enter Tryz.func177, Tryz.ntmps177
 go_wp2_with fail
 refine HI.out.mono ?_
 rintro e w' ⟨rfl, rfl⟩
 go_wp2
 go_ret
 exact bitSame rfl
theorem sameLength_any (B : Nat) (v : Value) (ls : List (List UInt8)) (w : World) (h : SlBs B w v ls) (hB : B ≤ w.heap.size) (hl : ls.length ≤ 100000) :
  Calls Tryz.prog 147 #[v] w (Bit (sameLen ls) w) := by
 have H := hI h
 obtain ⟨a, c, rfl, _⟩ := h.len
 clear h
 have hmf : ∀ (fn : Fn) (first cap : Array Value) (w : World), (Instr.makeFunc fn first cap).run Tryz.prog w = .ok (.func fn first cap) w := fun _ _ _ _ => rfl
 have hs : sameLen ls = !(ls.any (unlike (ls.getD 0 []).length)) := rfl
 have HC := hI (fun o (hc : (w.alloc o).cell? ⟨w.heap.size, 0, none⟩ = some (.slice a ls.length c)) => contains_unlike w.heap.size w.heap.size (.slice a ls.length c) ls (w.alloc o) ((H.out.below (Below.mono (one_below w o) hB)).wider hB) hc hl)
 rw [hs]
 clear hs
 generalize ls.any (unlike (ls.getD 0 []).length) = r at *
 go_enter Tryz.func147, Tryz.ntmps147
 go_wp2_with fail
 refine (HC.out _ (by simp)).mono ?_
 rintro e w' ⟨rfl, rfl⟩
 go_wp2
 go_ret
 exact bit rfl (one_below _ _)
end Go.Proofs.YtilljaneegbhlaaGreatDoor
namespace Go.Proofs.YtilljaneegbhlaaGreatDoor
open Go.RowKit Gf Cd
set_option maxHeartbeats 2000000
set_option maxRecDepth 100000
def combo (c : Nat → Nat) (bs : List (List UInt8)) (s : Nat) : Nat → List UInt8
 | 0 => zeros s
 | j + 1 => addB (combo c bs s j) (bs.getD j []) (c j)
theorem combo_length (c : Nat → Nat) (bs : List (List UInt8)) (s : Nat) : ∀ j, (combo c bs s j).length = s
 | 0 => zeros_length s
 | j + 1 => by show (addB _ _ _).length = s; rw [addB_length, combo_length c bs s j]
theorem combo_nat {c : Nat → Nat} {bs : List (List UInt8)} {s x : Nat} (hx : x < s) : ∀ j, (∀ i, i < j → (bs.getD i []).length = s) → ((combo c bs s j).getD x 0).toNat = dot c (fun i => ((bs.getD i []).getD x 0).toNat) j
 | 0, _ => zeros_getD s x
 | j + 1, h => by
  show ((addB _ _ _).getD x 0).toNat = dot c _ j ^^^ mul _ (c j)
  rw [addB_getD _ _ _ _ (by rw [combo_length]; exact hx), if_pos (by rw [h j (by omega)]; exact hx), combo_nat hx j fun i hi => h i (by omega)]
def RelFr (c : Nat → Nat) (bs : List (List UInt8)) (s k g : Nat) (w : World) (i : Value) (wr : World) : Prop :=
 ∃ j : Nat, j ≤ k ∧ i = .int .i64 j ∧ wr.ownsRow w.heap.size 5 1 (.slice (some ⟨g, 0, none⟩) s s) s (bytesV (combo c bs s j)) ∧ Below w.heap.size w wr
variable {bs : List (List UInt8)} {s k g j : Nat} {w w2 : World}
theorem relFr_next {c : Nat → Nat} {f : Nat} {wr : World} (hb : Below w.heap.size w wr) (hf : c j = f) (ho : w2.ownsRow w.heap.size 5 1 (.slice (some ⟨g, 0, none⟩) s s) (addB (combo c bs s j) (bs.getD j []) f).length (bytesV (addB (combo c bs s j) (bs.getD j []) f)))
  (hg : Grew wr.drew (Value.slice (some ⟨g, 0, none⟩) s s).ownBlock w2 (Value.slice (some ⟨g, 0, none⟩) s s).ownBlock) (hj : j < k) : RelFr c bs s k g w (.int .i64 ((j : Int) + 1)) w2 := by
 subst hf
 refine ⟨j + 1, by omega, by go_num, ?_, (hb.trans ((Below.refl _ wr).drew.mono hb.size)).trans (hg.below (by exact hb.size) fun q hq => (own_block ho hq).1)⟩
 rw [addB_length, combo_length] at ho
 exact ho
theorem FieldIn.at {B fb : Nat} {w' : World} (h : FieldIn w fb) (hb : Below B w w') (hl : fb < B) : FieldIn w' fb :=
 ⟨fun i hi => by rw [hb.cell (by exact hl)]; exact h.exp i hi, by rw [hb.cell (by exact hl)]; exact h.none_, fun a ha h0 => by rw [hb.cell (by exact hl)]; exact h.log a ha h0⟩
theorem fragment_any (B B' c k n a s : Nat) (v : Value) (bs : List (List UInt8)) (w : World) (hC : CodeIn B w c k n) (hB : B ≤ w.heap.size) (ha : a < n) (hv : SlBs B' w v bs) (hB' : B' ≤ w.heap.size) (hk : bs.length = k)
  (hs : ∀ i, i < k → (bs.getD i []).length = s) (hsz : s ≤ 1000) : Calls Tryz.prog 148 #[.pointer (some ⟨c, 0, none⟩), .int .i64 a, v] w (NewB (combo (cf k a) bs s k) w) := by
 obtain ⟨k0, ⟨rv, c1, hrows⟩, ⟨fb, c2, hF, hfb⟩, hcB, hk1, hkn, hn8⟩ := hC
 obtain ⟨b, o, cap, ur, rfl, hcap, -, hr, hrow⟩ := hrows.row (i := a) (by rw [rowsL_length]; exact ha)
 obtain ⟨b', o', cap', u0, rfl, hcap', -, hb0, hsl0⟩ := hv.row (i := 0) (by omega)
 rw [rowsL_getD ha] at hrow
 rw [rowsL_length] at c1 hcap
 rw [hk] at hcap' 
 obtain ⟨ra, rc, rfl, hrc⟩ := hrow.len
 obtain ⟨a0, c0, rfl, _⟩ := hsl0.len
 rw [hs 0 (by omega)] at hb0
 rw [rowB_length] at hr hrc
 have hb0' : w.cell? ⟨b', o', none⟩ = some (.slice a0 s c0) := hb0
 have HV := hI hv
 have HROW := hI hrow
 have HF := hI hF
 have HS := hI hs
 have HK := hI hk
 have HMO := hI (made_own w w.heap.size s (Nat.le_refl _) (by omega))
 have hmk := make_u8 s (by omega)
 have hk' : (0 : Int) < k := by omega
 have ha' : (a : Int) < n := by omega
 clear hv hrows hrow hF hs hk hsl0 hb0 k0
 rw [HK.out]
 have n1 : c < w.heap.size := World.block_lt_of_cell? w _ c1
 have n2 : b < w.heap.size := World.block_lt_of_cell? w _ hr
 go_enter Tryz.func148, Tryz.ntmps148
 go_wp2_with fail
 go_loopw [23] (fun i wr => RelFr (cf k a) bs s k w.heap.size w i wr) (fun i _ => k - (intOf i).toNat)
 case atStart => exact ⟨0, Nat.zero_le _, rfl, HMO.out, one_below _ _⟩
 case round =>
  obtain ⟨j, hj, rfl, hown, hb⟩ := hrel; have HO := hI hown; have HB := hI hb; clear hmk
  by_cases hlt : j < k
  ·obtain ⟨b2, o2, cap2, h1, hcell⟩ := HROW.out.byte hB hb (k := j) (by rw [rowB_length]; exact hlt)
   rw [rowB_nat hlt, ] at hcell; rw [rowB_length] at h1; injection h1 with h1 _ h2; subst h1 h2; have hc2 := (hb.cell (p := ⟨c, 2, none⟩) (show c < w.heap.size by omega)).trans c2; obtain ⟨u, hu1, hu2⟩ := HV.out.row' (i := j) (by have := HK.out; omega); have hu3 := (hb.cell (p := ⟨b', o' + j, none⟩) (by have := World.block_lt_of_cell? w _ hu1; exact this)).trans hu1; have HU := hI (hu2.below (Below.mono hb hB')); have HF2 := hI (HF.out.at hb (by omega)); have HL := hI (HS.out j hlt); have hcf := cf_lt k a j; generalize hCF : cf k a j = f at *; have HCF := hI hCF; clear hown hb hu1 hu2 hCF; go_wp2_with fail
   go_still_tail 10, (by kernel_rfl)
   go_wp2_with fail
   go_at_call 173
   refine (add_any fb w.heap.size B' _ _ (combo (cf k a) bs s j) (bs.getD j []) f _ (by exact HF2.out.drew) hcf ?_ (by exact HU.out.below ((Below.refl _ _).drew)) ?_ ?_ (by rw [combo_length]; omega) (by rw [HL.out]; omega)).mono ?_
   ·rw [combo_length]; exact own_below HO.out (Below.refl _ _).drew
   ·have := HB.out.size; show B' ≤ wr.heap.size; omega
   ·intro e; have e' : w.heap.size = fb := by injection e
    omega
   rintro e w2 ⟨rfl, hown2, hg2⟩; have HO2 := hI hown2; have HG2 := hI hg2; clear hown2 hg2; go_wp2_with fail
   go_roundw
   case rel => exact relFr_next HB.out HCF.out HO2.out HG2.out hlt
   case measure => simp [intOf]; omega
  ·obtain rfl : j = k := by omega
   clear hown hb; go_wp2_with fail; go_ret; exact ⟨_, rfl, by rw [combo_length]; exact HO.out, HB.out⟩
def tabL (n : Nat) (f : Nat → List UInt8) : List (List UInt8) := (List.range n).map f
theorem tabL_length (n : Nat) (f : Nat → List UInt8) : (tabL n f).length = n := by simp [tabL]
variable {n i : Nat}
theorem tabL_getD (f : Nat → List UInt8) (h : i < n) : (tabL n f).getD i [] = f i := by simp [tabL, List.getD, h]
theorem tabL_congr {f g : Nat → List UInt8} (h : ∀ i, i < n → f i = g i) : tabL n f = tabL n g := List.map_congr_left fun i hi => h i (List.mem_range.1 hi)
theorem tabL_set {f g : Nat → List UInt8} {l : List UInt8} (h : ∀ j, j < n → j ≠ i → g j = f j) (hi : g i = l) : (tabL n f).set i l = tabL n g := by
 refine List.ext_getElem (by simp [tabL]) fun j h1 h2 => ?_
 have hj : j < n := by simpa [tabL] using h2
 rw [List.getElem_set]
 by_cases e : i = j
 ·subst e; rw [if_pos rfl]; simp [tabL, hi]
 ·rw [if_neg e]; simp [tabL, h j hj (fun q => e q.symm)]
theorem tabL_nils (n : Nat) : List.replicate n ([] : List UInt8) = tabL n fun _ => [] := List.ext_getElem (by simp [tabL]) fun i h1 h2 => by simp [tabL]
def encL (k n : Nat) (bs : List (List UInt8)) (s : Nat) : List (List UInt8) := tabL n fun a => combo (cf k a) bs s k
def Rows2 (ls : List (List UInt8)) (w : World) (e : Ending) (w' : World) : Prop := ∃ v us, e = .returned (.tuple #[v, .nilIface]) ∧ OwnLs w.heap.size w' v us ls ∧ Below w.heap.size w w'
def RelEn (k n : Nat) (bs : List (List UInt8)) (s g cg : Nat) (w : World) (i : Value) (wr : World) : Prop :=
 ∃ (j : Nat) (us : List Value), j ≤ n ∧ i = .int .i64 j ∧ OwnLs w.heap.size wr (.slice (some ⟨g, 0, none⟩) n cg) us (tabL n fun a => if a < j then combo (cf k a) bs s k else []) ∧ Below w.heap.size w wr
theorem relEn_next {cg : Nat} {wr : World} {us : List Value} {u : Value} (hO : OwnLs w.heap.size wr (.slice (some ⟨g, 0, none⟩) n cg) us (tabL n fun a => if a < j then combo (cf k a) bs s k else [])) (hb : Below w.heap.size w wr)
  (hj : j < n) (hu : w2.ownsRow wr.heap.size 5 1 u (combo (cf k j) bs s k).length (bytesV (combo (cf k j) bs s k))) (hb2 : Below wr.heap.size wr w2) : RelEn k n bs s g cg w (.int .i64 ((j : Int) + 1)) (w2.setCell ⟨g, j, none⟩ u) := by
 have hn : (tabL n fun a => if a < j then combo (cf k a) bs s k else []).length = n := tabL_length ..
 have hO' : OwnLs w.heap.size wr (.slice (some ⟨g, 0, none⟩) (tabL n fun a => if a < j then combo (cf k a) bs s k else []).length cg) us (tabL n fun a => if a < j then combo (cf k a) bs s k else []) := by rw [hn]; exact hO
 have := hO'.put_new hb2 (i := j) (by rw [hn]; exact hj) hb.size hu
 rw [hn, tabL_set (g := fun a => if a < j + 1 then combo (cf k a) bs s k else []) (fun i _ hi => by simp only [show i < j + 1 ↔ i < j by omega]) (by simp only [show j < j + 1 by omega, if_pos])] at this
 exact ⟨j + 1, _, by omega, by go_num, this, bthen hb hb2 |>.setCell (by exact (own_block hO.top (k := g) rfl).1) _⟩
theorem encode_yes (B B' c k n s : Nat) (v : Value) (bs : List (List UInt8)) (w : World) (hC : CodeIn B w c k n) (hB : B ≤ w.heap.size) (hv : SlBs B' w v bs) (hB' : B' ≤ w.heap.size) (hk : bs.length = k)
  (hs : ∀ i, i < k → (bs.getD i []).length = s) (hsz : s ≤ 1000) : Calls Tryz.prog 126 #[.pointer (some ⟨c, 0, none⟩), v] w (Rows2 (encL k n bs s) w) := by
 have HC := hI hC
 have HV := hI hv
 have HS := hI hs
 obtain ⟨c0, ⟨rv, c1, hrows⟩, -, hcB, hk1, hkn, hn8⟩ := hC
 obtain ⟨a1, cap1, rfl, _⟩ := hrows.len
 rw [rowsL_length] at c1
 obtain ⟨a2, cap2, rfl, _⟩ := hv.len
 have hsame : sameLen bs = true := by
  unfold sameLen; rw [Bool.not_eq_true', List.any_eq_false]; intro l hl; obtain ⟨i, hi, rfl⟩ := List.mem_iff_getElem.1 hl; have e1 := HS.out i (by omega); have e2 := HS.out 0 (by omega); rw [show bs.getD i [] = bs[i] by simp [List.getD, hi]] at e1; unfold unlike; rw [e1, e2]
  simp
 have HSL := hI (sameLength_any B' (.slice a2 bs.length cap2) bs w hv hB' (by omega))
 rw [hsame] at HSL
 have HK := hI hk
 have HCL := hI (show c < w.heap.size by omega)
 rw [HK.out] at HSL HV
 clear hv hrows hs hsame hk
 rw [HK.out]
 go_enter Tryz.func126, Tryz.ntmps126
 go_wp2_with fail
 refine HSL.out.mono ?_
 rintro e w1 ⟨rfl, hb1⟩
 have hd1 := (hb1.cell (p := ⟨c, 1, none⟩) HCL.out).trans c1
 have HB1 := hI hb1
 have hmk := make_rows n (by omega)
 have HMO := hI (ownLs_made w1 w.heap.size n hb1.size (by omega))
 rw [tabL_nils] at HMO
 clear hb1 c0 c1
 go_wp2_with fail
 go_loopw [30] (fun i wr => RelEn k n bs s w1.heap.size n w i wr) (fun i _ => n - (intOf i).toNat)
 case atStart => exact ⟨0, _, Nat.zero_le _, rfl, by rw [tabL_congr (g := fun _ => []) fun i _ => by rw [if_neg (by omega)]]; exact HMO.out, bthen HB1.out (one_below _ _)⟩
 case round =>
  obtain ⟨j, us, hj, rfl, hO, hb⟩ := hrel; clear hmk hd1
  by_cases hlt : j < n
  ·have hx := hO.cell (i := j) (by rw [tabL_length]; exact hlt)
   have hy := hO.frozen j; have hgl := (own_block hO.top (k := w1.heap.size) rfl).2; have HO := hI hO; have HB := hI hb; have HFR := hI (fragment_any B B' c k n j s _ bs wr (HC.out.below (Below.mono hb hB)) (Nat.le_trans hB hb.size) hlt (HV.out.below (Below.mono hb hB')) (Nat.le_trans hB' hb.size) HK.out HS.out hsz); clear hO hb; go_wp2_with fail; refine HFR.out.mono ?_; rintro e w2 ⟨u, rfl, hu, hb2⟩; have hx2 := (hb2.cell (p := ⟨w1.heap.size, j, none⟩) hgl).trans hx; have hy2 := (hb2.frozen (p := ⟨w1.heap.size, j, none⟩) hgl).trans hy; have HU := hI hu; have HB2 := hI hb2; obtain ⟨gu, cu, rfl, _⟩ := own_slice hu; clear hu hb2 hx hy; go_wp2_with fail
   go_roundw
   case rel => exact relEn_next HO.out HB.out hlt HU.out HB2.out
   case measure => simp [intOf]; omega
  ·obtain rfl : j = n := by omega
   have HO := hI hO; have HB := hI hb; clear hO hb; go_wp2_with fail; refine bodyPost_ret (v := .tuple #[.slice (some ⟨w1.heap.size, 0, none⟩) j j, .nilIface]) (by simp [results, Tryz.results126, go_sem]) rfl ⟨_, us, rfl, ?_, HB.out⟩; have := HO.out
   rwa [tabL_congr (g := fun a => combo (cf k a) bs s k) fun i hi => by rw [if_pos hi]] at this
end Go.Proofs.YtilljaneegbhlaaGreatDoor
