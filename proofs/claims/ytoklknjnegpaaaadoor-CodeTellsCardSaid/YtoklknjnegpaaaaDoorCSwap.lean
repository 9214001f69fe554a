/-
  What the steps of code.solve do to lines of the call's own.
-/
import Derived.Test.YtoklknjnegpaaaaDoorCPiv
namespace Go.Proofs.YtoklknjnegpaaaaDoor
open Go.RowKit Gf Cd
def swp (p j i : Nat) : Nat := if i = j then p else if i = p then j else i
theorem swp_inj {p j i i' : Nat} (h : swp p j i = swp p j i') : i = i' := by
  unfold swp at h
  repeat' split at h
  all_goals omega
theorem swp_lt {p j i k : Nat} (hp : p < k) (hj : j < k) (hi : i < k) : swp p j i < k := by
  unfold swp; split
  · exact hp
  · split
    · exact hj
    · exact hi
def swapL {α : Type} (l : List α) (p j : Nat) (d : α) : List α := (l.set p (l.getD j d)).set j (l.getD p d)
theorem swapL_length {α : Type} (l : List α) (p j : Nat) (d : α) : (swapL l p j d).length = l.length := by simp [swapL]
theorem swapL_getD {α : Type} (l : List α) (p j i : Nat) (d : α) (hp : p < l.length) (hj : j < l.length) : (swapL l p j d).getD i d = l.getD (swp p j i) d := by
  unfold swapL swp
  by_cases e : i = j
  · subst e; rw [if_pos rfl, getD_set_eq _ _ _ _ (by simpa using hj)]
  · rw [if_neg e, getD_set_ne _ _ _ _ _ e]
    by_cases e2 : i = p
    · subst e2; rw [if_pos rfl, getD_set_eq _ _ _ _ hp]
    · rw [if_neg e2, getD_set_ne _ _ _ _ _ e2]
theorem OwnLs.swap {B g c p j : Nat} {w : World} {us : List Value} {ls : List (List UInt8)} (h : OwnLs B w (.slice (some ⟨g, 0, none⟩) ls.length c) us ls) (hp : p < ls.length) (hj : j < ls.length) :
    OwnLs B ((w.setCell ⟨g, p, none⟩ (us.getD j nilB)).setCell ⟨g, j, none⟩ (us.getD p nilB)) (.slice (some ⟨g, 0, none⟩) ls.length c) (swapL us p j nilB) (swapL ls p j []) := by
  have hul := h.ulen
  have hg : ∀ i, i < ls.length → (us.getD i nilB).ownBlock = none ∨ (us.getD i nilB).ownBlock ≠ some g := fun i hi => h.off i hi
  refine ⟨?_, fun i hi => ?_, fun i i' hi hi' hne => ?_, fun i hi => ?_⟩
  · rw [swapL_length]; exact own_set (own_set h.top p _) j _
  · rw [swapL_length] at hi
    rw [swapL_getD _ _ _ _ _ (by omega) (by omega), swapL_getD _ _ _ _ _ hp hj]
    have hl := swp_lt hp hj hi
    exact own_kept_set (own_kept_set (h.each _ hl) (hg _ hl)) (hg _ hl)
  · rw [swapL_length] at hi hi'
    rw [swapL_getD _ _ _ _ _ (by omega) (by omega), swapL_getD _ _ _ _ _ (by omega) (by omega)]
    exact h.apart _ _ (swp_lt hp hj hi) (swp_lt hp hj hi') fun e => hne (swp_inj e)
  · rw [swapL_length] at hi
    rw [swapL_getD _ _ _ _ _ (by omega) (by omega)]
    exact h.off _ (swp_lt hp hj hi)
theorem mat_swap {ls : List (List UInt8)} {p j : Nat} (hp : p < ls.length) (hj : j < ls.length) : mat (swapL ls p j []) = swapM (mat ls) p j := by
  funext i
  unfold mat swapM
  funext c
  rw [swapL_getD _ _ _ _ _ hp hj]
  unfold swp
  by_cases e : i = j
  · rw [if_pos e, if_pos e]
  · rw [if_neg e, if_neg e]
    by_cases e2 : i = p
    · rw [if_pos e2, if_pos e2]
    · rw [if_neg e2, if_neg e2]
/-- Lines, those ahead of i rid of block j, line j apart. -/
def elimK (ls : List (List UInt8)) (j i0 : Nat) : List (List UInt8) := tabL ls.length fun i => if i < i0 ∧ i ≠ j then addB (ls.getD i []) (ls.getD j []) ((ls.getD i []).getD j 0).toNat else ls.getD i []
theorem elimK_length (ls : List (List UInt8)) (j i0 : Nat) : (elimK ls j i0).length = ls.length := tabL_length ..
theorem elimK_0 (ls : List (List UInt8)) (j : Nat) : elimK ls j 0 = ls := by
  refine List.ext_getElem (elimK_length ..) fun i h1 h2 => ?_
  simp [elimK, tabL, h2]
theorem elimK_getD {ls : List (List UInt8)} {j i0 i : Nat} (h : i < ls.length) : (elimK ls j i0).getD i [] = if i < i0 ∧ i ≠ j then addB (ls.getD i []) (ls.getD j []) ((ls.getD i []).getD j 0).toNat else ls.getD i [] := tabL_getD _ h
theorem elimK_skip (ls : List (List UInt8)) (j : Nat) : elimK ls j (j + 1) = elimK ls j j := tabL_congr fun i _ => by simp only [show (i < j + 1 ∧ i ≠ j) ↔ (i < j ∧ i ≠ j) by omega]
theorem elimK_next {ls : List (List UInt8)} {j i : Nat} (hi : i ≠ j) : (elimK ls j i).set i (addB (ls.getD i []) (ls.getD j []) ((ls.getD i []).getD j 0).toNat) = elimK ls j (i + 1) :=
  tabL_set (fun x _ hx => by simp only [show (x < i + 1 ∧ x ≠ j) ↔ (x < i ∧ x ≠ j) by omega]) (by simp only [show (i < i + 1 ∧ i ≠ j) by omega, if_pos, and_self, ne_eq, not_false_eq_true])
theorem elimK_len {ls : List (List UInt8)} {j i0 m : Nat} (h : ∀ i, i < ls.length → (ls.getD i []).length = m) : ∀ i, i < ls.length → ((elimK ls j i0).getD i []).length = m := fun i hi => by
  rw [elimK_getD hi]
  split
  · rw [addB_length]; exact h i hi
  · exact h i hi
theorem addB_mat {l m : List UInt8} {x : Nat} (h : m.length = l.length) (c : Nat) : ((addB l m x).getD c 0).toNat = (l.getD c 0).toNat ^^^ mul (m.getD c 0).toNat x := by
  by_cases hc : c < l.length
  · rw [addB_getD _ _ _ _ hc, if_pos (by omega)]
  · have e1 : (addB l m x).getD c 0 = 0 := by simp [List.getD, List.getElem?_eq_none (show (addB l m x).length ≤ c by rw [addB_length]; omega)]
    have e2 : l.getD c 0 = 0 := by simp [List.getD, List.getElem?_eq_none (show l.length ≤ c by omega)]
    have e3 : m.getD c 0 = 0 := by simp [List.getD, List.getElem?_eq_none (show m.length ≤ c by omega)]
    rw [e1, e2, e3]; show 0 = 0 ^^^ mul 0 x; rw [zero_mul]; rfl
/-- One step, whole. -/
def stepL (ls : List (List UInt8)) (p j : Nat) : List (List UInt8) :=
  let a := swapL ls p j []
  let l := a.getD j []
  elimK (a.set j (addB (zeros l.length) l (inv (l.getD j 0).toNat))) j ls.length
theorem mat_step {ls : List (List UInt8)} {p j m : Nat} (hp : p < ls.length) (hj : j < ls.length) (hl : ∀ i, i < ls.length → (ls.getD i []).length = m) : ∀ i, i < ls.length → mat (stepL ls p j) i = stepM (swapM (mat ls) p j) j i := by
  intro i hi
  rw [← mat_swap hp hj]
  have hal : (swapL ls p j []).length = ls.length := swapL_length ..
  have hall : ∀ i, i < ls.length → ((swapL ls p j []).getD i []).length = m := fun i hi => by rw [swapL_getD _ _ _ _ _ hp hj]; exact hl _ (swp_lt hp hj hi)
  unfold stepL
  generalize swapL ls p j [] = a at *
  have e1 : ∀ c, (((addB (zeros (a.getD j []).length) (a.getD j []) (inv ((a.getD j []).getD j 0).toNat))).getD c 0).toNat = mul (mat a j c) (inv (mat a j j)) := fun c => by
    rw [addB_mat (by rw [zeros_length]), zeros_getD, Nat.zero_xor]; rfl
  have e2 : (addB (zeros (a.getD j []).length) (a.getD j []) (inv ((a.getD j []).getD j 0).toNat)).length = m := by rw [addB_length, zeros_length, hall j hj]
  show mat (elimK (a.set j (addB (zeros (a.getD j []).length) (a.getD j []) (inv ((a.getD j []).getD j 0).toNat))) j ls.length) i = _
  generalize addB (zeros (a.getD j []).length) (a.getD j []) (inv ((a.getD j []).getD j 0).toNat) = t at *
  funext c
  have hsl : (a.set j t).length = ls.length := by rw [List.length_set, hal]
  unfold stepM
  by_cases e : i = j
  · subst e
    rw [if_pos rfl]
    show (((elimK (a.set i t) i ls.length).getD i []).getD c 0).toNat = _
    rw [elimK_getD (by omega), if_neg (by omega), getD_set_eq _ _ _ _ (by omega)]
    exact e1 c
  · rw [if_neg e]
    show (((elimK (a.set j t) j ls.length).getD i []).getD c 0).toNat = _
    rw [elimK_getD (by omega), if_pos ⟨hi, e⟩, getD_set_eq _ _ _ _ (by omega), getD_set_ne _ _ _ _ _ e, addB_mat (by rw [e2, hall i hi]), e1 c]
    rfl
theorem stepL_length (ls : List (List UInt8)) (p j : Nat) : (stepL ls p j).length = ls.length := by unfold stepL; simp only [elimK_length, List.length_set, swapL_length]
theorem stepL_len {ls : List (List UInt8)} {p j m : Nat} (hp : p < ls.length) (hj : j < ls.length) (hl : ∀ i, i < ls.length → (ls.getD i []).length = m) : ∀ i, i < ls.length → ((stepL ls p j).getD i []).length = m := by
  intro i hi
  have hal : (swapL ls p j []).length = ls.length := swapL_length ..
  have hall : ∀ i, i < ls.length → ((swapL ls p j []).getD i []).length = m := fun i hi => by rw [swapL_getD _ _ _ _ _ hp hj]; exact hl _ (swp_lt hp hj hi)
  unfold stepL
  generalize swapL ls p j [] = a at *
  refine elimK_len (m := m) (fun x hx => ?_) i (by rw [List.length_set, hal]; exact hi)
  rw [List.length_set, hal] at hx
  by_cases e : x = j
  · subst e; rw [getD_set_eq _ _ _ _ (by omega), addB_length, zeros_length, hall x hx]
  · rw [getD_set_ne _ _ _ _ _ e]; exact hall x hx
/-- What holds of the lines ahead of step j. -/
structure Lines (k m j : Nat) (M0 : Mat) (ls : List (List UInt8)) : Prop where
  len : ls.length = k
  each : ∀ i, i < k → (ls.getD i []).length = m
  unit : UnitTo k j (mat ls)
  same : SameEq k M0 (mat ls)
theorem Lines.step {k m j p : Nat} {M0 : Mat} {ls : List (List UInt8)} (h : Lines k m j M0 ls) (hj : j < k) (hp1 : j ≤ p) (hp2 : p < k) (hne : mat ls p j ≠ 0) : Lines k m (j + 1) M0 (stepL ls p j) := by
  obtain ⟨h1, h2, h3, h4⟩ := h
  subst h1
  have hm := mat_step hp2 hj h2
  have hb : BM (swapM (mat ls) p j) := swap_bm (mat_bm ls) p j
  have hne' : swapM (mat ls) p j j j ≠ 0 := by unfold swapM; rw [if_pos rfl]; exact hne
  refine ⟨stepL_length .., stepL_len hp2 hj h2, fun c hc i hi => ?_, ?_⟩
  · rw [hm i hi]; exact step_unit hb (swap_unit h3 hp2 hp1) hj hne' c hc i hi
  · refine (h4.trans (swap_same (mat ls) hp2 hj)).trans ((step_same hb hj hne').trans ?_)
    intro F hF
    constructor
    · intro h i hi; rw [hm i hi]; exact h i hi
    · intro h i hi; rw [← hm i hi]; exact h i hi
theorem Lines.pivot {k m j : Nat} {M0 : Mat} {ls : List (List UInt8)} (h : Lines k m j M0 ls) (hn : NSing k M0) (hj : j < k) : ∃ p, j ≤ p ∧ p < ls.length ∧ mat ls p j ≠ 0 := by
  rw [h.len]; exact pivot_ex (mat_bm ls) (h.same.ns hn) h.unit hj
end Go.Proofs.YtoklknjnegpaaaaDoor
