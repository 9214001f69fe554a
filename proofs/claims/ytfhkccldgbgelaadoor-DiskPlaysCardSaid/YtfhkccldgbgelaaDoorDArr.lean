/-
  A small array of bytes in a variable of the law's own, beside a disk; what it says of the disk.
-/
import Derived.Test.YtfhkccldgbgelaaDoorDWr
namespace Go.Proofs.YtfhkccldgbgelaaDoor
open Go.RowKit Go.Deep Dk Go.Maps
/-- Block A holds n bytes f. -/
def Arr (w : World) (A T n : Nat) (f : Nat → Nat) : Prop := w.heap[A]? = some (.cells (bytesV (tab n f)).toArray T (0, 0))
theorem Arr.lt {w : World} {A T n : Nat} {f : Nat → Nat} (h : Arr w A T n f) : A < w.heap.size := (Array.getElem?_eq_some_iff.1 h).1
theorem Arr.cell {w : World} {A T n : Nat} {f : Nat → Nat} (h : Arr w A T n f) (hf : ∀ k, f k < 256) {k : Nat} (hk : k < n) : w.cell? ⟨A, k, none⟩ = some (.int .u8 (f k : Int)) := by
  rw [cell_of_row w A k _ _ _ h, List.getElem?_toArray, bytesV_at (by rw [tab_length]; exact hk), tab_nat f hk (hf k)]
theorem Arr.frozen {w : World} {A T n : Nat} {f : Nat → Nat} (h : Arr w A T n f) (k : Nat) : w.frozen? ⟨A, k, none⟩ = false := frozen_of_row w A k _ _ h
theorem Arr.keep {w w' : World} {A T n : Nat} {f : Nat → Nat} (h : Arr w A T n f) (hb : w'.heap[A]? = w.heap[A]?) : Arr w' A T n f := Eq.trans hb h
theorem Arr.below {w w' : World} {A T n : Nat} {f : Nat → Nat} (h : Arr w A T n f) (hb : Below w.heap.size w w') : Arr w' A T n f := h.keep (hb.block A h.lt)
theorem Arr.chg {w w' : World} {A T n d S M : Nat} {f : Nat → Nat} (h : Arr w A T n f) (hd : A ≠ d) (hS : A ≠ S) (hM : A ≠ M) (hc : Chg d S M w w') : Arr w' A T n f := h.keep (hc.block A h.lt hd hS hM)
theorem Arr.set {w : World} {A T n x k : Nat} {f : Nat → Nat} (h : Arr w A T n f) (hx : x < 256) : Arr (w.setCell ⟨A, k, none⟩ (.int .u8 (x : Int))) A T n (upd f k x) := by
  unfold Arr
  rw [heap_setCell_same w A k _ _ _ h, List.setIfInBounds_toArray, tab_set hx (fun j _ hj => upd_other f x hj) (upd_same f k x)]
theorem Arr.made (w : World) (T n : Nat) (cs : Array Value) (h : cs.toList = bytesV (tab n fun _ => 0)) : Arr (w.alloc (.cells cs T)) w.heap.size T n (fun _ => 0) := by
  unfold Arr
  rw [← h]
  exact heap_alloc_new w _
theorem upd_lt {f : Nat → Nat} (hf : ∀ k, f k < 256) {x : Nat} (hx : x < 256) (i k : Nat) : upd f i x k < 256 := by unfold upd; split; exact hx; exact hf k
/-- What is read of a disk of n sectors is all of f. -/
structure Has (s : St) (n : Nat) (f : Nat → Nat) : Prop where
  ok : s.Ok
  num : s.n = n
  dead : s.dead = false
  read : ∀ k, k < n → s.read k = secL (f k)
  lt : ∀ k, f k < 256
theorem Has.new {n : Nat} (h : n ≤ 128) : Has (Dk.new n) n (fun _ => 0) := ⟨new_ok h, rfl, rfl, fun _ _ => secL_zer.symm, fun _ => by omega⟩
theorem Has.write {s : St} {n x k : Nat} {f : Nat → Nat} (h : Has s n f) (hk : k < n) (hx : x < 256) : Has (s.write k (secL x)) n (upd f k x) := by
  refine ⟨h.ok.write (by rw [h.num]; exact hk) (secL_length x), h.num, h.dead, fun j hj => ?_, fun j => upd_lt h.lt hx k j⟩
  show (upd s.wt k (some (secL x)) j).getD (s.st j) = _
  by_cases e : j = k
  · subst e; rw [upd_same, upd_same]; rfl
  · rw [upd_other _ _ e, upd_other _ _ e]; exact h.read j hj
theorem Has.flush {s : St} {n : Nat} {f : Nat → Nat} (h : Has s n f) : Has s.flush n f :=
  ⟨h.ok.stores, (flushed_n s).trans h.num, (flushed_dead s).trans h.dead, fun k hk => (St.flush_read h.ok k).trans (h.read k hk), h.lt⟩
/-- What is stored of a disk of n sectors is all of f. -/
structure Sto (s : St) (n : Nat) (f : Nat → Nat) : Prop where
  ok : s.Ok
  num : s.n = n
  dead : s.dead = false
  st : ∀ k, k < n → s.st k = secL (f k)
  lt : ∀ k, f k < 256
theorem Has.stored {s : St} {n : Nat} {f : Nat → Nat} (h : Has s n f) : Sto s.flush n f :=
  ⟨h.ok.stores, (flushed_n s).trans h.num, (flushed_dead s).trans h.dead, fun k hk => (St.flush_st h.ok k).trans (h.read k hk), h.lt⟩
theorem Sto.write {s : St} {n x k : Nat} {f : Nat → Nat} (h : Sto s n f) (hk : k < n) : Sto (s.write k (secL x)) n f :=
  ⟨h.ok.write (by rw [h.num]; exact hk) (secL_length x), h.num, h.dead, h.st, h.lt⟩
theorem crash_none_wt {s : St} (h : ∀ i, s.wt i = none) (bits i : Nat) : (s.crash bits).st i = s.st i := by
  rw [St.crash_st, ks_nil_of h]
  simp [picks]
theorem crashed_n (s : St) (bits : Nat) : (s.crash bits).n = s.n := St.stores_n _ _
theorem crashed_dead (s : St) (bits : Nat) : (s.crash bits).dead = s.dead := St.stores_dead _ _
theorem Sto.crash {s : St} {n : Nat} {f : Nat → Nat} (h : Sto s n f) (hw : ∀ i, s.wt i = none) (bits : Nat) : Sto (s.crash bits) n f :=
  ⟨h.ok.crash bits, (crashed_n s bits).trans h.num, (crashed_dead s bits).trans h.dead, fun k hk => (crash_none_wt hw bits k).trans (h.st k hk), h.lt⟩
theorem Sto.lost {s : St} {n : Nat} {f : Nat → Nat} (h : Sto s n f) : Has (s.crash 0) n f :=
  ⟨h.ok.crash 0, (crashed_n s 0).trans h.num, (crashed_dead s 0).trans h.dead, fun k hk => (St.crash_none k).trans (h.st k hk), h.lt⟩
end Go.Proofs.YtfhkccldgbgelaaDoor
