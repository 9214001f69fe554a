/-
  fault.Wrap, fault.Kind, fault.Lost and stavebook.Within: what each answers, and that nothing that was there turns.
-/
import Derived.Test.YtidnmkghmaeniaaGreatDoorAsTop
import Derived.Test.YtidnmkghmaeniaaGreatDoorIsTop
import Derived.Test.YtidnmkghmaeniaaGreatDoorKit
namespace Go.Proofs.YtidnmkghmaeniaaGreatDoor
open Go.RowKit Go.Extern.Stop Go.Stop Go.Extern

/-- The errorType variable's cell. -/
def Typ (w : World) : Prop := w.cell? ⟨0, 0, none⟩ = some (.iface 235 (.agg #[.pointer (some ⟨1, 37, none⟩)]))
theorem Typ.pos {w : World} (h : Typ w) : 0 < w.heap.size := by
  unfold Typ at h
  rcases Nat.eq_zero_or_pos w.heap.size with h0 | h1
  · simp [World.cell?, h0] at h
  · exact h1
theorem Typ.below {w w' : World} (h : Typ w) (hb : Below w.heap.size w w') : Typ w' := by
  have := h.pos
  unfold Typ at *
  rw [hb.cell (by show 0 < _; omega)]; exact h


theorem wrap_nil (s : ByteArray) (n : Int) (w : World) : Calls Tryz.prog 57 #[.string s, .int .i64 n, .nilIface] w fun e w' => e = .returned .nilIface ∧ w = w' := by
  go_enter Tryz.func57, Tryz.ntmps57
  go_wp2
  go_ret
  exact ⟨rfl, rfl⟩
theorem wrap_some (s : ByteArray) (n : Int) (U : TypeId) (y : Value) (w : World) : Calls Tryz.prog 57 #[.string s, .int .i64 n, .iface U y] w fun e w' => e = .returned (wrapV s n (.iface U y)) ∧ w = w' := by
  unfold wrapV
  go_enter Tryz.func57, Tryz.ntmps57
  go_wp2
  go_ret
  exact ⟨rfl, rfl⟩

set_option maxHeartbeats 1000000 in
theorem kind_err (l : List (ByteArray × Int)) (k : Int) (w : World) (v : Value) (hc : v = chain l (errV k)) (hg : Typ w) :
    Calls Tryz.prog 11 #[v] w (Num k w) := by
  have hp := hg.pos
  have hg1 : Typ (w.alloc (.cells #[.int .i64 0] 34)) := hg.below ((Below.refl _ _).alloc (Nat.le_refl _) _)
  have As := As25_hit l k w.heap.size (.int .i64 0) (w.alloc (.cells #[.int .i64 0] 34)) v hc hg1 (by simp) (by simp)
  have HAs := Lib.hid As; clear As
  obtain ⟨U, y, hy⟩ := chain_iface l 34 (.int .i64 k)
  obtain rfl : v = .iface U y := hc.trans hy
  clear hc hy hg hg1
  go_enter Tryz.func11, Tryz.ntmps11
  go_wp2_with fail
  refine HAs.out.mono ?_
  rintro e w' ⟨rfl, w1, hb, rfl⟩
  have hcell : (w1.setCell ⟨w.heap.size, 0, none⟩ (.int .i64 k)).cell? ⟨w.heap.size, 0, none⟩ = some (.int .i64 k) :=
    World.cell?_setCell_same _ _ _ (u := .int .i64 0) (by rw [hb.cell (by simp)]; simp)
  have hfin : Below w.heap.size w (w1.setCell ⟨w.heap.size, 0, none⟩ (.int .i64 k)) := (((Below.refl _ _).alloc (Nat.le_refl _) _).trans (hb.mono (by simp))).setCell (Nat.le_refl _) _
  clear hb
  go_wp2
  go_ret
  exact ⟨rfl, hfin⟩

set_option maxHeartbeats 1000000 in
theorem kind_loss (l : List (ByteArray × Int)) (a b c : Int) (w : World) (v : Value) (hc : v = chain l (lossV a b c)) (hg : Typ w) :
    Calls Tryz.prog 11 #[v] w (Num 6 w) := by
  have hp := hg.pos
  have hg1 : Typ (w.alloc (.cells #[.int .i64 0] 34)) := hg.below ((Below.refl _ _).alloc (Nat.le_refl _) _)
  have As := As25_miss29 l a b c w.heap.size (w.alloc (.cells #[.int .i64 0] 34)) v hc hg1
  have HAs := Lib.hid As; clear As
  have is := fun W => Is_loss_err_yes l a b c 6 W v hc rfl
  unfold errV at is
  have HIs := Lib.hid is; clear is
  obtain ⟨U, y, hy⟩ := chain_iface l 88 (.agg #[.int .i64 a, .int .i64 b, .int .i64 c])
  obtain rfl : v = .iface U y := hc.trans hy
  clear hc hy hg hg1
  go_enter Tryz.func11, Tryz.ntmps11
  go_wp2_with fail
  refine HAs.out.mono ?_
  rintro e w' ⟨rfl, hb⟩
  have hsz := hb.size
  have hfin : Below w.heap.size w w' := (((Below.refl _ _).alloc (Nat.le_refl _) _).trans (hb.mono (by simp)))
  clear hb
  go_wp2_with fail
  refine (HIs.out _).mono ?_
  rintro e w2 ⟨rfl, hb⟩
  go_wp2
  go_ret
  exact ⟨rfl, hfin.trans (hb.mono (by simp at hsz; omega))⟩

set_option maxHeartbeats 1000000 in
theorem kind_nil (w : World) : Calls Tryz.prog 11 #[.nilIface] w (Num 0 w) := by
  go_enter Tryz.func11, Tryz.ntmps11
  go_wp2_with (first | (go_at_call 54; refine (As_nil _ _).mono ?_; rintro e w' ⟨rfl, rfl⟩) | (go_at_call 55; refine (Is_nil _ _ _).mono ?_; rintro e w' ⟨rfl, rfl⟩))
  go_ret
  exact ⟨rfl, (Below.refl _ _).alloc (Nat.le_refl _) _⟩

/-- A Loss and a bool, told. -/
def Told (a b c : Int) (x : Bool) (w : World) (e : Ending) (w' : World) : Prop := e = .returned (.tuple #[.agg #[.int .i64 a, .int .i64 b, .int .i64 c], .bool x]) ∧ Below w.heap.size w w'

set_option maxHeartbeats 1000000 in
theorem lost_nil (w : World) : Calls Tryz.prog 39 #[.nilIface] w (Told 0 0 0 false w) := by
  go_enter Tryz.func39, Tryz.ntmps39
  go_wp2_with (go_at_call 54; refine (As_nil _ _).mono ?_; rintro e w' ⟨rfl, rfl⟩)
  go_returns
  exact ⟨rfl, ((Below.refl _ _).alloc (Nat.le_refl _) _).alloc (by simp) _⟩

set_option maxHeartbeats 1000000 in
theorem lost_loss (l : List (ByteArray × Int)) (a b c : Int) (w : World) (v : Value) (hc : v = chain l (lossV a b c)) (hg : Typ w) : Calls Tryz.prog 39 #[v] w (Told a b c true w) := by
  have hp := hg.pos
  have hB1 : Below w.heap.size w ((w.alloc (.cells #[.int .i64 0, .int .i64 0, .int .i64 0] 88)).alloc (.cells #[.int .i64 0, .int .i64 0, .int .i64 0] 88)) := ((Below.refl _ _).alloc (Nat.le_refl _) _).alloc (by simp) _
  have hg1 := hg.below hB1
  have As := As29_hit l a b c (w.heap.size + 1) (.int .i64 0) (.int .i64 0) (.int .i64 0) ((w.alloc (.cells #[.int .i64 0, .int .i64 0, .int .i64 0] 88)).alloc (.cells #[.int .i64 0, .int .i64 0, .int .i64 0] 88)) v hc hg1 (by simp) (by simp) (by simp) (by simp) (by simp) (by simp)
  have HAs := Lib.hid As; clear As
  obtain ⟨U, y, hy⟩ := chain_iface l 88 (.agg #[.int .i64 a, .int .i64 b, .int .i64 c])
  obtain rfl : v = .iface U y := hc.trans hy
  clear hc hy hg hg1
  have HB1 := Lib.hid hB1; clear hB1
  go_enter Tryz.func39, Tryz.ntmps39
  go_wp2_with fail
  refine HAs.out.mono ?_
  rintro e w' ⟨rfl, w1, hb, rfl⟩
  have n1 : (⟨w.heap.size + 1, 0, none⟩ : Addr) ≠ ⟨w.heap.size + 1, 1, none⟩ := by simp
  have n2 : (⟨w.heap.size + 1, 0, none⟩ : Addr) ≠ ⟨w.heap.size + 1, 2, none⟩ := by simp
  have n3 : (⟨w.heap.size + 1, 1, none⟩ : Addr) ≠ ⟨w.heap.size + 1, 2, none⟩ := by simp
  have c0 : w1.cell? ⟨w.heap.size + 1, 0, none⟩ = some (.int .i64 0) := by rw [hb.cell (by simp)]; simp
  have c1 : w1.cell? ⟨w.heap.size + 1, 1, none⟩ = some (.int .i64 0) := by rw [hb.cell (by simp)]; simp
  have c2 : w1.cell? ⟨w.heap.size + 1, 2, none⟩ = some (.int .i64 0) := by rw [hb.cell (by simp)]; simp
  have d0 : w1.cell? ⟨w.heap.size, 0, none⟩ = some (.int .i64 0) := by rw [hb.cell (by simp; omega)]; simp
  have d1 : w1.cell? ⟨w.heap.size, 1, none⟩ = some (.int .i64 0) := by rw [hb.cell (by simp; omega)]; simp
  have d2 : w1.cell? ⟨w.heap.size, 2, none⟩ = some (.int .i64 0) := by rw [hb.cell (by simp; omega)]; simp
  have f0 : ∀ i, w1.frozen? ⟨w.heap.size, i, none⟩ = false := fun i => by rw [hb.frozen (by simp; omega)]; simp
  have hfin : Below w.heap.size w w1 := HB1.out.trans (hb.mono (by simp; omega))
  clear hb
  go_wp2
  have m1 : (⟨w.heap.size, 0, none⟩ : Addr) ≠ ⟨w.heap.size, 1, none⟩ := by simp
  have m2 : (⟨w.heap.size, 0, none⟩ : Addr) ≠ ⟨w.heap.size, 2, none⟩ := by simp
  have m3 : (⟨w.heap.size, 1, none⟩ : Addr) ≠ ⟨w.heap.size, 2, none⟩ := by simp
  refine bodyPost_ret (v := .tuple #[.agg #[.int .i64 a, .int .i64 b, .int .i64 c], .bool true]) (by simp [results, Tryz.results39, go_sem, d0, d1, d2]) rfl ⟨rfl, ?_⟩
  exact (((((hfin.setCell (by simp) _).setCell (by simp) _).setCell (by simp) _).setCell (by simp) _).setCell (by simp) _).setCell (by simp) _

end Go.Proofs.YtidnmkghmaeniaaGreatDoor
