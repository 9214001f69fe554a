import Derived.Test.YthbpfnohbilhaaaGreatDoorZBAsTop
import Derived.Test.YthbpfnohbilhaaaGreatDoorZBIsTop
import Derived.Test.YthbpfnohbilhaaaGreatDoorZBKit
namespace Go.Proofs.YthbpfnohbilhaaaGreatDoor
open Go.RowKit Go.Extern.Stop Go.Stop Go.Extern
def Typ (w : World) : Prop := w.cell? ⟨0, 0, none⟩ = some (.iface 183 (.agg #[.pointer (some ⟨1, 34, none⟩)]))
variable {w : World}
theorem Typ.pos (h : Typ w) : 0 < w.heap.size := by
 unfold Typ at h
 rcases Nat.eq_zero_or_pos w.heap.size with h0 | h1
 ·simp [World.cell?, h0] at h
 ·exact h1
theorem Typ.below {w' : World} (h : Typ w) (hb : Below w.heap.size w w') : Typ w' := by
 have := h.pos
 unfold Typ at *
 rw [hb.cell (by show 0 < _; omega)]; exact h
theorem wrap_nil (s : ByteArray) (n : Int) (w : World) : Calls Tryz.prog 54 #[.string s, .int .i64 n, .nilIface] w fun e w' => e = .returned .nilIface ∧ w = w' := by
 go_enter Tryz.func54, Tryz.ntmps54
 go_wp2
 go_ret
 exact ⟨rfl, rfl⟩
theorem wrap_some (s : ByteArray) (n : Int) (U : TypeId) (y : Value) (w : World) : Calls Tryz.prog 54 #[.string s, .int .i64 n, .iface U y] w fun e w' => e = .returned (wrapV s n (.iface U y)) ∧ w = w' := by
 unfold wrapV
 go_enter Tryz.func54, Tryz.ntmps54
 go_wp2
 go_ret
 exact ⟨rfl, rfl⟩
def Told (a b c : Int) (x : Bool) (w : World) (e : Ending) (w' : World) : Prop := e = .returned (.tuple #[.agg #[.int .i64 a, .int .i64 b, .int .i64 c], .bool x]) ∧ Below w.heap.size w w'
set_option maxHeartbeats 1000000 in
theorem lost_nil (w : World) : Calls Tryz.prog 31 #[.nilIface] w (Told 0 0 0 false w) := by
 go_enter Tryz.func31, Tryz.ntmps31
 go_wp2_with (go_at_call 60; refine (As_nil _ _).mono ?_; rintro e w' ⟨rfl, rfl⟩)
 go_returns
 exact ⟨rfl, ((Below.refl _ _).alloc (Nat.le_refl _) _).alloc (by simp) _⟩
set_option maxHeartbeats 1000000 in
theorem lost_loss (l : List (ByteArray × Int)) (a b c : Int) (w : World) (v : Value) (hc : v = chain l (lossV a b c)) (hg : Typ w) : Calls Tryz.prog 31 #[v] w (Told a b c true w) := by
 have hp := hg.pos
 have hB1 : Below w.heap.size w ((w.alloc (.cells #[.int .i64 0, .int .i64 0, .int .i64 0] 48)).alloc (.cells #[.int .i64 0, .int .i64 0, .int .i64 0] 48)) := ((Below.refl _ _).alloc (Nat.le_refl _) _).alloc (by simp) _
 have hg1 := hg.below hB1
 have As := As29_hit l a b c (w.heap.size + 1) (.int .i64 0) (.int .i64 0) (.int .i64 0) ((w.alloc (.cells #[.int .i64 0, .int .i64 0, .int .i64 0] 48)).alloc (.cells #[.int .i64 0, .int .i64 0, .int .i64 0] 48)) v hc hg1 (by simp) (by simp) (by simp) (by simp) (by simp) (by simp)
 have HAs := hI As; clear As
 obtain ⟨U, y, hy⟩ := chain_iface l 48 (.agg #[.int .i64 a, .int .i64 b, .int .i64 c])
 obtain rfl : v = .iface U y := hc.trans hy
 clear hc hy hg hg1
 have HB1 := hI hB1; clear hB1
 go_enter Tryz.func31, Tryz.ntmps31
 go_wp2_with fail
 refine HAs.out.mono ?_
 rintro e w' ⟨rfl, w1, hb, rfl⟩
 have n1 : (⟨w.heap.size + 1, 0, none⟩ : Addr) ≠ ⟨w.heap.size + 1, 1, none⟩ := by simp
 have n2 : (⟨w.heap.size + 1, 0, none⟩ : Addr) ≠ ⟨w.heap.size + 1, 2, none⟩ := by simp
 have n3 : (⟨w.heap.size + 1, 1, none⟩ : Addr) ≠ ⟨w.heap.size + 1, 2, none⟩ := by simp
 have c0 : w1.cell? ⟨w.heap.size + 1, 0, none⟩ = some (.int .i64 0) := by rw [hb.cell (by simp)]; simp
 have c1 : w1.cell? ⟨w.heap.size + 1, 1, none⟩ = some (.int .i64 0) := by rw [hb.cell (by simp)]; simp
 have c2 : w1.cell? ⟨w.heap.size + 1, 2, none⟩ = some (.int .i64 0) := by rw [hb.cell (by simp)]; simp
 have d0 : w1.cell? ⟨w.heap.size, 0, none⟩ = some (.int .i64 0) := by rw [hb.cell (by simp; omega)]; simp
 have d1 : w1.cell? ⟨w.heap.size, 1, none⟩ = some (.int .i64 0) := by rw [hb.cell (by simp; omega)]; simp
 have d2 : w1.cell? ⟨w.heap.size, 2, none⟩ = some (.int .i64 0) := by rw [hb.cell (by simp; omega)]; simp
 have f0 : ∀ i, w1.frozen? ⟨w.heap.size, i, none⟩ = false := fun i => by rw [hb.frozen (by simp; omega)]; simp
 have hfin : Below w.heap.size w w1 := HB1.out.trans (hb.mono (by simp; omega))
 clear hb
 go_wp2
 have m1 : (⟨w.heap.size, 0, none⟩ : Addr) ≠ ⟨w.heap.size, 1, none⟩ := by simp
 have m2 : (⟨w.heap.size, 0, none⟩ : Addr) ≠ ⟨w.heap.size, 2, none⟩ := by simp
 have m3 : (⟨w.heap.size, 1, none⟩ : Addr) ≠ ⟨w.heap.size, 2, none⟩ := by simp
 refine bodyPost_ret (v := .tuple #[.agg #[.int .i64 a, .int .i64 b, .int .i64 c], .bool true]) (by simp [results, Tryz.results31, go_sem, d0, d1, d2]) rfl ⟨rfl, ?_⟩
 exact (((((hfin.setCell (by simp) _).setCell (by simp) _).setCell (by simp) _).setCell (by simp) _).setCell (by simp) _).setCell (by simp) _
end Go.Proofs.YthbpfnohbilhaaaGreatDoor
