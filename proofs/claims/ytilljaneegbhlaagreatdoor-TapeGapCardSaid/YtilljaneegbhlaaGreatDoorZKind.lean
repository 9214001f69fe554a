import Derived.Test.YtilljaneegbhlaaGreatDoorZAsTop
import Derived.Test.YtilljaneegbhlaaGreatDoorZIsTop
import Derived.Test.YtilljaneegbhlaaGreatDoorZKit
namespace Go.Proofs.YtilljaneegbhlaaGreatDoor
open Go.RowKit Go.Extern.Stop Go.Stop Go.Extern
def Typ (w : World) : Prop := w.cell? ⟨0, 0, none⟩ = some (.iface 161 (.agg #[.pointer (some ⟨1, 28, none⟩)]))
variable {w : World}
theorem Typ.pos (h : Typ w) : 0 < w.heap.size := by
 unfold Typ at h
 rcases Nat.eq_zero_or_pos w.heap.size with h0 | h1
 ·simp [World.cell?, h0] at h
 ·exact h1
theorem Typ.below {w' : World} (h : Typ w) (hb : Below w.heap.size w w') : Typ w' := by
 have := h.pos
 unfold Typ at *
 rw [hb.cell (by show 0 < _; omega)]; exact h
theorem wrap_nil (s : ByteArray) (n : Int) (w : World) : Calls Tryz.prog 32 #[.string s, .int .i64 n, .nilIface] w fun e w' => e = .returned .nilIface ∧ w = w' := by
 go_enter Tryz.func32, Tryz.ntmps32
 go_wp2
 go_ret
 exact ⟨rfl, rfl⟩
theorem wrap_some (s : ByteArray) (n : Int) (U : TypeId) (y : Value) (w : World) : Calls Tryz.prog 32 #[.string s, .int .i64 n, .iface U y] w fun e w' => e = .returned (wrapV s n (.iface U y)) ∧ w = w' := by
 unfold wrapV
 go_enter Tryz.func32, Tryz.ntmps32
 go_wp2
 go_ret
 exact ⟨rfl, rfl⟩
set_option maxHeartbeats 1000000 in
theorem kind_err (l : List (ByteArray × Int)) (k : Int) (w : World) (v : Value) (hc : v = chain l (errV k)) (hg : Typ w) :
  Calls Tryz.prog 13 #[v] w (Num k w) := by
 have hp := hg.pos
 have hg1 : Typ (w.alloc (.cells #[.int .i64 0] 40)) := hg.below ((Below.refl _ _).alloc (Nat.le_refl _) _)
 have As := As25_hit l k w.heap.size (.int .i64 0) (w.alloc (.cells #[.int .i64 0] 40)) v hc hg1 (by simp) (by simp)
 have HAs := hI As; clear As
 obtain ⟨U, y, hy⟩ := chain_iface l 40 (.int .i64 k)
 obtain rfl : v = .iface U y := hc.trans hy
 clear hc hy hg hg1
 go_enter Tryz.func13, Tryz.ntmps13
 go_wp2_with fail
 refine HAs.out.mono ?_
 rintro e w' ⟨rfl, w1, hb, rfl⟩
 have hcell : (w1.setCell ⟨w.heap.size, 0, none⟩ (.int .i64 k)).cell? ⟨w.heap.size, 0, none⟩ = some (.int .i64 k) :=
  World.cell?_setCell_same _ _ _ (u := .int .i64 0) (by rw [hb.cell (by simp)]; simp)
 have hfin : Below w.heap.size w (w1.setCell ⟨w.heap.size, 0, none⟩ (.int .i64 k)) := (((Below.refl _ _).alloc (Nat.le_refl _) _).trans (hb.mono (by simp))).setCell (Nat.le_refl _) _
 clear hb
 go_wp2
 go_ret
 exact ⟨rfl, hfin⟩
set_option maxHeartbeats 1000000 in
theorem kind_loss (l : List (ByteArray × Int)) (a b c : Int) (w : World) (v : Value) (hc : v = chain l (lossV a b c)) (hg : Typ w) :
  Calls Tryz.prog 13 #[v] w (Num 6 w) := by
 have hp := hg.pos
 have hg1 : Typ (w.alloc (.cells #[.int .i64 0] 40)) := hg.below ((Below.refl _ _).alloc (Nat.le_refl _) _)
 have As := As25_miss29 l a b c w.heap.size (w.alloc (.cells #[.int .i64 0] 40)) v hc hg1
 have HAs := hI As; clear As
 have is := fun W => Is_loss_err_yes l a b c 6 W v hc rfl
 unfold errV at is
 have HIs := hI is; clear is
 obtain ⟨U, y, hy⟩ := chain_iface l 52 (.agg #[.int .i64 a, .int .i64 b, .int .i64 c])
 obtain rfl : v = .iface U y := hc.trans hy
 clear hc hy hg hg1
 go_enter Tryz.func13, Tryz.ntmps13
 go_wp2_with fail
 refine HAs.out.mono ?_
 rintro e w' ⟨rfl, hb⟩
 have hsz := hb.size
 have hfin : Below w.heap.size w w' := (((Below.refl _ _).alloc (Nat.le_refl _) _).trans (hb.mono (by simp)))
 clear hb
 go_wp2_with fail
 refine (HIs.out _).mono ?_
 rintro e w2 ⟨rfl, hb⟩
 go_wp2
 go_ret
 exact ⟨rfl, hfin.trans (hb.mono (by simp at hsz; omega))⟩
set_option maxHeartbeats 1000000 in
theorem kind_nil (w : World) : Calls Tryz.prog 13 #[.nilIface] w (Num 0 w) := by
 go_enter Tryz.func13, Tryz.ntmps13
 go_wp2_with (first | (go_at_call 41; refine (As_nil _ _).mono ?_; rintro e w' ⟨rfl, rfl⟩) | (go_at_call 42; refine (Is_nil _ _ _).mono ?_; rintro e w' ⟨rfl, rfl⟩))
 go_ret
 exact ⟨rfl, (Below.refl _ _).alloc (Nat.le_refl _) _⟩
end Go.Proofs.YtilljaneegbhlaaGreatDoor
