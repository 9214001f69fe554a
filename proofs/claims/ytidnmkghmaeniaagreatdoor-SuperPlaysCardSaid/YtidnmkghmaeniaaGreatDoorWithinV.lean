/-
  stavebook.Within, bounds of either sign.
-/
import Derived.Test.YtidnmkghmaeniaaGreatDoorKit
namespace Go.Proofs.YtidnmkghmaeniaaGreatDoor
open Go.RowKit

/-- A number of lo to hi. -/
def KinI (lo hi : Int) (w : World) (e : Ending) (w' : World) : Prop := ∃ k : Int, (lo ≤ k ∧ k ≤ hi) ∧ e = .returned (.int .i64 k) ∧ w = w'
set_option maxHeartbeats 1000000 in
theorem within_int (n lo hi : Int) (w : World) (h0 : -1000000 ≤ lo) (h1 : lo ≤ hi) (h2 : hi ≤ 1000000) : Calls Tryz.prog 23 #[.int .i64 n, .int .i64 lo, .int .i64 hi] w (KinI lo hi w) := by
  have b1 : n.tmod (hi - lo + 1) < hi - lo + 1 := Int.tmod_lt_of_pos n (by omega)
  have b2 : -(hi - lo + 1) < n.tmod (hi - lo + 1) := Int.lt_tmod_of_pos n (by omega)
  have hm : hi - lo + 1 ≠ 0 := by omega
  have hret : ∀ x : Int, lo ≤ x → x ≤ hi → KinI lo hi w (.returned (.int .i64 x)) w := fun x e1 e2 => ⟨x, ⟨e1, e2⟩, rfl, rfl⟩
  have Hret := Lib.hid hret; clear hret
  by_cases hn : n.tmod (hi - lo + 1) < 0
  · go_enter Tryz.func23, Tryz.ntmps23
    go_wp2
    go_ret
    exact Hret.out _ (by omega) (by omega)
  · go_enter Tryz.func23, Tryz.ntmps23
    go_wp2
    go_ret
    exact Hret.out _ (by omega) (by omega)
end Go.Proofs.YtidnmkghmaeniaaGreatDoor
/-
  stavebook.Within: which number it answers.
-/
namespace Go.Proofs.YtidnmkghmaeniaaGreatDoor
open Go.RowKit
def withinV (n lo hi : Int) : Int := lo + (if n.tmod (hi - lo + 1) < 0 then n.tmod (hi - lo + 1) + (hi - lo + 1) else n.tmod (hi - lo + 1))
theorem withinV_in (n lo hi : Int) (h1 : lo ≤ hi) : lo ≤ withinV n lo hi ∧ withinV n lo hi ≤ hi := by
  have b1 : n.tmod (hi - lo + 1) < hi - lo + 1 := Int.tmod_lt_of_pos n (by omega)
  have b2 : -(hi - lo + 1) < n.tmod (hi - lo + 1) := Int.lt_tmod_of_pos n (by omega)
  unfold withinV
  split <;> omega
def IsI (x : Int) (w : World) (e : Ending) (w' : World) : Prop := e = .returned (.int .i64 x) ∧ w = w'
set_option maxHeartbeats 1000000 in
theorem within_val (n lo hi : Int) (w : World) (h0 : -1000000 ≤ lo) (h1 : lo ≤ hi) (h2 : hi ≤ 1000000) : Calls Tryz.prog 23 #[.int .i64 n, .int .i64 lo, .int .i64 hi] w (IsI (withinV n lo hi) w) := by
  have b1 : n.tmod (hi - lo + 1) < hi - lo + 1 := Int.tmod_lt_of_pos n (by omega)
  have b2 : -(hi - lo + 1) < n.tmod (hi - lo + 1) := Int.lt_tmod_of_pos n (by omega)
  have hm : hi - lo + 1 ≠ 0 := by omega
  by_cases hn : n.tmod (hi - lo + 1) < 0
  · have hret : ∀ x : Int, x = lo + (n.tmod (hi - lo + 1) + (hi - lo + 1)) → IsI (withinV n lo hi) w (.returned (.int .i64 x)) w := fun x e => ⟨by unfold withinV; rw [if_pos hn, e], rfl⟩
    have Hret := Lib.hid hret; clear hret
    go_enter Tryz.func23, Tryz.ntmps23
    go_wp2
    go_ret
    exact Hret.out _ (by omega)
  · have hret : ∀ x : Int, x = lo + n.tmod (hi - lo + 1) → IsI (withinV n lo hi) w (.returned (.int .i64 x)) w := fun x e => ⟨by unfold withinV; rw [if_neg hn, e], rfl⟩
    have Hret := Lib.hid hret; clear hret
    go_enter Tryz.func23, Tryz.ntmps23
    go_wp2
    go_ret
    exact Hret.out _ (by omega)
end Go.Proofs.YtidnmkghmaeniaaGreatDoor
