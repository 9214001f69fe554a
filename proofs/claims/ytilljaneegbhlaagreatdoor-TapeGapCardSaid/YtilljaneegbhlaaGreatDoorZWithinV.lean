import Derived.Test.YtilljaneegbhlaaGreatDoorZKit
namespace Go.Proofs.YtilljaneegbhlaaGreatDoor
open Go.RowKit
def KinI (lo hi : Int) (w : World) (e : Ending) (w' : World) : Prop := ∃ k : Int, (lo ≤ k ∧ k ≤ hi) ∧ e = .returned (.int .i64 k) ∧ w = w'
set_option maxHeartbeats 1000000 in
theorem within_int (n lo hi : Int) (w : World) (h0 : -1000000 ≤ lo) (h1 : lo ≤ hi) (h2 : hi ≤ 1000000) : Calls Tryz.prog 17 #[.int .i64 n, .int .i64 lo, .int .i64 hi] w (KinI lo hi w) := by
 have b1 : n.tmod (hi - lo + 1) < hi - lo + 1 := Int.tmod_lt_of_pos n (by omega)
 have b2 : -(hi - lo + 1) < n.tmod (hi - lo + 1) := Int.lt_tmod_of_pos n (by omega)
 have hm : hi - lo + 1 ≠ 0 := by omega
 have hret : ∀ x : Int, lo ≤ x → x ≤ hi → KinI lo hi w (.returned (.int .i64 x)) w := fun x e1 e2 => ⟨x, ⟨e1, e2⟩, rfl, rfl⟩
 have Hret := hI hret; clear hret
 by_cases hn : n.tmod (hi - lo + 1) < 0
 ·go_enter Tryz.func17, Tryz.ntmps17
  go_wp2
  go_ret; exact Hret.out _ (by omega) (by omega)
 ·go_enter Tryz.func17, Tryz.ntmps17
  go_wp2
  go_ret; exact Hret.out _ (by omega) (by omega)
end Go.Proofs.YtilljaneegbhlaaGreatDoor
