/-
  stavebook.Within, bounds of either sign.
-/
import Derived.Test.YtdcpgpgomnpefaaGreatDoorKit
import Derived.Test.YtdcpgpgomnpefaaGreatDoorSBase
namespace Go.Proofs.YtdcpgpgomnpefaaGreatDoor
open Go.RowKit

/-- A number of lo to hi. -/
def KinI (lo hi : Int) (w : World) (e : Ending) (w' : World) : Prop := ∃ k : Int, (lo ≤ k ∧ k ≤ hi) ∧ e = .returned (.int .i64 k) ∧ w = w'
set_option maxHeartbeats 1000000 in
theorem within_int (n lo hi : Int) (w : World) (h0 : -1000000 ≤ lo) (h1 : lo ≤ hi) (h2 : hi ≤ 1000000) : Calls Tryz.prog 32 #[.int .i64 n, .int .i64 lo, .int .i64 hi] w (KinI lo hi w) := by
  have b1 : n.tmod (hi - lo + 1) < hi - lo + 1 := Int.tmod_lt_of_pos n (by omega)
  have b2 : -(hi - lo + 1) < n.tmod (hi - lo + 1) := Int.lt_tmod_of_pos n (by omega)
  have hm : hi - lo + 1 ≠ 0 := by omega
  have hret : ∀ x : Int, lo ≤ x → x ≤ hi → KinI lo hi w (.returned (.int .i64 x)) w := fun x e1 e2 => ⟨x, ⟨e1, e2⟩, rfl, rfl⟩
  have Hret := Lib.hid hret; clear hret
  by_cases hn : n.tmod (hi - lo + 1) < 0
  · go_enter Tryz.func32, Tryz.ntmps32
    go_wp2
    go_ret
    exact Hret.out _ (by omega) (by omega)
  · go_enter Tryz.func32, Tryz.ntmps32
    go_wp2
    go_ret
    exact Hret.out _ (by omega) (by omega)
end Go.Proofs.YtdcpgpgomnpefaaGreatDoor
/-
  stavebook.Within: which number it answers.
-/
namespace Go.Proofs.YtdcpgpgomnpefaaGreatDoor
open Go.RowKit
def withinV (n lo hi : Int) : Int := lo + (if n.tmod (hi - lo + 1) < 0 then n.tmod (hi - lo + 1) + (hi - lo + 1) else n.tmod (hi - lo + 1))
theorem withinV_in (n lo hi : Int) (h1 : lo ≤ hi) : lo ≤ withinV n lo hi ∧ withinV n lo hi ≤ hi := by
  have b1 : n.tmod (hi - lo + 1) < hi - lo + 1 := Int.tmod_lt_of_pos n (by omega)
  have b2 : -(hi - lo + 1) < n.tmod (hi - lo + 1) := Int.lt_tmod_of_pos n (by omega)
  unfold withinV
  split <;> omega
def IsI (x : Int) (w : World) (e : Ending) (w' : World) : Prop := e = .returned (.int .i64 x) ∧ w = w'
set_option maxHeartbeats 1000000 in
theorem within_val (n lo hi : Int) (w : World) (h0 : -1000000 ≤ lo) (h1 : lo ≤ hi) (h2 : hi ≤ 1000000) : Calls Tryz.prog 32 #[.int .i64 n, .int .i64 lo, .int .i64 hi] w (IsI (withinV n lo hi) w) := by
  have b1 : n.tmod (hi - lo + 1) < hi - lo + 1 := Int.tmod_lt_of_pos n (by omega)
  have b2 : -(hi - lo + 1) < n.tmod (hi - lo + 1) := Int.lt_tmod_of_pos n (by omega)
  have hm : hi - lo + 1 ≠ 0 := by omega
  by_cases hn : n.tmod (hi - lo + 1) < 0
  · have hret : ∀ x : Int, x = lo + (n.tmod (hi - lo + 1) + (hi - lo + 1)) → IsI (withinV n lo hi) w (.returned (.int .i64 x)) w := fun x e => ⟨by unfold withinV; rw [if_pos hn, e], rfl⟩
    have Hret := Lib.hid hret; clear hret
    go_enter Tryz.func32, Tryz.ntmps32
    go_wp2
    go_ret
    exact Hret.out _ (by omega)
  · have hret : ∀ x : Int, x = lo + n.tmod (hi - lo + 1) → IsI (withinV n lo hi) w (.returned (.int .i64 x)) w := fun x e => ⟨by unfold withinV; rw [if_neg hn, e], rfl⟩
    have Hret := Lib.hid hret; clear hret
    go_enter Tryz.func32, Tryz.ntmps32
    go_wp2
    go_ret
    exact Hret.out _ (by omega)
end Go.Proofs.YtdcpgpgomnpefaaGreatDoor
/-
  stavekeep.Config, Fixed, Sectors.
-/
namespace Go.Proofs.YtdcpgpgomnpefaaGreatDoor
open Go.RowKit Go.Deep Crc Dk Qk Go.Maps Hf
theorem wordU_range {n : Int} (h : (Lit.int .u64 n).wf = true) : 0 ≤ n ∧ n < 18446744073709551616 := by
  simp [Lit.wf, IntKind.min, IntKind.max, IntKind.signed, IntKind.bits] at h
  omega
/-- The law's small configurations. -/
def CfgOk (c : Cf) : Prop := c.id = 7 ∧ 1 ≤ c.k ∧ c.k ≤ 4 ∧ c.k ≤ c.n ∧ c.n ≤ 6 ∧ 1 ≤ c.t ∧ c.t ≤ 6 ∧ 1 ≤ c.s ∧ c.s ≤ 3
theorem CfgOk.right {c : Cf} (h : CfgOk c) : CfRight c := by
  obtain ⟨h1, h2, h3, h4, h5, h6, h7, h8, h9⟩ := h
  exact ⟨by omega, by omega, by omega, by omega, by omega, by omega, by omega, by omega, by omega⟩
def CfNew (p : Cf → Prop) (w : World) (e : Ending) (w' : World) : Prop := ∃ c, p c ∧ e = .returned (.agg (cfA c)) ∧ Below w.heap.size w w'
set_option maxHeartbeats 1000000 in
set_option maxRecDepth 100000 in
theorem config_any (k n t s : Int) (w : World) : Calls Tryz.prog 11 #[.int .i64 k, .int .i64 n, .int .i64 t, .int .i64 s] w (CfNew CfgOk w) := by
  go_enter Tryz.func11, Tryz.ntmps11
  go_wp2_with fail
  refine (within_int k 1 4 _ (by omega) (by omega) (by omega)).mono ?_
  rintro e w1 ⟨a, ha, rfl, hw⟩
  subst hw
  go_wp2_with fail
  refine (within_int t 1 6 _ (by omega) (by omega) (by omega)).mono ?_
  rintro e w1 ⟨b, hb, rfl, hw⟩
  subst hw
  go_wp2_with fail
  refine (within_int s 1 3 _ (by omega) (by omega) (by omega)).mono ?_
  rintro e w1 ⟨d, hd, rfl, hw⟩
  subst hw
  go_wp2_with fail
  refine (within_int n a 6 _ (by omega) (by omega) (by omega)).mono ?_
  rintro e w1 ⟨m, hm, rfl, hw⟩
  subst hw
  have HA := Lib.hid (show CfgOk ⟨7, a, m, b, d⟩ from ⟨rfl, ha.1, ha.2, hm.1, hm.2, hb.1, hb.2, hd.1, hd.2⟩)
  clear ha hb hd hm
  go_wp2_with fail
  exact bodyPost_ret (v := .agg (cfA ⟨7, a, m, b, d⟩)) (by simp [results, Tryz.results11, go_sem]) rfl ⟨_, HA.out, rfl, balloc (one_below _ _) _⟩
set_option maxHeartbeats 1000000 in
set_option maxRecDepth 100000 in
theorem fixed_any (k n t s : Int) (w : World) (ht : 1 ≤ t ∧ t ≤ 6) (hs : 1 ≤ s ∧ s ≤ 3) : Calls Tryz.prog 35 #[.int .i64 k, .int .i64 n, .int .i64 t, .int .i64 s] w (CfNew (fun c => CfgOk c ∧ c.t = t ∧ c.s = s) w) := by
  go_enter Tryz.func35, Tryz.ntmps35
  go_wp2_with fail
  refine (within_int k 1 4 _ (by omega) (by omega) (by omega)).mono ?_
  rintro e w1 ⟨a, ha, rfl, hw⟩
  subst hw
  go_wp2_with fail
  refine (within_int n a 6 _ (by omega) (by omega) (by omega)).mono ?_
  rintro e w1 ⟨m, hm, rfl, hw⟩
  subst hw
  have HA := Lib.hid (show CfgOk ⟨7, a, m, t, s⟩ from ⟨rfl, ha.1, ha.2, hm.1, hm.2, ht.1, ht.2, hs.1, hs.2⟩)
  clear ha hm ht hs
  go_wp2_with fail
  exact bodyPost_ret (v := .agg (cfA ⟨7, a, m, t, s⟩)) (by simp [results, Tryz.results35, go_sem]) rfl ⟨_, ⟨HA.out, rfl, rfl⟩, rfl, balloc (one_below _ _) _⟩
set_option maxHeartbeats 1000000 in
set_option maxRecDepth 100000 in
theorem ksectors_any (c : Cf) (w : World) (h : CfRight c) : Calls Tryz.prog 36 #[.agg (cfA c)] w (Num c.secs w) := by
  obtain ⟨a1, a2, a3, a4⟩ := h.secs
  have HS := Lib.hid (show (1 : Int) + c.s * c.k + c.t = c.secs from rfl)
  obtain ⟨_, _, _, _, _, b1, b2, _, _⟩ := h
  go_enter Tryz.func36, Tryz.ntmps36
  go_wp2_with fail
  go_ret
  refine num ?_ (one_below _ _)
  exact HS.out
set_option maxHeartbeats 1000000 in
set_option maxRecDepth 100000 in
theorem vsectors_any (c : Cf) (w : World) (h : CfRight c) : Calls Tryz.prog 104 #[.agg (cfA c)] w (Num c.secs w) := by
  obtain ⟨a1, a2, a3, a4⟩ := h.secs
  have HS := Lib.hid (show (1 : Int) + c.s * c.k + c.t = c.secs from rfl)
  obtain ⟨_, _, _, _, _, b1, b2, _, _⟩ := h
  go_enter Tryz.func104, Tryz.ntmps104
  go_wp2_with fail
  go_ret
  refine num ?_ (one_below _ _)
  exact HS.out
end Go.Proofs.YtdcpgpgomnpefaaGreatDoor
