/-
  stavelaw3.GfTells: the walk.
-/
import Derived.Test.YtdpjbemhgcdeoaaFRuns
import Derived.Test.YtdpjbemhgcdeoaaFRef
namespace Go.Proofs.Ytdpjbemhgcdeoaa
open Go.RowKit Gf
set_option maxHeartbeats 1000000 in
theorem tells_any (a b : Nat) (w : World) (ha : a < 256) (hb : b < 256) : Calls Try.prog 4 #[.int .u8 a, .int .u8 b] w (Bit true w) := by
  go_enter Try.func4, Try.ntmps4
  go_wp2_with fail
  go_at_call 10
  refine (make_any _).mono ?_
  rintro e w1 ⟨rfl, hF, hz, hbl⟩
  have HF := Lib.hid hF
  have HZ := Lib.hid hz
  clear hF hz
  go_wp2_with fail
  go_at_call 11
  refine (mul_any _ _ HF.out _ _ ha hb).mono ?_
  rintro e w' ⟨rfl, k1, rfl⟩
  have HF1 := Lib.hid (HF.out.drewN k1)
  have hbl1 := below_drewN hbl k1
  go_wp2_with fail
  go_at_call 15
  refine (refMul_any _ _ _ ha hb).mono ?_
  rintro e w' ⟨rfl, rfl⟩
  go_wp2_with fail
  go_at_call 12
  refine (inv_any _ _ HF1.out _ ha).mono ?_
  rintro e w' ⟨rfl, rfl⟩
  go_wp2_with fail
  go_at_call 16
  refine (refInv_any _ _ ha).mono ?_
  rintro e w' ⟨rfl, rfl⟩
  go_wp2_with fail
  go_at_call 17
  refine (div_any _ _ HF1.out _ _ ha hb).mono ?_
  rintro e w' ⟨rfl, k2, rfl⟩
  go_wp2_with fail
  go_at_call 16
  refine (refInv_any _ _ hb).mono ?_
  rintro e w' ⟨rfl, rfl⟩
  go_wp2_with fail
  go_at_call 15
  refine (refMul_any _ _ _ ha (inv_lt _)).mono ?_
  rintro e w' ⟨rfl, rfl⟩
  go_wp2_with fail
  go_at_call 3
  refine (runs_any _).mono ?_
  rintro e w' ⟨rfl, hb'⟩
  go_wp2
  go_ret
  exact bit rfl (bthen (below_drewN hbl _) hb')
end Go.Proofs.Ytdpjbemhgcdeoaa
