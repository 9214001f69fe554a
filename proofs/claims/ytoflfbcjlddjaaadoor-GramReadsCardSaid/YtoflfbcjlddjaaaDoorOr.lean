/-
  A byte laid over a number's free bits is added.
-/
import Derived.Test.YtoflfbcjlddjaaaDoorGGetM
import Derived.WalkKit
import Derived.Laws.BitsAllLaws
namespace Go.Proofs.YtoflfbcjlddjaaaDoor
open Go.RowKit

theorem pow256 (k : Nat) : 256 ^ k = 2 ^ (8 * k) := by rw [Nat.pow_mul]
theorem or_byte (acc x k : Nat) (hk : k ≤ 7) (ha : acc < 256 ^ k) (hx : x < 256) :
    bits .or .u64 (acc : Int) (IntKind.u64.wrap (IntKind.u64.wrap (x : Int) * 2 ^ (8 * k))) = ((acc + 256 ^ k * x : Nat) : Int) := by
  rw [pow256] at *
  have h2 : 2 ^ (8 * k) ≤ 2 ^ 56 := Nat.pow_le_pow_right (by decide) (by omega)
  have h3 : x * 2 ^ (8 * k) ≤ 255 * 2 ^ 56 := Nat.mul_le_mul (by omega) h2
  have h4 : x * 2 ^ (8 * k) < 18446744073709551616 := Nat.lt_of_le_of_lt h3 (by decide)
  have e1 : IntKind.u64.wrap (x : Int) = x := by rw [IntKind.wrap_u64]; exact Int.emod_eq_of_lt (by omega) (by omega)
  have e2 : ((x : Int) * 2 ^ (8 * k)) = ((x * 2 ^ (8 * k) : Nat) : Int) := by simp
  have e3 : IntKind.u64.wrap ((x * 2 ^ (8 * k) : Nat) : Int) = ((x * 2 ^ (8 * k) : Nat) : Int) := by rw [IntKind.wrap_u64]; exact Int.emod_eq_of_lt (by omega) (by omega)
  rw [e1, e2, e3, u64_or_nat _ _ (Nat.lt_of_lt_of_le ha (Nat.le_trans h2 (by decide))) h4, Nat.or_comm, Nat.mul_comm x, ← Nat.two_pow_add_eq_or_of_lt ha]
  congr 1
  omega
end Go.Proofs.YtoflfbcjlddjaaaDoor
