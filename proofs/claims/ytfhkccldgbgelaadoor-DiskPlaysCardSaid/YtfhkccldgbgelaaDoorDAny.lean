/-
  What the laws on one disk want beside the contracts.
-/
import Derived.Test.YtfhkccldgbgelaaDoorDRuns
import Derived.Test.YtfhkccldgbgelaaDoorWithinI
namespace Go.Proofs.YtfhkccldgbgelaaDoor
open Go.RowKit Go.Deep Dk Go.Maps
theorem rotL_nought {b : Sec} (h : b.length = 128) (a k : Nat) : rotL b a 0 k = b := (tab_eq h fun i _ => by
  by_cases e : a ≤ i ∧ i < a + k
  · rw [if_pos e, Nat.zero_div, Nat.zero_mod, Nat.xor_zero]
  · rw [if_neg e]).symm
theorem secL_at {x p : Nat} (hx : x < 256) (hp : p < 128) : ((secL x).getD p 0).toNat = x := tab_nat (fun _ => x) hp hx
/-- A byte of a sector that was all of x, and rotted. -/
theorem rot_in {x a by_ p : Nat} (hx : x < 256) (hp : p < 128) (h : a ≤ p ∧ p < a + 4) : ((rotL (secL x) a by_ 4).getD p 0).toNat = x ^^^ (by_ / 2 ^ (8 * (p - a)) % 256) := by
  unfold rotL
  rw [tab_nat _ hp]
  · rw [if_pos h, secL_at hx hp]
  · rw [if_pos h]; exact turn_lt (byte_lt _ _) (Nat.mod_lt _ (by omega))
theorem rot_out {x a by_ p : Nat} (hx : x < 256) (hp : p < 128) (h : ¬ (a ≤ p ∧ p < a + 4)) : ((rotL (secL x) a by_ 4).getD p 0).toNat = x := by
  unfold rotL
  rw [tab_nat _ hp]
  · rw [if_neg h, secL_at hx hp]
  · rw [if_neg h]; exact byte_lt _ _
theorem NewRow.slice {l : List UInt8} {w w' : World} {v : Value} (h : NewRow l w v w') : ∃ g, v = .slice (some ⟨g, 0, none⟩) l.length l.length ∧ g < w'.heap.size ∧ Holds w' g (bytesV l) := by
  obtain ⟨g, h1, _, h2, h3⟩ := h; exact ⟨g, h1, h2, h3⟩
/-! ### states -/
theorem flush_rot {s : St} (h : s.Ok) {i : Nat} (hi : (s.wt i).isSome = true) : s.flush.rot i = false := by
  unfold St.flush
  rw [St.stores_rot, if_pos ((St.mem_ks h).2 hi)]
theorem flushed_n (s : St) : s.flush.n = s.n := St.stores_n _ _
theorem flushed_dead (s : St) : s.flush.dead = s.dead := St.stores_dead _ _
end Go.Proofs.YtfhkccldgbgelaaDoor
