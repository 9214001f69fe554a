/-
  Rows onto which is appended; four bytes of a row that a loop turns; what four bytes tell.
-/
import Derived.Test.YtjkponhdpeelpaaKOn
namespace Go.Proofs.Ytjkponhdpeelpaa
open Go.RowKit Crc
theorem own_plain {w : World} {B : Nat} {v : Value} {l : List UInt8} (h : w.ownsRow B 5 1 v (0 + l.length) ([] ++ bytesV l)) : w.ownsRow B 5 1 v l.length (bytesV l) := by
  rwa [Nat.zero_add, List.nil_append] at h
/-- Behind an append onto a new row. -/
theorem grew_new {w w1 w2 : World} {o : Obj} {r : Option Nat} (hb : Below w.heap.size w w1) (hg : Grew (w1.alloc o) (some w1.heap.size) w2 r) : Below w.heap.size w w2 ∧ Below w1.heap.size w1 w2 := by
  have h2 : Below w1.heap.size w1 w2 := (one_below w1 o).trans (hg.below (by simp) (fun k hk => by injection hk with hk; omega))
  exact ⟨bthen hb h2, h2⟩
theorem le4_cells {s : Nat} (hs : s < 2 ^ 32) : (#[.int .u8 ((s : Int) % 256), .int .u8 ((s : Int) / 256 % 256), .int .u8 ((s : Int) / 65536 % 256), .int .u8 ((s : Int) / 16777216)] : Array Value).toList = bytesV (le4 s) := by
  unfold le4 bytesV
  simp only [List.map_cons, List.map_nil, ofNat_toNat]
  congr 5
  omega
def RelT (w1 : World) (L : List UInt8) (k x : Nat) (v : Value) (w3 : World) (i : Value) (wr : World) : Prop :=
  ∃ j : Nat, j ≤ 4 ∧ i = .int .i64 j ∧ wr.ownsRow w1.heap.size 5 1 v (turnL L k x j).length (bytesV (turnL L k x j)) ∧ Below w1.heap.size w3 wr
theorem bytesV_set (l : List UInt8) (i : Nat) (b : UInt8) : (bytesV l).set i (.int .u8 b.toNat) = bytesV (l.set i b) := by simp [bytesV, List.map_set]
theorem turn_val (y : UInt8) (z : Nat) (v : Int) (hv : v = ((z % 256 : Nat) : Int)) : bits .xor .u8 (y.toNat : Int) v = ((y ^^^ UInt8.ofNat z).toNat : Nat) := by
  rw [hv, u8_xor_nat _ _ (u8_lt y) (by omega), UInt8.toNat_xor, ofNat_toNat]
theorem relT_next {w1 w3 wr : World} {L : List UInt8} {k x j n g c : Nat} (hj : j < 4) (ho : wr.ownsRow w1.heap.size 5 1 (.slice (some ⟨g, 0, none⟩) n c) n (bytesV (turnL L k x j))) (hb : Below w1.heap.size w3 wr) (v : Int)
    (hv : v = ((x / 2 ^ (8 * j) % 256 : Nat) : Int)) : RelT w1 L k x (.slice (some ⟨g, 0, none⟩) n c) w3 (.int .i64 ((j : Int) + 1)) (wr.setCell ⟨g, k + j, none⟩ (.int .u8 (bits .xor .u8 (((turnL L k x j).getD (k + j) 0).toNat : Int) v))).drew := by
  have hn : n = (turnL L k x j).length := by have := ho.1; rw [bytesV_length] at this; omega
  refine ⟨j + 1, by omega, by go_num, ?_, (hb.setCell (own_lt ho).1 _).drew⟩
  have h := own_set ho (k + j) (.int .u8 (bits .xor .u8 (((turnL L k x j).getD (k + j) 0).toNat : Int) v))
  rw [turn_val _ _ v hv, bytesV_set] at h
  rw [turn_val _ _ v hv, turnL_length, ← turnL_length L k x j, ← hn]
  exact h
theorem or_add (a b i : Nat) (ha : a < 2 ^ i) (hb : 2 ^ i * b < 4294967296) (hi : a < 4294967296) : bits .or .u32 (a : Int) ((b : Int) * ((2 ^ i : Nat) : Int)) = ((a + 2 ^ i * b : Nat) : Int) := by
  have h := Nat.two_pow_add_eq_or_of_lt ha b
  have := u32_or_nat a (2 ^ i * b) hi hb
  rw [Nat.or_comm, ← h, Nat.add_comm, Int.natCast_mul, Int.mul_comm] at this
  exact this
theorem or4_nat {b0 b1 b2 b3 : Nat} (h0 : b0 < 256) (h1 : b1 < 256) (h2 : b2 < 256) (h3 : b3 < 256) :
    bits .or .u32 (bits .or .u32 (bits .or .u32 (b0 : Int) ((b1 : Int) * 256)) ((b2 : Int) * 65536)) ((b3 : Int) * 16777216) = ((b0 + 256 * b1 + 65536 * b2 + 16777216 * b3 : Nat) : Int) := by
  have e1 := or_add b0 b1 8 (by omega) (by omega) (by omega)
  have e2 := or_add (b0 + 2 ^ 8 * b1) b2 16 (by omega) (by omega) (by omega)
  have e3 := or_add (b0 + 2 ^ 8 * b1 + 2 ^ 16 * b2) b3 24 (by omega) (by omega) (by omega)
  rw [show ((2 ^ 8 : Nat) : Int) = 256 by rfl] at e1
  rw [show ((2 ^ 16 : Nat) : Int) = 65536 by rfl, ← e1] at e2
  rw [show ((2 ^ 24 : Nat) : Int) = 16777216 by rfl, ← e2] at e3
  rw [e3]
/-- Behind an append of a literal onto a row of the call's own. -/
theorem grew_own {B : Nat} {w2 wl w3 : World} {v : Value} {l : List UInt8} {r : Option Nat} (hl : Below w2.heap.size w2 wl) (hg : Grew wl v.ownBlock w3 r) (ho : w2.ownsRow B 5 1 v l.length (bytesV l)) (hb : B ≤ w2.heap.size) : Below B w2 w3 :=
  (hl.mono hb).trans (hg.below (Nat.le_trans hb hl.size) fun _ hk => (own_block ho hk).1)
end Go.Proofs.Ytjkponhdpeelpaa
