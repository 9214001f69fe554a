/-
  staveref1.Big, staveref1.one: what the reader's number and text answer.
-/
import Derived.Test.YtoflfbcjlddjaaaDoorGRuns
import Derived.Laws.BitsAllLaws
namespace Go.Proofs.YtoflfbcjlddjaaaDoor
open Go.RowKit
theorem or_low (m b : Nat) (hb : b < 256) (hm : 256 * m + b < 18446744073709551616) : bits .or .u64 (IntKind.u64.wrap ((m : Int) * 256)) (b : Int) = ((b + 256 * m : Nat) : Int) := by
  have e1 : IntKind.u64.wrap ((m : Int) * 256) = ((256 * m : Nat) : Int) := by
    rw [IntKind.wrap_u64]; omega
  rw [e1, u64_or_nat _ _ (by omega) (by omega)]
  have h := Nat.two_pow_add_eq_or_of_lt (i := 8) (b := b) (by omega) m
  rw [show (2 : Nat) ^ 8 = 256 from rfl] at h
  rw [← h, Nat.add_comm]
theorem leN_drop {bs : List UInt8} {j : Nat} (h : j < bs.length) : leN (bs.drop j) = (bs.getD j 0).toNat + 256 * leN (bs.drop (j + 1)) := by
  rw [List.drop_eq_getElem_cons h]
  simp [leN, List.getD, h]
theorem leN_small {bs : List UInt8} {j : Nat} (hl : bs.length ≤ 8) : leN (bs.drop j) < 18446744073709551616 := by
  have h1 := leN_lt (bs.drop j)
  have h2 : (bs.drop j).length ≤ 8 := by rw [List.length_drop]; omega
  exact Nat.lt_of_lt_of_le h1 (Nat.le_trans (Nat.pow_le_pow_right (by decide) h2) (by decide))
def U64Same (n : Nat) (w : World) (e : Ending) (w' : World) : Prop := e = .returned (.int .u64 n) ∧ w = w'
def RelBig (bs : List UInt8) (n i : Value) : Prop := ∃ k : Nat, k ≤ bs.length ∧ n = .int .u64 (leN (bs.drop k)) ∧ i = .int .i64 ((k : Int) - 1)
set_option maxHeartbeats 1000000 in
set_option maxRecDepth 100000 in
theorem big_any (B : Nat) (v : Value) (bs : List UInt8) (w : World) (h : SlB B w v bs) (hB : B ≤ w.heap.size) (hl : bs.length ≤ 8) : Calls Tryd.prog 33 #[v] w (U64Same (leN bs) w) := by
  have H := Lib.hid h
  obtain ⟨a, cap, rfl, _⟩ := h.len
  clear h
  go_enter Tryd.func33, Tryd.ntmps33
  go_wp2_with fail
  go_loop [3, 4] (fun n i => RelBig bs n i) (fun _ i => (intOf i + 1).toNat)
  case atStart => exact ⟨bs.length, Nat.le_refl _, by rw [List.drop_length]; rfl, rfl⟩
  case round =>
    obtain ⟨k, hk, rfl, rfl⟩ := hrel
    cases k with
    | zero =>
      rw [show (((0 : Nat) : Int) - 1) = (-1 : Int) by rfl]
      go_wp2_with fail
      go_ret
      exact ⟨rfl, rfl⟩
    | succ j =>
      rw [show (((j + 1 : Nat) : Int) - 1) = (j : Int) by omega]
      obtain ⟨b, o, cap', h1, h2⟩ := H.out.byte hB (Below.refl _ _) (k := j) (by omega)
      injection h1 with h1 _ h1'
      subst h1 h1'
      have hd := leN_drop (bs := bs) (j := j) (by omega)
      have hs := leN_small (bs := bs) (j := j) hl
      have hb : (bs.getD j 0).toNat < 256 := UInt8.toNat_lt _
      have hor := or_low (leN (bs.drop (j + 1))) (bs.getD j 0).toNat hb (by omega)
      generalize (bs.getD j 0).toNat = c at *
      generalize leN (bs.drop (j + 1)) = m at *
      have HD := Lib.hid hd
      have hjl : (j : Int) < bs.length := by omega
      clear hd hs
      go_wp2_with fail
      go_round
      case rel => exact ⟨j, by omega, by rw [HD.out, Int.natCast_add, Int.natCast_mul]; rfl, rfl⟩
      case measure => simp [intOf]
end Go.Proofs.YtoflfbcjlddjaaaDoor
