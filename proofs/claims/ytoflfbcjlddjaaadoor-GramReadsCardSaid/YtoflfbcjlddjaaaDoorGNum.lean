/-
  gram.appendNumber, gram.appendText: bytes behind a row of the call's own.
-/
import Derived.Test.YtoflfbcjlddjaaaDoorBytes
import Derived.Test.YtoflfbcjlddjaaaDoorGModel
namespace Go.Proofs.YtoflfbcjlddjaaaDoor
open Go.RowKit

/-- ys behind xs, in the row that v was, or a new one. -/
def App (B : Nat) (v : Value) (n m : Nat) (xs ys : List Value) (w : World) (e : Ending) (w' : World) : Prop :=
  ∃ v', e = .returned v' ∧ w'.ownsRow B 5 1 v' (n + m) (xs ++ ys) ∧ Grew w v.ownBlock w' v'.ownBlock

theorem bytesV_byteAt (n : Int) (k : Nat) : bytesV [byteAt n k] = [.int .u8 (n / 2 ^ (8 * k) % 256)] := by
  simp [bytesV, byteAt_toNat]

def RelN (B : Nat) (v0 : Value) (n size : Nat) (num : Int) (xs : List Value) (w : World) (v i : Value) (wr : World) : Prop :=
  ∃ k : Nat, k ≤ size ∧ i = .int .i64 k ∧ wr.ownsRow B 5 1 v (n + k) (xs ++ bytesV (numB k num)) ∧ Grew w v0.ownBlock wr v.ownBlock

set_option maxHeartbeats 1000000 in
set_option maxRecDepth 100000 in
theorem appendNumber (B : Nat) (v : Value) (n size : Nat) (num : Int) (xs : List Value) (w : World) (hs : size ≤ 8) (hn : n ≤ 10000)
    (hown : w.ownsRow B 5 1 v n xs) (hB : B ≤ w.heap.size) :
    Calls Tryd.prog 70 #[v, .int .i64 size, .int .i64 num] w (App B v n size xs (bytesV (numB size num)) w) := by
  obtain ⟨i0, hi, hz0, hz1, hz2⟩ := info_parts Tryd.info5
  have Hown := Lib.hid hown; clear hown
  go_enter Tryd.func70, Tryd.ntmps70
  go_wp2
  go_loopw [0, 9] (fun v' i wr => RelN B v n size num xs w v' i wr) (fun _ i _ => size - (intOf i).toNat)
  case atStart => exact ⟨0, Nat.zero_le _, rfl, by simpa [numB, bytesV] using Hown.out, Grew.refl _ _⟩
  case round =>
    obtain ⟨k, hk, rfl, hown, hg⟩ := hrel
    by_cases hlt : k < size
    · have Hw := Lib.hid hown
      have Hg := Lib.hid hg; clear hown hg
      go_wp2_with (at_builtin; refine wpList_append_src _ rfl _ _ 24 24 rfl B 5 i0 (.int .u8 0) 1 1 Tryd.underlying24 hi hz0 hz1 hz2 rfl _ _ _ rfl (Hw.out.alloc _) _ 1 _ rfl (Src.ofSlice _ Tryd.underlying24 ⟨wr.heap.size, 0, none⟩ 1 1 [_] rfl (cell_one_new _ _ _) (fun x hx => by simp at hx; subst hx; rfl)) (by unfold maxLen; omega) (by omega) (by have := Hg.out.size; simp; omega) ?_; intro v2 w2 hown2 hg2 hnil; have Hown2 := Lib.hid hown2; have Hg2 := Lib.hid hg2; clear hown2 hg2 hnil)
      go_roundw
      case rel =>
        refine ⟨k + 1, by omega, by go_num, ?_, (Hg.out.alloc _).trans Hg2.out⟩
        have h := Hown2.out
        rw [numB_succ, bytesV_append, ← List.append_assoc]
        rw [bytesV_byteAt]
        exact h
      case measure => simp [intOf]; omega
    · obtain rfl : k = size := by omega
      have Hw := Lib.hid hown
      have Hg := Lib.hid hg; clear hown hg
      go_wp2
      go_ret
      exact ⟨_, rfl, Hw.out, Hg.out⟩
set_option maxHeartbeats 1000000 in
set_option maxRecDepth 100000 in
theorem appendText (B : Nat) (v : Value) (n : Nat) (s : ByteArray) (xs : List Value) (w : World) (hs : s.size ≤ 10000) (hn : n ≤ 10000)
    (hown : w.ownsRow B 5 1 v n xs) (hB : B ≤ w.heap.size) :
    Calls Tryd.prog 71 #[v, .string s] w (App B v n (2 + s.size) xs (bytesV (textB s)) w) := by
  obtain ⟨i0, hi, hz0, hz1, hz2⟩ := info_parts Tryd.info5
  have Hnum := Lib.hid (appendNumber B v n 2 s.size xs w (by omega) hn hown hB)
  have Hown := Lib.hid hown; clear hown
  go_enter Tryd.func71, Tryd.ntmps71
  go_wp2_with fail
  refine Hnum.out.mono ?_
  rintro e w1 ⟨v1, rfl, hown, hg⟩
  have H1 := Lib.hid hown
  have G1 := Lib.hid hg; clear hown hg
  go_wp2_with (at_builtin; refine wpList_append_src _ rfl _ _ 24 9 rfl B 5 i0 (.int .u8 0) 1 1 Tryd.underlying24 hi hz0 hz1 hz2 rfl _ _ _ rfl H1.out _ s.size _ rfl (Src.ofString _ Tryd.underlying9 s) (by unfold maxLen; omega) (by omega) (by have := G1.out.size; omega) ?_; intro v2 w2 hown2 hg2 hnil; have Hown2 := Lib.hid hown2; have Hg2 := Lib.hid hg2; clear hown2 hg2 hnil)
  go_ret
  refine ⟨_, rfl, ?_, G1.out.trans Hg2.out⟩
  have h := Hown2.out
  rw [textB, bytesV_append, ← List.append_assoc, ← Nat.add_assoc]
  exact h
end Go.Proofs.YtoflfbcjlddjaaaDoor
