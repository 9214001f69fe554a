/-
  staveref1.Num, staveref1.text.
-/
import Derived.Test.YtoflfbcjlddjaaaDoorGRefFits
namespace Go.Proofs.YtoflfbcjlddjaaaDoor
open Go.RowKit
/-- Bytes in a row of the call's own. -/
def Made (l : List UInt8) (w : World) (e : Ending) (w' : World) : Prop := ∃ v, e = .returned v ∧ w'.ownsRow w.heap.size 5 1 v l.length (bytesV l) ∧ Below w.heap.size w w'
theorem app_belowR {w1 w2 : World} {o : Obj} {r : Option Nat} (hg : Grew (w1.alloc o) (some w1.heap.size) w2 r) : Below w1.heap.size w1 w2 :=
  Below.trans (b := w1.alloc o) (one_below w1 o) (hg.below (by simp) (fun k hk => by injection hk with hk; omega))
def RelRN (l : List UInt8) (n : Int) (size : Nat) (w : World) (v i : Value) (wr : World) : Prop :=
  ∃ k : Nat, k ≤ size ∧ i = .int .i64 k ∧ wr.ownsRow w.heap.size 5 1 v (l.length + k) (bytesV (l ++ numB k n)) ∧ Below w.heap.size w wr
theorem num_next {w wr w2 : World} {l : List UInt8} {n : Int} {k : Nat} {v v2 : Value} {o : Obj} (hown : w2.ownsRow w.heap.size 5 1 v2 (l.length + k + 1) (bytesV (l ++ numB k n) ++ [.int .u8 (n / 2 ^ (8 * k) % 256)])) (hb : Below w.heap.size w wr) (hg : Grew (wr.alloc o) v.ownBlock w2 v2.ownBlock) (hv : ∀ q, v.ownBlock = some q → w.heap.size ≤ q) :
    w2.ownsRow w.heap.size 5 1 v2 (l.length + (k + 1)) (bytesV (l ++ numB (k + 1) n)) ∧ Below w.heap.size w w2 := by
  refine ⟨?_, (balloc hb o).trans (hg.below (balloc hb o).size hv)⟩
  rw [numB_succ, ← List.append_assoc, bytesV_append, bytesV_byteAt]
  exact hown
set_option maxHeartbeats 1000000 in
set_option maxRecDepth 100000 in
theorem refNum_any (B : Nat) (v : Value) (l : List UInt8) (n : Int) (size : Nat) (w : World) (h : SlB B w v l) (hB : B ≤ w.heap.size) (hl : l.length ≤ 10000) (hs : size ≤ 8) (_h0 : 0 ≤ n) (_h1 : n ≤ 9223372036854775807) :
    Calls Tryd.prog 28 #[v, .int .u64 n, .int .i64 size] w (Made (l ++ numB size n) w) := by
  obtain ⟨i0, hi, hz0, hz1, hz2⟩ := info_parts Tryd.info5
  have H := Lib.hid h
  clear h
  go_enter Tryd.func28, Tryd.ntmps28
  go_wp2_with (at_builtin; refine wpList_append_bytes _ rfl (.tmp 9) (.tmp 10) rfl w.heap.size _ _ _ rfl (own_new w w.heap.size #[] 5 1 0 (Nat.le_refl _) rfl (by decide)) B _ l rfl (H.out.below ((Below.refl _ _).alloc hB _)) (by omega) (by simp) ?_; intro v2 w2 hown hg; have HO := Lib.hid hown; have HB := Lib.hid (app_belowR hg); clear hown hg)
  go_loopw [7, 8] (fun v' i wr => RelRN l n size w v' i wr) (fun _ i _ => size - (intOf i).toNat)
  case atStart => exact ⟨0, Nat.zero_le _, rfl, by have := HO.out; rw [Nat.zero_add, List.nil_append] at this; simpa [numB] using this, HB.out⟩
  case round =>
    obtain ⟨k, hk, rfl, hown, hb⟩ := hrel
    have HW := Lib.hid hown
    have HBR := Lib.hid hb
    have hbs := hb.size
    clear hown hb
    by_cases hlt : k < size
    · go_wp2_with (at_builtin; refine wpList_append_src _ rfl _ _ 24 24 rfl w.heap.size 5 i0 (.int .u8 0) 1 1 Tryd.underlying24 hi hz0 hz1 hz2 rfl _ _ _ rfl (HW.out.alloc _) _ 1 _ rfl (Src.ofSlice _ Tryd.underlying24 ⟨wr.heap.size, 0, none⟩ 1 1 [_] rfl (cell_one_new _ _ _) (fun x hx => by simp at hx; subst hx; rfl)) (by unfold maxLen; omega) (by omega) (by simp; omega) ?_; intro v3 w3 hown hg hnil; have H3 := Lib.hid (num_next (n := n) (k := k) hown HBR.out hg fun q hq => (World.ownsRow.lt HW.out q hq).1); clear hown hg hnil)
      go_roundw
      case rel => exact ⟨k + 1, by omega, by go_num, H3.out.1, H3.out.2⟩
      case measure => simp [intOf]; omega
    · obtain rfl : k = size := by omega
      go_wp2_with fail
      go_ret
      exact ⟨_, rfl, by have := HW.out; rwa [List.length_append, numB_length], HBR.out⟩
set_option maxHeartbeats 1000000 in
set_option maxRecDepth 100000 in
theorem refText_any (B : Nat) (v : Value) (l : List UInt8) (s : ByteArray) (w : World) (h : SlB B w v l) (hB : B ≤ w.heap.size) (hl : l.length ≤ 10000) (hs : s.size ≤ 10000) :
    Calls Tryd.prog 29 #[v, .string s] w (Made (l ++ textB s) w) := by
  obtain ⟨i0, hi, hz0, hz1, hz2⟩ := info_parts Tryd.info5
  have HN := Lib.hid (refNum_any B v l s.size 2 w h hB hl (by omega) (by omega) (by omega))
  clear h
  go_enter Tryd.func29, Tryd.ntmps29
  go_wp2_with fail
  refine HN.out.mono ?_
  rintro e w1 ⟨v1, rfl, hown, hb⟩
  have H1 := Lib.hid hown
  have B1 := Lib.hid hb
  have hlen : (l ++ numB 2 (s.size : Int)).length = l.length + 2 := by rw [List.length_append, numB_length]
  have HLEN := Lib.hid hlen
  clear hown hb hlen
  go_wp2_with (at_builtin; refine wpList_append_src _ rfl _ _ 24 9 rfl w.heap.size 5 i0 (.int .u8 0) 1 1 Tryd.underlying24 hi hz0 hz1 hz2 rfl _ _ _ rfl H1.out _ s.size _ rfl (Src.ofString _ Tryd.underlying9 s) (by unfold maxLen; have := HLEN.out; omega) (by have := HLEN.out; omega) B1.out.size ?_; intro v2 w2 hown2 hg2 hnil; have Hown2 := Lib.hid hown2; have Hg2 := Lib.hid hg2; clear hown2 hg2 hnil)
  go_ret
  refine ⟨_, rfl, ?_, B1.out.trans (Hg2.out.below B1.out.size fun q hq => (World.ownsRow.lt H1.out q hq).1)⟩
  have h := Hown2.out
  have hd : s.data.toList.length = s.size := by simp
  rw [textB, ← List.append_assoc, bytesV_append, List.length_append, hd]
  exact h
end Go.Proofs.YtoflfbcjlddjaaaDoor
