/-
  stavebook.Intact of bytes, where nothing has turned.
-/
import Derived.Test.YtoflfbcjlddjaaaDoorRoomy
import Derived.Test.YtoflfbcjlddjaaaDoorSameB
namespace Go.Proofs.YtoflfbcjlddjaaaDoor
open Go.RowKit
theorem roomL_take (l : List UInt8) (m : Nat) : (roomL l m 80).take l.length = l := by simp [roomL]
theorem roomL_mark (l : List UInt8) (m j : Nat) (hm : m < 256) (h : j < 80) : (((roomL l m 80).getD (l.length + j) 0).toNat : Int) = m := by
  have : (UInt8.ofNat m).toNat = m := by rw [UInt8.toNat_ofNat']; omega
  unfold roomL
  rw [List.getD_eq_getElem?_getD, List.getElem?_append_right (by omega), show l.length + j - l.length = j by omega, List.getElem?_append_left (by rw [List.length_replicate]; exact h), List.getElem?_replicate, if_pos h]
  show ((UInt8.ofNat m).toNat : Int) = m
  rw [this]
def RelInt (l : List UInt8) (w : World) (i : Value) (wr : World) : Prop := ∃ j : Nat, j ≤ 80 ∧ i = .int .i64 ((l.length : Int) + j) ∧ Below w.heap.size w wr
set_option maxHeartbeats 1000000 in
set_option maxRecDepth 100000 in
theorem intact_bytes (B : Nat) (fv v : Value) (l : List UInt8) (m : Nat) (w : World) (hf : SlB B w fv (roomL l m 80)) (h : SlB B w v l) (hB : B ≤ w.heap.size) (hm : m < 256) (hl : l.length ≤ 99000) :
    Calls Tryd.prog 15 #[fv, v, .int .u8 m] w (Bit true w) := by
  have hn : (roomL l m 80).length = l.length + 80 := roomL_length _ _ _ (by omega)
  rcases hf with ⟨h0, _⟩ | ⟨b, o, cap, rfl, hb, hby, _, hc⟩
  · rw [h0] at hn; simp at hn
  have hS : SlB B w (.slice (some ⟨b, o, none⟩) l.length cap) ((roomL l m 80).take l.length) :=
    slb_take (Or.inr ⟨b, o, cap, rfl, hb, hby, by omega, hc⟩) (by omega)
  rw [roomL_take] at hS
  have hmark : ∀ wr, Below w.heap.size w wr → ∀ j, j < 80 → wr.cell? ⟨b, o + (l.length + j), none⟩ = some (.int .u8 m) := fun wr hbl j hj => by
    rw [hbl.cell (p := ⟨b, o + (l.length + j), none⟩) (by show b < _; omega), hby _ (by omega), roomL_mark l m j hm hj]
  have HM := Lib.hid hmark
  have HS := Lib.hid hS
  have H := Lib.hid h
  obtain ⟨a2, cap2, rfl, hc2⟩ := h.len
  rw [hn] at hc ⊢
  clear hS h hmark hby hn
  go_enter Tryd.func15, Tryd.ntmps15
  go_wp2_with (go_at_call 25; refine (same_bytes B _ _ l l w HS.out H.out hB (by omega)).mono ?_; rw [decide_eq_true rfl]; rintro e w1 ⟨rfl, hb1⟩; have Hb1 := Lib.hid hb1; clear hb1)
  go_loopw [7] (fun i wr => RelInt l w i wr) (fun i _ => l.length + 80 - (intOf i).toNat)
  case atStart => exact ⟨0, by omega, by simp, Hb1.out⟩
  case round =>
    obtain ⟨j, hj, rfl, hbr⟩ := hrel
    have HBR := Lib.hid hbr
    clear hbr
    by_cases hlt : j < 80
    · have c1 := HM.out wr HBR.out j hlt
      go_wp2_with fail
      go_roundw
      case rel => exact ⟨j + 1, by omega, by go_num, HBR.out⟩
      case measure => simp [intOf]; omega
    · obtain rfl : j = 80 := by omega
      go_wp2_with fail
      go_ret
      exact bit rfl HBR.out
end Go.Proofs.YtoflfbcjlddjaaaDoor
