/-
  stavelaw8.sector: a sector all of one byte.
-/
import Derived.Test.YtbokangpcjeofaaGreatDoorDWrite
namespace Go.Proofs.YtbokangpcjeofaaGreatDoor
open Go.RowKit Go.Deep Dk Go.Maps
def secL (x : Nat) : Sec := tab 128 fun _ => x
theorem secL_length (x : Nat) : (secL x).length = 128 := tab_length _ _
theorem secL_zer : secL 0 = zer := by decide +kernel
def RelSec (x : Nat) (w0 : World) (c : Value) (wr : World) : Prop :=
  ∃ k : Nat, k ≤ 128 ∧ c = .int .i64 k ∧ wr.ownsRow w0.heap.size 5 1 (.slice (some ⟨w0.heap.size, 0, none⟩) 128 128) 128 (bytesV (tab 128 fun p => if p < k then x else 0)) ∧ Below w0.heap.size w0 wr
/-- A new slice with these bytes. -/
def NewSl (l : List UInt8) (w : World) (e : Ending) (w' : World) : Prop := ∃ v, e = .returned v ∧ NewRow l w v w' ∧ Below w.heap.size w w'
set_option maxHeartbeats 1000000 in
set_option maxRecDepth 100000 in
theorem sector_any (x : Nat) (hx : x < 256) (w : World) : Calls Tryz.prog 12 #[.int .u8 (x : Int)] w (NewSl (secL x) w) := by
  have hmk : ∀ w, (Instr.makeSlice 38 (.int .i64 128) (.int .i64 128)).run Tryz.prog w = .ok (.slice (some ⟨w.heap.size, 0, none⟩) 128 128) (w.alloc (.cells (madeCells #[.int .u8 0] 128) 5)) := make_u8 128 (by omega)
  have HM := Lib.hid (made_own w w.heap.size 128 (Nat.le_refl _) (by omega))
  have hz : (zeros 128) = tab 128 fun p => if p < 0 then x else 0 := by rw [zeros_tab]; exact tab_congr fun i _ => rfl
  rw [hz] at HM
  generalize hcs : madeCells #[.int .u8 0] 128 = cs at hmk HM
  clear hz hcs
  go_enter Tryz.func12, Tryz.ntmps12
  go_wp2
  go_loopw [8] (fun c wr => RelSec x w c wr) (fun c _ => 128 - (RowKit.intOf c).toNat)
  case atStart => exact ⟨0, by omega, rfl, HM.out, one_below _ _⟩
  case round =>
    obtain ⟨k, hk, rfl, hown, hb⟩ := hrel
    have HO := Lib.hid hown
    have HB := Lib.hid hb
    by_cases hlt : k < 128
    · obtain ⟨v0, hv0⟩ : ∃ v, (bytesV (tab 128 fun p => if p < k then x else 0))[k]? = some v := ⟨_, List.getElem?_eq_getElem (by rw [bytesV_length, tab_length]; exact hlt)⟩
      have hc := own_cell hown hv0
      have hf := own_frozen hown k
      have HS := Lib.hid (own_set hown k (.int .u8 (x : Int)))
      rw [tab_set hx (g := fun p => if p < k + 1 then x else 0) (fun j _ hj => by
        by_cases h : j < k
        · rw [if_pos h, if_pos (by omega)]
        · rw [if_neg h, if_neg (by omega)]) (by rw [if_pos (by omega)])] at HS
      have HB2 := Lib.hid (hb.setCell (p := ⟨w.heap.size, k, none⟩) (Nat.le_refl _) (.int .u8 (x : Int)))
      clear hown hb hv0
      go_wp2
      go_roundw
      case rel => exact ⟨k + 1, by omega, by go_num, HS.out, HB2.out⟩
      case measure => simp [RowKit.intOf]; omega
    · obtain rfl : k = 128 := by omega
      clear hown hb
      go_wp2
      go_ret
      have e : (tab 128 fun p => if p < 128 then x else 0) = secL x := tab_congr fun i hi => if_pos hi
      have h := HO.out
      rw [e] at h
      refine ⟨_, rfl, ⟨w.heap.size, by rw [secL_length]; rfl, Nat.le_refl _, (own_lt h).2.1, holds_own h⟩, HB.out⟩
end Go.Proofs.YtbokangpcjeofaaGreatDoor
