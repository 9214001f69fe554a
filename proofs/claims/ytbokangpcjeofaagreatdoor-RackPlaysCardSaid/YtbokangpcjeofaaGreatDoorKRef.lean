/-
  staveref1.Crc: it answers the sum too.
-/
import Derived.Test.YtbokangpcjeofaaGreatDoorKTurnL
namespace Go.Proofs.YtbokangpcjeofaaGreatDoor
open Go.RowKit Crc
def RelR1 (l : List UInt8) (v i : Value) : Prop := ∃ k : Nat, k ≤ l.length ∧ i = .int .i64 k ∧ v = .int .u32 (run ones (l.take k))
def RelR2 (g : Nat) (v i : Value) : Prop := ∃ k x : Nat, k ≤ 8 ∧ x < 4294967296 ∧ sts (8 - k) x = g ∧ v = .int .u32 x ∧ i = .int .i64 k
theorem relR2_next {g k x : Nat} {v : Int} (hx : x < 4294967296) (hlt : k < 8) (h : sts (8 - k) x = g) (e : v = (st x : Nat)) : RelR2 g (.int .u32 v) (.int .i64 (k + 1)) := by
  refine ⟨k + 1, st x, by omega, st_lt hx, ?_, by rw [e], by go_num⟩
  rw [← h, show 8 - k = (8 - (k + 1)) + 1 by omega]
  rfl
set_option maxHeartbeats 1000000 in
theorem ref_any (B : Nat) (v : Value) (l : List UInt8) (w : World) (h : SlB B w v l) (hl : l.length ≤ 1000000) :
    Calls Tryz.prog 93 #[v] w (U32Same (sum l) w) := by
  obtain ⟨a, cap, rfl, _⟩ := h.len
  have H := Lib.hid h
  clear h
  go_enter Tryz.func93, Tryz.ntmps93
  go_wp2_with fail
  go_loop [3, 9] (fun v i => RelR1 l v i) (fun _ i => l.length - (intOf i).toNat)
  case atStart => exact ⟨0, Nat.zero_le _, rfl, rfl⟩
  case round =>
    obtain ⟨k, hk, rfl, rfl⟩ := hrel
    have hv := run_lt (l.take k) ones_lt
    by_cases hlt : k < l.length
    · have HR := Lib.hid (run_take (c := ones) hlt)
      obtain ⟨b, o, cap', h1, h2⟩ := slb_now H.out hlt
      injection h1 with h1 _ h1'
      subst h1 h1'
      have hb := u8_lt (l.getD k 0)
      generalize run ones (l.take k) = v at *
      generalize (l.getD k 0) = y at *
      have h4 := u32_xor_nat v y.toNat hv (by omega)
      have hz' : v ^^^ y.toNat < 2 ^ 32 := Nat.xor_lt_two_pow hv (by omega)
      have hu : sts 8 (v ^^^ y.toNat) = upd v y := rfl
      generalize v ^^^ y.toNat = z at *
      generalize upd v y = g at *
      have HU := Lib.hid hu
      clear hu
      go_wp2_with fail
      go_loop [3, 6] (fun v i => RelR2 g v i) (fun _ i => 8 - (intOf i).toNat)
      case atStart => exact ⟨0, z, by omega, hz', HU.out, rfl, rfl⟩
      case round =>
        obtain ⟨j, x, hj, hx, hs, rfl, rfl⟩ := hrel
        have HS := Lib.hid hs; clear hs
        by_cases hlt2 : j < 8
        · by_cases ho : x % 2 = 1
          · have hb1 := and_odd hx ho
            have HX := Lib.hid (st_odd hx ho)
            clear ho
            go_wp2_with fail
            go_round
            case rel => exact relR2_next hx hlt2 HS.out HX.out
            case measure => simp [intOf]; omega
          · have hb1 := and_even hx ho
            have HX := Lib.hid (st_ev ho)
            clear ho
            go_wp2_with fail
            go_round
            case rel => exact relR2_next hx hlt2 HS.out HX.out
            case measure => simp [intOf]; omega
        · obtain rfl : j = 8 := by omega
          go_wp2_with fail
          go_round
          case rel => exact ⟨k + 1, by omega, by go_num, by rw [HR.out, ← HS.out]; rfl⟩
          case measure => simp [intOf]; omega
    · obtain rfl : k = l.length := by omega
      have HN2 := Lib.hid (not_nat hv)
      rw [List.take_length] at *
      generalize hr : run ones l = r at *
      have HR := Lib.hid hr
      clear hr
      go_wp2_with fail
      go_ret
      exact u32Same (by rw [HN2.out, ← HR.out]; unfold sum on; rw [Nat.zero_xor])
end Go.Proofs.YtbokangpcjeofaaGreatDoor
