/-
  (*crc.Table).On, Sum: they answer the sum of the bytes.
-/
import Derived.Test.YtjkponhdpeelpaaKMake
namespace Go.Proofs.Ytjkponhdpeelpaa
open Go.RowKit Crc
def RelOn (c : Nat) (l : List UInt8) (v i : Value) : Prop := ∃ k : Nat, k ≤ l.length ∧ i = .int .i64 k ∧ v = .int .u32 (run (c ^^^ ones) (l.take k))
theorem slb_now {B : Nat} {w : World} {v : Value} {l : List UInt8} (h : SlB B w v l) {k : Nat} (hk : k < l.length) :
    ∃ b o cap, v = .slice (some ⟨b, o, none⟩) l.length cap ∧ w.cell? ⟨b, o + k, none⟩ = some (.int .u8 (l.getD k 0).toNat) := by
  rcases h with ⟨rfl, _⟩ | ⟨b, o, cap, h1, h2, h3, _⟩
  · simp at hk
  · exact ⟨b, o, cap, h1, h3 k hk⟩
theorem not_nat {c : Nat} (hc : c < 4294967296) : bits .xor .u32 IntKind.u32.max (c : Int) = ((c ^^^ ones : Nat) : Int) := by
  have := u32_xor_nat 4294967295 c (by omega) hc
  rw [Nat.xor_comm] at this
  exact this
theorem run_take {c : Nat} {l : List UInt8} {k : Nat} (hk : k < l.length) : run c (l.take (k + 1)) = upd (run c (l.take k)) (l.getD k 0) := by
  have e : l.take (k + 1) = l.take k ++ [l.getD k 0] := by
    rw [List.take_succ_eq_append_getElem hk]; simp [List.getD, hk]
  rw [e, run_append]; rfl
theorem upd_int {v : Nat} (b : UInt8) (hv : v < 4294967296) : bits .xor .u32 ((tab (v % 256 ^^^ b.toNat) : Nat) : Int) ((v : Int) / 256) = (upd v b : Nat) := by
  have hb := u8_lt b
  have h8 : v % 256 ^^^ b.toNat < 2 ^ 8 := Nat.xor_lt_two_pow (by omega) (by omega)
  have := u32_xor_nat (tab (v % 256 ^^^ b.toNat)) (v / 256) (sts_lt 8 (by omega)) (by omega)
  rw [upd_tab, Nat.shiftRight_eq_div_pow, ← show ((v / 256 : Nat) : Int) = (v : Int) / 256 by omega]
  exact this
set_option maxHeartbeats 1000000 in
theorem on_any (B tb : Nat) (v : Value) (l : List UInt8) (c : Nat) (w : World) (hT : TableIn w tb) (h : SlB B w v l) (hc : c < 4294967296) (hl : l.length ≤ 1000000) :
    Calls Try.prog 33 #[.pointer (some ⟨tb, 0, none⟩), .int .u32 c, v] w (U32Same (on c l) w) := by
  obtain ⟨a, cap, rfl, _⟩ := h.len
  have H := Lib.hid h
  have HT := Lib.hid hT
  have HN := Lib.hid (not_nat hc)
  have HC := Lib.hid (Nat.xor_lt_two_pow hc ones_lt)
  clear h hT
  go_enter Try.func33, Try.ntmps33
  go_wp2_with fail
  go_loop [7, 14] (fun v i => RelOn c l v i) (fun _ i => l.length - (intOf i).toNat)
  case atStart => exact ⟨0, Nat.zero_le _, rfl, by rw [HN.out]; rfl⟩
  case round =>
    obtain ⟨k, hk, rfl, rfl⟩ := hrel
    have hv := run_lt (l.take k) HC.out
    by_cases hlt : k < l.length
    · have HR := Lib.hid (run_take (c := c ^^^ ones) hlt)
      obtain ⟨b, o, cap', h1, h2⟩ := slb_now H.out hlt
      injection h1 with h1 _ h1'
      subst h1 h1'
      have HB := Lib.hid (upd_int (l.getD k 0) hv)
      have hb := u8_lt (l.getD k 0)
      generalize run (c ^^^ ones) (l.take k) = v at *
      generalize (l.getD k 0) = y at *
      have h8 : v % 256 ^^^ y.toNat < 2 ^ 8 := Nat.xor_lt_two_pow (by omega) (by omega)
      have h3 : IntKind.u8.wrap (v : Int) = ((v % 256 : Nat) : Int) := by rw [IntKind.wrap_u8']; omega
      have h4 := u8_xor_nat (v % 256) y.toNat (by omega) hb
      have h5 := HT.out (v % 256 ^^^ y.toNat) h8
      generalize hz : v % 256 ^^^ y.toNat = z at *
      generalize hm : v % 256 = m at *
      clear hz hm
      go_wp2_with fail
      go_round
      case rel => exact ⟨k + 1, by omega, by go_num, by rw [HR.out, HB.out]⟩
      case measure => simp [intOf]; omega
    · obtain rfl : k = l.length := by omega
      have HN2 := Lib.hid (not_nat hv)
      rw [List.take_length] at *
      generalize hr : run (c ^^^ ones) l = r at *
      have HR := Lib.hid hr
      clear hr
      go_wp2_with fail
      go_ret
      exact u32Same (by rw [HN2.out, ← HR.out]; rfl)
theorem sum_any (B tb : Nat) (v : Value) (l : List UInt8) (w : World) (hT : TableIn w tb) (h : SlB B w v l) (hl : l.length ≤ 1000000) :
    Calls Try.prog 30 #[.pointer (some ⟨tb, 0, none⟩), v] w (U32Same (sum l) w) := by
  have HC := Lib.hid (on_any B tb v l 0 w hT h (by omega) hl)
  obtain ⟨a, cap, rfl, _⟩ := h.len
  clear h hT
  go_enter Try.func30, Try.ntmps30
  go_wp2_with fail
  refine HC.out.mono ?_
  rintro e w' ⟨rfl, rfl⟩
  go_wp2_with fail
  go_ret
  exact u32Same rfl
end Go.Proofs.Ytjkponhdpeelpaa
