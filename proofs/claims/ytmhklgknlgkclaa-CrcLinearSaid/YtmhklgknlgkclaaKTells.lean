/-
  stavelaw5.CrcTells: the walk.
-/
import Derived.Test.YtmhklgknlgkclaaKRuns
import Derived.Test.YtmhklgknlgkclaaKRef
import Derived.Test.YtmhklgknlgkclaaIntact
import Derived.Test.YtmhklgknlgkclaaWithinI
import Derived.Deep.RegionHeld3
namespace Go.Proofs.Ytmhklgknlgkclaa
open Go.RowKit Crc
def KW (W w' : World) : Prop := Below W.heap.size W w'
theorem KW.drew {W w' : World} (h : KW W w') : KW W w'.drew := Below.drew h
theorem keeps_bit {f : FuncId} {args : Array Value} {b : Bool} {W W' : World} (h : Calls Try.prog f args W' (Bit b W')) (hk : KW W W') : Calls Try.prog f args W' (fun e w'' => e = .returned (.bool b) ∧ KW W w'') :=
  h.mono fun _ _ ⟨h1, h2⟩ => ⟨h1, bthen hk h2⟩
theorem keeps_u32 {f : FuncId} {args : Array Value} {n : Nat} {W W' : World} (h : Calls Try.prog f args W' (U32Same n W')) (hk : KW W W') : Calls Try.prog f args W' (fun e w'' => e = .returned (.int .u32 n) ∧ KW W w'') :=
  h.mono fun _ _ ⟨h1, h2⟩ => ⟨h1, by rw [← h2]; exact hk⟩
theorem on0_any (B tb : Nat) (v : Value) (l : List UInt8) (w : World) (hT : TableIn w tb) (h : SlB B w v l) (hl : l.length ≤ 1000000) :
    Calls Try.prog 14 #[.pointer (some ⟨tb, 0, none⟩), .int .u32 0, v] w (U32Same (sum l) w) := on_any B tb v l 0 w hT h (by omega) hl
theorem intact_7 (B : Nat) (fv v : Value) (l : List UInt8) (w : World) (hf : SlB B w fv (roomL l 7 80)) (h : SlB B w v l) (hB : B ≤ w.heap.size) (hl : l.length ≤ 99000) :
    Calls Try.prog 15 #[fv, v, .int .u8 7] w (Bit true w) := intact_bytes B fv v l 7 w hf h hB (by omega) hl
/-- What is behind the k-th byte. -/
theorem slice_from {B cap k : Nat} {w : World} {a : Option Addr} {l : List UInt8} (h : SlB B w (.slice a l.length cap) l) (hk : k ≤ l.length) :
    ∃ a', (if cap = k then a else a.map (·.add k)) = a' ∧ SlB B w (.slice a' (l.length - k) (cap - k)) (l.drop k) := by
  have hl : (l.drop k).length = l.length - k := List.length_drop
  refine ⟨_, rfl, ?_⟩
  by_cases hkl : k = l.length
  · exact Or.inl ⟨by rw [hkl, List.drop_length], _, _, by rw [hkl, Nat.sub_self]⟩
  rcases h with ⟨rfl, _⟩ | ⟨b, o, cap', h1, h2, h3, h4, h5⟩
  · simp at hk hkl; omega
  · injection h1 with h1 _ h1'
    subst h1 h1'
    rw [if_neg (by omega)]
    refine Or.inr ⟨b, o + k, cap - k, ?_, h2, fun x hx => ?_, by omega, by omega⟩
    · rw [hl]
      show Value.slice (some ((⟨b, o, none⟩ : Addr).add k)) _ _ = _
      rw [show (⟨b, o, none⟩ : Addr).add k = ⟨b, o + k, none⟩ by unfold Addr.add; split <;> simp_all]
    · rw [hl] at hx
      rw [Nat.add_assoc, h3 (k + x) (by omega)]
      simp [List.getD]
set_option maxHeartbeats 1000000 in
set_option maxRecDepth 100000 in
theorem tells_any (v : Value) (l : List UInt8) (n : Int) (w : World) (h : SlB w.heap.size w v l) (_hl : l.length ≤ maxLen) :
    Calls Try.prog 4 #[v, .int .i64 n] w (Bit true w) := by
  obtain ⟨a, cap, rfl, hcap⟩ := h.len
  have H := Lib.hid (slb_take (m := min l.length 200) h (by omega))
  have hm : (if (200 : Int) < l.length then 200 else (l.length : Int)) = ((min l.length 200 : Nat) : Int) := by split <;> omega
  have hlt : (l.take (min l.length 200)).length = min l.length 200 := by rw [List.length_take]; omega
  have hb200 : min l.length 200 ≤ 200 := by omega
  have hbc : min l.length 200 ≤ cap := by omega
  have hll : min l.length 200 ≤ l.length := by omega
  clear h hcap
  generalize l.take (min l.length 200) = bs at *
  generalize min l.length 200 = m at *
  subst hlt
  go_enter Try.func4, Try.ntmps4
  go_wp2_with fail
  go_at_call 9
  refine (make_any _).mono ?_
  rintro e w1 ⟨rfl, hT, hz, hb⟩
  have HT := Lib.hid hT
  have HB := Lib.hid hb
  have HZ := Lib.hid hz
  have HS := Lib.hid (H.out.below hb)
  clear hT hz hb
  go_wp2_with fail
  refine (roomy_bytes _ _ bs 7 w1 HS.out (by have := HZ.out; omega) (by omega) (by omega)).mono ?_
  rintro e w2 ⟨rfl, hown, hb⟩
  have HOWN := Lib.hid hown
  have HB2 := Lib.hid (bthen HB.out hb)
  have HS2 := Lib.hid (HS.out.below (hb.mono (by have := HZ.out; omega)))
  have HT2 := Lib.hid (HT.out.below (by have := HZ.out; omega) hb)
  have hl2 : w.heap.size + 1 ≤ w2.heap.size := by have := HZ.out; have := hb.size; omega
  clear hown hb
  go_wp2_with fail
  refine (within_int n 0 bs.length w2 (by omega) (by omega) (by omega)).mono ?_
  rintro e w' ⟨k, ⟨hk0, hk1⟩, rfl, rfl⟩
  obtain ⟨k, rfl⟩ := Int.eq_ofNat_of_zero_le hk0
  have hk : k ≤ bs.length := by omega
  obtain ⟨a', hsl, hsd⟩ := slice_from HS2.out hk
  have HSD := Lib.hid hsd
  have C1 := Lib.hid (fun W' (hk : KW w2 W') => keeps_u32 (sum_any w2.heap.size w.heap.size _ bs W' (HT2.out.below (by omega) hk) ((room_head HOWN.out).below hk) (by omega)) hk)
  have C2 := Lib.hid (fun W' (hk : KW w2 W') => keeps_u32 (ref_any w.heap.size _ bs W' (HS2.out.below (hk.mono (by omega))) (by omega)) hk)
  have C3 := Lib.hid (fun W' (hk : KW w2 W') => keeps_u32 (sum_any w.heap.size w.heap.size _ (bs.take k) W' (HT2.out.below (by omega) hk) ((slb_take HS2.out ‹_›).below (hk.mono (by omega))) (by rw [List.length_take]; omega)) hk)
  have hs4 : on (sum (bs.take k)) (bs.drop k) = sum bs := by rw [on_sum, List.take_append_drop]
  have C4 := Lib.hid (fun W' (hk : KW w2 W') => keeps_u32 (on_any w.heap.size w.heap.size _ (bs.drop k) (sum (bs.take k)) W' (HT2.out.below (by omega) hk) (hsd.below (hk.mono (by omega))) (sum_lt _) (by rw [List.length_drop]; omega)) hk)
  rw [hs4] at C4
  have C5 := Lib.hid (fun W' (hk : KW w2 W') => keeps_u32 (on0_any w.heap.size w.heap.size _ bs W' (HT2.out.below (by omega) hk) (HS2.out.below (hk.mono (by omega))) (by omega)) hk)
  have C6 := Lib.hid (fun W' (hk : KW w2 W') => keeps_bit (intact_7 w2.heap.size _ _ bs W' ((room_whole HOWN.out).below hk) ((HS2.out.wider (by omega)).below hk) hk.size (by omega)) hk)
  have C7 := Lib.hid (fun W' (hk : KW w2 W') => keeps_bit (runs_any W') hk)
  have hk0 : KW w2 w2 := Below.refl _ _
  generalize sum (bs.take k) = s1 at *
  generalize sum bs = s0 at *
  have i1 : (bs.length : Int) ≤ (bs.length : Int) + 80 := by omega
  have i2 : (k : Int) ≤ cap := by omega
  have i3 : (bs.length : Int) ≤ cap := by omega
  have i4 : (0 : Int) ≤ bs.length := by omega
  clear hsd hs4
  go_wp2_with fail
  go_region_held3 (fun w' => KW w2 w') (repeat (first | assumption | refine KW.drew ?_)) (first | ((with_reducible refine (C1.out _ ?_).mono ?_); (repeat (first | assumption | refine KW.drew ?_)); rintro e w' ⟨rfl, hk⟩) | ((with_reducible refine (C2.out _ ?_).mono ?_); (repeat (first | assumption | refine KW.drew ?_)); rintro e w' ⟨rfl, hk⟩) | ((with_reducible refine (C3.out _ ?_).mono ?_); (repeat (first | assumption | refine KW.drew ?_)); rintro e w' ⟨rfl, hk⟩) | ((with_reducible refine (C4.out _ ?_).mono ?_); (repeat (first | assumption | refine KW.drew ?_)); rintro e w' ⟨rfl, hk⟩) | ((with_reducible refine (C5.out _ ?_).mono ?_); (repeat (first | assumption | refine KW.drew ?_)); rintro e w' ⟨rfl, hk⟩) | ((with_reducible refine (C6.out _ ?_).mono ?_); (repeat (first | assumption | refine KW.drew ?_)); rintro e w' ⟨rfl, hk⟩) | ((with_reducible refine (C7.out _ ?_).mono ?_); (repeat (first | assumption | refine KW.drew ?_)); rintro e w' ⟨rfl, hk⟩))
  go_wp2_with fail
  go_ret
  exact bit rfl (bthen HB2.out (show Below w2.heap.size w2 _ from by (repeat (first | assumption | refine KW.drew ?_))))
end Go.Proofs.Ytmhklgknlgkclaa
