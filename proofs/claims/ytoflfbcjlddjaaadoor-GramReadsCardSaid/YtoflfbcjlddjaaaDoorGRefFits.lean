/-
  staveref1.fits.
-/
import Derived.Test.YtoflfbcjlddjaaaDoorGRefRight
import Derived.Test.YtoflfbcjlddjaaaDoorSameT
namespace Go.Proofs.YtoflfbcjlddjaaaDoor
open Go.RowKit
set_option maxHeartbeats 1000000 in
set_option maxRecDepth 100000 in
theorem refFits1 (B : Nat) (sz lo hi mo num : Int) (s : ByteArray) (lv : Value) (l : List ByteArray) (w : World) (hlv : SlT B w lv l) :
    Calls Tryd.prog 27 #[.agg #[.int .i64 1, .int .i64 sz, .int .i64 lo, .int .i64 hi, .int .i64 mo], .agg #[.int .i64 num, .string s, lv]] w (Bit (fitsF ⟨1, sz, lo, hi, mo⟩ ⟨num, s, l⟩) w) := by
  generalize hr : fitsF _ _ = r
  have Hr := Lib.hid hr
  obtain ⟨a, cap, rfl⟩ := hlv.len
  clear hr hlv
  go_enter Tryd.func27, Tryd.ntmps27
  go_wp2_with fail
  all_goals
    go_ret
    refine bit ?_ (by repeat (first | exact Below.refl _ _ | refine balloc ?_ _))
    rw [← Hr.out, Bool.eq_iff_iff]
    have hh := hfit1 sz lo hi mo num s l
    simp [empty_iff, hh] at *
    first | omega | (simp_all; done) | (simp_all; omega)
set_option maxHeartbeats 1000000 in
set_option maxRecDepth 100000 in
theorem refFits2 (B : Nat) (sz lo hi mo num : Int) (s : ByteArray) (lv : Value) (l : List ByteArray) (w : World) (hlv : SlT B w lv l) :
    Calls Tryd.prog 27 #[.agg #[.int .i64 2, .int .i64 sz, .int .i64 lo, .int .i64 hi, .int .i64 mo], .agg #[.int .i64 num, .string s, lv]] w (Bit (fitsF ⟨2, sz, lo, hi, mo⟩ ⟨num, s, l⟩) w) := by
  generalize hr : fitsF _ _ = r
  have Hr := Lib.hid hr
  obtain ⟨a, cap, rfl⟩ := hlv.len
  clear hr hlv
  go_enter Tryd.func27, Tryd.ntmps27
  go_wp2_with fail
  all_goals
    go_ret
    refine bit ?_ (by repeat (first | exact Below.refl _ _ | refine balloc ?_ _))
    rw [← Hr.out, Bool.eq_iff_iff]
    have hh := hfit2 sz lo hi mo num s l
    simp [hh] at *
    first | omega | (simp_all; done) | (simp_all; omega)
def RelFT (mo : Int) (l : List ByteArray) (c : Value) : Prop := ∃ k : Nat, k ≤ l.length ∧ c = .int .i64 k ∧ ∀ x, x < k → ((l.getD x ByteArray.empty).size : Int) ≤ mo
theorem all_getD {mo : Int} {l : List ByteArray} (h : ∀ x, x < l.length → ((l.getD x ByteArray.empty).size : Int) ≤ mo) : ∀ t ∈ l, (t.size : Int) ≤ mo := by
  intro t ht
  obtain ⟨i, hi, rfl⟩ := List.mem_iff_getElem.1 ht
  have := h i hi
  simpa [List.getD, hi] using this
set_option maxHeartbeats 1000000 in
set_option maxRecDepth 100000 in
theorem refFits3 (B : Nat) (sz lo hi mo num : Int) (s : ByteArray) (lv : Value) (l : List ByteArray) (w : World) (hlv : SlT B w lv l) (hB : B ≤ w.heap.size) (hl : l.length ≤ 1000) :
    Calls Tryd.prog 27 #[.agg #[.int .i64 3, .int .i64 sz, .int .i64 lo, .int .i64 hi, .int .i64 mo], .agg #[.int .i64 num, .string s, lv]] w (Bit (fitsF ⟨3, sz, lo, hi, mo⟩ ⟨num, s, l⟩) w) := by
  generalize hr : fitsF _ _ = r
  have Hr := Lib.hid hr
  have HL := Lib.hid hlv
  obtain ⟨a, cap, rfl⟩ := hlv.len
  clear hr hlv
  go_enter Tryd.func27, Tryd.ntmps27
  go_wp2_with fail
  go_loop [64] (fun c => RelFT mo l c) (fun c => l.length - (intOf c).toNat)
  case atStart => exact ⟨0, Nat.zero_le _, rfl, fun x hx => absurd hx (by omega)⟩
  case round =>
    obtain ⟨k, hk, rfl, hno⟩ := hrel
    have HNO := Lib.hid hno
    clear hno
    by_cases hlt : k < l.length
    · obtain ⟨b, o, cap', h1, h2⟩ := ((HL.out.below ((balloc (one_below w (.cells #[.int .i64 3, .int .i64 sz, .int .i64 lo, .int .i64 hi, .int .i64 mo] 46)) (.cells #[.int .i64 num, .string s, .slice a l.length cap] 51)).mono hB))).text hlt
      injection h1 with h1 _ h1'
      subst h1 h1'
      have hm := getD_mem l k ByteArray.empty hlt
      have HE := Lib.hid (show ((l.getD k ByteArray.empty).size : Int) ≤ mo → ∀ x, x < k + 1 → ((l.getD x ByteArray.empty).size : Int) ≤ mo from fun h x hx => by
        rcases Nat.lt_or_ge x k with h2 | h2
        · exact HNO.out x h2
        · obtain rfl : x = k := by omega
          exact h)
      generalize l.getD k ByteArray.empty = t at *
      have HM := Lib.hid hm
      have hltk : (k : Int) < l.length := by omega
      clear hm
      by_cases ht : (t.size : Int) ≤ mo
      · go_wp2_with fail
        go_round
        case rel => exact ⟨k + 1, by omega, by go_num, HE.out ht⟩
        case measure => simp [intOf]; omega
      · go_wp2_with fail
        go_ret
        refine bit ?_ (by repeat (first | exact Below.refl _ _ | refine balloc ?_ _))
        rw [← Hr.out, Bool.eq_iff_iff, hfit3]
        simp only [Bool.false_eq_true, false_iff]
        rintro ⟨_, _, _, _, h⟩
        exact absurd (h t HM.out) (by omega)
    · obtain rfl : k = l.length := by omega
      have HA := Lib.hid (all_getD HNO.out)
      go_wp2_with fail
      all_goals
        go_ret
        refine bit ?_ (by repeat (first | exact Below.refl _ _ | refine balloc ?_ _))
        rw [← Hr.out, Bool.eq_iff_iff]
        have hh := hfit3 sz lo hi mo num s l
        have ha := HA.out
        simp [empty_iff, hh] at *
        first | omega | (simp_all; done) | (simp_all; omega)
end Go.Proofs.YtoflfbcjlddjaaaDoor
