/-
  stavelaw4.same, stavelaw4.made.
-/
import Derived.Test.YtoklknjnegpaaaaDoorCReb
import Derived.Test.YtoklknjnegpaaaaDoorSameB
import Derived.Test.YtoklknjnegpaaaaDoorWithin
namespace Go.Proofs.YtoklknjnegpaaaaDoor
open Go.RowKit Gf Cd
def RelSm (ls ms : List (List UInt8)) (w : World) (c : Value) (wr : World) : Prop := ∃ k : Nat, k ≤ ls.length ∧ c = .int .i64 k ∧ (∀ x, x < k → ls.getD x [] = ms.getD x []) ∧ Below w.heap.size w wr
theorem rows_ext {ls ms : List (List UInt8)} (hl : ls.length = ms.length) (h : ∀ x, x < ls.length → ls.getD x [] = ms.getD x []) : ls = ms := by
  refine List.ext_getElem hl fun i h1 h2 => ?_
  have := h i h1
  simpa [List.getD, h1, h2] using this
set_option maxHeartbeats 2000000 in
set_option maxRecDepth 100000 in
theorem same_any (B : Nat) (va vb : Value) (ls ms : List (List UInt8)) (w : World) (ha : SlBs B w va ls) (hb : SlBs B w vb ms) (hB : B ≤ w.heap.size) (hl : ls.length ≤ 1000) (hs : ∀ l ∈ ls, l.length ≤ 100000) :
    Calls Tryd.prog 26 #[va, vb] w (Bit (decide (ls = ms)) w) := by
  have HA := Lib.hid ha
  have HM := Lib.hid hb
  have HS := Lib.hid hs
  obtain ⟨a1, cap1, rfl, hc1⟩ := ha.len
  obtain ⟨a2, cap2, rfl, hc2⟩ := hb.len
  clear ha hb hs
  by_cases hlen : ls.length = ms.length
  · have HLEN := Lib.hid hlen
    generalize hr : decide (ls = ms) = r
    have HR := Lib.hid hr
    clear hr
    rw [← HLEN.out] at hc2 ⊢
    clear hlen
    go_enter Tryd.func26, Tryd.ntmps26
    go_wp2_with fail
    go_loopw [13] (fun c wr => RelSm ls ms w c wr) (fun c _ => ls.length - (intOf c).toNat)
    case atStart => exact ⟨0, Nat.zero_le _, rfl, (fun x hx => by omega), Below.refl _ _⟩
    case round =>
      obtain ⟨k, hk, rfl, hno, hb⟩ := hrel
      have HN := Lib.hid hno
      have HB := Lib.hid hb
      by_cases hlt : k < ls.length
      · obtain ⟨b, o, cap, u, e1, _, hbB, hu1, hu2⟩ := (HA.out.below (Below.mono hb hB)).row hlt
        obtain ⟨b', o', cap', u', e1', _, hbB', hu1', hu2'⟩ := (HM.out.below (Below.mono hb hB)).row (i := k) (by have := HLEN.out; omega)
        rw [← HLEN.out] at e1'
        injection e1 with e1 _ e2
        injection e1' with e1' _ e2'
        subst e1 e2 e1' e2'
        have hmem : ls.getD k [] ∈ ls := by simp [List.getD, hlt]
        have HC := Lib.hid (same_bytes B u u' (ls.getD k []) (ms.getD k []) wr.drew (hu2.below (Below.refl _ _).drew) (hu2'.below (Below.refl _ _).drew) (Nat.le_trans hB hb.size) (HS.out _ hmem))
        obtain ⟨aa, ca, rfl, _⟩ := hu2.len
        obtain ⟨ab, cb, rfl, _⟩ := hu2'.len
        have hkl : (k : Int) < ls.length := by omega
        clear hno hb hu2 hu2' hmem
        generalize (ls.getD k []).length = m1 at *
        generalize (ms.getD k []).length = m2 at *
        cases hd : decide (ls.getD k [] = ms.getD k [])
        · rw [hd] at HC
          have HD := Lib.hid hd
          clear hd
          go_wp2_with fail
          go_still_tail 8, (by kernel_rfl)
          go_wp2_with fail
          refine HC.out.mono ?_
          rintro e w2 ⟨rfl, hb2⟩
          have HB2 := Lib.hid hb2
          clear hb2
          go_wp2_with fail
          go_ret
          refine bit ?_ (bthen (HB.out.drew) HB2.out)
          rw [← HR.out]
          exact (decide_eq_false fun e => by have := of_decide_eq_false HD.out; exact this (by rw [e])).symm
        · rw [hd] at HC
          have HD := Lib.hid hd
          clear hd
          go_wp2_with fail
          go_still_tail 8, (by kernel_rfl)
          go_wp2_with fail
          refine HC.out.mono ?_
          rintro e w2 ⟨rfl, hb2⟩
          have HB2 := Lib.hid hb2
          clear hb2
          go_wp2_with fail
          go_roundw
          case rel =>
            refine ⟨k + 1, by omega, by go_num, fun x hx => ?_, bthen (HB.out.drew) HB2.out⟩
            by_cases e : x = k
            · rw [e]; exact of_decide_eq_true HD.out
            · exact HN.out x (by omega)
          case measure => simp [intOf]; omega
      · obtain rfl : k = ls.length := by omega
        clear hno hb
        go_wp2_with fail
        go_ret
        exact bit (by rw [← HR.out]; exact (decide_eq_true (rows_ext HLEN.out HN.out)).symm) HB.out
  · have e2 : ((ls.length : Int) != ms.length) = true := by simpa using (by omega : ¬ (ls.length : Int) = ms.length)
    rw [decide_eq_false (fun e => hlen (by rw [e]))]
    clear hlen
    go_enter Tryd.func26, Tryd.ntmps26
    go_wp2_with fail
    go_ret
    exact ⟨rfl, Below.refl _ _⟩
end Go.Proofs.YtoklknjnegpaaaaDoor
