/-
  stavebook.Same of bytes.
-/
import Derived.Test.YtidnmkghmaeniaaGreatDoorBytes
namespace Go.Proofs.YtidnmkghmaeniaaGreatDoor
open Go.RowKit

def RelSmB (l m : List UInt8) (w : World) (c : Value) (wr : World) : Prop := ∃ k : Nat, k ≤ l.length ∧ c = .int .i64 k ∧ (∀ x, x < k → l.getD x 0 = m.getD x 0) ∧ Below w.heap.size w wr
set_option maxHeartbeats 1000000 in
theorem same_bytes (B : Nat) (va vb : Value) (l m : List UInt8) (w : World) (ha : SlB B w va l) (hb : SlB B w vb m) (hB : B ≤ w.heap.size) (hl : l.length ≤ 100000) :
    Calls Tryz.prog 81 #[va, vb] w (Bit (decide (l = m)) w) := by
  have HA := Lib.hid ha
  have HM := Lib.hid hb
  by_cases hlen : l.length = m.length
  · obtain ⟨a1, cap1, rfl, _⟩ := ha.len
    obtain ⟨a2, cap2, rfl, _⟩ := hb.len
    have Hlen := Lib.hid hlen
    generalize hr : decide (l = m) = r
    have Hr := Lib.hid hr
    clear ha hb hr
    rw [← hlen]
    clear hlen
    go_enter Tryz.func81, Tryz.ntmps81
    go_wp2_with fail
    go_loopw [5] (fun c wr => RelSmB l m w c wr) (fun c _ => l.length - (intOf c).toNat)
    case atStart => exact ⟨0, Nat.zero_le _, rfl, fun x hx => absurd hx (by omega), Below.refl _ _⟩
    case round =>
      obtain ⟨k, hk, rfl, hno, hB1⟩ := hrel
      have Hno := Lib.hid hno
      have HB1 := Lib.hid hB1
      by_cases hlt : k < l.length
      · obtain ⟨b, o, cap', h1, h2⟩ := HA.out.byte hB hB1 hlt
        obtain ⟨b', o', cap'', h3, h4⟩ := HM.out.byte hB hB1 (k := k) (by have := Hlen.out; omega)
        rw [← Hlen.out] at h3
        injection h1 with h1 h1' h1''
        injection h3 with h3 h3' h3''
        subst h1 h1'' h3 h3''
        clear h1' h3' hno hB1
        by_cases he : l.getD k 0 = m.getD k 0
        · have He := Lib.hid he
          rw [← he] at h4
          clear he
          generalize hx : l.getD k 0 = x at *
          have Hx := Lib.hid hx; clear hx
          go_wp2_with fail
          go_quiet (fail)
          go_wp2_with fail
          go_roundw
          case rel =>
            refine ⟨k + 1, by omega, by go_num, fun y hy => ?_, below_drewN HB1.out _⟩
            rcases Nat.lt_or_ge y k with h | h
            · exact Hno.out y h
            · obtain rfl : y = k := by omega
              rw [Hx.out]; exact He.out
          case measure => simp [intOf]; omega
        · have hne : ((l.getD k 0).toNat : Int) ≠ (m.getD k 0).toNat := fun e => he (UInt8.toNat_inj.1 (by omega))
          have e1 : (((l.getD k 0).toNat : Int) == (m.getD k 0).toNat) = false := by simpa using hne
          have e2 : (((l.getD k 0).toNat : Int) != (m.getD k 0).toNat) = true := by simpa using hne
          have He := Lib.hid (show ¬ l = m from fun e => he (by rw [e]))
          clear he hne
          generalize l.getD k 0 = x at *
          generalize m.getD k 0 = y at *
          go_wp2_with fail
          go_quiet (fail)
          go_wp2_with fail
          go_ret
          exact bit (by rw [← Hr.out]; simpa using He.out) (below_drewN HB1.out _)
      · obtain rfl : k = l.length := by omega
        clear hno hB1
        go_wp2_with fail
        go_ret
        exact bit (by rw [← Hr.out, decide_eq_true (list_eq_getD Hlen.out Hno.out)]) HB1.out
  · obtain ⟨a1, cap1, rfl, _⟩ := ha.len
    obtain ⟨a2, cap2, rfl, _⟩ := hb.len
    have e2 : ((l.length : Int) != m.length) = true := by simpa using (by omega : ¬ (l.length : Int) = m.length)
    have hne : decide (l = m) = false := decide_eq_false fun e => hlen (by rw [e])
    rw [hne]
    clear ha hb hlen hne HA HM
    go_enter Tryz.func81, Tryz.ntmps81
    go_wp2_with fail
    go_ret
    exact ⟨rfl, Below.refl _ _⟩
end Go.Proofs.YtidnmkghmaeniaaGreatDoor
