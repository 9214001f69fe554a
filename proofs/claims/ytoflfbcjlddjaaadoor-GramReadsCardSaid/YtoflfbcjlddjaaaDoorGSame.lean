/-
  stavelaw2.same of equal rows of values.
-/
import Derived.Test.YtoflfbcjlddjaaaDoorSameT
namespace Go.Proofs.YtoflfbcjlddjaaaDoor
open Go.RowKit
theorem SlV.val {B : Nat} {w : World} {v : Value} {xs : List Vl} (h : SlV B w v xs) {k : Nat} (hk : k < xs.length) : ∃ b o cap, v = .slice (some ⟨b, o, none⟩) xs.length cap ∧ ValAt B w b (o + k * 3) (xs.getD k v0) := by
  rcases h with ⟨rfl, _⟩ | ⟨b, o, cap, h1, _, h3, _⟩
  · simp at hk
  · exact ⟨b, o, cap, h1, h3 k hk⟩
def RelSV (xs : List Vl) (w : World) (c : Value) (wr : World) : Prop := ∃ k d : Nat, k ≤ xs.length ∧ c = .int .i64 k ∧ wr = w.drewN d
set_option maxHeartbeats 2000000 in
set_option maxRecDepth 100000 in
theorem same_vals (B : Nat) (va vb : Value) (xs : List Vl) (w : World) (ha : SlV B w va xs) (hb : SlV B w vb xs) (hl : xs.length ≤ 1000) (hok : ∀ x ∈ xs, x.l.length ≤ 1000) :
    Calls Tryd.prog 13 #[va, vb] w (TrueDrew w) := by
  have HA := Lib.hid ha
  have HM := Lib.hid hb
  have HOK := Lib.hid hok
  obtain ⟨a1, cap1, rfl⟩ := ha.len
  obtain ⟨a2, cap2, rfl⟩ := hb.len
  clear ha hb hok
  go_enter Tryd.func13, Tryd.ntmps13
  go_wp2_with fail
  go_loopw [13] (fun c wr => RelSV xs w c wr) (fun c _ => xs.length - (intOf c).toNat)
  case atStart => exact ⟨0, 0, Nat.zero_le _, rfl, by simp [World.drewN]⟩
  case round =>
    obtain ⟨k, d, hk, rfl, hwr⟩ := hrel
    have HWR := Lib.hid hwr
    have hA1 : SlV B wr (.slice a1 xs.length cap1) xs := by rw [hwr]; exact HA.out.mono fun _ _ _ => rfl
    have hM1 : SlV B wr (.slice a2 xs.length cap2) xs := by rw [hwr]; exact HM.out.mono fun _ _ _ => rfl
    clear hwr
    by_cases hlt : k < xs.length
    · obtain ⟨b, o, cap', h1, ⟨e0, e1, la, e2, e3⟩⟩ := hA1.val hlt
      obtain ⟨b', o', cap'', h3, ⟨f0, f1, lb, f2, f3⟩⟩ := hM1.val hlt
      clear hA1 hM1
      injection h1 with h1 h1' h1''
      injection h3 with h3 h3' h3''
      subst h1 h1'' h3 h3''
      clear h1' h3'
      have hll := HOK.out _ (getD_mem xs k v0 hlt)
      generalize xs.getD k v0 = x at *
      have HE := Lib.hid e3
      have HF := Lib.hid f3
      have hltk : (k : Int) < xs.length := by omega
      obtain ⟨ala, acap, rfl⟩ := e3.len
      obtain ⟨bla, bcap, rfl⟩ := f3.len
      clear e3 f3
      go_wp2_with fail
      go_quiet ((go_at_call 36; exact Calls.quiet_of (same_texts B _ _ x.l _ (HE.out.mono fun _ _ _ => rfl) (HF.out.mono fun _ _ _ => rfl) (by omega))))
      go_wp2_with fail
      go_roundw
      case rel => exact ⟨k + 1, _, by omega, by go_num, by rw [HWR.out, World.drewN_drewN]⟩
      case measure => simp [intOf]; omega
    · obtain rfl : k = xs.length := by omega
      go_wp2_with fail
      go_ret
      exact ⟨rfl, d, HWR.out⟩
end Go.Proofs.YtoflfbcjlddjaaaDoor
