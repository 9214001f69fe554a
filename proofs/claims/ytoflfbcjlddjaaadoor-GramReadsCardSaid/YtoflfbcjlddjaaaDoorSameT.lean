/-
  stavebook.Same of equal rows of texts.
-/
import Derived.Test.YtoflfbcjlddjaaaDoorGLit
namespace Go.Proofs.YtoflfbcjlddjaaaDoor
open Go.RowKit
def RelST (l : List ByteArray) (w : World) (c : Value) (wr : World) : Prop := ∃ k d : Nat, k ≤ l.length ∧ c = .int .i64 k ∧ wr = w.drewN d
theorem SlT.text {B : Nat} {w : World} {v : Value} {l : List ByteArray} (h : SlT B w v l) {k : Nat} (hk : k < l.length) : ∃ b o cap, v = .slice (some ⟨b, o, none⟩) l.length cap ∧ w.cell? ⟨b, o + k, none⟩ = some (.string (l.getD k ByteArray.empty)) := by
  rcases h with ⟨rfl, _⟩ | ⟨b, o, cap, h1, _, h3, _⟩
  · simp at hk
  · exact ⟨b, o, cap, h1, h3 k hk⟩
def TrueDrew (w : World) (e : Ending) (w' : World) : Prop := e = .returned (.bool true) ∧ ∃ d, w' = w.drewN d
set_option maxHeartbeats 1000000 in
theorem same_texts (B : Nat) (va vb : Value) (l : List ByteArray) (w : World) (ha : SlT B w va l) (hb : SlT B w vb l) (hl : l.length ≤ 100000) :
    Calls Tryd.prog 36 #[va, vb] w (TrueDrew w) := by
  have HA := Lib.hid ha
  have HM := Lib.hid hb
  obtain ⟨a1, cap1, rfl⟩ := ha.len
  obtain ⟨a2, cap2, rfl⟩ := hb.len
  clear ha hb
  go_enter Tryd.func36, Tryd.ntmps36
  go_wp2_with fail
  go_loopw [5] (fun c wr => RelST l w c wr) (fun c _ => l.length - (intOf c).toNat)
  case atStart => exact ⟨0, 0, Nat.zero_le _, rfl, by simp [World.drewN]⟩
  case round =>
    obtain ⟨k, d, hk, rfl, rfl⟩ := hrel
    by_cases hlt : k < l.length
    · obtain ⟨b, o, cap', h1, h2⟩ := HA.out.text hlt
      obtain ⟨b', o', cap'', h3, h4⟩ := HM.out.text hlt
      injection h1 with h1 h1' h1''
      injection h3 with h3 h3' h3''
      subst h1 h1'' h3 h3''
      clear h1' h3'
      generalize l.getD k ByteArray.empty = x at *
      go_wp2_with fail
      go_quiet (fail)
      go_wp2_with fail
      go_roundw
      case rel => exact ⟨k + 1, _, by omega, by go_num, rfl⟩
      case measure => simp [intOf]; omega
    · obtain rfl : k = l.length := by omega
      go_wp2_with fail
      go_ret
      exact ⟨rfl, d, rfl⟩
end Go.Proofs.YtoflfbcjlddjaaaDoor
