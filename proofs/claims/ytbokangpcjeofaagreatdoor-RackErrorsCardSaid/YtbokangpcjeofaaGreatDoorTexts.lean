/-
  stavebook.Same of texts: two slices that read alike.
-/
import Derived.Test.YtbokangpcjeofaaGreatDoorKind
import Derived.Deep.QuietTactic
import Derived.BigQuiet
namespace Go.Proofs.YtbokangpcjeofaaGreatDoor
open Go.RowKit Go.Extern.Stop Go.Stop Go.Extern
def Texts (w : World) (b o : Nat) (xs : List ByteArray) : Prop := ∀ x, x < xs.length → w.cell? ⟨b, o + x, none⟩ = some (.string (xs.getD x ByteArray.empty))


def RelSt (n : Nat) (w : World) (c : Value) (wr : World) : Prop := ∃ k : Nat, k ≤ n ∧ c = .int .i64 k ∧ Below w.heap.size w wr

set_option maxHeartbeats 1000000 in
theorem same_yes (xs : List ByteArray) (ba oa ca bb ob cb : Nat) (w : World) (hn : xs.length ≤ 1000) (ha : Texts w ba oa xs) (hb : Texts w bb ob xs) (hla : ba < w.heap.size) (hlb : bb < w.heap.size) :
    Calls Tryz.prog 42 #[.slice (some ⟨ba, oa, none⟩) xs.length ca, .slice (some ⟨bb, ob, none⟩) xs.length cb] w (Bit true w) := by
  have Ha := Lib.hid ha; clear ha
  have Hb := Lib.hid hb; clear hb
  go_enter Tryz.func42, Tryz.ntmps42
  go_wp2
  go_loopw [5] (fun c wr => RelSt xs.length w c wr) (fun c _ => xs.length - (intOf c).toNat)
  case atStart => exact ⟨0, Nat.zero_le _, rfl, Below.refl _ _⟩
  case round =>
    obtain ⟨k, hk, rfl, hB⟩ := hrel
    by_cases hlt : k < xs.length
    · have c1 : wr.cell? ⟨ba, oa + k, none⟩ = some (.string (xs.getD k ByteArray.empty)) := by rw [hB.cell (by show ba < _; omega)]; exact Ha.out k hlt
      have c2 : wr.cell? ⟨bb, ob + k, none⟩ = some (.string (xs.getD k ByteArray.empty)) := by rw [hB.cell (by show bb < _; omega)]; exact Hb.out k hlt
      generalize xs.getD k ByteArray.empty = s at c1 c2
      have HB := Lib.hid hB; clear hB
      go_wp2
      go_quiet (fail)
      go_wp2
      go_roundw
      case rel => exact ⟨k + 1, by omega, by go_num, below_drewN HB.out _⟩
      case measure => simp [intOf]; omega
    · have hkl : k = xs.length := by omega
      subst hkl
      have HB := Lib.hid hB; clear hB
      go_wp2
      go_ret
      exact ⟨rfl, HB.out⟩
end Go.Proofs.YtbokangpcjeofaaGreatDoor
