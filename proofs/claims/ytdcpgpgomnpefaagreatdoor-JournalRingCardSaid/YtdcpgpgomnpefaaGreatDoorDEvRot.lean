/-
  What the program's disk answers to Rot, by its state.
-/
import Derived.Test.YtdcpgpgomnpefaaGreatDoorDEv
import Derived.Test.YtdcpgpgomnpefaaGreatDoorDRot
namespace Go.Proofs.YtdcpgpgomnpefaaGreatDoor
open Go.RowKit Go.Deep Dk Go.Maps
instance (s : St) (i a : Int) (x : Nat) : Decidable (mayRot s i a x) := by unfold mayRot; infer_instance
def rotnext (s : St) (i a : Int) (x : Nat) : St := if mayRot s i a x then rotD s i.toNat a.toNat x else s
theorem rot_ev {d S M : Nat} {s : St} (w : World) (h : DiskIn w d S M s) (i a : Int) (x : Nat) :
    Calls Tryz.prog 82 #[.pointer (some ⟨d, 0, none⟩), .int .i64 i, .int .i64 a, .int .u32 (x : Int)] w (EvD d S M (rotnext s i a x) (.bool (decide (mayRot s i a x))) w) := by
  unfold rotnext
  by_cases hok : mayRot s i a x
  · rw [if_pos hok, decide_eq_true hok]
    obtain ⟨k, rfl⟩ := Int.eq_ofNat_of_zero_le hok.2.1
    obtain ⟨b, rfl⟩ := Int.eq_ofNat_of_zero_le hok.2.2.2.1
    exact rot_yes w h k b x hok
  · rw [if_neg hok, decide_eq_false hok]
    refine (rot_no w h i a x hok).mono ?_
    rintro e w' ⟨rfl, rfl⟩
    exact ⟨rfl, h, Chg.refl _ _ _ _⟩
end Go.Proofs.YtdcpgpgomnpefaaGreatDoor
