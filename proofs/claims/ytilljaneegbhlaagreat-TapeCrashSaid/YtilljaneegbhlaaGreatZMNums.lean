import Derived.Test.YtilljaneegbhlaaGreatZYPure
namespace Go.Proofs.YtilljaneegbhlaaGreat
open Go.RowKit Go.Deep Crc Dk Qk Go.Maps Hf
theorem pd_count {P : Nat → Bool} {d n : Nat} (hd : d < n) : ((List.range n).filter P).length ≤ ((List.range n).filter (PD P d)).length + 1 := by
 by_cases hp : P d = true
 ·rw [pd_range hd hp]; exact Nat.le_refl _
 ·have : PD P d = P := by
   funext x
   by_cases e : x = d
   ·subst e
    show (P x && decide (x ≠ x)) = P x
    have : P x = false := by simpa using hp
    rw [this]; rfl
   ·exact PD_other P e
  rw [this]; omega
theorem addY_B (c : Cf) (V : Vl) (g : Int) (s t : Nat) (bs : List (List UInt8)) : (addY c V (cRec g s bs)).B t = if t = s then bs else V.B t := by
 show Dk.upd V.B (cRec g s bs).t.toNat (cRec g s bs).b t = _
 rw [cRec_t]
 by_cases e : t = s
 ·subst e; rw [if_pos rfl, Dk.upd_same]; rfl
 ·rw [if_neg e, Dk.upd_other _ _ e]
end Go.Proofs.YtilljaneegbhlaaGreat
