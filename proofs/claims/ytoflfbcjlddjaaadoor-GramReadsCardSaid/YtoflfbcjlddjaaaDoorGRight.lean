/-
  gram.holds, gram.Right, gram.within.
-/
import Derived.Test.YtoflfbcjlddjaaaDoorKit
import Derived.Test.YtoflfbcjlddjaaaDoorGModel
namespace Go.Proofs.YtoflfbcjlddjaaaDoor
open Go.RowKit


theorem eqz_dec (a : Int) (p : Prop) [Decidable p] (h : a = 0 ↔ p) : (a == 0) = decide p := by
  rw [Bool.eq_iff_iff]; simpa using h
set_option maxHeartbeats 1000000 in
theorem holds_any (sz n : Int) (w : World) (h0 : 0 ≤ n) (h1 : n ≤ 9223372036854775807) : Calls Tryd.prog 81 #[.int .i64 sz, .int .i64 n] w (BitSame (holdsN sz n) w) := by
  have e1 : holdsN 1 n = (n / 256 == 0) := (eqz_dec _ _ (by omega)).symm
  have e2 : holdsN 2 n = (n / 65536 == 0) := (eqz_dec _ _ (by omega)).symm
  have e4 : holdsN 4 n = (n / 4294967296 == 0) := (eqz_dec _ _ (by omega)).symm
  have e8 : holdsN 8 n = (n / 18446744073709551616 == 0) := (eqz_dec _ _ (by omega)).symm
  have E := Lib.hid (And.intro e1 (And.intro e2 (And.intro e4 e8))); clear e1 e2 e4 e8
  by_cases c1 : sz = 1
  · subst c1
    go_enter Tryd.func81, Tryd.ntmps81
    go_wp2
    go_ret
    exact bitSame E.out.1.symm
  by_cases c2 : sz = 2
  · subst c2
    go_enter Tryd.func81, Tryd.ntmps81
    go_wp2
    go_ret
    exact bitSame E.out.2.1.symm
  by_cases c4 : sz = 4
  · subst c4
    go_enter Tryd.func81, Tryd.ntmps81
    go_wp2
    go_ret
    exact bitSame E.out.2.2.1.symm
  by_cases c8 : sz = 8
  · subst c8
    go_enter Tryd.func81, Tryd.ntmps81
    go_wp2
    go_ret
    exact bitSame E.out.2.2.2.symm
  have e0 : holdsN sz n = false := by simp [holdsN, c1, c2, c4, c8]
  have E0 := Lib.hid e0
  have d1 : (sz == 1) = false := by simpa using c1
  have d2 : (sz == 2) = false := by simpa using c2
  have d4 : (sz == 4) = false := by simpa using c4
  have d8 : (sz == 8) = false := by simpa using c8
  clear e0 c1 c2 c4 c8 E
  go_enter Tryd.func81, Tryd.ntmps81
  go_wp2
  go_ret
  exact bitSame E0.out.symm

def Fl.v (f : Fl) : Value := .agg #[.int .i64 f.k, .int .i64 f.sz, .int .i64 f.lo, .int .i64 f.hi, .int .i64 f.mo]

set_option maxHeartbeats 1000000 in
theorem right_any (k sz lo hi mo : Int) (w : World) (h1 : hi ≤ 9223372036854775807) : Calls Tryd.prog 56 #[.agg #[.int .i64 k, .int .i64 sz, .int .i64 lo, .int .i64 hi, .int .i64 mo]] w (Bit (rightF ⟨k, sz, lo, hi, mo⟩) w) := by
  generalize hr : rightF ⟨k, sz, lo, hi, mo⟩ = r
  have Hr := Lib.hid hr; clear hr
  go_enter Tryd.func56, Tryd.ntmps56
  go_wp2_with fail
  all_goals first
    | (go_at_call 81
       refine (holds_any _ _ _ (by omega) (by omega)).mono ?_
       rintro e w' ⟨rfl, rfl⟩
       go_wp2
       go_ret
       refine bit ?_ ((Below.refl _ _).alloc (Nat.le_refl _) _)
       rw [← Hr.out, Bool.eq_iff_iff]
       simp only [rightF, beq_iff_eq, decide_eq_true_eq] at *
       simp_all
       try omega)
    | (go_ret
       refine bit ?_ ((Below.refl _ _).alloc (Nat.le_refl _) _)
       rw [← Hr.out, Bool.eq_iff_iff]
       simp only [rightF, beq_iff_eq, beq_eq_false_iff_ne, decide_eq_true_eq, Bool.false_eq_true, false_iff] at *
       omega)
end Go.Proofs.YtoflfbcjlddjaaaDoor
