import Derived.Test.YtilljaneegbhlaaGreatDoorZHBuild
namespace Go.Proofs.YtilljaneegbhlaaGreatDoor
open Go.RowKit Hf
set_option maxHeartbeats 1000000 in
theorem kind_any (k : Int) (w : World) : Calls Tryz.prog 127 #[.int .i64 k] w (BitSame (decide (1 ≤ k ∧ k ≤ 3)) w) := by
 by_cases h1 : k = 1
 ·subst h1
  go_enter Tryz.func127, Tryz.ntmps127
  go_wp2_with fail; go_ret; exact bitSame (by decide)
 ·by_cases h2 : k = 2
  ·subst h2
   go_enter Tryz.func127, Tryz.ntmps127
   go_wp2_with fail; go_ret; exact bitSame (by decide)
  ·by_cases h3 : k = 3
   ·subst h3
    go_enter Tryz.func127, Tryz.ntmps127
    go_wp2_with fail; go_ret; exact bitSame (by decide)
   ·have e1 : ((k : Int) == 1) = false := by simpa using h1
    have e2 : ((k : Int) == 2) = false := by simpa using h2
    have e3 : ((k : Int) == 3) = false := by simpa using h3
    have hr : (decide (1 ≤ k ∧ k ≤ 3)) = false := decide_eq_false (by omega); have HR := hI hr; clear hr
    go_enter Tryz.func127, Tryz.ntmps127
    go_wp2_with fail; go_ret; exact bitSame HR.out.symm
variable {k : Int}
theorem kind_yes (w : World) (h : 1 ≤ k ∧ k ≤ 3) : Calls Tryz.prog 127 #[.int .i64 k] w (BitSame true w) := by
 have := kind_any k w
 rwa [decide_eq_true h] at this
theorem kind_no (w : World) (h : ¬ (1 ≤ k ∧ k ≤ 3)) : Calls Tryz.prog 127 #[.int .i64 k] w (BitSame false w) := by
 have := kind_any k w
 rwa [decide_eq_false h] at this
set_option maxHeartbeats 2000000 in
set_option maxRecDepth 100000 in
theorem right_any (f : Fr) (w : World) : Calls Tryz.prog 112 #[.agg (frA f)] w (Bit (rightB f) w) := by
 have a0 := frC_0 f
 have a1 := frC_1 f
 have a2 := frC_2 f
 have a3 := frC_3 f
 have hc : (Value.agg (frA f)).cells = frA f := rfl
 by_cases h0 : 1 ≤ f.k ∧ f.k ≤ 3
 ·by_cases h1 : 0 ≤ f.s
  ·by_cases h2 : f.s < 8
   ·by_cases h3 : 0 ≤ f.t
    ·by_cases h4 : f.t < 64
     ·by_cases h5 : 0 ≤ f.g
      ·by_cases h6 : f.g ≤ 1152921504606846976
       ·have HR := hI (show rightB f = true from decide_eq_true (by unfold Hf.Right; omega))
        have HK := hI (fun w => kind_yes w h0); clear h0
        go_enter Tryz.func112, Tryz.ntmps112
        go_wp2_with (first | ((with_reducible refine (HK.out _).mono ?_); rintro e w' ⟨rfl, rfl⟩)); go_ret; exact bit (by first | exact HR.out.symm | (rw [HR.out]; exact decide_eq_false (by omega))) (one_below _ _)
       ·have HR := hI (show rightB f = false from decide_eq_false (by unfold Hf.Right; omega))
        have HK := hI (fun w => kind_yes w h0); clear h0
        go_enter Tryz.func112, Tryz.ntmps112
        go_wp2_with (first | ((with_reducible refine (HK.out _).mono ?_); rintro e w' ⟨rfl, rfl⟩)); go_ret; exact bit (by first | exact HR.out.symm | (rw [HR.out]; exact decide_eq_false (by omega))) (one_below _ _)
      ·have HR := hI (show rightB f = false from decide_eq_false (by unfold Hf.Right; omega))
       have HK := hI (fun w => kind_yes w h0); clear h0
       go_enter Tryz.func112, Tryz.ntmps112
       go_wp2_with (first | ((with_reducible refine (HK.out _).mono ?_); rintro e w' ⟨rfl, rfl⟩)); go_ret; exact bit (by first | exact HR.out.symm | (rw [HR.out]; exact decide_eq_false (by omega))) (one_below _ _)
     ·have HR := hI (show rightB f = false from decide_eq_false (by unfold Hf.Right; omega))
      have HK := hI (fun w => kind_yes w h0); clear h0
      go_enter Tryz.func112, Tryz.ntmps112
      go_wp2_with (first | ((with_reducible refine (HK.out _).mono ?_); rintro e w' ⟨rfl, rfl⟩)); go_ret; exact bit (by first | exact HR.out.symm | (rw [HR.out]; exact decide_eq_false (by omega))) (one_below _ _)
    ·have HR := hI (show rightB f = false from decide_eq_false (by unfold Hf.Right; omega))
     have HK := hI (fun w => kind_yes w h0); clear h0
     go_enter Tryz.func112, Tryz.ntmps112
     go_wp2_with (first | ((with_reducible refine (HK.out _).mono ?_); rintro e w' ⟨rfl, rfl⟩)); go_ret; exact bit (by first | exact HR.out.symm | (rw [HR.out]; exact decide_eq_false (by omega))) (one_below _ _)
   ·have HR := hI (show rightB f = false from decide_eq_false (by unfold Hf.Right; omega))
    have HK := hI (fun w => kind_yes w h0); clear h0
    go_enter Tryz.func112, Tryz.ntmps112
    go_wp2_with (first | ((with_reducible refine (HK.out _).mono ?_); rintro e w' ⟨rfl, rfl⟩)); go_ret; exact bit (by first | exact HR.out.symm | (rw [HR.out]; exact decide_eq_false (by omega))) (one_below _ _)
  ·have HR := hI (show rightB f = false from decide_eq_false (by unfold Hf.Right; omega))
   have HK := hI (fun w => kind_yes w h0); clear h0
   go_enter Tryz.func112, Tryz.ntmps112
   go_wp2_with (first | ((with_reducible refine (HK.out _).mono ?_); rintro e w' ⟨rfl, rfl⟩)); go_ret; exact bit (by first | exact HR.out.symm | (rw [HR.out]; exact decide_eq_false (by omega))) (one_below _ _)
 ·have HR := hI (show rightB f = false from decide_eq_false (by unfold Hf.Right; omega))
  have HK := hI (fun w => kind_no w h0); clear h0
  go_enter Tryz.func112, Tryz.ntmps112
  go_wp2_with (first | ((with_reducible refine (HK.out _).mono ?_); rintro e w' ⟨rfl, rfl⟩)); go_ret; exact bit (by first | exact HR.out.symm | (rw [HR.out]; exact decide_eq_false (by omega))) (one_below _ _)
end Go.Proofs.YtilljaneegbhlaaGreatDoor
