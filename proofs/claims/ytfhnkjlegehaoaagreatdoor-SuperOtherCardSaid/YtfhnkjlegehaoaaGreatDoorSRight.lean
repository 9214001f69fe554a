/-
  super.Right, staveref8.RightConfig.
-/
import Derived.Test.YtfhnkjlegehaoaaGreatDoorSModel
namespace Go.Proofs.YtfhnkjlegehaoaaGreatDoor
open Go.RowKit Go.Deep Crc Dk Qk Go.Maps Hf
/-- The cells of a configuration. -/
abbrev cfA (c : Cf) : Array Value := #[.int .i64 c.id, .int .i64 c.k, .int .i64 c.n, .int .i64 c.t, .int .i64 c.s]
set_option maxHeartbeats 2000000 in
set_option maxRecDepth 100000 in
theorem sright_any (c : Cf) (w : World) : Calls Tryz.prog 17 #[.agg (cfA c)] w (Bit (cfRightB c) w) := by
  by_cases h0 : 1 ≤ c.id
  · skip
    by_cases h1 : c.id ≤ 2147483647
    · skip
      by_cases h2 : 1 ≤ c.k
      · skip
        by_cases h3 : c.k ≤ c.n
        · skip
          by_cases h4 : c.n ≤ 8
          · skip
            by_cases h5 : 1 ≤ c.t
            · skip
              by_cases h6 : c.t ≤ 64
              · skip
                by_cases h7 : 1 ≤ c.s
                · skip
                  by_cases h8 : c.s ≤ 4
                  · skip
                    have HR := Lib.hid (show cfRightB c = true from decide_eq_true (by unfold CfRight; omega))
                    go_enter Tryz.func17, Tryz.ntmps17
                    go_wp2_with fail
                    go_ret
                    exact bit (by first | exact HR.out.symm | (rw [HR.out]; exact decide_eq_false (by omega)) | (rw [HR.out]; exact decide_eq_true (by omega))) (one_below _ _)
                  · skip
                    have HR := Lib.hid (show cfRightB c = false from decide_eq_false (by unfold CfRight; omega))
                    go_enter Tryz.func17, Tryz.ntmps17
                    go_wp2_with fail
                    go_ret
                    exact bit (by first | exact HR.out.symm | (rw [HR.out]; exact decide_eq_false (by omega)) | (rw [HR.out]; exact decide_eq_true (by omega))) (one_below _ _)
                · skip
                  have HR := Lib.hid (show cfRightB c = false from decide_eq_false (by unfold CfRight; omega))
                  go_enter Tryz.func17, Tryz.ntmps17
                  go_wp2_with fail
                  go_ret
                  exact bit (by first | exact HR.out.symm | (rw [HR.out]; exact decide_eq_false (by omega)) | (rw [HR.out]; exact decide_eq_true (by omega))) (one_below _ _)
              · skip
                have HR := Lib.hid (show cfRightB c = false from decide_eq_false (by unfold CfRight; omega))
                go_enter Tryz.func17, Tryz.ntmps17
                go_wp2_with fail
                go_ret
                exact bit (by first | exact HR.out.symm | (rw [HR.out]; exact decide_eq_false (by omega)) | (rw [HR.out]; exact decide_eq_true (by omega))) (one_below _ _)
            · skip
              have HR := Lib.hid (show cfRightB c = false from decide_eq_false (by unfold CfRight; omega))
              go_enter Tryz.func17, Tryz.ntmps17
              go_wp2_with fail
              go_ret
              exact bit (by first | exact HR.out.symm | (rw [HR.out]; exact decide_eq_false (by omega)) | (rw [HR.out]; exact decide_eq_true (by omega))) (one_below _ _)
          · skip
            have HR := Lib.hid (show cfRightB c = false from decide_eq_false (by unfold CfRight; omega))
            go_enter Tryz.func17, Tryz.ntmps17
            go_wp2_with fail
            go_ret
            exact bit (by first | exact HR.out.symm | (rw [HR.out]; exact decide_eq_false (by omega)) | (rw [HR.out]; exact decide_eq_true (by omega))) (one_below _ _)
        · skip
          have HR := Lib.hid (show cfRightB c = false from decide_eq_false (by unfold CfRight; omega))
          go_enter Tryz.func17, Tryz.ntmps17
          go_wp2_with fail
          go_ret
          exact bit (by first | exact HR.out.symm | (rw [HR.out]; exact decide_eq_false (by omega)) | (rw [HR.out]; exact decide_eq_true (by omega))) (one_below _ _)
      · skip
        have HR := Lib.hid (show cfRightB c = false from decide_eq_false (by unfold CfRight; omega))
        go_enter Tryz.func17, Tryz.ntmps17
        go_wp2_with fail
        go_ret
        exact bit (by first | exact HR.out.symm | (rw [HR.out]; exact decide_eq_false (by omega)) | (rw [HR.out]; exact decide_eq_true (by omega))) (one_below _ _)
    · skip
      have HR := Lib.hid (show cfRightB c = false from decide_eq_false (by unfold CfRight; omega))
      go_enter Tryz.func17, Tryz.ntmps17
      go_wp2_with fail
      go_ret
      exact bit (by first | exact HR.out.symm | (rw [HR.out]; exact decide_eq_false (by omega)) | (rw [HR.out]; exact decide_eq_true (by omega))) (one_below _ _)
  · skip
    have HR := Lib.hid (show cfRightB c = false from decide_eq_false (by unfold CfRight; omega))
    go_enter Tryz.func17, Tryz.ntmps17
    go_wp2_with fail
    go_ret
    exact bit (by first | exact HR.out.symm | (rw [HR.out]; exact decide_eq_false (by omega)) | (rw [HR.out]; exact decide_eq_true (by omega))) (one_below _ _)
set_option maxHeartbeats 2000000 in
set_option maxRecDepth 100000 in
theorem vright_any (c : Cf) (w : World) : Calls Tryz.prog 18 #[.agg (cfA c)] w (Bit (cfRightB c) w) := by
  by_cases h0 : 1 ≤ c.id
  · skip
    by_cases h1 : c.id ≤ 2147483647
    · skip
      by_cases h2 : 1 ≤ c.k
      · skip
        by_cases h3 : c.k ≤ c.n
        · skip
          by_cases h4 : c.n ≤ 8
          · skip
            by_cases h5 : 1 ≤ c.t
            · skip
              by_cases h6 : c.t ≤ 64
              · skip
                by_cases h7 : 1 ≤ c.s
                · skip
                  by_cases h8 : c.s ≤ 4
                  · skip
                    have HR := Lib.hid (show cfRightB c = true from decide_eq_true (by unfold CfRight; omega))
                    have h1' : c.id < 2147483648 := by omega
                    go_enter Tryz.func18, Tryz.ntmps18
                    go_wp2_with fail
                    go_ret
                    exact bit (by first | exact HR.out.symm | (rw [HR.out]; exact decide_eq_false (by omega)) | (rw [HR.out]; exact decide_eq_true (by omega))) (one_below _ _)
                  · skip
                    have HR := Lib.hid (show cfRightB c = false from decide_eq_false (by unfold CfRight; omega))
                    have h1' : c.id < 2147483648 := by omega
                    go_enter Tryz.func18, Tryz.ntmps18
                    go_wp2_with fail
                    go_ret
                    exact bit (by first | exact HR.out.symm | (rw [HR.out]; exact decide_eq_false (by omega)) | (rw [HR.out]; exact decide_eq_true (by omega))) (one_below _ _)
                · skip
                  have HR := Lib.hid (show cfRightB c = false from decide_eq_false (by unfold CfRight; omega))
                  have h1' : c.id < 2147483648 := by omega
                  go_enter Tryz.func18, Tryz.ntmps18
                  go_wp2_with fail
                  go_ret
                  exact bit (by first | exact HR.out.symm | (rw [HR.out]; exact decide_eq_false (by omega)) | (rw [HR.out]; exact decide_eq_true (by omega))) (one_below _ _)
              · skip
                have HR := Lib.hid (show cfRightB c = false from decide_eq_false (by unfold CfRight; omega))
                have h1' : c.id < 2147483648 := by omega
                go_enter Tryz.func18, Tryz.ntmps18
                go_wp2_with fail
                go_ret
                exact bit (by first | exact HR.out.symm | (rw [HR.out]; exact decide_eq_false (by omega)) | (rw [HR.out]; exact decide_eq_true (by omega))) (one_below _ _)
            · skip
              have HR := Lib.hid (show cfRightB c = false from decide_eq_false (by unfold CfRight; omega))
              have h1' : c.id < 2147483648 := by omega
              go_enter Tryz.func18, Tryz.ntmps18
              go_wp2_with fail
              go_ret
              exact bit (by first | exact HR.out.symm | (rw [HR.out]; exact decide_eq_false (by omega)) | (rw [HR.out]; exact decide_eq_true (by omega))) (one_below _ _)
          · skip
            have HR := Lib.hid (show cfRightB c = false from decide_eq_false (by unfold CfRight; omega))
            have h1' : c.id < 2147483648 := by omega
            go_enter Tryz.func18, Tryz.ntmps18
            go_wp2_with fail
            go_ret
            exact bit (by first | exact HR.out.symm | (rw [HR.out]; exact decide_eq_false (by omega)) | (rw [HR.out]; exact decide_eq_true (by omega))) (one_below _ _)
        · skip
          have HR := Lib.hid (show cfRightB c = false from decide_eq_false (by unfold CfRight; omega))
          have h1' : c.id < 2147483648 := by omega
          go_enter Tryz.func18, Tryz.ntmps18
          go_wp2_with fail
          go_ret
          exact bit (by first | exact HR.out.symm | (rw [HR.out]; exact decide_eq_false (by omega)) | (rw [HR.out]; exact decide_eq_true (by omega))) (one_below _ _)
      · skip
        have HR := Lib.hid (show cfRightB c = false from decide_eq_false (by unfold CfRight; omega))
        have h1' : c.id < 2147483648 := by omega
        go_enter Tryz.func18, Tryz.ntmps18
        go_wp2_with fail
        go_ret
        exact bit (by first | exact HR.out.symm | (rw [HR.out]; exact decide_eq_false (by omega)) | (rw [HR.out]; exact decide_eq_true (by omega))) (one_below _ _)
    · skip
      have HR := Lib.hid (show cfRightB c = false from decide_eq_false (by unfold CfRight; omega))
      have h1' : ¬ c.id < 2147483648 := by omega
      go_enter Tryz.func18, Tryz.ntmps18
      go_wp2_with fail
      go_ret
      exact bit (by first | exact HR.out.symm | (rw [HR.out]; exact decide_eq_false (by omega)) | (rw [HR.out]; exact decide_eq_true (by omega))) (one_below _ _)
  · skip
    have HR := Lib.hid (show cfRightB c = false from decide_eq_false (by unfold CfRight; omega))
    go_enter Tryz.func18, Tryz.ntmps18
    go_wp2_with fail
    go_ret
    exact bit (by first | exact HR.out.symm | (rw [HR.out]; exact decide_eq_false (by omega)) | (rw [HR.out]; exact decide_eq_true (by omega))) (one_below _ _)
end Go.Proofs.YtfhnkjlegehaoaaGreatDoor
