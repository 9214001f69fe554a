/-
  Two frames compared.
-/
import Derived.Test.YtfhnkjlegehaoaaGreatDoorHBuild
namespace Go.Proofs.YtfhnkjlegehaoaaGreatDoor
open Go.RowKit Crc Hf
theorem guard_frame : Tryz.prog.eqGuardType Tryz.prog.depth 72 = false := by kernel_rfl
theorem eql_yes {f g : Fr} (hf : f.is) (hg : g.is) (h : f = g) (w : World) : (binOp .eql 72 (.agg (frA f)) (.agg (frA g))).run Tryz.prog w = .ok (.bool true) w := by
  rw [eql_frames f g hf hg, (frEq_iff f g).2 h]
theorem eql_no {f g : Fr} (hf : f.is) (hg : g.is) (h : ¬ f = g) (w : World) : (binOp .eql 72 (.agg (frA f)) (.agg (frA g))).run Tryz.prog w = .ok (.bool false) w := by
  rw [eql_frames f g hf hg, show frEq f g = false by rw [← Bool.not_eq_true, frEq_iff]; exact h]
theorem neql_frames (f g : Fr) (hf : f.is) (hg : g.is) (w : World) : (binOp .neq 72 (.agg (frA f)) (.agg (frA g))).run Tryz.prog w = .ok (.bool (!frEq f g)) w := by
  rw [run_neq_struct, eq_frames w f g hf hg]
  rfl
theorem neql_yes {f g : Fr} (hf : f.is) (hg : g.is) (h : f = g) (w : World) : (binOp .neq 72 (.agg (frA f)) (.agg (frA g))).run Tryz.prog w = .ok (.bool false) w := by
  rw [neql_frames f g hf hg, (frEq_iff f g).2 h]; rfl
end Go.Proofs.YtfhnkjlegehaoaaGreatDoor
