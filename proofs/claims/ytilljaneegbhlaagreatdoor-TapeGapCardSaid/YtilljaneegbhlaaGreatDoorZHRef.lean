import Derived.Test.YtilljaneegbhlaaGreatDoorZKTurnL
import Derived.Test.YtilljaneegbhlaaGreatDoorZHGet
import Derived.IntWalk
import Derived.Test.YtilljaneegbhlaaGreatDoorZHBuild
import Derived.Deep.CutBlock
import Derived.Deep.DeepCutAuto
namespace Go.Proofs.YtilljaneegbhlaaGreatDoor
open Go.RowKit Crc
end Go.Proofs.YtilljaneegbhlaaGreatDoor
namespace Go.Proofs.YtilljaneegbhlaaGreatDoor
open Go.RowKit Crc Hf
theorem guard_frame : Tryz.prog.eqGuardType Tryz.prog.depth 151 = false := by kernel_rfl
theorem neql_frames (f g : Fr) (hf : f.is) (hg : g.is) (w : World) : (binOp .neq 151 (.agg (frA f)) (.agg (frA g))).run Tryz.prog w = .ok (.bool (!frEq f g)) w := by
 rw [run_neq_struct, eq_frames w f g hf hg]
 rfl
theorem neql_yes {f g : Fr} (hf : f.is) (hg : g.is) (h : f = g) (w : World) : (binOp .neq 151 (.agg (frA f)) (.agg (frA g))).run Tryz.prog w = .ok (.bool false) w := by
 rw [neql_frames f g hf hg, (frEq_iff f g).2 h]; rfl
end Go.Proofs.YtilljaneegbhlaaGreatDoor
