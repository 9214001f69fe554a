import Derived.Test.YtilljaneegbhlaaGreatDoorZAsTop
import Derived.Test.YtilljaneegbhlaaGreatDoorZKit
import Derived.Laws.StructEq
namespace Go.Proofs.YtilljaneegbhlaaGreatDoor
open Go.RowKit Go.Extern.Stop Go.Stop Go.Extern
theorem lossIs_kind (a b c j : Int) (w : World) : Calls Tryz.prog 223 #[.agg #[.int .i64 a, .int .i64 b, .int .i64 c], errV j] w fun e w' => e = .returned (.bool (j == 6)) ∧ w' = w.alloc (.cells #[.int .i64 a, .int .i64 b, .int .i64 c] 52) := by
 have he := eq_err j 6
 unfold errV at *
 go_enter Tryz.func223, Tryz.ntmps223
 go_wp2
 go_ret
 exact ⟨rfl, rfl⟩
def RelI (b : Value) (w : World) (v : Value) (wr : World) : Prop := ∃ l, v = chain l b ∧ Below w.heap.size w wr
set_option maxHeartbeats 1000000 in
theorem is_loss_err_yes (l : List (ByteArray × Int)) (a b c : Int) (j : Int) (w : World) (v : Value) (hc : v = chain l (lossV a b c)) (hj : j = 6) :
  Calls Tryz.prog 73 #[v, errV j, .bool true] w (Bit true w) := by
 have d47 := fun v1 v2 => run_eql_iface_types (P := Tryz.prog) 103 40 v1 v2 Tryz.underlying28 (by decide)
 have i47 := Tryz.noIs47
 have u47 := Tryz.hasUnwrap47
 have mU := Tryz.methodUnwrap
 have mI := Tryz.methodIs
 have i25 := Tryz.noIs25
 have i29 := Tryz.hasIs29
 have u25 := Tryz.noUnwrap25
 have u29 := Tryz.noUnwrap29
 have x25 := Tryz.noUnwraps25
 have x29 := Tryz.noUnwraps29
 have he := fun v1 v2 => run_eql_iface_types (P := Tryz.prog) 52 40 v1 v2 Tryz.underlying28 (by decide)
 subst hj
 have hli0 := lossIs_kind a b c 6
 simp only [show ((6 : Int) == 6) = true from rfl] at hli0
 unfold errV at hli0
 have Hli := hI hli0; clear hli0
 unfold errV
 go_enter Tryz.func73, Tryz.ntmps73
 go_wp2
 go_loopw [0] (fun v wr => RelI (lossV a b c) w v wr) (fun v _ => SizeOf.sizeOf v)
 case atStart => exact ⟨l, hc, Below.refl _ _⟩
 case round =>
  obtain ⟨l, rfl, hB⟩ := hrel; have hsz : w.heap.size ≤ wr.heap.size := hB.size
  cases l with
  | nil =>
   simp only [chain, lossV]; go_wp2_with (go_at_call 223; refine (Hli.out _).mono ?_; rintro e w' ⟨rfl, rfl⟩); go_ret; exact ⟨rfl, hB.alloc hsz _⟩
  | cons p l =>
   obtain ⟨U, y, hy⟩ := chain_iface l 52 (.agg #[.int .i64 a, .int .i64 b, .int .i64 c]); simp only [chain, wrapV]
   change chain l (lossV a b c) = _ at hy
   rw [hy]; have Hy := hI hy; clear hy; go_wp2_with (go_at_call 225; refine (unwrap _ _ _ _ _).mono ?_; rintro e w' ⟨rfl, rfl⟩)
   go_roundw
   case rel => exact ⟨l, Hy.out.symm, hB.alloc hsz _⟩
   case measure => exact wrapV_size _ _ _
end Go.Proofs.YtilljaneegbhlaaGreatDoor
