import Derived.Test.YtilljaneegbhlaaGreatChecked
import Derived.WalkKit
import Derived.LaidEql
import Derived.Stop.Asserts
import Derived.RowKitTokens
import Derived.Handy
import Derived.Lib.Hide
import Derived.Outline
namespace Go.Proofs.YtilljaneegbhlaaGreat
open Go.RowKit Go.Extern.Stop Go.Stop Go.Extern
set_option maxHeartbeats 1000000
set_option maxRecDepth 100000
def wrapV (s : ByteArray) (n : Int) (v : Value) : Value := .iface 85 (.agg #[.string s, .int .i64 n, v])
def chain : List (ByteArray × Int) → Value → Value
 | [], b => b
 | x :: l, b => wrapV x.1 x.2 (chain l b)
def errV (k : Int) : Value := .iface 63 (.int .i64 k)
def lossV (a b c : Int) : Value := .iface 98 (.agg #[.int .i64 a, .int .i64 b, .int .i64 c])
theorem wrapV_size (s : ByteArray) (n : Int) (v : Value) : SizeOf.sizeOf v < SizeOf.sizeOf (wrapV s n v) := by
 unfold wrapV; simp; omega
section
variable {P : Program} (w : World)
theorem run_equalIn_iface_int (d : Nat) {ti tn : TypeId} {ms : Array (String × TypeId)} {i : TypeInfo} {k : IntKind} (a b : Int)
  (hi : P.underlying ti = some (.interface ms)) (hn : P.underlying tn = some (.int k)) (hinfo : P.info? tn = some i) (hcomp : i.comparable = true) :
  (Op.equalIn (d + 2) ti (.iface tn (.int k a)) (.iface tn (.int k b))).run P w = .ok (a == b) w := by
 simp [Op.equalIn, run_underlying hi, run_underlying hn, typeInfo, hinfo, hcomp]
theorem run_eql_iface_int {ti tn : TypeId} {ms : Array (String × TypeId)} {i : TypeInfo} {k : IntKind} (a b : Int)
  (hi : P.underlying ti = some (.interface ms)) (hn : P.underlying tn = some (.int k)) (hinfo : P.info? tn = some i) (hcomp : i.comparable = true) :
  (binOp .eql ti (.iface tn (.int k a)) (.iface tn (.int k b))).run P w = .ok (.bool (a == b)) w := by
 simp only [binOp]
 simp [Op.equal, Op.maxDepth, run_equalIn_iface_int w 9998 a b hi hn hinfo hcomp]
end
theorem Tryz.comp25 : (Tryz.prog.info? 63).map (·.comparable) = some true := by kernel_rfl
theorem eq_err (a b : Int) (w : World) : (binOp .eql 30 (errV a) (errV b)).run Tryz.prog w = .ok (.bool (a == b)) w := by
 obtain ⟨i, hi, hcmp⟩ := Option.map_eq_some_iff.1 Tryz.comp25
 exact run_eql_iface_int w a b Tryz.underlying30 Tryz.underlying63 hi hcmp
theorem chain_iface (l : List (ByteArray × Int)) (T : TypeId) (x : Value) : ∃ U y, chain l (.iface T x) = .iface U y := by
 cases l with
 | nil => exact ⟨_, _, rfl⟩
 | cons p l => exact ⟨_, _, rfl⟩
end Go.Proofs.YtilljaneegbhlaaGreat
