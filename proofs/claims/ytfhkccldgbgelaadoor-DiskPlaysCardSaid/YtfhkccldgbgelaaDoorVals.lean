/-
  The values of the errors that the statements build: a kind, a Loss, and Faults around one of them; the law of '==' between two kinds; what errors.Is and errors.As leave behind.
-/
import Derived.Test.YtfhkccldgbgelaaDoorFacts
import Derived.Handy
import Derived.Lib.Hide
namespace Go.Proofs.YtfhkccldgbgelaaDoor
open Go.RowKit Go.Extern.Stop Go.Stop Go.Extern

/-- A Fault around v. -/
def wrapV (s : ByteArray) (n : Int) (v : Value) : Value := .iface 92 (.agg #[.string s, .int .i64 n, v])
/-- Faults around b, the outermost first. -/
def chain : List (ByteArray × Int) → Value → Value
  | [], b => b
  | x :: l, b => wrapV x.1 x.2 (chain l b)
def errV (k : Int) : Value := .iface 37 (.int .i64 k)

theorem wrapV_size (s : ByteArray) (n : Int) (v : Value) : SizeOf.sizeOf v < SizeOf.sizeOf (wrapV s n v) := by
  unfold wrapV; simp; omega

section
variable {P : Program} (w : World)
theorem run_equalIn_iface_int (d : Nat) {ti tn : TypeId} {ms : Array (String × TypeId)} {i : TypeInfo} {k : IntKind} (a b : Int)
    (hi : P.underlying ti = some (.interface ms)) (hn : P.underlying tn = some (.int k)) (hinfo : P.info? tn = some i) (hcomp : i.comparable = true) :
    (Op.equalIn (d + 2) ti (.iface tn (.int k a)) (.iface tn (.int k b))).run P w = .ok (a == b) w := by
  simp [Op.equalIn, run_underlying hi, run_underlying hn, typeInfo, hinfo, hcomp]
theorem run_eql_iface_int {ti tn : TypeId} {ms : Array (String × TypeId)} {i : TypeInfo} {k : IntKind} (a b : Int)
    (hi : P.underlying ti = some (.interface ms)) (hn : P.underlying tn = some (.int k)) (hinfo : P.info? tn = some i) (hcomp : i.comparable = true) :
    (binOp .eql ti (.iface tn (.int k a)) (.iface tn (.int k b))).run P w = .ok (.bool (a == b)) w := by
  simp only [binOp]
  simp [Op.equal, Op.maxDepth, run_equalIn_iface_int w 9998 a b hi hn hinfo hcomp]
end
theorem Tryd.comp25 : (Tryd.prog.info? 37).map (·.comparable) = some true := by kernel_rfl
theorem eq_err (a b : Int) (w : World) : (binOp .eql 24 (errV a) (errV b)).run Tryd.prog w = .ok (.bool (a == b)) w := by
  obtain ⟨i, hi, hcmp⟩ := Option.map_eq_some_iff.1 Tryd.comp25
  exact run_eql_iface_int w a b Tryd.underlying24 Tryd.underlying37 hi hcmp

/-- errors.As found an error: true; the target's cells hold it; blocks of the call's own besides. -/
def AsHit (xs : List Value) (t : Addr) (w : World) (e : Ending) (w' : World) : Prop :=
  e = .returned (.bool true) ∧ ∃ w1, Below w.heap.size w w1 ∧ w' = storeAll w1 t xs
where storeAll (w : World) (t : Addr) : List Value → World
  | [] => w
  | x :: l => storeAll (w.setCell t x) ⟨t.block, t.off + 1, none⟩ l
/-- No: false; nothing that was there has turned. -/
def Miss (w : World) (e : Ending) (w' : World) : Prop := e = .returned (.bool false) ∧ Below w.heap.size w w'
def Yes (w : World) (e : Ending) (w' : World) : Prop := e = .returned (.bool true) ∧ Below w.heap.size w w'
end Go.Proofs.YtfhkccldgbgelaaDoor
