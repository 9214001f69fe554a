import Derived.Test.YtilljaneegbhlaaGreatDoorChecked
import Derived.WalkKit
import Derived.LaidEql
import Derived.Stop.Asserts
import Derived.RowKitTokens
import Derived.Handy
import Derived.Lib.Hide
import Derived.Outline
namespace Go.Proofs.YtilljaneegbhlaaGreatDoor
open Go.RowKit Go.Extern.Stop Go.Stop Go.Extern
set_option maxHeartbeats 1000000
set_option maxRecDepth 100000
theorem rlm (z : Sem Value) (f : TypeId → Addr → Nat → Nat → Sem Value) (v : Value) :
  ReflectliteValue.method z f #[v] = (do match ← ReflectliteValue.parts v with | none => z | some (t, a, fl) => f t a fl (fl % 32)) := rfl
theorem Tryz.valueOf51 (t : Addr) (w : World) : (ReflectliteValue.unpack (.iface 84 (.pointer (some t)))).run Tryz.prog w
  = .ok (.agg #[.pointer (some ⟨1, 84, none⟩), .pointer (some ⟨w.heap.size, 0, none⟩), .int .u64 150]) (w.alloc (.cells #[.pointer (some t)] 84)) := by kernel_rfl
theorem Tryz.type51 (a : Addr) (w : World) : (ReflectliteValue.methodAny (ReflectliteValue.valueError "reflectlite.Value.Type" 0) (fun t _ _ _ => ReflectliteType.toType t) #[(.agg #[.pointer (some ⟨1, 84, none⟩), .pointer (some a), .int .u64 150])]).run Tryz.prog w
  = .ok (.iface 161 (.agg #[.pointer (some ⟨1, 84, none⟩)])) w := by kernel_rfl
theorem Tryz.kind51 (w : World) : ((ReflectliteType.abiMethod fun t => (fun a : Nat => Value.int IntKind.u8 (a : Int)) <$> Rtype.kind t) #[.pointer (some ⟨1, 84, none⟩)]).run Tryz.prog w = .ok (.int .u8 22) w := by kernel_rfl
theorem Tryz.kind25 (w : World) : ((ReflectliteType.abiMethod fun t => (fun a : Nat => Value.int IntKind.u8 (a : Int)) <$> Rtype.kind t) #[.pointer (some ⟨1, 40, none⟩)]).run Tryz.prog w = .ok (.int .u8 2) w := by kernel_rfl
theorem Tryz.parts51 (a : Addr) (w : World) : (ReflectliteValue.parts (.agg #[.pointer (some ⟨1, 84, none⟩), .pointer (some a), .int .u64 150])).run Tryz.prog w = .ok (some (84, a, 150)) w := by kernel_rfl
theorem Tryz.isNil51 (a p : Addr) (W : World) (ha : W.cell? a = some (.pointer (some p))) :
  (ReflectliteValue.method (ReflectliteValue.valueError "reflectlite.Value.IsNil" 0) ReflectliteValue.isNil #[(.agg #[.pointer (some ⟨1, 84, none⟩), .pointer (some a), .int .u64 150])]).run Tryz.prog W = .ok (.bool false) W := by
 rw [rlm]
 simp only [Sem.run_bind, Tryz.parts51, Result.andThen]
 simp [ReflectliteValue.isNil, loadVar, isAgg, underlying, Tryz.underlying84, ha, Result.andThen]
theorem Tryz.elem51 (w : World) : (ReflectliteType.method ReflectliteType.elem #[.agg #[.pointer (some ⟨1, 84, none⟩)]]).run Tryz.prog w = .ok (.iface 161 (.agg #[.pointer (some ⟨1, 40, none⟩)])) w := by kernel_rfl
theorem Tryz.implements25 (w : World) : (ReflectliteType.relation "Implements" ReflectliteType.implements_ #[.agg #[.pointer (some ⟨1, 40, none⟩)], .iface 161 (.agg #[.pointer (some ⟨1, 28, none⟩)])]).run Tryz.prog w = .ok (.bool true) w := by kernel_rfl
theorem Tryz.typeOf25 (v : Value) (w : World) : (ReflectliteType.typeOf #[.iface 40 v]).run Tryz.prog w = .ok (.iface 161 (.agg #[.pointer (some ⟨1, 40, none⟩)])) w := by kernel_rfl
theorem Tryz.elemOf51 (w : World) : (Rtype.elem? 84).run Tryz.prog w = .ok (some 40) w := by kernel_rfl
theorem Tryz.mk25 (p : Addr) (w : World) : (ReflectliteValue.mk 40 p ReflectliteValue.flagAddr).run Tryz.prog w = .ok (.agg #[.pointer (some ⟨1, 40, none⟩), .pointer (some p), .int .u64 386]) w := by kernel_rfl
theorem Tryz.elemV51 (a p : Addr) (W : World) (ha : W.cell? a = some (.pointer (some p))) :
  (ReflectliteValue.method (ReflectliteValue.valueError "reflectlite.Value.Elem" 0) ReflectliteValue.elem #[(.agg #[.pointer (some ⟨1, 84, none⟩), .pointer (some a), .int .u64 150])]).run Tryz.prog W
   = .ok (.agg #[.pointer (some ⟨1, 40, none⟩), .pointer (some p), .int .u64 386]) W := by
 rw [rlm]
 simp only [Sem.run_bind, Tryz.parts51, Result.andThen]
 simp [ReflectliteValue.elem, loadVar, isAgg, underlying, Tryz.underlying84, ha, Result.andThen, Tryz.elemOf51, Tryz.mk25]
theorem Tryz.parts25a (a : Addr) (w : World) : (ReflectliteValue.parts (.agg #[.pointer (some ⟨1, 40, none⟩), .pointer (some a), .int .u64 386])).run Tryz.prog w = .ok (some (40, a, 386)) w := by kernel_rfl
theorem Tryz.parts25 (a : Addr) (w : World) : (ReflectliteValue.parts (.agg #[.pointer (some ⟨1, 40, none⟩), .pointer (some a), .int .u64 130])).run Tryz.prog w = .ok (some (40, a, 130)) w := by kernel_rfl
theorem Tryz.direct25 (w : World) : (Rtype.directlyAssignable 40 40).run Tryz.prog w = .ok true w := by kernel_rfl
theorem Tryz.typeOf29 (v : Value) (w : World) : (ReflectliteType.typeOf #[.iface 52 v]).run Tryz.prog w = .ok (.iface 161 (.agg #[.pointer (some ⟨1, 52, none⟩)])) w := by kernel_rfl
theorem Tryz.typeOf47 (v : Value) (w : World) : (ReflectliteType.typeOf #[.iface 103 v]).run Tryz.prog w = .ok (.iface 161 (.agg #[.pointer (some ⟨1, 103, none⟩)])) w := by kernel_rfl
theorem Tryz.assignable25to25 (w : World) : (ReflectliteType.relation "AssignableTo" ReflectliteType.assignableTo #[.agg #[.pointer (some ⟨1, 40, none⟩)], .iface 161 (.agg #[.pointer (some ⟨1, 40, none⟩)])]).run Tryz.prog w = .ok (.bool true) w := by kernel_rfl
theorem Tryz.assignable29to25 (w : World) : (ReflectliteType.relation "AssignableTo" ReflectliteType.assignableTo #[.agg #[.pointer (some ⟨1, 52, none⟩)], .iface 161 (.agg #[.pointer (some ⟨1, 40, none⟩)])]).run Tryz.prog w = .ok (.bool false) w := by kernel_rfl
theorem Tryz.assignable47to25 (w : World) : (ReflectliteType.relation "AssignableTo" ReflectliteType.assignableTo #[.agg #[.pointer (some ⟨1, 103, none⟩)], .iface 161 (.agg #[.pointer (some ⟨1, 40, none⟩)])]).run Tryz.prog w = .ok (.bool false) w := by kernel_rfl
theorem Tryz.valueOf25 (n : Int) (w : World) : (ReflectliteValue.unpack (.iface 40 (.int .i64 n))).run Tryz.prog w
  = .ok (.agg #[.pointer (some ⟨1, 40, none⟩), .pointer (some ⟨w.heap.size, 0, none⟩), .int .u64 130]) (w.alloc (.cells #[.int .i64 n] 40)) := by kernel_rfl
theorem Tryz.methodKind (h : Value) (w : World) : (Go.method 188 161 (.agg #[h]) "Kind").run Tryz.prog w = .ok (217, h) w := by kernel_rfl
theorem Tryz.methodElem (h : Value) (w : World) : (Go.method 188 161 (.agg #[h]) "Elem").run Tryz.prog w = .ok (232, .agg #[h]) w := by kernel_rfl
theorem Tryz.methodImplements (h : Value) (w : World) : (Go.method 188 161 (.agg #[h]) "Implements").run Tryz.prog w = .ok (233, .agg #[h]) w := by kernel_rfl
theorem Tryz.methodAssignableTo (h : Value) (w : World) : (Go.method 188 161 (.agg #[h]) "AssignableTo").run Tryz.prog w = .ok (230, .agg #[h]) w := by kernel_rfl
theorem Tryz.methodComparable (v : Value) (w : World) : (Go.method 186 161 v "Comparable").run Tryz.prog w = .ok (231, v) w := by kernel_rfl
theorem Tryz.methodUnwrap (v : Value) (w : World) : (Go.method 186 103 v "Unwrap").run Tryz.prog w = .ok (225, v) w := by kernel_rfl
theorem Tryz.methodIs (v : Value) (w : World) : (Go.method 186 52 v "Is").run Tryz.prog w = .ok (223, v) w := by kernel_rfl
theorem Tryz.noIs25 (v : Value) (xT : TypeId) (w : World) : (Instr.typeAssert (.iface 40 v) xT 173 true).run Tryz.prog w = .ok (.tuple #[.nilIface, .bool false]) w := run_typeAssert_lacksB Tryz.underlying173 (by kernel_rfl) (by kernel_rfl) v xT w
theorem Tryz.noUnwrap25 (v : Value) (xT : TypeId) (w : World) : (Instr.typeAssert (.iface 40 v) xT 168 true).run Tryz.prog w = .ok (.tuple #[.nilIface, .bool false]) w := run_typeAssert_lacksB Tryz.underlying168 (by kernel_rfl) (by kernel_rfl) v xT w
theorem Tryz.noUnwraps25 (v : Value) (xT : TypeId) (w : World) : (Instr.typeAssert (.iface 40 v) xT 170 true).run Tryz.prog w = .ok (.tuple #[.nilIface, .bool false]) w := run_typeAssert_lacksB Tryz.underlying170 (by kernel_rfl) (by kernel_rfl) v xT w
theorem Tryz.hasIs29 (v : Value) (xT : TypeId) (w : World) : (Instr.typeAssert (.iface 52 v) xT 173 true).run Tryz.prog w = .ok (.tuple #[.iface 52 v, .bool true]) w := run_typeAssert_hasB Tryz.underlying173 (by kernel_rfl) v xT w
theorem Tryz.noUnwrap29 (v : Value) (xT : TypeId) (w : World) : (Instr.typeAssert (.iface 52 v) xT 168 true).run Tryz.prog w = .ok (.tuple #[.nilIface, .bool false]) w := run_typeAssert_lacksB Tryz.underlying168 (by kernel_rfl) (by kernel_rfl) v xT w
theorem Tryz.noUnwraps29 (v : Value) (xT : TypeId) (w : World) : (Instr.typeAssert (.iface 52 v) xT 170 true).run Tryz.prog w = .ok (.tuple #[.nilIface, .bool false]) w := run_typeAssert_lacksB Tryz.underlying170 (by kernel_rfl) (by kernel_rfl) v xT w
theorem Tryz.noAs29 (v : Value) (xT : TypeId) (w : World) : (Instr.typeAssert (.iface 52 v) xT 165 true).run Tryz.prog w = .ok (.tuple #[.nilIface, .bool false]) w := run_typeAssert_lacksB Tryz.underlying165 (by kernel_rfl) (by kernel_rfl) v xT w
theorem Tryz.noIs47 (v : Value) (xT : TypeId) (w : World) : (Instr.typeAssert (.iface 103 v) xT 173 true).run Tryz.prog w = .ok (.tuple #[.nilIface, .bool false]) w := run_typeAssert_lacksB Tryz.underlying173 (by kernel_rfl) (by kernel_rfl) v xT w
theorem Tryz.hasUnwrap47 (v : Value) (xT : TypeId) (w : World) : (Instr.typeAssert (.iface 103 v) xT 168 true).run Tryz.prog w = .ok (.tuple #[.iface 103 v, .bool true]) w := run_typeAssert_hasB Tryz.underlying168 (by kernel_rfl) v xT w
theorem Tryz.noAs47 (v : Value) (xT : TypeId) (w : World) : (Instr.typeAssert (.iface 103 v) xT 165 true).run Tryz.prog w = .ok (.tuple #[.nilIface, .bool false]) w := run_typeAssert_lacksB Tryz.underlying165 (by kernel_rfl) (by kernel_rfl) v xT w
def wrapV (s : ByteArray) (n : Int) (v : Value) : Value := .iface 103 (.agg #[.string s, .int .i64 n, v])
def chain : List (ByteArray × Int) → Value → Value
 | [], b => b
 | x :: l, b => wrapV x.1 x.2 (chain l b)
def errV (k : Int) : Value := .iface 40 (.int .i64 k)
def lossV (a b c : Int) : Value := .iface 52 (.agg #[.int .i64 a, .int .i64 b, .int .i64 c])
theorem wrapV_size (s : ByteArray) (n : Int) (v : Value) : SizeOf.sizeOf v < SizeOf.sizeOf (wrapV s n v) := by
 unfold wrapV; simp; omega
section
variable {P : Program} (w : World)
theorem run_equalIn_iface_int (d : Nat) {ti tn : TypeId} {ms : Array (String × TypeId)} {i : TypeInfo} {k : IntKind} (a b : Int)
  (hi : P.underlying ti = some (.interface ms)) (hn : P.underlying tn = some (.int k)) (hinfo : P.info? tn = some i) (hcomp : i.comparable = true) :
  (Op.equalIn (d + 2) ti (.iface tn (.int k a)) (.iface tn (.int k b))).run P w = .ok (a == b) w := by
 simp [Op.equalIn, run_underlying hi, run_underlying hn, typeInfo, hinfo, hcomp]
theorem run_eql_iface_int {ti tn : TypeId} {ms : Array (String × TypeId)} {i : TypeInfo} {k : IntKind} (a b : Int)
  (hi : P.underlying ti = some (.interface ms)) (hn : P.underlying tn = some (.int k)) (hinfo : P.info? tn = some i) (hcomp : i.comparable = true) :
  (binOp .eql ti (.iface tn (.int k a)) (.iface tn (.int k b))).run P w = .ok (.bool (a == b)) w := by
 simp only [binOp]
 simp [Op.equal, Op.maxDepth, run_equalIn_iface_int w 9998 a b hi hn hinfo hcomp]
end
theorem Tryz.comp25 : (Tryz.prog.info? 40).map (·.comparable) = some true := by kernel_rfl
theorem eq_err (a b : Int) (w : World) : (binOp .eql 28 (errV a) (errV b)).run Tryz.prog w = .ok (.bool (a == b)) w := by
 obtain ⟨i, hi, hcmp⟩ := Option.map_eq_some_iff.1 Tryz.comp25
 exact run_eql_iface_int w a b Tryz.underlying28 Tryz.underlying40 hi hcmp
def Miss (w : World) (e : Ending) (w' : World) : Prop := e = .returned (.bool false) ∧ Below w.heap.size w w'
theorem rls (v x : Value) : ReflectliteValue.set #[v, x] = (do
  let (some (dst, a, fl), some (src, b, _)) := (← ReflectliteValue.parts v, ← ReflectliteValue.parts x)
   | unsupported (.noEntry "extern/(internal/reflectlite.Value).Set.zeroValue")
  if fl / ReflectliteValue.flagAddr % 2 == 0 then unsupported (.noEntry "extern/(internal/reflectlite.Value).Set.unaddressable")
  let val ← loadVar src b
  if ← Rtype.directlyAssignable dst src then storeVar dst a val
  else if ← Rtype.implements dst src then
   if (← Rtype.kind src) == 20 then
    match val with
    | .nilIface => unsupported (.noEntry "extern/reflectlite: a nil value of one interface type handed on as a value of another")
    | _ => storeVar dst a val
   else storeVar dst a (.iface src val)
  else panicString ("reflectlite.Set: value of type " ++ (← Rtype.spelt src) ++ " is not assignable to type " ++ (← Rtype.spelt dst))
  pure (.tuple #[])) := rfl
theorem Tryz.set25 (tb b : Nat) (n : Int) (old : Value) (W : World) (hb : W.cell? ⟨b, 0, none⟩ = some (.int .i64 n)) (ht : W.cell? ⟨tb, 0, none⟩ = some old) (hf : W.frozen? ⟨tb, 0, none⟩ = false) :
  (ReflectliteValue.set #[.agg #[.pointer (some ⟨1, 40, none⟩), .pointer (some ⟨tb, 0, none⟩), .int .u64 386], .agg #[.pointer (some ⟨1, 40, none⟩), .pointer (some ⟨b, 0, none⟩), .int .u64 130]]).run Tryz.prog W
   = .ok (.tuple #[]) (W.setCell ⟨tb, 0, none⟩ (.int .i64 n)) := by
 rw [rls]
 simp only [Sem.run_bind, Tryz.parts25a, Tryz.parts25, Result.andThen]
 simp [ReflectliteValue.flagAddr, loadVar, isAgg, underlying, Tryz.underlying40, hb, Result.andThen, Tryz.direct25, storeVar, Value.cells, storeCells, Addr.add]
 rw [run_store Tryz.prog W ⟨tb, 0, none⟩ _ _ (by rfl)]
 simp [ht, hf]
theorem chain_iface (l : List (ByteArray × Int)) (T : TypeId) (x : Value) : ∃ U y, chain l (.iface T x) = .iface U y := by
 cases l with
 | nil => exact ⟨_, _, rfl⟩
 | cons p l => exact ⟨_, _, rfl⟩
theorem unwrap (s : ByteArray) (n : Int) (T : TypeId) (x : Value) (w : World) :
  Calls Tryz.prog 225 #[.agg #[.string s, .int .i64 n, .iface T x]] w fun e w' => e = .returned (.iface T x) ∧ w' = w.alloc (.cells #[.string s, .int .i64 n, .iface T x] 103) := by
 go_enter Tryz.func225, Tryz.ntmps225
 go_wp2
 go_ret
 exact ⟨rfl, rfl⟩
def Rel (b box : Value) (vb : Nat) (w : World) (v : Value) (wr : World) : Prop :=
 ∃ l, v = chain l b ∧ Below (w.heap.size + 1) (w.alloc (.cells #[box, .pointer (some ⟨vb, 0, none⟩), .int .u64 150] 116)) wr
def AsHit25 (k : Int) (tb : Nat) (w : World) (e : Ending) (w' : World) : Prop :=
 e = .returned (.bool true) ∧ ∃ w1, Below w.heap.size w w1 ∧ w' = w1.setCell ⟨tb, 0, none⟩ (.int .i64 k)
theorem as25_hit (l : List (ByteArray × Int)) (k : Int) (tb vb : Nat) (o0 : Value) (w : World) (v : Value) (hc : v = chain l (errV k)) 
  (hv : w.cell? ⟨vb, 0, none⟩ = some (.pointer (some ⟨tb, 0, none⟩))) (ht0 : w.cell? ⟨tb, 0, none⟩ = some o0) (hf0 : w.frozen? ⟨tb, 0, none⟩ = false) :
  Calls Tryz.prog 71 #[v, .iface 84 (.pointer (some ⟨tb, 0, none⟩)), .agg #[.pointer (some ⟨1, 84, none⟩), .pointer (some ⟨vb, 0, none⟩), .int .u64 150], .iface 161 (.agg #[.pointer (some ⟨1, 40, none⟩)])] w (AsHit25 k tb w) := by
 have h17 := @run_callFunc_extern Tryz.prog 72 _ ReflectliteType.typeOf Tryz.func72 (by kernel_rfl) (by kernel_rfl) (by kernel_rfl) (by kernel_rfl)
 have h19 := @run_callFunc_extern Tryz.prog 68 _ (fun args => ReflectliteValue.unpack (args.getD 0 (.tuple #[]))) Tryz.func68 (by kernel_rfl) (by kernel_rfl) (by kernel_rfl) (by kernel_rfl)
 have h23 := @run_callFunc_extern Tryz.prog 97 _ (ReflectliteValue.method (ReflectliteValue.valueError "reflectlite.Value.Elem" 0) ReflectliteValue.elem) Tryz.func97 (by kernel_rfl) (by kernel_rfl) (by kernel_rfl) (by kernel_rfl)
 have h24 := @run_callFunc_extern Tryz.prog 98 _ ReflectliteValue.set Tryz.func98 (by kernel_rfl) (by kernel_rfl) (by kernel_rfl) (by kernel_rfl)
 have h51 := @run_callFunc_extern Tryz.prog 230 _ (ReflectliteType.relation "AssignableTo" ReflectliteType.assignableTo) Tryz.func230 (by kernel_rfl) (by kernel_rfl) (by kernel_rfl) (by kernel_rfl)
 have t25 := Tryz.typeOf25
 have t47 := Tryz.typeOf47
 have mA := Tryz.methodAssignableTo
 have a1 := Tryz.assignable25to25
 have a2 := Tryz.assignable47to25
 have v0 := Tryz.valueOf25
 have n1 := Tryz.noAs47
 have n2 := Tryz.hasUnwrap47
 have mU := Tryz.methodUnwrap
 go_enter Tryz.func71, Tryz.ntmps71
 go_wp2
 go_loopw [0] (fun v wr => Rel (errV k) (.pointer (some ⟨1, 84, none⟩)) vb w v wr) (fun v _ => SizeOf.sizeOf v)
 case atStart => exact ⟨l, hc, Below.refl _ _⟩
 case round =>
  obtain ⟨l, rfl, hB⟩ := hrel
  have htl : tb < w.heap.size := by
   rcases Nat.lt_or_ge tb w.heap.size with h | h
   ·exact h
   ·simp [World.cell?, Array.getElem?_eq_none h] at ht0
  have hvl : vb < w.heap.size := by
   rcases Nat.lt_or_ge vb w.heap.size with h | h
   ·exact h
   ·simp [World.cell?, Array.getElem?_eq_none h] at hv
  have hsz : w.heap.size + 1 ≤ wr.heap.size := by have := hB.size; simp only [World.size_alloc] at this; exact this
  have b0 : wr.cell? ⟨w.heap.size, 0, none⟩ = some (.pointer (some ⟨1, 84, none⟩)) := by rw [hB.cell (by simp)]; simp
  have b1 : wr.cell? ⟨w.heap.size, 1, none⟩ = some (.pointer (some ⟨vb, 0, none⟩)) := by rw [hB.cell (by simp)]; simp
  have b2 : wr.cell? ⟨w.heap.size, 2, none⟩ = some (.int .u64 150) := by rw [hB.cell (by simp)]; simp
  have hv' : wr.cell? ⟨vb, 0, none⟩ = some (.pointer (some ⟨tb, 0, none⟩)) := by rw [hB.cell (by show vb < _; omega), World.cell?_alloc_lt _ _ ⟨vb, 0, none⟩ hvl]; exact hv
  have ht0' : wr.cell? ⟨tb, 0, none⟩ = some o0 := by rw [hB.cell (by show tb < _; omega), World.cell?_alloc_lt _ _ ⟨tb, 0, none⟩ htl]; exact ht0
  have hf0' : wr.frozen? ⟨tb, 0, none⟩ = false := by rw [hB.frozen (by show tb < _; omega), World.frozen?_alloc_old _ _ ⟨tb, 0, none⟩ (Nat.ne_of_lt htl)]; exact hf0
  cases l with
  | nil =>
   have el := Tryz.elemV51 ⟨vb, 0, none⟩ ⟨tb, 0, none⟩ wr hv'; have st := Tryz.set25 tb wr.heap.size k o0 (wr.alloc (.cells #[.int .i64 k] 40)) (by simp) (by rw [World.cell?_alloc_lt _ _ ⟨tb, 0, none⟩ (by show tb < _; omega)]; exact ht0') (by rw [World.frozen?_alloc_old _ _ ⟨tb, 0, none⟩ (by show tb ≠ _; omega)]; exact hf0'); simp only [chain, errV]
   go_wp2
   go_ret; exact ⟨rfl, _, ((Below.refl _ _).alloc (Nat.le_refl _) _).trans ((hB.mono (by omega)).alloc (by omega) _), rfl⟩
  | cons p l =>
   obtain ⟨U, y, hy⟩ := chain_iface l 40 (.int .i64 k); simp only [chain, wrapV]
   change chain l (errV k) = _ at hy
   rw [hy]; have Hy := Lib.hid hy; clear hy; go_wp2_with (go_at_call 225; refine (unwrap _ _ _ _ _).mono ?_; rintro e w' ⟨rfl, rfl⟩)
   go_roundw
   case rel => exact ⟨l, Hy.out.symm, hB.alloc (by omega) _⟩
   case measure => exact wrapV_size _ _ _
theorem as25_miss29 (l : List (ByteArray × Int)) (a b c : Int) (tb vb : Nat) (w : World) (v : Value) (hc : v = chain l (lossV a b c)) 
  (hv : w.cell? ⟨vb, 0, none⟩ = some (.pointer (some ⟨tb, 0, none⟩))) :
  Calls Tryz.prog 71 #[v, .iface 84 (.pointer (some ⟨tb, 0, none⟩)), .agg #[.pointer (some ⟨1, 84, none⟩), .pointer (some ⟨vb, 0, none⟩), .int .u64 150], .iface 161 (.agg #[.pointer (some ⟨1, 40, none⟩)])] w (Miss w) := by
 have h17 := @run_callFunc_extern Tryz.prog 72 _ ReflectliteType.typeOf Tryz.func72 (by kernel_rfl) (by kernel_rfl) (by kernel_rfl) (by kernel_rfl)
 have h51 := @run_callFunc_extern Tryz.prog 230 _ (ReflectliteType.relation "AssignableTo" ReflectliteType.assignableTo) Tryz.func230 (by kernel_rfl) (by kernel_rfl) (by kernel_rfl) (by kernel_rfl)
 have t29 := Tryz.typeOf29
 have t47 := Tryz.typeOf47
 have mA := Tryz.methodAssignableTo
 have a1 := Tryz.assignable29to25
 have a2 := Tryz.assignable47to25
 have n3 := Tryz.noAs29
 have n4 := Tryz.noUnwrap29
 have n5 := Tryz.noUnwraps29
 have n1 := Tryz.noAs47
 have n2 := Tryz.hasUnwrap47
 have mU := Tryz.methodUnwrap
 go_enter Tryz.func71, Tryz.ntmps71
 go_wp2
 go_loopw [0] (fun v wr => Rel (lossV a b c) (.pointer (some ⟨1, 84, none⟩)) vb w v wr) (fun v _ => SizeOf.sizeOf v)
 case atStart => exact ⟨l, hc, Below.refl _ _⟩
 case round =>
  obtain ⟨l, rfl, hB⟩ := hrel
  have hvl : vb < w.heap.size := by
   rcases Nat.lt_or_ge vb w.heap.size with h | h
   ·exact h
   ·simp [World.cell?, Array.getElem?_eq_none h] at hv
  have hsz : w.heap.size + 1 ≤ wr.heap.size := by have := hB.size; simp only [World.size_alloc] at this; exact this
  cases l with
  | nil =>
   simp only [chain, lossV]
   go_wp2
   go_ret; exact ⟨rfl, ((Below.refl _ _).alloc (Nat.le_refl _) _).trans (hB.mono (by omega))⟩
  | cons p l =>
   obtain ⟨U, y, hy⟩ := chain_iface l 52 (.agg #[.int .i64 a, .int .i64 b, .int .i64 c]); simp only [chain, wrapV]
   change chain l (lossV a b c) = _ at hy
   rw [hy]; have Hy := Lib.hid hy; clear hy; go_wp2_with (go_at_call 225; refine (unwrap _ _ _ _ _).mono ?_; rintro e w' ⟨rfl, rfl⟩)
   go_roundw
   case rel => exact ⟨l, Hy.out.symm, hB.alloc (by omega) _⟩
   case measure => exact wrapV_size _ _ _
theorem As_nil (t : Value) (w : World) : Calls Tryz.prog 41 #[.nilIface, t] w fun e w' => e = .returned (.bool false) ∧ w = w' := by
 go_enter Tryz.func41, Tryz.ntmps41
 go_wp2
 go_ret
 exact ⟨rfl, rfl⟩
theorem As25_hit (l : List (ByteArray × Int)) (k : Int) (tb : Nat) (o0 : Value) (w : World) (v : Value) (hc : v = chain l (errV k)) 
  (hg : w.cell? ⟨0, 0, none⟩ = some (.iface 161 (.agg #[.pointer (some ⟨1, 28, none⟩)]))) (ht0 : w.cell? ⟨tb, 0, none⟩ = some o0) (hf0 : w.frozen? ⟨tb, 0, none⟩ = false) :
  Calls Tryz.prog 41 #[v, .iface 84 (.pointer (some ⟨tb, 0, none⟩))] w (AsHit25 k tb w) := by
 have h19 := @run_callFunc_extern Tryz.prog 68 _ (fun args => ReflectliteValue.unpack (args.getD 0 (.tuple #[]))) Tryz.func68 (by kernel_rfl) (by kernel_rfl) (by kernel_rfl) (by kernel_rfl)
 have h20 := @run_callFunc_extern Tryz.prog 69 _ (ReflectliteValue.methodAny (ReflectliteValue.valueError "reflectlite.Value.Type" 0) (fun t _ _ _ => ReflectliteType.toType t)) Tryz.func69 (by kernel_rfl) (by kernel_rfl) (by kernel_rfl) (by kernel_rfl)
 have h21 := @run_callFunc_extern Tryz.prog 70 _ (ReflectliteValue.method (ReflectliteValue.valueError "reflectlite.Value.IsNil" 0) ReflectliteValue.isNil) Tryz.func70 (by kernel_rfl) (by kernel_rfl) (by kernel_rfl) (by kernel_rfl)
 have h39 := @run_callFunc_extern Tryz.prog 217 _ (ReflectliteType.abiMethod fun t => do pure (.int .u8 (← Rtype.kind t))) Tryz.func217 (by kernel_rfl) (by kernel_rfl) (by kernel_rfl) (by kernel_rfl)
 have h53 := @run_callFunc_extern Tryz.prog 232 _ (ReflectliteType.method ReflectliteType.elem) Tryz.func232 (by kernel_rfl) (by kernel_rfl) (by kernel_rfl) (by kernel_rfl)
 have h54 := @run_callFunc_extern Tryz.prog 233 _ (ReflectliteType.relation "Implements" ReflectliteType.implements_) Tryz.func233 (by kernel_rfl) (by kernel_rfl) (by kernel_rfl) (by kernel_rfl)
 have mK := Tryz.methodKind
 have mE := Tryz.methodElem
 have mI := Tryz.methodImplements
 have f19 := Tryz.valueOf51
 have f20 := Tryz.type51
 have k1 := Tryz.kind51
 have k2 := Tryz.kind25
 have e1 := Tryz.elem51
 have i1 := Tryz.implements25
 have n8 := Tryz.isNil51 ⟨w.heap.size, 0, none⟩ ⟨tb, 0, none⟩ ((w.alloc (.cells #[.pointer (some ⟨tb, 0, none⟩)] 84)).alloc (.cells #[.pointer (some ⟨1, 84, none⟩), .pointer (some ⟨w.heap.size, 0, none⟩), .int .u64 150] 116)) (by simp)
 have hlt : 0 < w.heap.size := by
  rcases Nat.eq_zero_or_pos w.heap.size with h0 | h
  ·simp [World.cell?, h0] at hg
  ·exact h
 have hg2 : ((w.alloc (.cells #[.pointer (some ⟨tb, 0, none⟩)] 84)).alloc (.cells #[.pointer (some ⟨1, 84, none⟩), .pointer (some ⟨w.heap.size, 0, none⟩), .int .u64 150] 116)).cell? ⟨0, 0, none⟩ = some (.iface 161 (.agg #[.pointer (some ⟨1, 28, none⟩)])) := by
  rw [World.cell?_alloc_lt _ _ ⟨0, 0, none⟩ (by simp), World.cell?_alloc_lt _ _ ⟨0, 0, none⟩ hlt]; exact hg
 have htl : tb < w.heap.size := by
  rcases Nat.lt_or_ge tb w.heap.size with h | h
  ·exact h
  ·simp [World.cell?, Array.getElem?_eq_none h] at ht0
 have ht0' : ((w.alloc (.cells #[.pointer (some ⟨tb, 0, none⟩)] 84)).alloc (.cells #[.pointer (some ⟨1, 84, none⟩), .pointer (some ⟨w.heap.size, 0, none⟩), .int .u64 150] 116)).cell? ⟨tb, 0, none⟩ = some o0 := by rw [World.cell?_alloc_lt _ _ ⟨tb, 0, none⟩ (by simp; omega), World.cell?_alloc_lt _ _ ⟨tb, 0, none⟩ htl]; exact ht0
 have hf0' : ((w.alloc (.cells #[.pointer (some ⟨tb, 0, none⟩)] 84)).alloc (.cells #[.pointer (some ⟨1, 84, none⟩), .pointer (some ⟨w.heap.size, 0, none⟩), .int .u64 150] 116)).frozen? ⟨tb, 0, none⟩ = false := by rw [World.frozen?_alloc_old _ _ ⟨tb, 0, none⟩ (by simp; omega), World.frozen?_alloc_old _ _ ⟨tb, 0, none⟩ (Nat.ne_of_lt htl)]; exact hf0
 have hv2 : ((w.alloc (.cells #[.pointer (some ⟨tb, 0, none⟩)] 84)).alloc (.cells #[.pointer (some ⟨1, 84, none⟩), .pointer (some ⟨w.heap.size, 0, none⟩), .int .u64 150] 116)).cell? ⟨w.heap.size, 0, none⟩ = some (.pointer (some ⟨tb, 0, none⟩)) := by simp
 obtain ⟨U, y, hy⟩ := chain_iface l 40 (.int .i64 k)
 obtain rfl : v = .iface U y := hc.trans hy
 have Hc := Lib.hid hc; clear hc hy
 have hB0 := Lib.hid (((Below.refl w.heap.size w).alloc (Nat.le_refl _) (.cells #[.pointer (some ⟨tb, 0, none⟩)] 84)).alloc (by simp) (.cells #[.pointer (some ⟨1, 84, none⟩), .pointer (some ⟨w.heap.size, 0, none⟩), .int .u64 150] 116))
 go_enter Tryz.func41, Tryz.ntmps41
 go_wp2_with (go_at_call 71; refine (as25_hit l k tb _ o0 _ _ Hc.out hv2 ht0' hf0').mono ?_; rintro e w' ⟨rfl, w1, hb1, rfl⟩)
 go_ret
 exact ⟨rfl, w1, hB0.out.trans (hb1.mono (by simp; omega)), rfl⟩
theorem As25_miss29 (l : List (ByteArray × Int)) (a b c : Int) (tb : Nat) (w : World) (v : Value) (hc : v = chain l (lossV a b c)) 
  (hg : w.cell? ⟨0, 0, none⟩ = some (.iface 161 (.agg #[.pointer (some ⟨1, 28, none⟩)]))) :
  Calls Tryz.prog 41 #[v, .iface 84 (.pointer (some ⟨tb, 0, none⟩))] w (Miss w) := by
 have h19 := @run_callFunc_extern Tryz.prog 68 _ (fun args => ReflectliteValue.unpack (args.getD 0 (.tuple #[]))) Tryz.func68 (by kernel_rfl) (by kernel_rfl) (by kernel_rfl) (by kernel_rfl)
 have h20 := @run_callFunc_extern Tryz.prog 69 _ (ReflectliteValue.methodAny (ReflectliteValue.valueError "reflectlite.Value.Type" 0) (fun t _ _ _ => ReflectliteType.toType t)) Tryz.func69 (by kernel_rfl) (by kernel_rfl) (by kernel_rfl) (by kernel_rfl)
 have h21 := @run_callFunc_extern Tryz.prog 70 _ (ReflectliteValue.method (ReflectliteValue.valueError "reflectlite.Value.IsNil" 0) ReflectliteValue.isNil) Tryz.func70 (by kernel_rfl) (by kernel_rfl) (by kernel_rfl) (by kernel_rfl)
 have h39 := @run_callFunc_extern Tryz.prog 217 _ (ReflectliteType.abiMethod fun t => do pure (.int .u8 (← Rtype.kind t))) Tryz.func217 (by kernel_rfl) (by kernel_rfl) (by kernel_rfl) (by kernel_rfl)
 have h53 := @run_callFunc_extern Tryz.prog 232 _ (ReflectliteType.method ReflectliteType.elem) Tryz.func232 (by kernel_rfl) (by kernel_rfl) (by kernel_rfl) (by kernel_rfl)
 have h54 := @run_callFunc_extern Tryz.prog 233 _ (ReflectliteType.relation "Implements" ReflectliteType.implements_) Tryz.func233 (by kernel_rfl) (by kernel_rfl) (by kernel_rfl) (by kernel_rfl)
 have mK := Tryz.methodKind
 have mE := Tryz.methodElem
 have mI := Tryz.methodImplements
 have f19 := Tryz.valueOf51
 have f20 := Tryz.type51
 have k1 := Tryz.kind51
 have k2 := Tryz.kind25
 have e1 := Tryz.elem51
 have i1 := Tryz.implements25
 have n8 := Tryz.isNil51 ⟨w.heap.size, 0, none⟩ ⟨tb, 0, none⟩ ((w.alloc (.cells #[.pointer (some ⟨tb, 0, none⟩)] 84)).alloc (.cells #[.pointer (some ⟨1, 84, none⟩), .pointer (some ⟨w.heap.size, 0, none⟩), .int .u64 150] 116)) (by simp)
 have hlt : 0 < w.heap.size := by
  rcases Nat.eq_zero_or_pos w.heap.size with h0 | h
  ·simp [World.cell?, h0] at hg
  ·exact h
 have hg2 : ((w.alloc (.cells #[.pointer (some ⟨tb, 0, none⟩)] 84)).alloc (.cells #[.pointer (some ⟨1, 84, none⟩), .pointer (some ⟨w.heap.size, 0, none⟩), .int .u64 150] 116)).cell? ⟨0, 0, none⟩ = some (.iface 161 (.agg #[.pointer (some ⟨1, 28, none⟩)])) := by
  rw [World.cell?_alloc_lt _ _ ⟨0, 0, none⟩ (by simp), World.cell?_alloc_lt _ _ ⟨0, 0, none⟩ hlt]; exact hg
 have hv2 : ((w.alloc (.cells #[.pointer (some ⟨tb, 0, none⟩)] 84)).alloc (.cells #[.pointer (some ⟨1, 84, none⟩), .pointer (some ⟨w.heap.size, 0, none⟩), .int .u64 150] 116)).cell? ⟨w.heap.size, 0, none⟩ = some (.pointer (some ⟨tb, 0, none⟩)) := by simp
 obtain ⟨U, y, hy⟩ := chain_iface l 52 (.agg #[.int .i64 a, .int .i64 b, .int .i64 c])
 obtain rfl : v = .iface U y := hc.trans hy
 have Hc := Lib.hid hc; clear hc hy
 have hB0 := Lib.hid (((Below.refl w.heap.size w).alloc (Nat.le_refl _) (.cells #[.pointer (some ⟨tb, 0, none⟩)] 84)).alloc (by simp) (.cells #[.pointer (some ⟨1, 84, none⟩), .pointer (some ⟨w.heap.size, 0, none⟩), .int .u64 150] 116))
 go_enter Tryz.func41, Tryz.ntmps41
 go_wp2_with (go_at_call 71; refine (as25_miss29 l a b c tb _ _ _ Hc.out hv2).mono ?_; rintro e w' ⟨rfl, hb1⟩)
 go_ret
 exact ⟨rfl, hB0.out.trans (hb1.mono (by simp; omega))⟩
end Go.Proofs.YtilljaneegbhlaaGreatDoor
