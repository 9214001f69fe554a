/-
  The law stavelaw14.TapeGap (a stripe that is used behind one that isn't is a loss, and is told by its number; nothing is made of what is there) returns true for all numbers, and leaves all memory that was there as it was.
  Conditions: none but the row's own; the one package-level variable that it reads, errors.errorType, is tied to the program's text by the card. The card speaks of the pruned copy of the project that the seat names.
-/
import Derived.Test.YtilljaneegbhlaaGreatDoorZBase
import Derived.Test.YtilljaneegbhlaaGreatDoorZLaw
import Derived.Test.YtilljaneegbhlaaGreatDoorPB
import Derived.Deep.RegionHeld3
import Derived.Laws.StructEq
import Derived.WalkKit
import Derived.LaidEql
import Derived.Stop.Asserts
import Derived.RowKitTokens
import Derived.Handy
import Derived.Lib.Hide
import Derived.Outline
namespace Go.Proofs.YtilljaneegbhlaaGreatDoor
open Go.RowKit Go.Extern.Stop Go.Stop Go.Extern
theorem Tryz.valueOf50 (t : Addr) (w : World) : (ReflectliteValue.unpack (.iface 92 (.pointer (some t)))).run Tryz.prog w
    = .ok (.agg #[.pointer (some ⟨1, 92, none⟩), .pointer (some ⟨w.heap.size, 0, none⟩), .int .u64 150]) (w.alloc (.cells #[.pointer (some t)] 92)) := by kernel_rfl
theorem Tryz.type50 (a : Addr) (w : World) : (ReflectliteValue.methodAny (ReflectliteValue.valueError "reflectlite.Value.Type" 0) (fun t _ _ _ => ReflectliteType.toType t) #[(.agg #[.pointer (some ⟨1, 92, none⟩), .pointer (some a), .int .u64 150])]).run Tryz.prog w
    = .ok (.iface 161 (.agg #[.pointer (some ⟨1, 92, none⟩)])) w := by kernel_rfl
theorem Tryz.kind50 (w : World) : ((ReflectliteType.abiMethod fun t => (fun a : Nat => Value.int IntKind.u8 (a : Int)) <$> Rtype.kind t) #[.pointer (some ⟨1, 92, none⟩)]).run Tryz.prog w = .ok (.int .u8 22) w := by kernel_rfl
theorem Tryz.kind29 (w : World) : ((ReflectliteType.abiMethod fun t => (fun a : Nat => Value.int IntKind.u8 (a : Int)) <$> Rtype.kind t) #[.pointer (some ⟨1, 52, none⟩)]).run Tryz.prog w = .ok (.int .u8 25) w := by kernel_rfl
theorem Tryz.parts50 (a : Addr) (w : World) : (ReflectliteValue.parts (.agg #[.pointer (some ⟨1, 92, none⟩), .pointer (some a), .int .u64 150])).run Tryz.prog w = .ok (some (92, a, 150)) w := by kernel_rfl
theorem Tryz.isNil50 (a p : Addr) (W : World) (ha : W.cell? a = some (.pointer (some p))) :
    (ReflectliteValue.method (ReflectliteValue.valueError "reflectlite.Value.IsNil" 0) ReflectliteValue.isNil #[(.agg #[.pointer (some ⟨1, 92, none⟩), .pointer (some a), .int .u64 150])]).run Tryz.prog W = .ok (.bool false) W := by
  rw [rlm]
  simp only [Sem.run_bind, Tryz.parts50, Result.andThen]
  simp [ReflectliteValue.isNil, loadVar, isAgg, underlying, Tryz.underlying92, ha, Result.andThen]
theorem Tryz.elem50 (w : World) : (ReflectliteType.method ReflectliteType.elem #[.agg #[.pointer (some ⟨1, 92, none⟩)]]).run Tryz.prog w = .ok (.iface 161 (.agg #[.pointer (some ⟨1, 52, none⟩)])) w := by kernel_rfl
theorem Tryz.implements29 (w : World) : (ReflectliteType.relation "Implements" ReflectliteType.implements_ #[.agg #[.pointer (some ⟨1, 52, none⟩)], .iface 161 (.agg #[.pointer (some ⟨1, 28, none⟩)])]).run Tryz.prog w = .ok (.bool true) w := by kernel_rfl
theorem Tryz.elemOf50 (w : World) : (Rtype.elem? 92).run Tryz.prog w = .ok (some 52) w := by kernel_rfl
theorem Tryz.mk29 (p : Addr) (w : World) : (ReflectliteValue.mk 52 p ReflectliteValue.flagAddr).run Tryz.prog w = .ok (.agg #[.pointer (some ⟨1, 52, none⟩), .pointer (some p), .int .u64 409]) w := by kernel_rfl
theorem Tryz.elemV50 (a p : Addr) (W : World) (ha : W.cell? a = some (.pointer (some p))) :
    (ReflectliteValue.method (ReflectliteValue.valueError "reflectlite.Value.Elem" 0) ReflectliteValue.elem #[(.agg #[.pointer (some ⟨1, 92, none⟩), .pointer (some a), .int .u64 150])]).run Tryz.prog W
      = .ok (.agg #[.pointer (some ⟨1, 52, none⟩), .pointer (some p), .int .u64 409]) W := by
  rw [rlm]
  simp only [Sem.run_bind, Tryz.parts50, Result.andThen]
  simp [ReflectliteValue.elem, loadVar, isAgg, underlying, Tryz.underlying92, ha, Result.andThen, Tryz.elemOf50, Tryz.mk29]
theorem Tryz.parts29a (a : Addr) (w : World) : (ReflectliteValue.parts (.agg #[.pointer (some ⟨1, 52, none⟩), .pointer (some a), .int .u64 409])).run Tryz.prog w = .ok (some (52, a, 409)) w := by kernel_rfl
theorem Tryz.parts29 (a : Addr) (w : World) : (ReflectliteValue.parts (.agg #[.pointer (some ⟨1, 52, none⟩), .pointer (some a), .int .u64 153])).run Tryz.prog w = .ok (some (52, a, 153)) w := by kernel_rfl
theorem Tryz.direct29 (w : World) : (Rtype.directlyAssignable 52 52).run Tryz.prog w = .ok true w := by kernel_rfl
theorem Tryz.assignable29to29 (w : World) : (ReflectliteType.relation "AssignableTo" ReflectliteType.assignableTo #[.agg #[.pointer (some ⟨1, 52, none⟩)], .iface 161 (.agg #[.pointer (some ⟨1, 52, none⟩)])]).run Tryz.prog w = .ok (.bool true) w := by kernel_rfl
theorem Tryz.assignable47to29 (w : World) : (ReflectliteType.relation "AssignableTo" ReflectliteType.assignableTo #[.agg #[.pointer (some ⟨1, 103, none⟩)], .iface 161 (.agg #[.pointer (some ⟨1, 52, none⟩)])]).run Tryz.prog w = .ok (.bool false) w := by kernel_rfl
theorem Tryz.valueOf29 (a b c : Int) (w : World) : (ReflectliteValue.unpack (.iface 52 (.agg #[.int .i64 a, .int .i64 b, .int .i64 c]))).run Tryz.prog w
    = .ok (.agg #[.pointer (some ⟨1, 52, none⟩), .pointer (some ⟨w.heap.size, 0, none⟩), .int .u64 153]) (w.alloc (.cells #[.int .i64 a, .int .i64 b, .int .i64 c] 52)) := by kernel_rfl
theorem Tryz.load29 (b : Nat) (x y z : Int) (W : World) (h0 : W.cell? ⟨b, 0, none⟩ = some (.int .i64 x)) (h1 : W.cell? ⟨b, 1, none⟩ = some (.int .i64 y)) (h2 : W.cell? ⟨b, 2, none⟩ = some (.int .i64 z)) :
    (loadVar 52 ⟨b, 0, none⟩).run Tryz.prog W = .ok (.agg #[.int .i64 x, .int .i64 y, .int .i64 z]) W := by
  simp [loadVar, isAgg, underlying, Tryz.underlying52, Result.andThen, loadCells, loadCellsFrom, Addr.add, h0, h1, h2]
theorem store3 {P : Program} (tb : Nat) (u0 u1 u2 o0 o1 o2 : Value) (W : World) (c0 : u0.oneCell' = true) (c1 : u1.oneCell' = true) (c2 : u2.oneCell' = true)
    (h0 : W.cell? ⟨tb, 0, none⟩ = some o0) (h1 : W.cell? ⟨tb, 1, none⟩ = some o1) (h2 : W.cell? ⟨tb, 2, none⟩ = some o2)
    (f0 : W.frozen? ⟨tb, 0, none⟩ = false) (f1 : W.frozen? ⟨tb, 1, none⟩ = false) (f2 : W.frozen? ⟨tb, 2, none⟩ = false) :
    (storeCells ⟨tb, 0, none⟩ [u0, u1, u2]).run P W = .ok () (((W.setCell ⟨tb, 0, none⟩ u0).setCell ⟨tb, 1, none⟩ u1).setCell ⟨tb, 2, none⟩ u2) := by
  have n1 : (⟨tb, 0, none⟩ : Addr) ≠ ⟨tb, 1, none⟩ := by simp
  have n2 : (⟨tb, 0, none⟩ : Addr) ≠ ⟨tb, 2, none⟩ := by simp
  have n3 : (⟨tb, 1, none⟩ : Addr) ≠ ⟨tb, 2, none⟩ := by simp
  simp only [storeCells, Addr.add, Nat.zero_add, Sem.run_bind, Nat.reduceAdd, ↓reduceIte, Nat.reduceEqDiff, Nat.succ_ne_self]
  rw [run_store P W ⟨tb, 0, none⟩ _ _ c0]
  simp [h0, f0, Result.andThen]
  rw [run_store P _ ⟨tb, 1, none⟩ _ _ c1]
  simp [f1, World.cell?_setCell_other (h := n1), h1]
  rw [run_store P _ ⟨tb, 2, none⟩ _ _ c2]
  simp [f2, World.cell?_setCell_other (h := n2), World.cell?_setCell_other (h := n3), h2]
theorem Tryz.set29 (tb b : Nat) (x y z : Int) (o0 o1 o2 : Value) (W : World) (b0 : W.cell? ⟨b, 0, none⟩ = some (.int .i64 x)) (b1 : W.cell? ⟨b, 1, none⟩ = some (.int .i64 y)) (b2 : W.cell? ⟨b, 2, none⟩ = some (.int .i64 z))
    (h0 : W.cell? ⟨tb, 0, none⟩ = some o0) (h1 : W.cell? ⟨tb, 1, none⟩ = some o1) (h2 : W.cell? ⟨tb, 2, none⟩ = some o2)
    (f0 : W.frozen? ⟨tb, 0, none⟩ = false) (f1 : W.frozen? ⟨tb, 1, none⟩ = false) (f2 : W.frozen? ⟨tb, 2, none⟩ = false) :
    (ReflectliteValue.set #[.agg #[.pointer (some ⟨1, 52, none⟩), .pointer (some ⟨tb, 0, none⟩), .int .u64 409], .agg #[.pointer (some ⟨1, 52, none⟩), .pointer (some ⟨b, 0, none⟩), .int .u64 153]]).run Tryz.prog W
      = .ok (.tuple #[]) (((W.setCell ⟨tb, 0, none⟩ (.int .i64 x)).setCell ⟨tb, 1, none⟩ (.int .i64 y)).setCell ⟨tb, 2, none⟩ (.int .i64 z)) := by
  rw [rls]
  simp only [Sem.run_bind, Tryz.parts29a, Tryz.parts29, Result.andThen]
  simp [ReflectliteValue.flagAddr, Tryz.load29 b x y z W b0 b1 b2, Result.andThen, Tryz.direct29, storeVar, Value.cells]
  rw [store3 tb (.int .i64 x) (.int .i64 y) (.int .i64 z) o0 o1 o2 W rfl rfl rfl h0 h1 h2 f0 f1 f2]
def AsHit29 (a b c : Int) (tb : Nat) (w : World) (e : Ending) (w' : World) : Prop :=
  e = .returned (.bool true) ∧ ∃ w1, Below w.heap.size w w1 ∧ w' = ((w1.setCell ⟨tb, 0, none⟩ (.int .i64 a)).setCell ⟨tb, 1, none⟩ (.int .i64 b)).setCell ⟨tb, 2, none⟩ (.int .i64 c)
set_option maxHeartbeats 1000000 in
theorem as29_hit (l : List (ByteArray × Int)) (a b c : Int) (tb vb : Nat) (o0 o1 o2 : Value) (w : World) (v : Value) (hc : v = chain l (lossV a b c)) 
    (hv : w.cell? ⟨vb, 0, none⟩ = some (.pointer (some ⟨tb, 0, none⟩))) (ht0 : w.cell? ⟨tb, 0, none⟩ = some o0) (ht1 : w.cell? ⟨tb, 1, none⟩ = some o1) (ht2 : w.cell? ⟨tb, 2, none⟩ = some o2) (hf0 : w.frozen? ⟨tb, 0, none⟩ = false) (hf1 : w.frozen? ⟨tb, 1, none⟩ = false) (hf2 : w.frozen? ⟨tb, 2, none⟩ = false) :
    Calls Tryz.prog 71 #[v, .iface 92 (.pointer (some ⟨tb, 0, none⟩)), .agg #[.pointer (some ⟨1, 92, none⟩), .pointer (some ⟨vb, 0, none⟩), .int .u64 150], .iface 161 (.agg #[.pointer (some ⟨1, 52, none⟩)])] w (AsHit29 a b c tb w) := by
  have h17 := @run_callFunc_extern Tryz.prog 72 _ ReflectliteType.typeOf Tryz.func72 (by kernel_rfl) (by kernel_rfl) (by kernel_rfl) (by kernel_rfl)
  have h19 := @run_callFunc_extern Tryz.prog 68 _ (fun args => ReflectliteValue.unpack (args.getD 0 (.tuple #[]))) Tryz.func68 (by kernel_rfl) (by kernel_rfl) (by kernel_rfl) (by kernel_rfl)
  have h23 := @run_callFunc_extern Tryz.prog 97 _ (ReflectliteValue.method (ReflectliteValue.valueError "reflectlite.Value.Elem" 0) ReflectliteValue.elem) Tryz.func97 (by kernel_rfl) (by kernel_rfl) (by kernel_rfl) (by kernel_rfl)
  have h24 := @run_callFunc_extern Tryz.prog 98 _ ReflectliteValue.set Tryz.func98 (by kernel_rfl) (by kernel_rfl) (by kernel_rfl) (by kernel_rfl)
  have h51 := @run_callFunc_extern Tryz.prog 230 _ (ReflectliteType.relation "AssignableTo" ReflectliteType.assignableTo) Tryz.func230 (by kernel_rfl) (by kernel_rfl) (by kernel_rfl) (by kernel_rfl)
  have t29 := Tryz.typeOf29
  have t47 := Tryz.typeOf47
  have mA := Tryz.methodAssignableTo
  have a1 := Tryz.assignable29to29
  have a2 := Tryz.assignable47to29
  have v0 := Tryz.valueOf29
  have n1 := Tryz.noAs47
  have n2 := Tryz.hasUnwrap47
  have mU := Tryz.methodUnwrap
  go_enter Tryz.func71, Tryz.ntmps71
  go_wp2
  go_loopw [0] (fun v wr => Rel (lossV a b c) (.pointer (some ⟨1, 92, none⟩)) vb w v wr) (fun v _ => SizeOf.sizeOf v)
  case atStart => exact ⟨l, hc, Below.refl _ _⟩
  case round =>
    obtain ⟨l, rfl, hB⟩ := hrel
    have htl : tb < w.heap.size := by
      rcases Nat.lt_or_ge tb w.heap.size with h | h
      · exact h
      · simp [World.cell?, Array.getElem?_eq_none h] at ht0
    have hvl : vb < w.heap.size := by
      rcases Nat.lt_or_ge vb w.heap.size with h | h
      · exact h
      · simp [World.cell?, Array.getElem?_eq_none h] at hv
    have hsz : w.heap.size + 1 ≤ wr.heap.size := by have := hB.size; simp only [World.size_alloc] at this; exact this
    have b0 : wr.cell? ⟨w.heap.size, 0, none⟩ = some (.pointer (some ⟨1, 92, none⟩)) := by rw [hB.cell (by simp)]; simp
    have b1 : wr.cell? ⟨w.heap.size, 1, none⟩ = some (.pointer (some ⟨vb, 0, none⟩)) := by rw [hB.cell (by simp)]; simp
    have b2 : wr.cell? ⟨w.heap.size, 2, none⟩ = some (.int .u64 150) := by rw [hB.cell (by simp)]; simp
    have hv' : wr.cell? ⟨vb, 0, none⟩ = some (.pointer (some ⟨tb, 0, none⟩)) := by rw [hB.cell (by show vb < _; omega), World.cell?_alloc_lt _ _ ⟨vb, 0, none⟩ hvl]; exact hv
    have ht0' : wr.cell? ⟨tb, 0, none⟩ = some o0 := by rw [hB.cell (by show tb < _; omega), World.cell?_alloc_lt _ _ ⟨tb, 0, none⟩ htl]; exact ht0
    have hf0' : wr.frozen? ⟨tb, 0, none⟩ = false := by rw [hB.frozen (by show tb < _; omega), World.frozen?_alloc_old _ _ ⟨tb, 0, none⟩ (Nat.ne_of_lt htl)]; exact hf0
    have ht1' : wr.cell? ⟨tb, 1, none⟩ = some o1 := by rw [hB.cell (by show tb < _; omega), World.cell?_alloc_lt _ _ ⟨tb, 1, none⟩ htl]; exact ht1
    have hf1' : wr.frozen? ⟨tb, 1, none⟩ = false := by rw [hB.frozen (by show tb < _; omega), World.frozen?_alloc_old _ _ ⟨tb, 1, none⟩ (Nat.ne_of_lt htl)]; exact hf1
    have ht2' : wr.cell? ⟨tb, 2, none⟩ = some o2 := by rw [hB.cell (by show tb < _; omega), World.cell?_alloc_lt _ _ ⟨tb, 2, none⟩ htl]; exact ht2
    have hf2' : wr.frozen? ⟨tb, 2, none⟩ = false := by rw [hB.frozen (by show tb < _; omega), World.frozen?_alloc_old _ _ ⟨tb, 2, none⟩ (Nat.ne_of_lt htl)]; exact hf2
    cases l with
    | nil =>
      have el := Tryz.elemV50 ⟨vb, 0, none⟩ ⟨tb, 0, none⟩ wr hv'
      have st := Tryz.set29 tb wr.heap.size a b c o0 o1 o2 (wr.alloc (.cells #[.int .i64 a, .int .i64 b, .int .i64 c] 52)) (by simp) (by simp) (by simp) (by rw [World.cell?_alloc_lt _ _ ⟨tb, 0, none⟩ (by show tb < _; omega)]; exact ht0') (by rw [World.cell?_alloc_lt _ _ ⟨tb, 1, none⟩ (by show tb < _; omega)]; exact ht1') (by rw [World.cell?_alloc_lt _ _ ⟨tb, 2, none⟩ (by show tb < _; omega)]; exact ht2') (by rw [World.frozen?_alloc_old _ _ ⟨tb, 0, none⟩ (by show tb ≠ _; omega)]; exact hf0') (by rw [World.frozen?_alloc_old _ _ ⟨tb, 1, none⟩ (by show tb ≠ _; omega)]; exact hf1') (by rw [World.frozen?_alloc_old _ _ ⟨tb, 2, none⟩ (by show tb ≠ _; omega)]; exact hf2')
      simp only [chain, lossV]
      go_wp2
      go_ret
      exact ⟨rfl, _, ((Below.refl _ _).alloc (Nat.le_refl _) _).trans ((hB.mono (by omega)).alloc (by omega) _), rfl⟩
    | cons p l =>
      obtain ⟨U, y, hy⟩ := chain_iface l 52 (.agg #[.int .i64 a, .int .i64 b, .int .i64 c])
      simp only [chain, wrapV]
      change chain l (lossV a b c) = _ at hy
      rw [hy]
      have Hy := Lib.hid hy; clear hy
      go_wp2_with (go_at_call 225; refine (unwrap _ _ _ _ _).mono ?_; rintro e w' ⟨rfl, rfl⟩)
      go_roundw
      case rel => exact ⟨l, Hy.out.symm, hB.alloc (by omega) _⟩
      case measure => exact wrapV_size _ _ _
set_option maxHeartbeats 1000000 in
theorem As29_hit (l : List (ByteArray × Int)) (a b c : Int) (tb : Nat) (o0 o1 o2 : Value) (w : World) (v : Value) (hc : v = chain l (lossV a b c)) 
    (hg : w.cell? ⟨0, 0, none⟩ = some (.iface 161 (.agg #[.pointer (some ⟨1, 28, none⟩)]))) (ht0 : w.cell? ⟨tb, 0, none⟩ = some o0) (ht1 : w.cell? ⟨tb, 1, none⟩ = some o1) (ht2 : w.cell? ⟨tb, 2, none⟩ = some o2) (hf0 : w.frozen? ⟨tb, 0, none⟩ = false) (hf1 : w.frozen? ⟨tb, 1, none⟩ = false) (hf2 : w.frozen? ⟨tb, 2, none⟩ = false) :
    Calls Tryz.prog 41 #[v, .iface 92 (.pointer (some ⟨tb, 0, none⟩))] w (AsHit29 a b c tb w) := by
  have h19 := @run_callFunc_extern Tryz.prog 68 _ (fun args => ReflectliteValue.unpack (args.getD 0 (.tuple #[]))) Tryz.func68 (by kernel_rfl) (by kernel_rfl) (by kernel_rfl) (by kernel_rfl)
  have h20 := @run_callFunc_extern Tryz.prog 69 _ (ReflectliteValue.methodAny (ReflectliteValue.valueError "reflectlite.Value.Type" 0) (fun t _ _ _ => ReflectliteType.toType t)) Tryz.func69 (by kernel_rfl) (by kernel_rfl) (by kernel_rfl) (by kernel_rfl)
  have h21 := @run_callFunc_extern Tryz.prog 70 _ (ReflectliteValue.method (ReflectliteValue.valueError "reflectlite.Value.IsNil" 0) ReflectliteValue.isNil) Tryz.func70 (by kernel_rfl) (by kernel_rfl) (by kernel_rfl) (by kernel_rfl)
  have h39 := @run_callFunc_extern Tryz.prog 217 _ (ReflectliteType.abiMethod fun t => do pure (.int .u8 (← Rtype.kind t))) Tryz.func217 (by kernel_rfl) (by kernel_rfl) (by kernel_rfl) (by kernel_rfl)
  have h53 := @run_callFunc_extern Tryz.prog 232 _ (ReflectliteType.method ReflectliteType.elem) Tryz.func232 (by kernel_rfl) (by kernel_rfl) (by kernel_rfl) (by kernel_rfl)
  have h54 := @run_callFunc_extern Tryz.prog 233 _ (ReflectliteType.relation "Implements" ReflectliteType.implements_) Tryz.func233 (by kernel_rfl) (by kernel_rfl) (by kernel_rfl) (by kernel_rfl)
  have mK := Tryz.methodKind
  have mE := Tryz.methodElem
  have mI := Tryz.methodImplements
  have f19 := Tryz.valueOf50
  have f20 := Tryz.type50
  have k1 := Tryz.kind50
  have k2 := Tryz.kind29
  have e1 := Tryz.elem50
  have i1 := Tryz.implements29
  have n8 := Tryz.isNil50 ⟨w.heap.size, 0, none⟩ ⟨tb, 0, none⟩ ((w.alloc (.cells #[.pointer (some ⟨tb, 0, none⟩)] 92)).alloc (.cells #[.pointer (some ⟨1, 92, none⟩), .pointer (some ⟨w.heap.size, 0, none⟩), .int .u64 150] 116)) (by simp)
  have hlt : 0 < w.heap.size := by
    rcases Nat.eq_zero_or_pos w.heap.size with h0 | h
    · simp [World.cell?, h0] at hg
    · exact h
  have hg2 : ((w.alloc (.cells #[.pointer (some ⟨tb, 0, none⟩)] 92)).alloc (.cells #[.pointer (some ⟨1, 92, none⟩), .pointer (some ⟨w.heap.size, 0, none⟩), .int .u64 150] 116)).cell? ⟨0, 0, none⟩ = some (.iface 161 (.agg #[.pointer (some ⟨1, 28, none⟩)])) := by
    rw [World.cell?_alloc_lt _ _ ⟨0, 0, none⟩ (by simp), World.cell?_alloc_lt _ _ ⟨0, 0, none⟩ hlt]; exact hg
  have htl : tb < w.heap.size := by
    rcases Nat.lt_or_ge tb w.heap.size with h | h
    · exact h
    · simp [World.cell?, Array.getElem?_eq_none h] at ht0
  have ht0' : ((w.alloc (.cells #[.pointer (some ⟨tb, 0, none⟩)] 92)).alloc (.cells #[.pointer (some ⟨1, 92, none⟩), .pointer (some ⟨w.heap.size, 0, none⟩), .int .u64 150] 116)).cell? ⟨tb, 0, none⟩ = some o0 := by rw [World.cell?_alloc_lt _ _ ⟨tb, 0, none⟩ (by simp; omega), World.cell?_alloc_lt _ _ ⟨tb, 0, none⟩ htl]; exact ht0
  have hf0' : ((w.alloc (.cells #[.pointer (some ⟨tb, 0, none⟩)] 92)).alloc (.cells #[.pointer (some ⟨1, 92, none⟩), .pointer (some ⟨w.heap.size, 0, none⟩), .int .u64 150] 116)).frozen? ⟨tb, 0, none⟩ = false := by rw [World.frozen?_alloc_old _ _ ⟨tb, 0, none⟩ (by simp; omega), World.frozen?_alloc_old _ _ ⟨tb, 0, none⟩ (Nat.ne_of_lt htl)]; exact hf0
  have ht1' : ((w.alloc (.cells #[.pointer (some ⟨tb, 0, none⟩)] 92)).alloc (.cells #[.pointer (some ⟨1, 92, none⟩), .pointer (some ⟨w.heap.size, 0, none⟩), .int .u64 150] 116)).cell? ⟨tb, 1, none⟩ = some o1 := by rw [World.cell?_alloc_lt _ _ ⟨tb, 1, none⟩ (by simp; omega), World.cell?_alloc_lt _ _ ⟨tb, 1, none⟩ htl]; exact ht1
  have hf1' : ((w.alloc (.cells #[.pointer (some ⟨tb, 0, none⟩)] 92)).alloc (.cells #[.pointer (some ⟨1, 92, none⟩), .pointer (some ⟨w.heap.size, 0, none⟩), .int .u64 150] 116)).frozen? ⟨tb, 1, none⟩ = false := by rw [World.frozen?_alloc_old _ _ ⟨tb, 1, none⟩ (by simp; omega), World.frozen?_alloc_old _ _ ⟨tb, 1, none⟩ (Nat.ne_of_lt htl)]; exact hf1
  have ht2' : ((w.alloc (.cells #[.pointer (some ⟨tb, 0, none⟩)] 92)).alloc (.cells #[.pointer (some ⟨1, 92, none⟩), .pointer (some ⟨w.heap.size, 0, none⟩), .int .u64 150] 116)).cell? ⟨tb, 2, none⟩ = some o2 := by rw [World.cell?_alloc_lt _ _ ⟨tb, 2, none⟩ (by simp; omega), World.cell?_alloc_lt _ _ ⟨tb, 2, none⟩ htl]; exact ht2
  have hf2' : ((w.alloc (.cells #[.pointer (some ⟨tb, 0, none⟩)] 92)).alloc (.cells #[.pointer (some ⟨1, 92, none⟩), .pointer (some ⟨w.heap.size, 0, none⟩), .int .u64 150] 116)).frozen? ⟨tb, 2, none⟩ = false := by rw [World.frozen?_alloc_old _ _ ⟨tb, 2, none⟩ (by simp; omega), World.frozen?_alloc_old _ _ ⟨tb, 2, none⟩ (Nat.ne_of_lt htl)]; exact hf2
  have hv2 : ((w.alloc (.cells #[.pointer (some ⟨tb, 0, none⟩)] 92)).alloc (.cells #[.pointer (some ⟨1, 92, none⟩), .pointer (some ⟨w.heap.size, 0, none⟩), .int .u64 150] 116)).cell? ⟨w.heap.size, 0, none⟩ = some (.pointer (some ⟨tb, 0, none⟩)) := by simp
  obtain ⟨U, y, hy⟩ := chain_iface l 52 (.agg #[.int .i64 a, .int .i64 b, .int .i64 c])
  obtain rfl : v = .iface U y := hc.trans hy
  have Hc := Lib.hid hc; clear hc hy
  have hB0 := Lib.hid (((Below.refl w.heap.size w).alloc (Nat.le_refl _) (.cells #[.pointer (some ⟨tb, 0, none⟩)] 92)).alloc (by simp) (.cells #[.pointer (some ⟨1, 92, none⟩), .pointer (some ⟨w.heap.size, 0, none⟩), .int .u64 150] 116))
  go_enter Tryz.func41, Tryz.ntmps41
  go_wp2_with (go_at_call 71; refine (as29_hit l a b c tb _ o0 o1 o2 _ _ Hc.out hv2 ht0' ht1' ht2' hf0' hf1' hf2').mono ?_; rintro e w' ⟨rfl, w1, hb1, rfl⟩)
  go_ret
  exact ⟨rfl, w1, hB0.out.trans (hb1.mono (by simp; omega)), rfl⟩
/-- A Loss and a bool, told. -/
def Told (a b c : Int) (x : Bool) (w : World) (e : Ending) (w' : World) : Prop := e = .returned (.tuple #[.agg #[.int .i64 a, .int .i64 b, .int .i64 c], .bool x]) ∧ Below w.heap.size w w'
set_option maxHeartbeats 1000000 in
theorem lost_loss (l : List (ByteArray × Int)) (a b c : Int) (w : World) (v : Value) (hc : v = chain l (lossV a b c)) (hg : Typ w) : Calls Tryz.prog 20 #[v] w (Told a b c true w) := by
  have hp := hg.pos
  have hB1 : Below w.heap.size w ((w.alloc (.cells #[.int .i64 0, .int .i64 0, .int .i64 0] 52)).alloc (.cells #[.int .i64 0, .int .i64 0, .int .i64 0] 52)) := ((Below.refl _ _).alloc (Nat.le_refl _) _).alloc (by simp) _
  have hg1 := hg.below hB1
  have As := As29_hit l a b c (w.heap.size + 1) (.int .i64 0) (.int .i64 0) (.int .i64 0) ((w.alloc (.cells #[.int .i64 0, .int .i64 0, .int .i64 0] 52)).alloc (.cells #[.int .i64 0, .int .i64 0, .int .i64 0] 52)) v hc hg1 (by simp) (by simp) (by simp) (by simp) (by simp) (by simp)
  have HAs := Lib.hid As; clear As
  obtain ⟨U, y, hy⟩ := chain_iface l 52 (.agg #[.int .i64 a, .int .i64 b, .int .i64 c])
  obtain rfl : v = .iface U y := hc.trans hy
  clear hc hy hg hg1
  have HB1 := Lib.hid hB1; clear hB1
  go_enter Tryz.func20, Tryz.ntmps20
  go_wp2_with fail
  refine HAs.out.mono ?_
  rintro e w' ⟨rfl, w1, hb, rfl⟩
  have n1 : (⟨w.heap.size + 1, 0, none⟩ : Addr) ≠ ⟨w.heap.size + 1, 1, none⟩ := by simp
  have n2 : (⟨w.heap.size + 1, 0, none⟩ : Addr) ≠ ⟨w.heap.size + 1, 2, none⟩ := by simp
  have n3 : (⟨w.heap.size + 1, 1, none⟩ : Addr) ≠ ⟨w.heap.size + 1, 2, none⟩ := by simp
  have c0 : w1.cell? ⟨w.heap.size + 1, 0, none⟩ = some (.int .i64 0) := by rw [hb.cell (by simp)]; simp
  have c1 : w1.cell? ⟨w.heap.size + 1, 1, none⟩ = some (.int .i64 0) := by rw [hb.cell (by simp)]; simp
  have c2 : w1.cell? ⟨w.heap.size + 1, 2, none⟩ = some (.int .i64 0) := by rw [hb.cell (by simp)]; simp
  have d0 : w1.cell? ⟨w.heap.size, 0, none⟩ = some (.int .i64 0) := by rw [hb.cell (by simp; omega)]; simp
  have d1 : w1.cell? ⟨w.heap.size, 1, none⟩ = some (.int .i64 0) := by rw [hb.cell (by simp; omega)]; simp
  have d2 : w1.cell? ⟨w.heap.size, 2, none⟩ = some (.int .i64 0) := by rw [hb.cell (by simp; omega)]; simp
  have f0 : ∀ i, w1.frozen? ⟨w.heap.size, i, none⟩ = false := fun i => by rw [hb.frozen (by simp; omega)]; simp
  have hfin : Below w.heap.size w w1 := HB1.out.trans (hb.mono (by simp; omega))
  clear hb
  go_wp2
  have m1 : (⟨w.heap.size, 0, none⟩ : Addr) ≠ ⟨w.heap.size, 1, none⟩ := by simp
  have m2 : (⟨w.heap.size, 0, none⟩ : Addr) ≠ ⟨w.heap.size, 2, none⟩ := by simp
  have m3 : (⟨w.heap.size, 1, none⟩ : Addr) ≠ ⟨w.heap.size, 2, none⟩ := by simp
  refine bodyPost_ret (v := .tuple #[.agg #[.int .i64 a, .int .i64 b, .int .i64 c], .bool true]) (by simp [results, Tryz.results20, go_sem, d0, d1, d2]) rfl ⟨rfl, ?_⟩
  exact (((((hfin.setCell (by simp) _).setCell (by simp) _).setCell (by simp) _).setCell (by simp) _).setCell (by simp) _).setCell (by simp) _
end Go.Proofs.YtilljaneegbhlaaGreatDoor
namespace Go.Proofs.YtilljaneegbhlaaGreatDoor
open Go.RowKit Go.Deep Crc Dk Qk Go.Maps Hf
theorem VW.belowB {w1 : World} {c : Lc} {cf : Cf} {n : Nat} {q : Rk} {g : Int} {down : Bool} {b B : Nat} {w w' : World} (h : VW w1 c cf n q g down b w) (hb : Below B w w') (hf : FarV B c n) (hB : b < B) (h1 : w1.heap.size ≤ B) : VW w1 c cf n q g down b w' :=
  ⟨⟨h.qs.rack.keep (hb.block _ hf.1.1) (hb.block _ hf.2) fun i hi => by
      have hi' : i < n := by have := h.nn; omega
      exact ⟨hb.block _ (hf.1.2 i hi').1, hb.block _ (hf.1.2 i hi').2.1, hb.block _ (hf.1.2 i hi').2.2⟩, h.qs.base.trans (hb.mono h1)⟩, h.nn, by unfold VB; rw [hb.block _ hB]; exact h.vb, h.farv, h.le⟩
theorem TW.belowB {w1 : World} {c : Lc} {cf : Cf} {n : Nat} {q : Rk} {g : Int} {down : Bool} {b t B : Nat} {u : Int} {w w' : World} (h : TW w1 c cf n q g down b t u w) (hb : Below B w w') (hf : FarV B c n) (hB : b < B) (ht : t < B) (h1 : w1.heap.size ≤ B) : TW w1 c cf n q g down b t u w' :=
  ⟨h.vw.belowB hb hf hB h1, by unfold TpB; rw [hb.block _ ht]; exact h.tp, h.farv, h.ne, h.le⟩
/-- A tape whose rack was worked on. -/
theorem TW.rc {w1 : World} {c : Lc} {cf : Cf} {n : Nat} {q q' : Rk} {g : Int} {down : Bool} {b t : Nat} {u : Int} {w w' : World} (h : TW w1 c cf n q g down b t u w) (hv : VW w1 c cf n q' g down b w') (hc : RC c n w w') : TW w1 c cf n q' g down b t u w' :=
  ⟨hv, h.tp.rcv h.farv h.ne (hc.rcv b), h.farv, h.ne, h.le⟩
theorem eql_loss (a b c : Int) (w : World) : (binOp .eql 52 (.agg #[.int .i64 a, .int .i64 b, .int .i64 c]) (.agg #[.int .i64 a, .int .i64 b, .int .i64 c])).run Tryz.prog w = .ok (.bool true) w := by
  rw [run_eql_struct, run_equalIn_struct w 9999 52 _ _ (by kernel_rfl) (by kernel_rfl)]
  simp [Program.fieldsOf, Op.eqFields, part, isAgg, underlying, Tryz.underlying52, Tryz.underlying3, Result.andThen, run_equalIn_int w 9998 3 .i64 .i64 _ _ Tryz.underlying3]
theorem tvol_any {t b : Nat} {u : Int} (w : World) (h : TpB t b u w) : Calls Tryz.prog 21 #[.pointer (some ⟨t, 0, none⟩)] w (fun e w' => e = .returned (.pointer (some ⟨b, 0, none⟩)) ∧ w = w') := by
  have c1 : w.cell? ⟨t, 0, none⟩ = some (.pointer (some ⟨b, 0, none⟩)) := h.cell 0
  clear h
  go_enter Tryz.func21, Tryz.ntmps21
  go_wp2_with fail
  go_ret
  exact ⟨rfl, rfl⟩
theorem fill_single {k : Nat} (hk : 1 ≤ k) {x : List UInt8} (h0 : 0 < x.length) (h1 : x.length ≤ 100) : fillL k [x] ≠ [] := by
  refine (fillL_fits (by simp) (fun e he => by rw [List.mem_singleton] at he; subst he; exact List.length_pos_iff.1 h0) ?_).2
  rw [show encE [x] = entB x ++ encE [] from rfl, List.length_append, entB_len, show (encE []).length = 0 from rfl]
  omega
theorem slbs_one {w : World} {u : Value} {x : List UInt8} (h : SlB w.heap.size w u x) : SlBs (w.alloc (.cells #[u] 37)).heap.size (w.alloc (.cells #[u] 37)) (.slice (some ⟨w.heap.size, 0, none⟩) 1 1) [x] := by
  refine Or.inr ⟨w.heap.size, 0, 1, rfl, by simp, fun i hi => ?_, by simp, by simp⟩
  match i with
  | 0 => exact ⟨u, new_cells _ _ _ 0 _ rfl, (h.below (one_below _ _)).wider (one_below _ _).size⟩
  | i + 1 => exact absurd hi (by simp)
theorem slb_byte (w : World) (x : UInt8) {v : Value} (hv : v = .int .u8 (x.toNat : Nat)) : SlB (w.alloc (.cells #[v] 5)).heap.size (w.alloc (.cells #[v] 5)) (.slice (some ⟨w.heap.size, 0, none⟩) 1 1) [x] :=
  (new_slb [x] rfl (by rw [hv]; rfl)).wider (by simp)
/-- A gap is found. -/
theorem load_gap {C G : Nat → Int} {B : Nat → List (List UInt8)} {T X : Nat} (hC : ∀ s, s < T → C s = 0) (h0 : 1 < G 0) (hm : ∀ s, 0 < s → s < X → G s ≤ 1) (hX : 1 < G X) (h1 : 1 < X) (hT : X < T) : (loadN C G B T).e = -1 ∧ (loadN C G B T).x = X := by
  have hl : ∀ m, 1 ≤ m → m ≤ X → (loadN C G B m).e = 0 ∧ (loadN C G B m).l.length = 1 := by
    intro m h1 h2
    induction m with
    | zero => omega
    | succ m ih =>
      show (load1 C G B (loadN C G B m) m).e = 0 ∧ (load1 C G B (loadN C G B m) m).l.length = 1
      by_cases hz : m = 0
      · subst hz
        rw [load1_add rfl (hC 0 (by omega)) (by omega) (by show ¬ 0 < 0; omega)]
        exact ⟨rfl, rfl⟩
      · obtain ⟨a, b⟩ := ih (by omega) (by omega)
        rw [load1_skip a (hC m (by omega)) (hm m (by omega) (by omega))]
        exact ⟨a, b⟩
  obtain ⟨a, b⟩ := hl X (by omega) (Nat.le_refl _)
  have hg : loadN C G B (X + 1) = ⟨(loadN C G B X).l, -1, X⟩ := load1_gap a (hC X hT) (by omega) (by omega)
  have he : loadN C G B T = loadN C G B (X + 1) := loadN_at (by rw [hg]; simp) hT
  rw [he, hg]
  exact ⟨rfl, rfl⟩
set_option maxHeartbeats 8000000 in
set_option maxRecDepth 100000 in
theorem tgap_any (w : World) (hT : Typ w) (k_ n_ s_ : Int) : Calls Tryz.prog 5 #[.int .i64 k_, .int .i64 n_, .int .i64 s_] w (Bit true w) := by
  have HTY := Lib.hid hT
  clear hT
  go_enter Tryz.func5, Tryz.ntmps5
  go_wp2_with fail
  refine (fixed_any k_ n_ 5 1 _ (by omega) (by omega)).mono ?_
  rintro e w1 ⟨cf, ⟨hok, ht, hs⟩, rfl, hb1⟩
  obtain ⟨f1, f2, hn, hsec, n1, n6, s1, s128⟩ := fresh_on hok
  have CS := Lib.hid (fun w => ksectors_any cf w hok.right)
  have CN := Lib.hid (fun w => show Calls Tryz.prog 8 #[.int .i64 cf.n, .int .i64 cf.secs] w (QNew w cf.n.toNat cf.secs.toNat) by
    have := qs_new cf.n.toNat cf.secs.toNat w n1 (by omega) s1 s128
    rwa [hn, hsec] at this)
  have HMF := Lib.hid (make_free f1 f2 rfl hn)
  have HNC := Lib.hid (show ((Rk.vmake (newRk cf.n.toNat cf.secs.toNat) cf).n : Int) = cf.n by rw [vmake_n]; exact hn)
  have HKS := Lib.hid (show 1 ≤ cf.k ∧ cf.k ≤ 4 ∧ cf.k ≤ cf.n ∧ cf.n ≤ 6 from ⟨hok.2.1, hok.2.2.1, hok.2.2.2.1, hok.2.2.2.2.1⟩)
  have HT := Lib.hid (show cf.t = 5 ∧ cf.s = 1 from ⟨ht, hs⟩)
  have H2 := Lib.hid (show JfS cf w1.heap.size w (w1.alloc (.cells (cfA cf) 24)) from ⟨cfB_new w1 cf, by simp, balloc hb1 _⟩)
  obtain ⟨d0, d1, d2, d3, d4⟩ := CfB.cells H2.out.1
  clear hok ht hs f1 f2 hn hsec n1 n6 s1 s128 hb1
  go_wp2_with fail
  clear d0 d1 d2 d3 d4
  have h2 := H2.out
  generalize w1.alloc (.cells (cfA cf) 24) = w2 at *
  generalize w1.heap.size = bc at *
  have d0 : ∀ w', JfS cf bc w w' → w'.cell? ⟨bc, 0, none⟩ = some (.int .i64 cf.id) := fun w' h => h.1.cell 0
  have d1 : ∀ w', JfS cf bc w w' → w'.cell? ⟨bc, 1, none⟩ = some (.int .i64 cf.k) := fun w' h => h.1.cell 1
  have d2 : ∀ w', JfS cf bc w w' → w'.cell? ⟨bc, 2, none⟩ = some (.int .i64 cf.n) := fun w' h => h.1.cell 2
  have d3 : ∀ w', JfS cf bc w w' → w'.cell? ⟨bc, 3, none⟩ = some (.int .i64 cf.t) := fun w' h => h.1.cell 3
  have d4 : ∀ w', JfS cf bc w w' → w'.cell? ⟨bc, 4, none⟩ = some (.int .i64 cf.s) := fun w' h => h.1.cell 4
  refine wp_region_noPanic ?_
  refine wp_region_held_drew (S := (fun w' => JfS cf bc w w')) (by kernel_rfl) h2.drew (fun hHeld => ?_)
  refine wpAnyH_take (i := 0) (oi := ⟨some 25, _, _, _, _, _⟩) (v := ?_) rfl (by kernel_rfl) (by kernel_rfl) (by kernel_rfl) (fun _ _ _ h => h) (Or.inl ⟨by rfl, ?_⟩) hHeld ?_
  rotate_left
  · intro w hSw; (go_simp; try with_reducible rfl)
  simp only [Act.put, List.setIfInBounds_toArray, List.set_cons_zero, List.set_cons_succ]
  refine wpAnyH_take (i := 1) (oi := ⟨some 26, _, _, _, _, _⟩) (v := ?_) rfl (by kernel_rfl) (by kernel_rfl) (by kernel_rfl) (fun _ _ _ h => h) (Or.inl ⟨by rfl, ?_⟩) hHeld ?_
  rotate_left
  · intro w hSw; (go_simp; try with_reducible rfl)
  simp only [Act.put, List.setIfInBounds_toArray, List.set_cons_zero, List.set_cons_succ]
  refine wpAnyH_take (i := 2) (oi := ⟨some 27, _, _, _, _, _⟩) (v := ?_) rfl (by kernel_rfl) (by kernel_rfl) (by kernel_rfl) (fun _ _ _ h => h) (Or.inl ⟨by rfl, ?_⟩) hHeld ?_
  rotate_left
  · intro w hSw; (go_simp; try with_reducible rfl)
  simp only [Act.put, List.setIfInBounds_toArray, List.set_cons_zero, List.set_cons_succ]
  refine wpAnyH_ready (rs := [3]) (by kernel_rfl) (by simp) (AllReadyH.cons rfl (fun K hK => ?_) AllReadyH.nil)
  go_simp
  refine (CS.out _).mono ?_
  rintro e w3 ⟨rfl, hb3⟩
  have h3 := JfS.then hHeld hb3
  clear hb3
  refine hK.out _ _ h3 (fun _ => ?_)
  clear hK K
  refine wpAnyH_ready (rs := [4]) (by kernel_rfl) (by simp) (AllReadyH.cons rfl (fun K hK => ?_) AllReadyH.nil)
  go_simp
  refine (CN.out _).mono ?_
  rintro e w4 ⟨c, rfl, h4⟩
  have H4 := Lib.hid h4
  have H3 := Lib.hid h3
  have h5 := JfS.made h3 h4
  clear h4
  refine hK.out _ _ h5 (fun _ => ?_)
  clear hK K
  refine wpAnyH_take (i := 5) (oi := ⟨some 24, _, _, _, _, _⟩) (v := ?_) rfl (by kernel_rfl) (by kernel_rfl) (by kernel_rfl) (fun _ _ _ h => h) (Or.inl ⟨by rfl, ?_⟩) h5 ?_
  rotate_left
  · intro w hSw; (go_simp; try with_reducible rfl)
  simp only [Act.put, List.setIfInBounds_toArray, List.set_cons_zero, List.set_cons_succ]
  refine wpAnyH_take (i := 6) (oi := ⟨some 30, _, _, _, _, _⟩) (v := ?_) rfl (by kernel_rfl) (by kernel_rfl) (by kernel_rfl) (fun _ _ _ h => h) (Or.inl ⟨by rfl, ?_⟩) h5 ?_
  rotate_left
  · intro w hSw; (go_simp; try with_reducible rfl)
  simp only [Act.put, List.setIfInBounds_toArray, List.set_cons_zero, List.set_cons_succ]
  refine wpAnyH_take (i := 7) (oi := ⟨some 31, _, _, _, _, _⟩) (v := ?_) rfl (by kernel_rfl) (by kernel_rfl) (by kernel_rfl) (fun _ _ _ h => h) (Or.inl ⟨by rfl, ?_⟩) h5 ?_
  rotate_left
  · intro w hSw; (go_simp; try with_reducible rfl)
  simp only [Act.put, List.setIfInBounds_toArray, List.set_cons_zero, List.set_cons_succ]
  refine wpAnyH_take (i := 8) (oi := ⟨some 8, _, _, _, _, _⟩) (v := ?_) rfl (by kernel_rfl) (by kernel_rfl) (by kernel_rfl) (fun _ _ _ h => h) (Or.inl ⟨by rfl, ?_⟩) h5 ?_
  rotate_left
  · intro w hSw; (go_simp; try with_reducible rfl)
  simp only [Act.put, List.setIfInBounds_toArray, List.set_cons_zero, List.set_cons_succ]
  refine wpAnyH_take (i := 9) (oi := ⟨some 9, _, _, _, _, _⟩) (v := ?_) rfl (by kernel_rfl) (by kernel_rfl) (by kernel_rfl) (fun _ _ _ h => h) (Or.inl ⟨by rfl, ?_⟩) h5 ?_
  rotate_left
  · intro w hSw; (go_simp; try with_reducible rfl)
  simp only [Act.put, List.setIfInBounds_toArray, List.set_cons_zero, List.set_cons_succ]
  refine wpAnyH_done (by kernel_rfl) ?_ _
  refine NoPanic.normal ?_
  have HJ5 := Lib.hid h5
  obtain ⟨e0, e1, e2, e3, e4⟩ := CfB.cells h5.1
  clear d0 d1 d2 d3 d4 h2 hHeld h3 h5 H2 CS CN
  generalize newRk cf.n.toNat cf.secs.toNat = q0 at *
  have CM := Lib.hid (vmake_any w4 H4.out.rack cf)
  go_wp2_with fail
  refine CM.out.mono ?_
  rintro e w5 ⟨v5, rfl, hkv5, hr5, hc5⟩
  obtain rfl := hkv5.nil HMF.out.1
  have HQ5 := Lib.hid (H4.out.next hr5 hc5)
  have HENO := Lib.hid (show Enough cf (allP (Rk.vmake q0 cf)) (Rk.vmake q0 cf).n from allP_enough HMF.out.2.1.tnt.on.fits)
  have CO := Lib.hid (topen_ok HQ5.out rfl HMF.out.2.1 HENO.out HMF.out.2.2 (v0_taped cf) (fun y e => by cases e))
  clear hkv5 hr5 hc5 e0 e1 e2 e3 e4
  generalize Rk.vmake q0 cf = q1 at *
  obtain ⟨N, hN⟩ : ∃ N, q1.n = N := ⟨_, rfl⟩
  have HALL := Lib.hid (show N ≤ ((List.range N).filter (allP q1)).length by
    rw [show (List.range N).filter (allP q1) = List.range N from List.filter_eq_self.2 fun d hd => decide_eq_true (by rw [hN]; exact List.mem_range.1 hd), List.length_range]
    exact Nat.le_refl _)
  rw [hN] at CO HENO HNC
  clear hN
  go_wp2_with fail
  refine CO.out.mono ?_
  rintro e w6 ⟨q, b, t, g, V, lv, us, Ls, rfl, hrc, hn6, hk6, hrem, hl, hg, htp, rfl | ⟨y, hy, _⟩, htw, hwb, hwt, hot⟩
  rotate_left
  · cases hy
  have hg1 : g = 1 := by have := hl.s1; omega
  subst hg1
  have HT6 := Lib.hid htw
  have HL6 := Lib.hid hl
  have HR6 := Lib.hid hrem
  have HTP6 := Lib.hid htp
  have HN6 := Lib.hid (show q.n = N from htw.vw.nn)
  have HBW := Lib.hid (fun (w' : World) (h : Below w3.heap.size w3 w') => show Below w.heap.size w w' from bthen H3.out.2.2 h)
  have HCC := Lib.hid (fun (w' : World) (h : Below w3.heap.size w3 w') => show CfB cf bc w' from CfB.below H3.out.1 H3.out.2.1 h)
  have HFAR := Lib.hid (show Far w6.heap.size c N from by have := htw.vw.qs.rack.far; rwa [htw.vw.nn] at this)
  have HFV := Lib.hid (show FarV w6.heap.size c N from by have := htw.vw.qs.rack.farV (Nat.le_refl w6.heap.size); rwa [htw.vw.nn] at this)
  have HBT := Lib.hid (show b < w6.heap.size ∧ t < w6.heap.size ∧ w3.heap.size ≤ w6.heap.size from ⟨htw.vw.vb.lt, htw.tp.lt, htw.vw.qs.le⟩)
  obtain ⟨K, hK⟩ : ∃ K : Nat, cf.k = K := ⟨cf.k.toNat, by have := HKS.out.1; omega⟩
  have HK := Lib.hid hK
  have HCELL := Lib.hid (fun (w' : World) (h : Below w3.heap.size w3 w') => show w'.cell? ⟨bc, 0, none⟩ = some (.int .i64 cf.id) ∧ w'.cell? ⟨bc, 1, none⟩ = some (.int .i64 K) ∧ w'.cell? ⟨bc, 2, none⟩ = some (.int .i64 N) ∧ w'.cell? ⟨bc, 3, none⟩ = some (.int .i64 5) ∧ w'.cell? ⟨bc, 4, none⟩ = some (.int .i64 1) by
    have := CfB.cells (HCC.out w' h)
    rw [hK, HT.out.1, HT.out.2, ← HNC.out] at this
    exact this)
  obtain ⟨gl, cl, rfl, -⟩ := own_slice hot.top
  generalize allP q1 = P at *
  clear hrc hn6 hk6 hrem hl hg htp htw hwb hwt hot hK CO CM HQ5 HMF HJ5 H4 H3
  simp only [List.length_nil] at *
  have CV := Lib.hid (tvol_any w6 HT6.out.tp)
  go_wp2_with fail
  refine CV.out.mono ?_
  rintro e w7 ⟨rfl, rfl⟩
  clear CV
  have HS8 := Lib.hid (show SlBs ((w6.alloc (.cells #[.int .u8 1] 5)).alloc (.cells #[.slice (some ⟨w6.heap.size, 0, none⟩) 1 1] 37)).heap.size ((w6.alloc (.cells #[.int .u8 1] 5)).alloc (.cells #[.slice (some ⟨w6.heap.size, 0, none⟩) 1 1] 37)) (.slice (some ⟨(w6.alloc (.cells #[.int .u8 1] 5)).heap.size, 0, none⟩) 1 1) [[1]] from slbs_one (slb_byte w6 1 rfl))
  have HB8 := Lib.hid (show Below w6.heap.size w6 ((w6.alloc (.cells #[.int .u8 1] 5)).alloc (.cells #[.slice (some ⟨w6.heap.size, 0, none⟩) 1 1] 37)) from balloc (one_below _ _) _)
  have HNE1 := Lib.hid (show fillL cf.k.toNat [[1]] ≠ [] from fill_single (by have := HKS.out.1; omega) (by decide) (by decide))
  have hs1 : (w6.alloc (.cells #[.int .u8 1] 5)).heap.size = w6.heap.size + 1 := by simp
  rw [hs1] at HS8
  have CA := Lib.hid (tapp_any (u := 0) (HT6.out.below HB8.out) HL6.out (by rw [HT6.out.vw.nn]; exact HENO.out) (by decide) (by rw [HT.out.1]; decide) _ [[1]] HS8.out (by simp))
  go_wp2_with fail
  refine CA.out.mono ?_
  rintro e w8 (⟨⟨h0, _⟩ | ⟨_, h1, _⟩, _⟩ | ⟨_, _, q8, hrc8, hn8, hk8, ⟨rfl, hf8, htw8, hl8⟩ | ⟨_, _, _, hne, _⟩⟩)
  · exact absurd h0 HNE1.out
  · exact absurd h1 (by rw [HT.out.1]; decide)
  rotate_left
  · exact absurd HR6.out hne
  have HT8 := Lib.hid htw8
  have HL8 := Lib.hid hl8
  have HR8 := Lib.hid (hf8 HR6.out)
  have HEN8 := Lib.hid (show Enough cf P q8.n by rw [htw8.vw.nn]; exact HENO.out)
  clear hrc8 hn8 hk8 hf8 htw8 hl8 CA hs1
  go_wp2_with fail
  refine (within_int s_ 2 4 _ (by omega) (by omega) (by omega)).mono ?_
  rintro e w9 ⟨xi, hxi, rfl, rfl⟩
  obtain ⟨X, rfl⟩ := Int.eq_ofNat_of_zero_le (show 0 ≤ xi by omega)
  have HX := Lib.hid (show 2 ≤ X ∧ X ≤ 4 by omega)
  clear hxi
  have HNE2 := Lib.hid (show fillL cf.k.toNat [[2]] ≠ [] from fill_single (by have := HKS.out.1; omega) (by decide) (by decide))
  have HCF := Lib.hid (fun (w' : World) (h : Below w8.heap.size w8 w') => show CfB cf bc w' from HCC.out w' (bthen HT8.out.vw.qs.base h))
  have HF8 := Lib.hid (show Far w8.heap.size c N from by have := HT8.out.vw.qs.rack.far; rwa [HT8.out.vw.nn] at this)
  have hd8 : Below w8.heap.size w8 w8.drew := (Below.refl _ _).drew
  have hc8 : CfB cf bc w8.drew := HCF.out _ hd8
  go_wp2_with fail
  have d0 : ∀ w', CfB cf bc w' → w'.cell? ⟨bc, 0, none⟩ = some (.int .i64 cf.id) := fun w' h => h.cell 0
  have d1 : ∀ w', CfB cf bc w' → w'.cell? ⟨bc, 1, none⟩ = some (.int .i64 cf.k) := fun w' h => h.cell 1
  have d2 : ∀ w', CfB cf bc w' → w'.cell? ⟨bc, 2, none⟩ = some (.int .i64 cf.n) := fun w' h => h.cell 2
  have d3 : ∀ w', CfB cf bc w' → w'.cell? ⟨bc, 3, none⟩ = some (.int .i64 cf.t) := fun w' h => h.cell 3
  have d4 : ∀ w', CfB cf bc w' → w'.cell? ⟨bc, 4, none⟩ = some (.int .i64 cf.s) := fun w' h => h.cell 4
  refine wp_region_noPanic ?_
  refine wp_region_held_drew (S := (fun w' => CfB cf bc w')) (by kernel_rfl) hc8 (fun hHeld => ?_)
  generalize w8.drew = w8d at *
  refine wpAnyH_take (i := 0) (oi := ⟨some 72, _, _, _, _, _⟩) (v := ?_) rfl (by kernel_rfl) (by kernel_rfl) (by kernel_rfl) (fun _ _ _ h => h) (Or.inl ⟨by rfl, ?_⟩) hHeld ?_
  rotate_left
  · intro w hSw; (go_simp; try with_reducible rfl)
  simp only [Act.put, List.setIfInBounds_toArray, List.set_cons_zero, List.set_cons_succ]
  refine wpAnyH_take (i := 2) (oi := ⟨some 74, _, _, _, _, _⟩) (v := ?_) rfl (by kernel_rfl) (by kernel_rfl) (by kernel_rfl) (fun _ _ _ h => h) (Or.inl ⟨by rfl, ?_⟩) hHeld ?_
  rotate_left
  · intro w hSw; (go_simp; try with_reducible rfl)
  simp only [Act.put, List.setIfInBounds_toArray, List.set_cons_zero, List.set_cons_succ]
  refine wpAnyH_take (i := 3) (oi := ⟨some 75, _, _, _, _, _⟩) (v := ?_) rfl (by kernel_rfl) (by kernel_rfl) (by kernel_rfl) (fun _ _ _ h => h) (Or.inl ⟨by rfl, ?_⟩) hHeld ?_
  rotate_left
  · intro w hSw; (go_simp; try with_reducible rfl)
  simp only [Act.put, List.setIfInBounds_toArray, List.set_cons_zero, List.set_cons_succ]
  refine wpAnyH_ready (rs := [1, 4]) (by kernel_rfl) (by simp) ?_
  refine AllReadyH.cons (o := ⟨some 73, _, _, _, _, _⟩) rfl (fun K hK => ?_) ?_
  · go_simp
    refine (tvol_any _ (HT8.out.below hd8).tp).mono ?_
    rintro e wv ⟨rfl, rfl⟩
    refine hK.out _ _ hHeld (fun _ => ?_)
    clear hK K
    refine wpAnyH_ready (rs := [4]) (by kernel_rfl) (by simp) ?_
    refine AllReadyH.cons (o := ⟨some 76, _, _, _, _, _⟩) rfl (fun K hK => ?_) ?_
    · go_simp
      have hb22 := bthen hd8 (one_below w8d (.cells #[.int .u8 2] 5))
      have hx22 := slb_byte w8d 2 (v := .int .u8 2) rfl
      have h22 : CfB cf bc (w8d.alloc (.cells #[.int .u8 2] 5)) := HCF.out _ hb22
      generalize w8d.alloc (.cells #[.int .u8 2] 5) = wa22 at *
      generalize w8d.heap.size = ba22 at *
      refine hK.out _ _ h22 (fun _ => ?_)
      clear hK K
      refine wpAnyH_ready (rs := [5]) (by kernel_rfl) (by simp) ?_
      refine AllReadyH.cons (o := ⟨some 77, _, _, _, _, _⟩) rfl (fun K hK => ?_) ?_
      · go_simp
        have hb23 := bthen hb22 (one_below wa22 (.cells #[.slice (some ⟨ba22, 0, none⟩) 1 1] 37))
        have hy23 := slbs_one hx22
        have h23 : CfB cf bc (wa22.alloc (.cells #[.slice (some ⟨ba22, 0, none⟩) 1 1] 37)) := HCF.out _ hb23
        generalize wa22.alloc (.cells #[.slice (some ⟨ba22, 0, none⟩) 1 1] 37) = wa23 at *
        generalize wa22.heap.size = ba23 at *
        refine hK.out _ _ h23 (fun _ => ?_)
        clear hK K
        refine wpAnyH_ready (rs := [6]) (by kernel_rfl) (by simp) ?_
        refine AllReadyH.cons (o := ⟨some 78, _, _, _, _, _⟩) rfl (fun K hK => ?_) ?_
        · go_simp
          refine (fill_any wa23 cf (by have := HKS.out; omega) (by have := HKS.out; omega) _ [[2]] hy23 (by simp)).mono ?_
          rintro e wf24 ⟨hbf24, ⟨hz, _⟩ | ⟨_, vf, rfl, hof24⟩⟩
          · exact absurd hz HNE2.out
          have hb24 := bthen hb23 hbf24
          have hk24 : BkB wa23.heap.size (fillL cf.k.toNat [[2]]) vf wf24 := ⟨(fillL_len HNE2.out).2, hof24⟩
          obtain ⟨gf, cf2, rfl, -⟩ := own_slice' hof24
          have hs24 : w8.heap.size ≤ wa23.heap.size := hb23.size
          have h24 : CfB cf bc wf24 := HCF.out _ hb24
          refine hK.out _ _ h24 (fun _ => ?_)
          clear hK K
          refine wpAnyH_ready (rs := [7]) (by kernel_rfl) (by simp) ?_
          refine AllReadyH.cons (o := ⟨some 79, _, _, _, _, _⟩) rfl (fun K hK => ?_) ?_
          · go_simp
            refine ((HT8.out.below hb24).vw.commits HL8.out HEN8.out (by decide) (s := X) (by rw [HT.out.1]; have := HX.out; omega) (fillL_len HNE2.out).1 hk24 (HF8.out.mono hs24)).mono ?_
            rintro e wc25 ⟨vc, qc, rfl, hrcc25, hnc, hkc, ⟨rfl, hfc, hvwc, hlc⟩ | ⟨_, hne, _⟩⟩
            rotate_left
            · exact absurd HR8.out hne
            have h25 : CfB cf bc wc25 := HCC.out _ hvwc.qs.base
            refine hK.out _ _ h25 (fun _ => ?_)
            clear hK K
            refine wpAnyH_take (i := 8) (oi := ⟨some 80, _, _, _, _, _⟩) (v := ?_) rfl (by kernel_rfl) (by kernel_rfl) (by kernel_rfl) (fun _ _ _ h => h) (Or.inl ⟨by rfl, ?_⟩) h25 ?_
            rotate_left
            · intro w hSw; (go_simp; try with_reducible rfl)
            simp only [Act.put, List.setIfInBounds_toArray, List.set_cons_zero, List.set_cons_succ]
            refine wpAnyH_done (by kernel_rfl) ?_ _
            refine NoPanic.normal ?_
            have HV9 := Lib.hid hvwc
            have HL9 := Lib.hid hlc
            have HR9 := Lib.hid (hfc HR8.out)
            have CO2 := Lib.hid (topen_any hvwc.qs hvwc.nn hlc.raw (by rw [hvwc.nn]; exact HENO.out))
            have HN9 := Lib.hid hvwc.nn
            go_wp2_with fail
            refine CO2.out.mono ?_
            rintro e wo ⟨qo, hrco, hrko, hno, hko, ⟨bo, go', Vo, hvwo, _, hfo, hlo, hevo, _, hx⟩ | ⟨_, _, _, hne, _⟩⟩
            rotate_left
            · exact absurd HR9.out hne
            have hVo := evo_none hevo
            have hG : ∀ s, Vo.G s = if s = X then 3 else if s = 0 then 2 else V.G s := fun s => by
              rw [hVo]
              show Dk.upd (Dk.upd V.G (Int.toNat ((0 : Nat) : Int)) (1 + 1)) (Int.toNat (X : Int)) (1 + 1 + 1) s = _
              rw [Int.toNat_natCast, Int.toNat_natCast]
              rfl
            have hX := HX.out
            have hT5 : cf.t.toNat = 5 := by rw [HT.out.1]; rfl
            have hun : ∀ s, s < 5 → V.G s ≤ 1 := fun s hs => HTP6.out.un s (Nat.zero_le _) (by omega)
            have hgap := load_gap (C := fun s => tcode qo cf s) (G := Vo.G) (B := Vo.B) (T := cf.t.toNat) (X := X) (fun s hs => (hlo.read (by rw [hvwo.nn]; exact HENO.out) (t := s) (by omega)).1)
              (by rw [hG, if_neg (by omega), if_pos rfl]; decide) (fun s h1 h2 => by rw [hG, if_neg (by omega), if_neg (by omega)]; exact hun s (by omega)) (by rw [hG, if_pos rfl]; decide) (by omega) (by omega)
            have hx2 : e = .returned (.tuple #[.pointer none, nilB, wrapV opTOpen 0 (lossV (X : Int) 0 1)]) := by
              rcases hx with ⟨h0, _⟩ | ⟨_, h1⟩
              · exact absurd (hgap.1.symm.trans h0) (by decide)
              · rw [h1]; show _ = Ending.returned (.tuple #[.pointer none, nilB, wrapV opTOpen 0 (lossV (X : Int) 0 1)]); rw [show (ldOf cf Vo qo cf.t.toNat).x = X from hgap.2]
            subst hx2
            have HBO := Lib.hid (HBW.out wo hvwo.qs.base)
            have CLO := Lib.hid (lost_loss [(opTOpen, 0)] (X : Int) 0 1 wo (wrapV opTOpen 0 (lossV (X : Int) 0 1)) rfl (HTY.out.below (HBW.out wo hvwo.qs.base)))
            have hnil : nilB = Value.slice none 0 0 := rfl
            rw [hnil]
            clear hrco hrko hno hko hvwo hfo hlo hevo hx hVo hG hX hT5 hun hgap hnil CO2
            go_wp2_with fail
            refine CLO.out.mono ?_
            rintro e wl ⟨rfl, hbl⟩
            have HBL := Lib.hid hbl
            have hql := fun w => eql_loss (X : Int) 0 1 w
            have hbd : ∀ w : World, (Instr.build 52 #[(0, .int .i64 (X : Int)), (2, .int .i64 1)]).run Tryz.prog w = .ok (.agg #[.int .i64 (X : Int), .int .i64 0, .int .i64 1]) w := fun _ => by kernel_rfl
            clear hbl CLO
            go_wp2_with fail
            refine (truns_any _).mono ?_
            rintro e wT ⟨rfl, hbT⟩
            have HBT2 := Lib.hid hbT
            clear hbT
            go_wp2_with fail
            go_ret
            exact bit rfl (bthen (bthen (bthen HBO.out HBL.out) (one_below _ _)) HBT2.out)
          exact AllReadyH.nil
        exact AllReadyH.nil
      exact AllReadyH.nil
    exact AllReadyH.nil
  refine AllReadyH.cons (o := ⟨some 76, _, _, _, _, _⟩) rfl (fun K hK => ?_) ?_
  · go_simp
    have hb21 := bthen hd8 (one_below w8d (.cells #[.int .u8 2] 5))
    have hx21 := slb_byte w8d 2 (v := .int .u8 2) rfl
    have h21 : CfB cf bc (w8d.alloc (.cells #[.int .u8 2] 5)) := HCF.out _ hb21
    generalize w8d.alloc (.cells #[.int .u8 2] 5) = wa21 at *
    generalize w8d.heap.size = ba21 at *
    refine hK.out _ _ h21 (fun _ => ?_)
    clear hK K
    refine wpAnyH_ready (rs := [1, 5]) (by kernel_rfl) (by simp) ?_
    refine AllReadyH.cons (o := ⟨some 73, _, _, _, _, _⟩) rfl (fun K hK => ?_) ?_
    · go_simp
      refine (tvol_any _ (HT8.out.below hb21).tp).mono ?_
      rintro e wv ⟨rfl, rfl⟩
      refine hK.out _ _ h21 (fun _ => ?_)
      clear hK K
      refine wpAnyH_ready (rs := [5]) (by kernel_rfl) (by simp) ?_
      refine AllReadyH.cons (o := ⟨some 77, _, _, _, _, _⟩) rfl (fun K hK => ?_) ?_
      · go_simp
        have hb23 := bthen hb21 (one_below wa21 (.cells #[.slice (some ⟨ba21, 0, none⟩) 1 1] 37))
        have hy23 := slbs_one hx21
        have h23 : CfB cf bc (wa21.alloc (.cells #[.slice (some ⟨ba21, 0, none⟩) 1 1] 37)) := HCF.out _ hb23
        generalize wa21.alloc (.cells #[.slice (some ⟨ba21, 0, none⟩) 1 1] 37) = wa23 at *
        generalize wa21.heap.size = ba23 at *
        refine hK.out _ _ h23 (fun _ => ?_)
        clear hK K
        refine wpAnyH_ready (rs := [6]) (by kernel_rfl) (by simp) ?_
        refine AllReadyH.cons (o := ⟨some 78, _, _, _, _, _⟩) rfl (fun K hK => ?_) ?_
        · go_simp
          refine (fill_any wa23 cf (by have := HKS.out; omega) (by have := HKS.out; omega) _ [[2]] hy23 (by simp)).mono ?_
          rintro e wf24 ⟨hbf24, ⟨hz, _⟩ | ⟨_, vf, rfl, hof24⟩⟩
          · exact absurd hz HNE2.out
          have hb24 := bthen hb23 hbf24
          have hk24 : BkB wa23.heap.size (fillL cf.k.toNat [[2]]) vf wf24 := ⟨(fillL_len HNE2.out).2, hof24⟩
          obtain ⟨gf, cf2, rfl, -⟩ := own_slice' hof24
          have hs24 : w8.heap.size ≤ wa23.heap.size := hb23.size
          have h24 : CfB cf bc wf24 := HCF.out _ hb24
          refine hK.out _ _ h24 (fun _ => ?_)
          clear hK K
          refine wpAnyH_ready (rs := [7]) (by kernel_rfl) (by simp) ?_
          refine AllReadyH.cons (o := ⟨some 79, _, _, _, _, _⟩) rfl (fun K hK => ?_) ?_
          · go_simp
            refine ((HT8.out.below hb24).vw.commits HL8.out HEN8.out (by decide) (s := X) (by rw [HT.out.1]; have := HX.out; omega) (fillL_len HNE2.out).1 hk24 (HF8.out.mono hs24)).mono ?_
            rintro e wc25 ⟨vc, qc, rfl, hrcc25, hnc, hkc, ⟨rfl, hfc, hvwc, hlc⟩ | ⟨_, hne, _⟩⟩
            rotate_left
            · exact absurd HR8.out hne
            have h25 : CfB cf bc wc25 := HCC.out _ hvwc.qs.base
            refine hK.out _ _ h25 (fun _ => ?_)
            clear hK K
            refine wpAnyH_take (i := 8) (oi := ⟨some 80, _, _, _, _, _⟩) (v := ?_) rfl (by kernel_rfl) (by kernel_rfl) (by kernel_rfl) (fun _ _ _ h => h) (Or.inl ⟨by rfl, ?_⟩) h25 ?_
            rotate_left
            · intro w hSw; (go_simp; try with_reducible rfl)
            simp only [Act.put, List.setIfInBounds_toArray, List.set_cons_zero, List.set_cons_succ]
            refine wpAnyH_done (by kernel_rfl) ?_ _
            refine NoPanic.normal ?_
            have HV9 := Lib.hid hvwc
            have HL9 := Lib.hid hlc
            have HR9 := Lib.hid (hfc HR8.out)
            have CO2 := Lib.hid (topen_any hvwc.qs hvwc.nn hlc.raw (by rw [hvwc.nn]; exact HENO.out))
            have HN9 := Lib.hid hvwc.nn
            go_wp2_with fail
            refine CO2.out.mono ?_
            rintro e wo ⟨qo, hrco, hrko, hno, hko, ⟨bo, go', Vo, hvwo, _, hfo, hlo, hevo, _, hx⟩ | ⟨_, _, _, hne, _⟩⟩
            rotate_left
            · exact absurd HR9.out hne
            have hVo := evo_none hevo
            have hG : ∀ s, Vo.G s = if s = X then 3 else if s = 0 then 2 else V.G s := fun s => by
              rw [hVo]
              show Dk.upd (Dk.upd V.G (Int.toNat ((0 : Nat) : Int)) (1 + 1)) (Int.toNat (X : Int)) (1 + 1 + 1) s = _
              rw [Int.toNat_natCast, Int.toNat_natCast]
              rfl
            have hX := HX.out
            have hT5 : cf.t.toNat = 5 := by rw [HT.out.1]; rfl
            have hun : ∀ s, s < 5 → V.G s ≤ 1 := fun s hs => HTP6.out.un s (Nat.zero_le _) (by omega)
            have hgap := load_gap (C := fun s => tcode qo cf s) (G := Vo.G) (B := Vo.B) (T := cf.t.toNat) (X := X) (fun s hs => (hlo.read (by rw [hvwo.nn]; exact HENO.out) (t := s) (by omega)).1)
              (by rw [hG, if_neg (by omega), if_pos rfl]; decide) (fun s h1 h2 => by rw [hG, if_neg (by omega), if_neg (by omega)]; exact hun s (by omega)) (by rw [hG, if_pos rfl]; decide) (by omega) (by omega)
            have hx2 : e = .returned (.tuple #[.pointer none, nilB, wrapV opTOpen 0 (lossV (X : Int) 0 1)]) := by
              rcases hx with ⟨h0, _⟩ | ⟨_, h1⟩
              · exact absurd (hgap.1.symm.trans h0) (by decide)
              · rw [h1]; show _ = Ending.returned (.tuple #[.pointer none, nilB, wrapV opTOpen 0 (lossV (X : Int) 0 1)]); rw [show (ldOf cf Vo qo cf.t.toNat).x = X from hgap.2]
            subst hx2
            have HBO := Lib.hid (HBW.out wo hvwo.qs.base)
            have CLO := Lib.hid (lost_loss [(opTOpen, 0)] (X : Int) 0 1 wo (wrapV opTOpen 0 (lossV (X : Int) 0 1)) rfl (HTY.out.below (HBW.out wo hvwo.qs.base)))
            have hnil : nilB = Value.slice none 0 0 := rfl
            rw [hnil]
            clear hrco hrko hno hko hvwo hfo hlo hevo hx hVo hG hX hT5 hun hgap hnil CO2
            go_wp2_with fail
            refine CLO.out.mono ?_
            rintro e wl ⟨rfl, hbl⟩
            have HBL := Lib.hid hbl
            have hql := fun w => eql_loss (X : Int) 0 1 w
            have hbd : ∀ w : World, (Instr.build 52 #[(0, .int .i64 (X : Int)), (2, .int .i64 1)]).run Tryz.prog w = .ok (.agg #[.int .i64 (X : Int), .int .i64 0, .int .i64 1]) w := fun _ => by kernel_rfl
            clear hbl CLO
            go_wp2_with fail
            refine (truns_any _).mono ?_
            rintro e wT ⟨rfl, hbT⟩
            have HBT2 := Lib.hid hbT
            clear hbT
            go_wp2_with fail
            go_ret
            exact bit rfl (bthen (bthen (bthen HBO.out HBL.out) (one_below _ _)) HBT2.out)
          exact AllReadyH.nil
        exact AllReadyH.nil
      exact AllReadyH.nil
    refine AllReadyH.cons (o := ⟨some 77, _, _, _, _, _⟩) rfl (fun K hK => ?_) ?_
    · go_simp
      have hb22 := bthen hb21 (one_below wa21 (.cells #[.slice (some ⟨ba21, 0, none⟩) 1 1] 37))
      have hy22 := slbs_one hx21
      have h22 : CfB cf bc (wa21.alloc (.cells #[.slice (some ⟨ba21, 0, none⟩) 1 1] 37)) := HCF.out _ hb22
      generalize wa21.alloc (.cells #[.slice (some ⟨ba21, 0, none⟩) 1 1] 37) = wa22 at *
      generalize wa21.heap.size = ba22 at *
      refine hK.out _ _ h22 (fun _ => ?_)
      clear hK K
      refine wpAnyH_ready (rs := [1]) (by kernel_rfl) (by simp) ?_
      refine AllReadyH.cons (o := ⟨some 73, _, _, _, _, _⟩) rfl (fun K hK => ?_) ?_
      · go_simp
        refine (tvol_any _ (HT8.out.below hb22).tp).mono ?_
        rintro e wv ⟨rfl, rfl⟩
        refine hK.out _ _ h22 (fun _ => ?_)
        clear hK K
        refine wpAnyH_ready (rs := [6]) (by kernel_rfl) (by simp) ?_
        refine AllReadyH.cons (o := ⟨some 78, _, _, _, _, _⟩) rfl (fun K hK => ?_) ?_
        · go_simp
          refine (fill_any wa22 cf (by have := HKS.out; omega) (by have := HKS.out; omega) _ [[2]] hy22 (by simp)).mono ?_
          rintro e wf24 ⟨hbf24, ⟨hz, _⟩ | ⟨_, vf, rfl, hof24⟩⟩
          · exact absurd hz HNE2.out
          have hb24 := bthen hb22 hbf24
          have hk24 : BkB wa22.heap.size (fillL cf.k.toNat [[2]]) vf wf24 := ⟨(fillL_len HNE2.out).2, hof24⟩
          obtain ⟨gf, cf2, rfl, -⟩ := own_slice' hof24
          have hs24 : w8.heap.size ≤ wa22.heap.size := hb22.size
          have h24 : CfB cf bc wf24 := HCF.out _ hb24
          refine hK.out _ _ h24 (fun _ => ?_)
          clear hK K
          refine wpAnyH_ready (rs := [7]) (by kernel_rfl) (by simp) ?_
          refine AllReadyH.cons (o := ⟨some 79, _, _, _, _, _⟩) rfl (fun K hK => ?_) ?_
          · go_simp
            refine ((HT8.out.below hb24).vw.commits HL8.out HEN8.out (by decide) (s := X) (by rw [HT.out.1]; have := HX.out; omega) (fillL_len HNE2.out).1 hk24 (HF8.out.mono hs24)).mono ?_
            rintro e wc25 ⟨vc, qc, rfl, hrcc25, hnc, hkc, ⟨rfl, hfc, hvwc, hlc⟩ | ⟨_, hne, _⟩⟩
            rotate_left
            · exact absurd HR8.out hne
            have h25 : CfB cf bc wc25 := HCC.out _ hvwc.qs.base
            refine hK.out _ _ h25 (fun _ => ?_)
            clear hK K
            refine wpAnyH_take (i := 8) (oi := ⟨some 80, _, _, _, _, _⟩) (v := ?_) rfl (by kernel_rfl) (by kernel_rfl) (by kernel_rfl) (fun _ _ _ h => h) (Or.inl ⟨by rfl, ?_⟩) h25 ?_
            rotate_left
            · intro w hSw; (go_simp; try with_reducible rfl)
            simp only [Act.put, List.setIfInBounds_toArray, List.set_cons_zero, List.set_cons_succ]
            refine wpAnyH_done (by kernel_rfl) ?_ _
            refine NoPanic.normal ?_
            have HV9 := Lib.hid hvwc
            have HL9 := Lib.hid hlc
            have HR9 := Lib.hid (hfc HR8.out)
            have CO2 := Lib.hid (topen_any hvwc.qs hvwc.nn hlc.raw (by rw [hvwc.nn]; exact HENO.out))
            have HN9 := Lib.hid hvwc.nn
            go_wp2_with fail
            refine CO2.out.mono ?_
            rintro e wo ⟨qo, hrco, hrko, hno, hko, ⟨bo, go', Vo, hvwo, _, hfo, hlo, hevo, _, hx⟩ | ⟨_, _, _, hne, _⟩⟩
            rotate_left
            · exact absurd HR9.out hne
            have hVo := evo_none hevo
            have hG : ∀ s, Vo.G s = if s = X then 3 else if s = 0 then 2 else V.G s := fun s => by
              rw [hVo]
              show Dk.upd (Dk.upd V.G (Int.toNat ((0 : Nat) : Int)) (1 + 1)) (Int.toNat (X : Int)) (1 + 1 + 1) s = _
              rw [Int.toNat_natCast, Int.toNat_natCast]
              rfl
            have hX := HX.out
            have hT5 : cf.t.toNat = 5 := by rw [HT.out.1]; rfl
            have hun : ∀ s, s < 5 → V.G s ≤ 1 := fun s hs => HTP6.out.un s (Nat.zero_le _) (by omega)
            have hgap := load_gap (C := fun s => tcode qo cf s) (G := Vo.G) (B := Vo.B) (T := cf.t.toNat) (X := X) (fun s hs => (hlo.read (by rw [hvwo.nn]; exact HENO.out) (t := s) (by omega)).1)
              (by rw [hG, if_neg (by omega), if_pos rfl]; decide) (fun s h1 h2 => by rw [hG, if_neg (by omega), if_neg (by omega)]; exact hun s (by omega)) (by rw [hG, if_pos rfl]; decide) (by omega) (by omega)
            have hx2 : e = .returned (.tuple #[.pointer none, nilB, wrapV opTOpen 0 (lossV (X : Int) 0 1)]) := by
              rcases hx with ⟨h0, _⟩ | ⟨_, h1⟩
              · exact absurd (hgap.1.symm.trans h0) (by decide)
              · rw [h1]; show _ = Ending.returned (.tuple #[.pointer none, nilB, wrapV opTOpen 0 (lossV (X : Int) 0 1)]); rw [show (ldOf cf Vo qo cf.t.toNat).x = X from hgap.2]
            subst hx2
            have HBO := Lib.hid (HBW.out wo hvwo.qs.base)
            have CLO := Lib.hid (lost_loss [(opTOpen, 0)] (X : Int) 0 1 wo (wrapV opTOpen 0 (lossV (X : Int) 0 1)) rfl (HTY.out.below (HBW.out wo hvwo.qs.base)))
            have hnil : nilB = Value.slice none 0 0 := rfl
            rw [hnil]
            clear hrco hrko hno hko hvwo hfo hlo hevo hx hVo hG hX hT5 hun hgap hnil CO2
            go_wp2_with fail
            refine CLO.out.mono ?_
            rintro e wl ⟨rfl, hbl⟩
            have HBL := Lib.hid hbl
            have hql := fun w => eql_loss (X : Int) 0 1 w
            have hbd : ∀ w : World, (Instr.build 52 #[(0, .int .i64 (X : Int)), (2, .int .i64 1)]).run Tryz.prog w = .ok (.agg #[.int .i64 (X : Int), .int .i64 0, .int .i64 1]) w := fun _ => by kernel_rfl
            clear hbl CLO
            go_wp2_with fail
            refine (truns_any _).mono ?_
            rintro e wT ⟨rfl, hbT⟩
            have HBT2 := Lib.hid hbT
            clear hbT
            go_wp2_with fail
            go_ret
            exact bit rfl (bthen (bthen (bthen HBO.out HBL.out) (one_below _ _)) HBT2.out)
          exact AllReadyH.nil
        exact AllReadyH.nil
      exact AllReadyH.nil
    exact AllReadyH.nil
  exact AllReadyH.nil
end Go.Proofs.YtilljaneegbhlaaGreatDoor
namespace Go.Proofs.YtilljaneegbhlaaGreatDoor.tapeGap
open Go.ChangeShapes Go.WideShapes Go.ChangeAt Go.RowKit

set_option maxRecDepth 100000 in
theorem contract (H : Type) (enc : TypeId × Value → H) (W : World) (base : Nat) (args : Array Value) (ds gs : List (DataW H)) (before : List MemPlace)
    (hval : ∀ (j : Nat) t v, Tryz.f5.params[j]? = some t → args[j]? = some v → Value.okWide Tryz.prog W .any base t v)
    (hW : DataW.Whole enc Tryz.prog Tryz.f5.params.toList Rows.tapeGapSpec.vars false W args.toList ds gs before) (hL : laidMetH Tryz.prog Rows.tapeGapRow.laid W) :
    Calls Tryz.prog 5 args W fun e W' => ∃ v, e = .returned v ∧ Rows.tapeGapSpec.post enc Tryz.prog Tryz.f5 false true false false W args v W' := by
  have hW' := hW
  obtain ⟨p, q, hA0, hV, rfl, hfz, hnd⟩ := hW
  have hA : DataW.TrodAll enc Tryz.prog W 0 (fun _ => true) true Tryz.f5.params.toList args.toList ds p := hA0
  rw [Tryz.params5] at hA hval
  obtain ⟨v0, vs0, d0, ds0, p0, q0, hargs, rfl, rfl, h0, r0⟩ := trodAll_cons hA
  obtain ⟨v1, vs1, d1, ds1, p1, q1, rfl, rfl, rfl, h1, r1⟩ := trodAll_cons r0
  obtain ⟨v2, vs2, d2, ds2, p2, q2, rfl, rfl, rfl, h2, r2⟩ := trodAll_cons r1
  obtain ⟨rfl, rfl, rfl⟩ := trodAll_nil r2
  obtain rfl : args = #[v0, v1, v2] := Array.ext' hargs
  obtain ⟨k_, rfl, rfl, rfl, _⟩ := open_int Tryz.underlying3 (hval 0 3 v0 (by simp) (by simp)) h0
  obtain ⟨n_, rfl, rfl, rfl, _⟩ := open_int Tryz.underlying3 (hval 1 3 v1 (by simp) (by simp)) h1
  obtain ⟨s_, rfl, rfl, rfl, _⟩ := open_int Tryz.underlying3 (hval 2 3 v2 (by simp) (by simp)) h2
  obtain ⟨rfl, rfl⟩ := trodVars_none hV
  clear hA0
  have hw : Calls Tryz.prog 5 #[.int .i64 k_, .int .i64 n_, .int .i64 s_] W (Bit true W) := tgap_any W (handle_of_laid hL) k_ n_ s_
  refine hw.mono fun e W' ⟨he, hg⟩ => ?_
  subst he
  exact ⟨_, rfl, law_post Tryz.laidOut (by kernel_rfl) (by kernel_rfl) (by kernel_rfl) Tryz.underlying4 hW' hg rfl rfl rfl⟩

theorem reads (os : Os) {H : Type} (enc : TypeId × Value → H) : ∃ places, DataW.whole enc Tryz.prog ((laidWorld os).forCall (fun _ _ => 0) ⟨#[], #[.int .i64 0, .int .i64 0, .int .i64 0], []⟩).memory Tryz.f5.params.toList Rows.tapeGapSpec.vars false (#[.int .i64 0, .int .i64 0, .int .i64 0] : Array Value).toList 8 = some ([.lit (.int .i64 0), .lit (.int .i64 0), .lit (.int .i64 0)], [], places) :=
  ⟨[], by kernel_rfl⟩

set_option maxRecDepth 100000 in
theorem lifted (os : Os) (started : os.Started) (H : Type) (enc : TypeId × Value → H) (F : Stop.Interp) :
    ReturnsInHanded {} Tryz.checked os 5 .any ((OpenSpec.ofChange Rows.tapeGapSpec).preRow enc Tryz.prog Tryz.f5 Rows.tapeGapRow.domain false Rows.tapeGapRow.laid) (((OpenSpec.ofChange Rows.tapeGapSpec).at F).post enc Tryz.prog Tryz.f5 false true false false) := by
  obtain ⟨places, hx⟩ := reads os enc
  refine returnsInHanded_of_row (C := Tryz.checked) (s := OpenSpec.ofChange Rows.tapeGapSpec) Tryz.own started (by kernel_rfl) Tryz.func5
    (witness_row_at (enc := enc) (C := Tryz.checked) false (laidWorld os) #[.int .i64 0, .int .i64 0, .int .i64 0] rfl (by kernel_rfl) (by kernel_rfl) (by kernel_rfl)
      (OpenSpec.preRow_of_cond 8 hx (by kernel_rfl) (fun k hk => by cases hk) (by kernel_rfl) (laidWorld_met os _))) ?_
  intro W base args ds gs before hval hW _ _ _ hL _ _
  exact contract H enc W base args ds gs before hval hW hL

set_option maxHeartbeats 40000000 in
theorem closed : joinedFacts Tryz.prog 5 Tryz.f5 (OpenSpec.ofChange Rows.tapeGapSpec).bare Rows.tapeGapRow = true := by
  unfold joinedFacts
  simp only [Bool.and_eq_true]
  repeat' refine And.intro ?_ ?_
  all_goals (as_aux_lemma => kernel_rfl)
theorem said : Rows.TapeGapSaid :=
  OpenClaim.holds_of_cond 5 Tryz.f5 rfl rfl rfl rfl rfl rfl rfl ⟨rfl, rfl, rfl, rfl, rfl⟩ rfl rfl rfl rfl rfl (by kernel_rfl) Tryz.func5 closed
    (of_decide_eq_true (by kernel_rfl)) (by unfold Func.isWrapper; first | (rw [if_pos (by decide +kernel)]; kernel_rfl) | (rw [if_neg (by decide +kernel)]; exact ⟨rfl, rfl⟩))
    (fun os started H enc _ F => by rw [OpenClaim.pre_eq_preRow]; exact lifted os started H enc F)

theorem plain (f : FuncId) (fn : Func) (hf : Tryz.pinned.checked.prog.funcNamed "stave/stavelaw14.TapeGap" = some f) (hfn : Tryz.pinned.checked.prog.funcs[f]? = some fn) :
    true = Tryz.pinned.checked.prog.looks [] ∧ ∀ (j : Nat) t, fn.params[j]? = some t → Tryz.pinned.checked.prog.wantsStandIn t = false := by
  obtain rfl : f = 5 := Option.some.inj ((show Tryz.prog.funcNamed "stave/stavelaw14.TapeGap" = some 5 by kernel_rfl).symm.trans hf) |>.symm
  obtain rfl : fn = Tryz.f5 := (Option.some.inj (Tryz.func5.symm.trans hfn)).symm
  have hall : (Tryz.f5.params.toList.all fun t => !Tryz.prog.wantsStandIn t) = true := by kernel_rfl
  refine ⟨by kernel_rfl, fun j t ht => ?_⟩
  have := List.all_eq_true.1 hall t (by simpa using Array.mem_of_getElem? ht)
  have h2 : Tryz.prog.wantsStandIn t = false := by simpa using this
  exact h2

end Go.Proofs.YtilljaneegbhlaaGreatDoor.tapeGap
namespace Go.Proofs.YtilljaneegbhlaaGreatDoor
theorem TapeGap_card : Rows.TapeGapCardSaid :=
  Claim7.holds_tied_plain_at .later [] _ _ _ _ tapeGap.said (fun _ h => by cases h) (by kernel_rfl) (fun _ h => by cases h) tapeGap_row_tie rfl ⟨rfl, rfl⟩ (by kernel_rfl) rfl tapeGap.plain (by kernel_rfl)
#print axioms TapeGap_card
end Go.Proofs.YtilljaneegbhlaaGreatDoor
