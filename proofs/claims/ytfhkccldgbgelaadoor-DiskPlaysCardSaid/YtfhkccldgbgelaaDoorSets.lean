/-
  (reflectlite.Value).Set at the three target types: what it leaves in memory.
-/
import Derived.Test.YtfhkccldgbgelaaDoorVals
namespace Go.Proofs.YtfhkccldgbgelaaDoor
open Go.RowKit Go.Extern.Stop Go.Stop Go.Extern

theorem rls (v x : Value) : ReflectliteValue.set #[v, x] = (do
    let (some (dst, a, fl), some (src, b, _)) := (← ReflectliteValue.parts v, ← ReflectliteValue.parts x)
      | unsupported (.noEntry "extern/(internal/reflectlite.Value).Set.zeroValue")
    if fl / ReflectliteValue.flagAddr % 2 == 0 then unsupported (.noEntry "extern/(internal/reflectlite.Value).Set.unaddressable")
    let val ← loadVar src b
    if ← Rtype.directlyAssignable dst src then storeVar dst a val
    else if ← Rtype.implements dst src then
      if (← Rtype.kind src) == 20 then
        match val with
        | .nilIface => unsupported (.noEntry "extern/reflectlite: a nil value of one interface type handed on as a value of another")
        | _ => storeVar dst a val
      else storeVar dst a (.iface src val)
    else panicString ("reflectlite.Set: value of type " ++ (← Rtype.spelt src) ++ " is not assignable to type " ++ (← Rtype.spelt dst))
    pure (.tuple #[])) := rfl

theorem Tryd.size25 (w : World) : (sizeOf 37).run Tryd.prog w = .ok 1 w := by kernel_rfl
theorem Tryd.size47 (w : World) : (sizeOf 92).run Tryd.prog w = .ok 3 w := by kernel_rfl

theorem Tryd.set25 (tb b : Nat) (n : Int) (old : Value) (W : World) (hb : W.cell? ⟨b, 0, none⟩ = some (.int .i64 n)) (ht : W.cell? ⟨tb, 0, none⟩ = some old) (hf : W.frozen? ⟨tb, 0, none⟩ = false) :
    (ReflectliteValue.set #[.agg #[.pointer (some ⟨1, 37, none⟩), .pointer (some ⟨tb, 0, none⟩), .int .u64 386], .agg #[.pointer (some ⟨1, 37, none⟩), .pointer (some ⟨b, 0, none⟩), .int .u64 130]]).run Tryd.prog W
      = .ok (.tuple #[]) (W.setCell ⟨tb, 0, none⟩ (.int .i64 n)) := by
  rw [rls]
  simp only [Sem.run_bind, Tryd.parts25a, Tryd.parts25, Result.andThen]
  simp [ReflectliteValue.flagAddr, loadVar, isAgg, underlying, Tryd.underlying37, hb, Result.andThen, Tryd.direct25, storeVar, Value.cells, storeCells, Addr.add]
  rw [run_store Tryd.prog W ⟨tb, 0, none⟩ _ _ (by rfl)]
  simp [ht, hf]


theorem Tryd.load47 (b : Nat) (s : ByteArray) (n : Int) (v : Value) (W : World) (h0 : W.cell? ⟨b, 0, none⟩ = some (.string s)) (h1 : W.cell? ⟨b, 1, none⟩ = some (.int .i64 n)) (h2 : W.cell? ⟨b, 2, none⟩ = some v) :
    (loadVar 92 ⟨b, 0, none⟩).run Tryd.prog W = .ok (.agg #[.string s, .int .i64 n, v]) W := by
  simp [loadVar, isAgg, underlying, Tryd.underlying92, Result.andThen, loadCells, loadCellsFrom, Addr.add, h0, h1, h2]

theorem store3 {P : Program} (tb : Nat) (u0 u1 u2 o0 o1 o2 : Value) (W : World) (c0 : u0.oneCell' = true) (c1 : u1.oneCell' = true) (c2 : u2.oneCell' = true)
    (h0 : W.cell? ⟨tb, 0, none⟩ = some o0) (h1 : W.cell? ⟨tb, 1, none⟩ = some o1) (h2 : W.cell? ⟨tb, 2, none⟩ = some o2)
    (f0 : W.frozen? ⟨tb, 0, none⟩ = false) (f1 : W.frozen? ⟨tb, 1, none⟩ = false) (f2 : W.frozen? ⟨tb, 2, none⟩ = false) :
    (storeCells ⟨tb, 0, none⟩ [u0, u1, u2]).run P W = .ok () (((W.setCell ⟨tb, 0, none⟩ u0).setCell ⟨tb, 1, none⟩ u1).setCell ⟨tb, 2, none⟩ u2) := by
  have n1 : (⟨tb, 0, none⟩ : Addr) ≠ ⟨tb, 1, none⟩ := by simp
  have n2 : (⟨tb, 0, none⟩ : Addr) ≠ ⟨tb, 2, none⟩ := by simp
  have n3 : (⟨tb, 1, none⟩ : Addr) ≠ ⟨tb, 2, none⟩ := by simp
  simp only [storeCells, Addr.add, Nat.zero_add, Sem.run_bind, Nat.reduceAdd, ↓reduceIte, Nat.reduceEqDiff, Nat.succ_ne_self]
  rw [run_store P W ⟨tb, 0, none⟩ _ _ c0]
  simp [h0, f0, Result.andThen]
  rw [run_store P _ ⟨tb, 1, none⟩ _ _ c1]
  simp [f1, World.cell?_setCell_other (h := n1), h1]
  rw [run_store P _ ⟨tb, 2, none⟩ _ _ c2]
  simp [f2, World.cell?_setCell_other (h := n2), World.cell?_setCell_other (h := n3), h2]


theorem Tryd.set47 (tb b : Nat) (s : ByteArray) (n : Int) (v : Value) (hv : v.oneCell' = true) (o0 o1 o2 : Value) (W : World) (b0 : W.cell? ⟨b, 0, none⟩ = some (.string s)) (b1 : W.cell? ⟨b, 1, none⟩ = some (.int .i64 n)) (b2 : W.cell? ⟨b, 2, none⟩ = some v)
    (h0 : W.cell? ⟨tb, 0, none⟩ = some o0) (h1 : W.cell? ⟨tb, 1, none⟩ = some o1) (h2 : W.cell? ⟨tb, 2, none⟩ = some o2)
    (f0 : W.frozen? ⟨tb, 0, none⟩ = false) (f1 : W.frozen? ⟨tb, 1, none⟩ = false) (f2 : W.frozen? ⟨tb, 2, none⟩ = false) :
    (ReflectliteValue.set #[.agg #[.pointer (some ⟨1, 92, none⟩), .pointer (some ⟨tb, 0, none⟩), .int .u64 409], .agg #[.pointer (some ⟨1, 92, none⟩), .pointer (some ⟨b, 0, none⟩), .int .u64 153]]).run Tryd.prog W
      = .ok (.tuple #[]) (((W.setCell ⟨tb, 0, none⟩ (.string s)).setCell ⟨tb, 1, none⟩ (.int .i64 n)).setCell ⟨tb, 2, none⟩ v) := by
  rw [rls]
  simp only [Sem.run_bind, Tryd.parts47a, Tryd.parts47, Result.andThen]
  simp [ReflectliteValue.flagAddr, Tryd.load47 b s n v W b0 b1 b2, Result.andThen, Tryd.direct47, storeVar, Value.cells]
  rw [store3 tb (.string s) (.int .i64 n) v o0 o1 o2 W rfl rfl hv h0 h1 h2 f0 f1 f2]
end Go.Proofs.YtfhkccldgbgelaaDoor
