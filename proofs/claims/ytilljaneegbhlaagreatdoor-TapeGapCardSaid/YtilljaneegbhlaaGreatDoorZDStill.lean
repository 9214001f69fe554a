import Derived.Test.YtilljaneegbhlaaGreatDoorZKit
import Derived.Deep.MidRow
import Derived.Deep.WholeRow
namespace Go.Proofs.YtilljaneegbhlaaGreatDoor
open Go.RowKit
variable {w : World} {a : Act}
theorem wpStill_val {P : Program} {ops : Array Oper} {Q : Act → Prop} {o : Oper} {rest : List Oper} (hg : o.guard = none) (v : Value) (h : (execOp a.eval o).run P w = .ok (.value v) w)
  (hk : wpStill P ops w Q rest (a.put o.dst v)) : wpStill P ops w Q (o :: rest) a := by
 refine wpStill_step fun K hK => ?_
 rw [if_pos (by simp [Region.wanted, hg])]
 unfold Oper.still
 rw [h, Oper.stillUpon_value]
 exact hK _ hk
theorem wpStill_load_mid {P : Program} {ops : Array Oper} {Q : Act → Prop} {o : Oper} {rest : List Oper} (hg : o.guard = none) (ty : TypeId) (x : Operand) (ho : o.op = .load ty x)
  (b i : Nat) (hx : a.eval x = .pointer (some ⟨b, i, none⟩)) (cs : List Value) (d : TypeDesc) (hc : w.rangeAt b i cs)
  (hu : P.underlying ty = some d) (hd : d.isRow = true) (hi : (P.info? ty).map (·.size) = some cs.length)
  (hk : wpStill P ops w Q rest (a.put o.dst (.agg cs.toArray))) : wpStill P ops w Q (o :: rest) a :=
 wpStill_val hg _ (by
  unfold execOp
  simp only [ho, hx, Instr.loadAt, Instr.sureAddr, Sem.run_bind, Sem.run_pure, Result.andThen_ok, run_loadVar_mid w b i ty cs d hc hu hd hi]) hk
theorem wpStill_lookup {P : Program} {ops : Array Oper} {Q : Act → Prop} {o : Oper} {rest : List Oper} (hg : o.guard = none) (t : TypeId) (m x : Operand) (ok : Bool) (ho : o.op = .lookup t m x ok)
  (mv xv v : Value) (hm : a.eval m = mv) (hx : a.eval x = xv) (hr : (Instr.lookup t mv xv ok).run P w = .ok v w) (hk : wpStill P ops w Q rest (a.put o.dst v)) : wpStill P ops w Q (o :: rest) a :=
 wpStill_val hg v (by unfold execOp; simp only [ho, hm, hx, Sem.run_bind, Sem.run_pure, Result.andThen_ok, hr]) hk
theorem wpStill_build {P : Program} {ops : Array Oper} {Q : Act → Prop} {o : Oper} {rest : List Oper} (hg : o.guard = none) (t : TypeId) (i : Nat) (x : Operand) (ho : o.op = .build t #[(i, x)])
  (xv v : Value) (hx : a.eval x = xv) (hr : (Instr.build t #[(i, xv)]).run P w = .ok v w) (hk : wpStill P ops w Q rest (a.put o.dst v)) : wpStill P ops w Q (o :: rest) a :=
 wpStill_val hg v (by unfold execOp; simp [ho, hx, hr]) hk
theorem wpList_store_run {P : Program} {w' : World} {ops : Array Oper} {rest : List Oper} {o : Oper} {Q : Exit → Act → World → Prop} (hg : o.guard = none) (t : TypeId) (x y : Operand) (ho : o.op = .store t x y)
  (ad : Addr) (v : Value) (hx : a.eval x = .pointer (some ad)) (hy : a.eval y = v) (hr : (storeVar t ad v).run P w = .ok () w')
  (h : wpList P ops Q rest (a.put o.dst undef) w') : wpList P ops Q (o :: rest) a w :=
 wpList_plain hg fun _ hK => by
  unfold Oper.wp execOp; simp only [ho, hx, hy, Instr.storeAt, Instr.sureAddr, Sem.run_bind, Sem.run_pure, Result.andThen_ok, hr]; exact hK _ _ h
end Go.Proofs.YtilljaneegbhlaaGreatDoor
