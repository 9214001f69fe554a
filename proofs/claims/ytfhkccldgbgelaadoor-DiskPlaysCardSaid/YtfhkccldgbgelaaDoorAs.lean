/-
  errors.as, Go's own text, at the targets *api.Errno, *api.Loss and *api.Fault: what it answers and leaves behind.
-/
import Derived.Test.YtfhkccldgbgelaaDoorSets
namespace Go.Proofs.YtfhkccldgbgelaaDoor
open Go.RowKit Go.Extern.Stop Go.Stop Go.Extern

theorem chain_iface (l : List (ByteArray × Int)) (T : TypeId) (x : Value) : ∃ U y, chain l (.iface T x) = .iface U y := by
  cases l with
  | nil => exact ⟨_, _, rfl⟩
  | cons p l => exact ⟨_, _, rfl⟩
/-- (api.Fault).Unwrap. -/
theorem unwrap (s : ByteArray) (n : Int) (T : TypeId) (x : Value) (w : World) :
    Calls Tryd.prog 99 #[.agg #[.string s, .int .i64 n, .iface T x]] w fun e w' => e = .returned (.iface T x) ∧ w' = w.alloc (.cells #[.string s, .int .i64 n, .iface T x] 92) := by
  go_enter Tryd.func99, Tryd.ntmps99
  go_wp2
  go_ret
  exact ⟨rfl, rfl⟩

/-- What a round of errors.as's loop has: the rest of the chain; the call's own box. -/
def Rel (b box : Value) (vb : Nat) (w : World) (v : Value) (wr : World) : Prop :=
  ∃ l, v = chain l b ∧ Below (w.heap.size + 1) (w.alloc (.cells #[box, .pointer (some ⟨vb, 0, none⟩), .int .u64 150] 97)) wr
def Rel0 (b box : Value) (vb : Nat) (w : World) (v : Value) (wr : World) : Prop :=
  v = b ∧ Below (w.heap.size + 1) (w.alloc (.cells #[box, .pointer (some ⟨vb, 0, none⟩), .int .u64 150] 97)) wr

def AsHit25 (k : Int) (tb : Nat) (w : World) (e : Ending) (w' : World) : Prop :=
  e = .returned (.bool true) ∧ ∃ w1, Below w.heap.size w w1 ∧ w' = w1.setCell ⟨tb, 0, none⟩ (.int .i64 k)
def AsHit47 (s : ByteArray) (n : Int) (U : TypeId) (y : Value) (tb : Nat) (w : World) (e : Ending) (w' : World) : Prop :=
  e = .returned (.bool true) ∧ ∃ w1, Below w.heap.size w w1 ∧ w' = ((w1.setCell ⟨tb, 0, none⟩ (.string s)).setCell ⟨tb, 1, none⟩ (.int .i64 n)).setCell ⟨tb, 2, none⟩ (.iface U y)

set_option maxHeartbeats 1000000 in
theorem as25_hit (l : List (ByteArray × Int)) (k : Int) (tb vb : Nat) (o0 : Value) (w : World) (v : Value) (hc : v = chain l (errV k)) 
    (hv : w.cell? ⟨vb, 0, none⟩ = some (.pointer (some ⟨tb, 0, none⟩))) (ht0 : w.cell? ⟨tb, 0, none⟩ = some o0) (hf0 : w.frozen? ⟨tb, 0, none⟩ = false) :
    Calls Tryd.prog 51 #[v, .iface 85 (.pointer (some ⟨tb, 0, none⟩)), .agg #[.pointer (some ⟨1, 85, none⟩), .pointer (some ⟨vb, 0, none⟩), .int .u64 150], .iface 110 (.agg #[.pointer (some ⟨1, 37, none⟩)])] w (AsHit25 k tb w) := by
  have h17 := @run_callFunc_extern Tryd.prog 52 _ ReflectliteType.typeOf Tryd.func52 (by kernel_rfl) (by kernel_rfl) (by kernel_rfl) (by kernel_rfl)
  have h19 := @run_callFunc_extern Tryd.prog 48 _ (fun args => ReflectliteValue.unpack (args.getD 0 (.tuple #[]))) Tryd.func48 (by kernel_rfl) (by kernel_rfl) (by kernel_rfl) (by kernel_rfl)
  have h23 := @run_callFunc_extern Tryd.prog 57 _ (ReflectliteValue.method (ReflectliteValue.valueError "reflectlite.Value.Elem" 0) ReflectliteValue.elem) Tryd.func57 (by kernel_rfl) (by kernel_rfl) (by kernel_rfl) (by kernel_rfl)
  have h24 := @run_callFunc_extern Tryd.prog 58 _ ReflectliteValue.set Tryd.func58 (by kernel_rfl) (by kernel_rfl) (by kernel_rfl) (by kernel_rfl)
  have h51 := @run_callFunc_extern Tryd.prog 104 _ (ReflectliteType.relation "AssignableTo" ReflectliteType.assignableTo) Tryd.func104 (by kernel_rfl) (by kernel_rfl) (by kernel_rfl) (by kernel_rfl)
  have t25 := Tryd.typeOf25
  have t47 := Tryd.typeOf47
  have mA := Tryd.methodAssignableTo
  have a1 := Tryd.assignable25to25
  have a2 := Tryd.assignable47to25
  have v0 := Tryd.valueOf25
  have n1 := Tryd.noAs47
  have n2 := Tryd.hasUnwrap47
  have mU := Tryd.methodUnwrap
  go_enter Tryd.func51, Tryd.ntmps51
  go_wp2
  go_loopw [0] (fun v wr => Rel (errV k) (.pointer (some ⟨1, 85, none⟩)) vb w v wr) (fun v _ => SizeOf.sizeOf v)
  case atStart => exact ⟨l, hc, Below.refl _ _⟩
  case round =>
    obtain ⟨l, rfl, hB⟩ := hrel
    have htl : tb < w.heap.size := by
      rcases Nat.lt_or_ge tb w.heap.size with h | h
      · exact h
      · simp [World.cell?, Array.getElem?_eq_none h] at ht0
    have hvl : vb < w.heap.size := by
      rcases Nat.lt_or_ge vb w.heap.size with h | h
      · exact h
      · simp [World.cell?, Array.getElem?_eq_none h] at hv
    have hsz : w.heap.size + 1 ≤ wr.heap.size := by have := hB.size; simp only [World.size_alloc] at this; exact this
    have b0 : wr.cell? ⟨w.heap.size, 0, none⟩ = some (.pointer (some ⟨1, 85, none⟩)) := by rw [hB.cell (by simp)]; simp
    have b1 : wr.cell? ⟨w.heap.size, 1, none⟩ = some (.pointer (some ⟨vb, 0, none⟩)) := by rw [hB.cell (by simp)]; simp
    have b2 : wr.cell? ⟨w.heap.size, 2, none⟩ = some (.int .u64 150) := by rw [hB.cell (by simp)]; simp
    have hv' : wr.cell? ⟨vb, 0, none⟩ = some (.pointer (some ⟨tb, 0, none⟩)) := by rw [hB.cell (by show vb < _; omega), World.cell?_alloc_lt _ _ ⟨vb, 0, none⟩ hvl]; exact hv
    have ht0' : wr.cell? ⟨tb, 0, none⟩ = some o0 := by rw [hB.cell (by show tb < _; omega), World.cell?_alloc_lt _ _ ⟨tb, 0, none⟩ htl]; exact ht0
    have hf0' : wr.frozen? ⟨tb, 0, none⟩ = false := by rw [hB.frozen (by show tb < _; omega), World.frozen?_alloc_old _ _ ⟨tb, 0, none⟩ (Nat.ne_of_lt htl)]; exact hf0
    cases l with
    | nil =>
      have el := Tryd.elemV51 ⟨vb, 0, none⟩ ⟨tb, 0, none⟩ wr hv'
      have st := Tryd.set25 tb wr.heap.size k o0 (wr.alloc (.cells #[.int .i64 k] 37)) (by simp) (by rw [World.cell?_alloc_lt _ _ ⟨tb, 0, none⟩ (by show tb < _; omega)]; exact ht0') (by rw [World.frozen?_alloc_old _ _ ⟨tb, 0, none⟩ (by show tb ≠ _; omega)]; exact hf0')
      simp only [chain, errV]
      go_wp2
      go_ret
      exact ⟨rfl, _, ((Below.refl _ _).alloc (Nat.le_refl _) _).trans ((hB.mono (by omega)).alloc (by omega) _), rfl⟩
    | cons p l =>
      obtain ⟨U, y, hy⟩ := chain_iface l 37 (.int .i64 k)
      simp only [chain, wrapV]
      change chain l (errV k) = _ at hy
      rw [hy]
      have Hy := Lib.hid hy; clear hy
      go_wp2_with (go_at_call 99; refine (unwrap _ _ _ _ _).mono ?_; rintro e w' ⟨rfl, rfl⟩)
      go_roundw
      case rel => exact ⟨l, Hy.out.symm, hB.alloc (by omega) _⟩
      case measure => exact wrapV_size _ _ _



set_option maxHeartbeats 1000000 in
theorem as47_hit (s : ByteArray) (n : Int) (U : TypeId) (y : Value) (tb vb : Nat) (o0 o1 o2 : Value) (w : World) 
    (hv : w.cell? ⟨vb, 0, none⟩ = some (.pointer (some ⟨tb, 0, none⟩))) (ht0 : w.cell? ⟨tb, 0, none⟩ = some o0) (ht1 : w.cell? ⟨tb, 1, none⟩ = some o1) (ht2 : w.cell? ⟨tb, 2, none⟩ = some o2) (hf0 : w.frozen? ⟨tb, 0, none⟩ = false) (hf1 : w.frozen? ⟨tb, 1, none⟩ = false) (hf2 : w.frozen? ⟨tb, 2, none⟩ = false) :
    Calls Tryd.prog 51 #[(wrapV s n (.iface U y)), .iface 93 (.pointer (some ⟨tb, 0, none⟩)), .agg #[.pointer (some ⟨1, 93, none⟩), .pointer (some ⟨vb, 0, none⟩), .int .u64 150], .iface 110 (.agg #[.pointer (some ⟨1, 92, none⟩)])] w (AsHit47 s n U y tb w) := by
  have h17 := @run_callFunc_extern Tryd.prog 52 _ ReflectliteType.typeOf Tryd.func52 (by kernel_rfl) (by kernel_rfl) (by kernel_rfl) (by kernel_rfl)
  have h19 := @run_callFunc_extern Tryd.prog 48 _ (fun args => ReflectliteValue.unpack (args.getD 0 (.tuple #[]))) Tryd.func48 (by kernel_rfl) (by kernel_rfl) (by kernel_rfl) (by kernel_rfl)
  have h23 := @run_callFunc_extern Tryd.prog 57 _ (ReflectliteValue.method (ReflectliteValue.valueError "reflectlite.Value.Elem" 0) ReflectliteValue.elem) Tryd.func57 (by kernel_rfl) (by kernel_rfl) (by kernel_rfl) (by kernel_rfl)
  have h24 := @run_callFunc_extern Tryd.prog 58 _ ReflectliteValue.set Tryd.func58 (by kernel_rfl) (by kernel_rfl) (by kernel_rfl) (by kernel_rfl)
  have h51 := @run_callFunc_extern Tryd.prog 104 _ (ReflectliteType.relation "AssignableTo" ReflectliteType.assignableTo) Tryd.func104 (by kernel_rfl) (by kernel_rfl) (by kernel_rfl) (by kernel_rfl)
  have t47 := Tryd.typeOf47
  have mA := Tryd.methodAssignableTo
  have a1 := Tryd.assignable47to47
  have v0 := Tryd.valueOf47
  go_enter Tryd.func51, Tryd.ntmps51
  go_wp2
  go_loopw [0] (fun v wr => Rel0 (wrapV s n (.iface U y)) (.pointer (some ⟨1, 93, none⟩)) vb w v wr) (fun v _ => SizeOf.sizeOf v)
  case atStart => exact ⟨rfl, Below.refl _ _⟩
  case round =>
    obtain ⟨rfl, hB⟩ := hrel
    have htl : tb < w.heap.size := by
      rcases Nat.lt_or_ge tb w.heap.size with h | h
      · exact h
      · simp [World.cell?, Array.getElem?_eq_none h] at ht0
    have hvl : vb < w.heap.size := by
      rcases Nat.lt_or_ge vb w.heap.size with h | h
      · exact h
      · simp [World.cell?, Array.getElem?_eq_none h] at hv
    have hsz : w.heap.size + 1 ≤ wr.heap.size := by have := hB.size; simp only [World.size_alloc] at this; exact this
    have b0 : wr.cell? ⟨w.heap.size, 0, none⟩ = some (.pointer (some ⟨1, 93, none⟩)) := by rw [hB.cell (by simp)]; simp
    have b1 : wr.cell? ⟨w.heap.size, 1, none⟩ = some (.pointer (some ⟨vb, 0, none⟩)) := by rw [hB.cell (by simp)]; simp
    have b2 : wr.cell? ⟨w.heap.size, 2, none⟩ = some (.int .u64 150) := by rw [hB.cell (by simp)]; simp
    have hv' : wr.cell? ⟨vb, 0, none⟩ = some (.pointer (some ⟨tb, 0, none⟩)) := by rw [hB.cell (by show vb < _; omega), World.cell?_alloc_lt _ _ ⟨vb, 0, none⟩ hvl]; exact hv
    have ht0' : wr.cell? ⟨tb, 0, none⟩ = some o0 := by rw [hB.cell (by show tb < _; omega), World.cell?_alloc_lt _ _ ⟨tb, 0, none⟩ htl]; exact ht0
    have hf0' : wr.frozen? ⟨tb, 0, none⟩ = false := by rw [hB.frozen (by show tb < _; omega), World.frozen?_alloc_old _ _ ⟨tb, 0, none⟩ (Nat.ne_of_lt htl)]; exact hf0
    have ht1' : wr.cell? ⟨tb, 1, none⟩ = some o1 := by rw [hB.cell (by show tb < _; omega), World.cell?_alloc_lt _ _ ⟨tb, 1, none⟩ htl]; exact ht1
    have hf1' : wr.frozen? ⟨tb, 1, none⟩ = false := by rw [hB.frozen (by show tb < _; omega), World.frozen?_alloc_old _ _ ⟨tb, 1, none⟩ (Nat.ne_of_lt htl)]; exact hf1
    have ht2' : wr.cell? ⟨tb, 2, none⟩ = some o2 := by rw [hB.cell (by show tb < _; omega), World.cell?_alloc_lt _ _ ⟨tb, 2, none⟩ htl]; exact ht2
    have hf2' : wr.frozen? ⟨tb, 2, none⟩ = false := by rw [hB.frozen (by show tb < _; omega), World.frozen?_alloc_old _ _ ⟨tb, 2, none⟩ (Nat.ne_of_lt htl)]; exact hf2
    have el := Tryd.elemV49 ⟨vb, 0, none⟩ ⟨tb, 0, none⟩ wr hv'
    have st := Tryd.set47 tb wr.heap.size s n (.iface U y) rfl o0 o1 o2 (wr.alloc (.cells #[.string s, .int .i64 n, .iface U y] 92)) (by simp) (by simp) (by simp) (by rw [World.cell?_alloc_lt _ _ ⟨tb, 0, none⟩ (by show tb < _; omega)]; exact ht0') (by rw [World.cell?_alloc_lt _ _ ⟨tb, 1, none⟩ (by show tb < _; omega)]; exact ht1') (by rw [World.cell?_alloc_lt _ _ ⟨tb, 2, none⟩ (by show tb < _; omega)]; exact ht2') (by rw [World.frozen?_alloc_old _ _ ⟨tb, 0, none⟩ (by show tb ≠ _; omega)]; exact hf0') (by rw [World.frozen?_alloc_old _ _ ⟨tb, 1, none⟩ (by show tb ≠ _; omega)]; exact hf1') (by rw [World.frozen?_alloc_old _ _ ⟨tb, 2, none⟩ (by show tb ≠ _; omega)]; exact hf2')
    unfold wrapV
    go_wp2
    go_ret
    exact ⟨rfl, _, ((Below.refl _ _).alloc (Nat.le_refl _) _).trans ((hB.mono (by omega)).alloc (by omega) _), rfl⟩

set_option maxHeartbeats 1000000 in
theorem as47_miss25 (k : Int) (tb vb : Nat) (w : World) 
    (hv : w.cell? ⟨vb, 0, none⟩ = some (.pointer (some ⟨tb, 0, none⟩))) :
    Calls Tryd.prog 51 #[(errV k), .iface 93 (.pointer (some ⟨tb, 0, none⟩)), .agg #[.pointer (some ⟨1, 93, none⟩), .pointer (some ⟨vb, 0, none⟩), .int .u64 150], .iface 110 (.agg #[.pointer (some ⟨1, 92, none⟩)])] w (Miss w) := by
  have h17 := @run_callFunc_extern Tryd.prog 52 _ ReflectliteType.typeOf Tryd.func52 (by kernel_rfl) (by kernel_rfl) (by kernel_rfl) (by kernel_rfl)
  have h51 := @run_callFunc_extern Tryd.prog 104 _ (ReflectliteType.relation "AssignableTo" ReflectliteType.assignableTo) Tryd.func104 (by kernel_rfl) (by kernel_rfl) (by kernel_rfl) (by kernel_rfl)
  have t25 := Tryd.typeOf25
  have mA := Tryd.methodAssignableTo
  have a1 := Tryd.assignable25to47
  have n3 := Tryd.noAs25
  have n4 := Tryd.noUnwrap25
  have n5 := Tryd.noUnwraps25
  go_enter Tryd.func51, Tryd.ntmps51
  go_wp2
  go_loopw [0] (fun v wr => Rel0 (errV k) (.pointer (some ⟨1, 93, none⟩)) vb w v wr) (fun v _ => SizeOf.sizeOf v)
  case atStart => exact ⟨rfl, Below.refl _ _⟩
  case round =>
    obtain ⟨rfl, hB⟩ := hrel
    have hvl : vb < w.heap.size := by
      rcases Nat.lt_or_ge vb w.heap.size with h | h
      · exact h
      · simp [World.cell?, Array.getElem?_eq_none h] at hv
    have hsz : w.heap.size + 1 ≤ wr.heap.size := by have := hB.size; simp only [World.size_alloc] at this; exact this
    unfold errV
    go_wp2
    go_ret
    exact ⟨rfl, ((Below.refl _ _).alloc (Nat.le_refl _) _).trans (hB.mono (by omega))⟩


end Go.Proofs.YtfhkccldgbgelaaDoor
