/-
  disk.New, and the small functions: has, Sectors, Dead; a sector of one byte.
-/
import Derived.Test.YtbokangpcjeofaaGreatDoorDKit
import Derived.Test.YtbokangpcjeofaaGreatDoorKind
import Derived.Test.YtbokangpcjeofaaGreatDoorDStill
namespace Go.Proofs.YtbokangpcjeofaaGreatDoor
open Go.RowKit Go.Deep Dk Go.Maps
set_option maxHeartbeats 1000000 in
set_option maxRecDepth 100000 in
theorem has_any {d S M : Nat} {s : St} (w : World) (h : DiskIn w d S M s) (i : Int) : Calls Tryz.prog 85 #[.pointer (some ⟨d, 0, none⟩), .int .i64 i] w (BitSame (decide (0 ≤ i ∧ i < s.n)) w) := by
  have c0 := h.c0
  clear h
  by_cases h0 : 0 ≤ i
  · by_cases h1 : i < s.n
    · have hd : decide (0 ≤ i ∧ i < s.n) = true := by simp; omega
      have HD := Lib.hid hd; clear hd
      go_enter Tryz.func85, Tryz.ntmps85
      go_wp2
      go_ret
      exact bitSame HD.out.symm
    · go_enter Tryz.func85, Tryz.ntmps85
      go_wp2
      go_ret
      exact bitSame (by simp; omega)
  · go_enter Tryz.func85, Tryz.ntmps85
    go_wp2
    go_ret
    exact bitSame (by simp; omega)
set_option maxHeartbeats 1000000 in
theorem dead_any {d S M : Nat} {s : St} (w : World) (h : DiskIn w d S M s) : Calls Tryz.prog 69 #[.pointer (some ⟨d, 0, none⟩)] w (BitSame s.dead w) := by
  have c2 := h.c2
  clear h
  go_enter Tryz.func69, Tryz.ntmps69
  go_wp2
  go_ret
  exact bitSame rfl
theorem made_flat {zs : List Value} {k : Nat} (hk : zs.length = k) (n : Nat) : (madeCells zs.toArray (n * k)).toList = flat n fun _ => zs := by
  refine flat_ext (fun _ => hk) (by simp [madeCells, Nat.mul_comm]) fun i j hi hj => ?_
  have h1 : k * i + j < n * k := by have := apart_of (k := k) hi; rw [Nat.mul_comm n k]; omega
  have h2 : (k * i + j) % k = j := by rw [Nat.mul_add_mod]; exact Nat.mod_eq_of_lt hj
  have h3 : j < zs.length := by omega
  simp [madeCells, h1, hk, h2]
  simp [h3]
theorem secsV_new (n : Nat) : secsV n (fun _ => zer) (fun _ => false) = flat n fun _ => secV zer false := rfl
theorem Tryz.info143 : (Tryz.prog.info? 143).map (fun i => (i.zero, i.size, i.bytes)) = some (some (.agg (secV zer false).toArray), 129, 129) := by kernel_rfl
/-- make([]sector, n). -/
theorem make_secs (n : Nat) (h : n ≤ 128) (w : World) : (Instr.makeSlice 114 (.int .i64 (n : Int)) (.int .i64 (n : Int))).run Tryz.prog w =
    .ok (.slice (some ⟨w.heap.size, 0, none⟩) n n) (w.alloc (.cells (secsV n (fun _ => zer) (fun _ => false)).toArray 143)) := by
  obtain ⟨i, hi, hz⟩ := Option.map_eq_some_iff.1 Tryz.info143
  simp only [Prod.mk.injEq] at hz
  obtain ⟨h1, h2, h3⟩ := hz
  have hr := run_make (P := Tryz.prog) w 114 143 i _ Tryz.underlying114 hi h1 .i64 .i64 n n (by omega) (Int.le_refl _) (by rw [h3]; omega) (by omega)
  simp only [Int.toNat_natCast, h2] at hr
  rw [hr, secsV_new, ← made_flat (secV_length zer_length false)]
  rfl
/-- A new disk. -/
def NewDisk (n : Nat) (w : World) (e : Ending) (w' : World) : Prop :=
  ∃ d S M, e = .returned (.tuple #[.pointer (some ⟨d, 0, none⟩), .nilIface]) ∧ DiskIn w' d S M (new n) ∧ w.heap.size ≤ d ∧ w.heap.size ≤ S ∧ w.heap.size ≤ M ∧ Below w.heap.size w w'
theorem newDisk_new (n : Nat) (w : World) (h0 : 1 ≤ n) (h : n ≤ 128) :
    DiskIn (((w.alloc (.cells (secsV n (fun _ => zer) (fun _ => false)).toArray 143)).alloc (.map #[] 0)).alloc (.cells #[.slice (some ⟨w.heap.size, 0, none⟩) n n, .map (some (w.heap.size + 1)), .bool false] 117)) (w.heap.size + 1 + 1) w.heap.size (w.heap.size + 1) (new n) := by
  have hs : (w.alloc (.cells (secsV n (fun _ => zer) (fun _ => false)).toArray 143)).heap.size = w.heap.size + 1 := by simp
  have hm := MapIn.made (w.alloc (.cells (secsV n (fun _ => zer) (fun _ => false)).toArray 143)) n
  rw [hs] at hm
  refine ⟨new_ok h, h0, ?_, ?_, .map [], hm.keep (heap_alloc_old _ _ (by simp))⟩
  · have := heap_alloc_new ((w.alloc (.cells (secsV n (fun _ => zer) (fun _ => false)).toArray 143)).alloc (.map #[] 0)) (.cells #[.slice (some ⟨w.heap.size, 0, none⟩) n n, .map (some (w.heap.size + 1)), .bool false] 117)
    rw [show ((w.alloc (.cells (secsV n (fun _ => zer) (fun _ => false)).toArray 143)).alloc (.map #[] 0)).heap.size = w.heap.size + 1 + 1 by simp] at this
    exact this
  · rw [heap_alloc_old (r := w.heap.size) _ _ (by simp; omega), heap_alloc_old (r := w.heap.size) _ _ (by simp)]
    exact heap_alloc_new w _
set_option maxHeartbeats 1000000 in
set_option maxRecDepth 100000 in
theorem new_yes (n : Nat) (w : World) (h0 : 1 ≤ n) (h : n ≤ 128) : Calls Tryz.prog 44 #[.int .i64 (n : Int)] w (NewDisk n w) := by
  have hk := make_secs n h
  have hm := @run_makeMap Tryz.prog
  have HI := Lib.hid (newDisk_new n w h0 h)
  generalize (secsV n (fun _ => zer) (fun _ => false)).toArray = cs at hk HI
  go_enter Tryz.func44, Tryz.ntmps44
  go_wp2
  refine bodyPost_ret (v := .tuple #[.pointer (some ⟨w.heap.size + 1 + 1, 0, none⟩), .nilIface]) (by simp [results, Tryz.results44, go_sem]) rfl ⟨_, _, _, rfl, HI.out, by omega, by omega, by omega, ?_⟩
  exact balloc (balloc (one_below _ _) _) _
def opNew : ByteArray := ⟨#[100, 105, 115, 107, 46, 78, 101, 119]⟩
def opWrite : ByteArray := ⟨#[100, 105, 115, 107, 46, 87, 114, 105, 116, 101]⟩
def opRead : ByteArray := ⟨#[100, 105, 115, 107, 46, 82, 101, 97, 100]⟩
def opFlush : ByteArray := ⟨#[100, 105, 115, 107, 46, 70, 108, 117, 115, 104]⟩
/-- An error, alone. -/
def Err1 (op : ByteArray) (k at_ : Int) (w : World) (e : Ending) (w' : World) : Prop := e = .returned (wrapV op at_ (errV k)) ∧ w = w'
/-- A zero value, and an error. -/
def Err2 (z : Value) (op : ByteArray) (k at_ : Int) (w : World) (e : Ending) (w' : World) : Prop := e = .returned (.tuple #[z, wrapV op at_ (errV k)]) ∧ w = w'
set_option maxHeartbeats 1000000 in
set_option maxRecDepth 100000 in
theorem new_no (n : Int) (w : World) (h : ¬ (1 ≤ n ∧ n ≤ 128)) : Calls Tryz.prog 44 #[.int .i64 n] w (Err2 (.pointer none) opNew 1 n w) := by
  by_cases h1 : n < 1
  · clear h
    go_enter Tryz.func44, Tryz.ntmps44
    go_wp2_with (go_at_call 43; refine (wrap_some _ _ _ _ _).mono ?_; rintro e w' ⟨rfl, rfl⟩)
    exact bodyPost_ret (v := .tuple #[.pointer none, wrapV opNew n (errV 1)]) (by simp [results, Tryz.results44, go_sem, wrapV, errV, opNew]) rfl ⟨rfl, rfl⟩
  · have h2 : 128 < n := by omega
    clear h
    go_enter Tryz.func44, Tryz.ntmps44
    go_wp2_with (go_at_call 43; refine (wrap_some _ _ _ _ _).mono ?_; rintro e w' ⟨rfl, rfl⟩)
    exact bodyPost_ret (v := .tuple #[.pointer none, wrapV opNew n (errV 1)]) (by simp [results, Tryz.results44, go_sem, wrapV, errV, opNew]) rfl ⟨rfl, rfl⟩
end Go.Proofs.YtbokangpcjeofaaGreatDoor
/-
  (*disk.Disk).Read.
-/
namespace Go.Proofs.YtbokangpcjeofaaGreatDoor
open Go.RowKit Go.Deep Dk Go.Maps
set_option maxHeartbeats 1000000 in
set_option maxRecDepth 100000 in
theorem read_dead {d S M : Nat} {s : St} (w : World) (h : DiskIn w d S M s) (hd : s.dead = true) (i : Int) : Calls Tryz.prog 73 #[.pointer (some ⟨d, 0, none⟩), .int .i64 i] w (Err2 (.slice none 0 0) opRead 5 i w) := by
  have c2 := h.c2
  rw [hd] at c2
  clear h hd
  go_enter Tryz.func73, Tryz.ntmps73
  go_wp2_with (go_at_call 43; refine (wrap_some _ _ _ _ _).mono ?_; rintro e w' ⟨rfl, rfl⟩)
  exact bodyPost_ret (v := .tuple #[.slice none 0 0, wrapV opRead i (errV 5)]) (by simp [results, Tryz.results73, go_sem, wrapV, errV, opRead]) rfl ⟨rfl, rfl⟩
set_option maxHeartbeats 1000000 in
set_option maxRecDepth 100000 in
theorem read_no {d S M : Nat} {s : St} (w : World) (h : DiskIn w d S M s) (hd : s.dead = false) (i : Int) (hno : ¬ (0 ≤ i ∧ i < s.n)) : Calls Tryz.prog 73 #[.pointer (some ⟨d, 0, none⟩), .int .i64 i] w (Err2 (.slice none 0 0) opRead 1 i w) := by
  have c2 := h.c2
  rw [hd] at c2
  have HH := Lib.hid (has_any w h i)
  rw [decide_eq_false hno] at HH
  clear h hd hno
  go_enter Tryz.func73, Tryz.ntmps73
  go_wp2_with (first
    | (go_at_call 85; refine HH.out.mono ?_; rintro e w' ⟨rfl, rfl⟩)
    | (go_at_call 43; refine (wrap_some _ _ _ _ _).mono ?_; rintro e w' ⟨rfl, rfl⟩))
  exact bodyPost_ret (v := .tuple #[.slice none 0 0, wrapV opRead i (errV 1)]) (by simp [results, Tryz.results73, go_sem, wrapV, errV, opRead]) rfl ⟨rfl, rfl⟩
/-- A new row of bytes, whose block is known to be new. -/
def NewRow (l : List UInt8) (w : World) (v : Value) (w' : World) : Prop := ∃ g, v = .slice (some ⟨g, 0, none⟩) l.length l.length ∧ w.heap.size ≤ g ∧ g < w'.heap.size ∧ Holds w' g (bytesV l)
theorem NewRow.slb {l : List UInt8} {w w' : World} {v : Value} (h : NewRow l w v w') : SlB w'.heap.size w' v l := by
  obtain ⟨g, rfl, _, h2, h3⟩ := h
  exact slb_lit h3 h2 (Nat.le_refl _)
/-- It stays when a disk that was there is written. -/
theorem NewRow.chg {l : List UInt8} {w w' w2 : World} {v : Value} {d S M : Nat} (h : NewRow l w v w') (hd : d < w.heap.size) (hS : S < w.heap.size) (hM : M < w.heap.size) (hc : Chg d S M w' w2) : NewRow l w v w2 := by
  obtain ⟨g, rfl, h1, h2, h3⟩ := h
  refine ⟨g, rfl, h1, Nat.lt_of_lt_of_le h2 hc.size, fun i u hu => ?_⟩
  have e : w2.heap[g]? = w'.heap[g]? := hc.block g h2 (by omega) (by omega) (by omega)
  rw [World.cell?_of_block (a := ⟨g, i, none⟩) e]
  exact h3 i u hu
theorem NewRow.below {l : List UInt8} {w w' w2 : World} {v : Value} (h : NewRow l w v w') (hb : Below w'.heap.size w' w2) : NewRow l w v w2 := by
  obtain ⟨g, rfl, h1, h2, h3⟩ := h
  exact ⟨g, rfl, h1, Nat.lt_of_lt_of_le h2 hb.size, h3.below h2 hb⟩
/-- What Read tells. -/
def Reads (l : List UInt8) (w : World) (e : Ending) (w' : World) : Prop := ∃ v, e = .returned (.tuple #[v, .nilIface]) ∧ NewRow l w v w' ∧ Below w.heap.size w w'
theorem reads_new (w : World) {l rd : List UInt8} (hl : l.length = 128) (e : rd = l) : Reads rd w (.returned (.tuple #[.slice (some ⟨w.heap.size, 0, none⟩) 128 128, .nilIface])) (w.alloc (.cells (bytesV l).toArray 139)) := by
  subst e
  exact ⟨_, rfl, ⟨w.heap.size, by rw [hl], Nat.le_refl _, by simp, holds_new w _ _ _ (by simp)⟩, one_below _ _⟩
theorem wpList_store_new_sec {P : Program} {w : World} {ops : Array Oper} {rest : List Oper} {o : Oper} {a : Act} {Q : Exit → Act → World → Prop} (hg : o.guard = none) (x y : Operand) (t : TypeId) (ho : o.op = .store t x y)
    (hsz : (P.info? t).map (·.size) = some 128) (c c' : List UInt8) (hc : c.length = 128) (hc' : c'.length = 128) (hx : a.eval x = .pointer (some ⟨w.heap.size, 0, none⟩)) (hy : a.eval y = .agg (bytesV c').toArray)
    (h : wpList P ops Q rest (a.put o.dst undef) (w.alloc (.cells (bytesV c').toArray t))) : wpList P ops Q (o :: rest) a (w.alloc (.cells (bytesV c).toArray t)) :=
  wpList_plain hg fun _ hK => by
    have hr := run_storeVar_new (P := P) w t (bytesV c).toArray (bytesV c').toArray (by rw [hsz]; simp [bytesV_length, hc']) (by simp [bytesV_length, hc, hc']) (all_oneCell_toArray (bytesV_one c'))
    unfold Oper.wp execOp
    simp only [ho, hx, hy, Instr.storeAt, Instr.sureAddr, Sem.run_bind, Sem.run_pure, Result.andThen_ok, hr]
    exact hK _ _ h
theorem wpList_lookup_sec (w : World) {ops : Array Oper} {rest : List Oper} {o : Oper} {a : Act} {Q : Exit → Act → World → Prop} (hg : o.guard = none) (m x : Operand) (hop : o.op = Op.lookup 115 m x true)
    {M n i : Nat} {f : Nat → Option Sec} {D : DataW Unit} (hm : a.eval m = .map (some M)) (hx : a.eval x = .int .i64 (i : Int)) (hM : MapIn w M n f D) (hi : i < n) (hn : n ≤ 128)
    (hK : wpList Tryz.prog ops Q rest (a.put o.dst (.tuple #[.agg (bytesV ((f i).getD zer)).toArray, .bool (f i).isSome])) w) : wpList Tryz.prog ops Q (o :: rest) a w := by
  refine wpList_lookup_own_ok w hg m x 115 hop 3 139 keyed Tryz.underlying115 secR (zero_sec w) _ [] (secR_mk zer_length) M (Maps.size D) D hm hM.own _ (kI i) hx (key_kI (by omega)) fun v ps hv => ?_
  rw [hM.told hi hv, hM.has i hi]
  exact hK
theorem DiskIn.range {w : World} {d S M : Nat} {s : St} (h : DiskIn w d S M s) {i : Nat} (hi : i < s.n) : w.rangeAt S (i * 129) (bytesV (s.st i)) := fun j v hv => by
  have hj : j < 128 := by have := (List.getElem?_eq_some_iff.1 hv).1; rwa [bytesV_length, h.ok.st] at this
  rw [cell_of_row w S _ _ _ _ h.secs, Nat.mul_comm]
  have hf : ∀ i, (secV (s.st i) (s.rot i)).length = 129 := fun i => secV_length (h.ok.st i) _
  show (secsV s.n s.st s.rot).toArray[129 * i + j]? = _
  rw [List.getElem?_toArray]
  unfold secsV
  rw [flat_at hf (by omega) hi]
  unfold secV
  rw [List.getElem?_append_left (by rw [bytesV_length, h.ok.st]; exact hj)]
  exact hv
set_option maxHeartbeats 1000000 in
set_option maxRecDepth 100000 in
theorem read_yes {d S M : Nat} {s : St} (w : World) (h : DiskIn w d S M s) (hd : s.dead = false) (i : Nat) (hi : i < s.n) :
    Calls Tryz.prog 73 #[.pointer (some ⟨d, 0, none⟩), .int .i64 (i : Int)] w (Reads (s.read i) w) := by
  have c0 := h.c0
  have c1 := h.c1
  have c2 := h.c2
  rw [hd] at c2
  have HH := Lib.hid (has_any w h i)
  rw [decide_eq_true (by omega)] at HH
  obtain ⟨D, hm⟩ := h.map_
  have HR := Lib.hid (fun o => World.rangeAt_alloc (h.range hi) o)
  have HL := Lib.hid (h.ok.st i)
  have HZ := Lib.hid (show ((s.wt i).getD zer).length = 128 by
    cases e : s.wt i with
    | none => exact zer_length
    | some b => exact (h.ok.wt i b e).2)
  have HM := Lib.hid hm
  have hn := h.ok.n
  have hzero := zero_sec
  have hlt := h.lt
  have HE := Lib.hid (show s.read i = (s.wt i).getD (s.st i) from rfl)
  generalize s.read i = rd at HE ⊢
  clear h hm hd
  cases hw : s.wt i with
  | none =>
    have HW := Lib.hid hw
    clear hw
    go_enter Tryz.func73, Tryz.ntmps73
    go_wp2_with (first
      | (go_at_call 85; refine HH.out.mono ?_; rintro e w' ⟨rfl, rfl⟩)
      | (at_lookup; refine wpList_lookup_sec _ rfl _ _ rfl rfl rfl HM.out hi (by omega) ?_; rw [HW.out])
      | (refine wpList_store_new_sec rfl _ _ 139 rfl size_sec zer _ zer_length (by first | exact zer_length | exact HL.out) rfl rfl ?_)
      | (refine wpList_load_mid rfl 139 _ rfl S (i * 129) rfl (bytesV (s.st i)) _ (HR.out _) Tryz.underlying139 rfl (by rw [bytesV_length, HL.out]; exact size_sec) ?_))
    exact bodyPost_ret (v := .tuple #[.slice (some ⟨w.heap.size, 0, none⟩) 128 128, .nilIface]) (by simp [results, Tryz.results73, go_sem]) rfl (reads_new w HL.out (by rw [HE.out, HW.out]; rfl))
  | some b =>
    have HW := Lib.hid hw
    clear hw
    have HB := Lib.hid (show b.length = 128 by have := HZ.out; rw [HW.out] at this; exact this)
    go_enter Tryz.func73, Tryz.ntmps73
    go_wp2_with (first
      | (go_at_call 85; refine HH.out.mono ?_; rintro e w' ⟨rfl, rfl⟩)
      | (at_lookup; refine wpList_lookup_sec _ rfl _ _ rfl rfl rfl HM.out hi (by omega) ?_; rw [HW.out])
      | (refine wpList_store_new_sec rfl _ _ 139 rfl size_sec zer _ zer_length (by first | exact zer_length | exact HL.out | exact HB.out) rfl rfl ?_))
    exact bodyPost_ret (v := .tuple #[.slice (some ⟨w.heap.size, 0, none⟩) 128 128, .nilIface]) (by simp [results, Tryz.results73, go_sem]) rfl (reads_new w HB.out (by rw [HE.out, HW.out]; rfl))
end Go.Proofs.YtbokangpcjeofaaGreatDoor
/-
  (*disk.Disk).Write.
-/
namespace Go.Proofs.YtbokangpcjeofaaGreatDoor
open Go.RowKit Go.Deep Dk Go.Maps
set_option maxHeartbeats 1000000 in
set_option maxRecDepth 100000 in
theorem write_dead {d S M : Nat} {s : St} (w : World) (h : DiskIn w d S M s) (hd : s.dead = true) (i : Int) (v : Value) : Calls Tryz.prog 54 #[.pointer (some ⟨d, 0, none⟩), .int .i64 i, v] w (Err1 opWrite 5 i w) := by
  have c2 := h.c2
  rw [hd] at c2
  clear h hd
  go_enter Tryz.func54, Tryz.ntmps54
  go_wp2_with (go_at_call 43; refine (wrap_some _ _ _ _ _).mono ?_; rintro e w' ⟨rfl, rfl⟩)
  exact bodyPost_ret (v := wrapV opWrite i (errV 5)) (by simp [results, Tryz.results54, go_sem, wrapV, errV, opWrite]) rfl ⟨rfl, rfl⟩
set_option maxHeartbeats 1000000 in
set_option maxRecDepth 100000 in
theorem write_no {d S M : Nat} {s : St} (w : World) (h : DiskIn w d S M s) (hd : s.dead = false) (i : Int) (a : Option Addr) (len cap : Nat) (hno : ¬ (0 ≤ i ∧ i < s.n ∧ len = 128)) :
    Calls Tryz.prog 54 #[.pointer (some ⟨d, 0, none⟩), .int .i64 i, .slice a len cap] w (Err1 opWrite 1 i w) := by
  have c2 := h.c2
  rw [hd] at c2
  have HH := Lib.hid (has_any w h i)
  by_cases hi : 0 ≤ i ∧ i < s.n
  · rw [decide_eq_true hi] at HH
    have hl : ¬ (len : Int) = 128 := by omega
    have hl2 : ((len : Int) == 128) = false := by simpa using hl
    clear h hd hno hi
    go_enter Tryz.func54, Tryz.ntmps54
    go_wp2_with (first
      | (go_at_call 85; refine HH.out.mono ?_; rintro e w' ⟨rfl, rfl⟩)
      | (go_at_call 43; refine (wrap_some _ _ _ _ _).mono ?_; rintro e w' ⟨rfl, rfl⟩))
    exact bodyPost_ret (v := wrapV opWrite i (errV 1)) (by simp [results, Tryz.results54, go_sem, wrapV, errV, opWrite]) rfl ⟨rfl, rfl⟩
  · rw [decide_eq_false hi] at HH
    clear h hd hno hi
    go_enter Tryz.func54, Tryz.ntmps54
    go_wp2_with (first
      | (go_at_call 85; refine HH.out.mono ?_; rintro e w' ⟨rfl, rfl⟩)
      | (go_at_call 43; refine (wrap_some _ _ _ _ _).mono ?_; rintro e w' ⟨rfl, rfl⟩))
    exact bodyPost_ret (v := wrapV opWrite i (errV 1)) (by simp [results, Tryz.results54, go_sem, wrapV, errV, opWrite]) rfl ⟨rfl, rfl⟩
/-- What a call that writes the disk leaves: it is in its next state, and nothing else has turned. -/
def NextD (d S M : Nat) (s' : St) (v : Value) (w : World) (e : Ending) (w' : World) : Prop := e = .returned v ∧ DiskIn w' d S M s' ∧ Chg d S M w w'
theorem SlB.range {B : Nat} {w : World} {v : Value} {l : List UInt8} (h : SlB B w v l) (h0 : 0 < l.length) : ∃ b o cap, v = .slice (some ⟨b, o, none⟩) l.length cap ∧ w.rangeAt b o (bytesV l) := by
  rcases h with ⟨rfl, _⟩ | ⟨b, o, cap, h1, _, h3, _, _⟩
  · simp at h0
  · refine ⟨b, o, cap, h1, fun j v hv => ?_⟩
    have hj : j < l.length := by have := (List.getElem?_eq_some_iff.1 hv).1; rwa [bytesV_length] at this
    rw [h3 j hj, ← hv, bytesV_at hj]
theorem slice_array (a : Addr) (cap : Nat) (W : World) : (Instr.arrayAt 139 (.slice (some a) 128 cap)).run Tryz.prog W = .ok (.pointer (some a)) W := by
  simp [Instr.arrayAt, run_underlying Tryz.underlying139]
theorem DiskIn.put {w w' : World} {d S M m i : Nat} {s : St} {l : Sec} {D : DataW Unit} (h : DiskIn w d S M s) (hm : MapIn w M s.n s.wt D) (hi : i < s.n) (hl : l.length = 128) (hw : w'.ownsMap Tryz.prog 3 secR M m (D.put (kI i) (.lit (.string l)))) (hg : w.grownBy w' (some M)) :
    DiskIn w' d S M (s.write i l) := by
  obtain ⟨a1, a2, a3⟩ := h.apart
  obtain ⟨b1, b2, b3⟩ := h.lt
  exact ⟨h.ok.write hi hl, h.pos, (hg.block d b1 (by simpa using a2)).trans h.top, (hg.block S b2 (by simpa using a3)).trans h.secs, _, hm.put hi hw⟩
set_option maxHeartbeats 1000000 in
set_option maxRecDepth 100000 in
theorem write_yes {d S M B : Nat} {s : St} (w : World) (h : DiskIn w d S M s) (hd : s.dead = false) (i : Nat) (v : Value) (l : Sec) (hi : i < s.n) (hv : SlB B w v l) (hl : l.length = 128) :
    Calls Tryz.prog 54 #[.pointer (some ⟨d, 0, none⟩), .int .i64 (i : Int), v] w (NextD d S M (s.write i l) .nilIface w) := by
  have c1 := h.c1
  have c2 := h.c2
  rw [hd] at c2
  have HH := Lib.hid (has_any w h i)
  rw [decide_eq_true (by omega)] at HH
  obtain ⟨b, o, cap, rfl, hr⟩ := hv.range (by omega)
  obtain ⟨D, hm⟩ := h.map_
  rw [hl]
  have hsa := slice_array ⟨b, o, none⟩ cap
  have hown := hm.own
  have hsz := hm.size
  have hn := h.ok.n
  have HP := Lib.hid (fun w' hw hg => DiskIn.put (w' := w') (m := Maps.size D + 1) h hm hi hl hw hg)
  have hown : World.ownsMap w.drew Tryz.prog 3 secR M (Maps.size D) D := hown.drew
  have hsec := secR_mk hl
  have HR := Lib.hid (show World.rangeAt w.drew b o _ from (World.rangeAt_drew w b o _).2 hr)
  clear h hm hd hr
  go_enter Tryz.func54, Tryz.ntmps54
  go_wp2_with (go_at_call 85; refine HH.out.mono ?_; rintro e w' ⟨rfl, rfl⟩)
  refine wp_region_still_tail 8 (by kernel_rfl) (by kernel_rfl) ?_
  simp only [List.take_succ_cons, List.take_zero, List.drop_succ_cons, List.drop_zero]
  iterate 7 still_step
  refine wpStill_load_mid rfl _ _ rfl b o rfl (bytesV l) _ HR.out Tryz.underlying139 rfl (by rw [bytesV_length, hl]; exact size_sec) ?_
  refine wpStill_nil ?_
  change wpList _ _ _ _ _ w.drew
  go_wp2_with (at_mapUpdate; refine wpList_mapUpdate_own _ rfl _ _ _ 115 rfl 3 139 keyed Tryz.underlying115 secR M (Maps.size D) D rfl hown (by unfold maxLen; omega) _ _ (kI i) rfl rfl (key_kI (by omega)) _ [] hsec ?_; intro w1 hown1 hg1)
  have HQ := Lib.hid (HP.out w1 hown1 ⟨hg1.os, hg1.tape, hg1.output, hg1.size, hg1.block⟩)
  have HG := Lib.hid (show Chg d S M w w1 from Chg.of_grown ⟨hg1.os, hg1.tape, hg1.output, hg1.size, hg1.block⟩ (Or.inr (Or.inr rfl)))
  go_ret
  exact ⟨rfl, HQ.out, HG.out⟩
end Go.Proofs.YtbokangpcjeofaaGreatDoor
/-
  (*disk.Disk).store.
-/
namespace Go.Proofs.YtbokangpcjeofaaGreatDoor
open Go.RowKit Go.Deep Dk Go.Maps
theorem fill_list : ∀ (l : List Value) (off j : Nat) (cells : Array Value), off + j + l.length ≤ cells.size →
    ((l.zipIdx j).foldl (fun (cs : Array Value) (p : Value × Nat) => cs.setIfInBounds (off + p.2) p.1) cells).toList = cells.toList.take (off + j) ++ l ++ cells.toList.drop (off + j + l.length)
  | [], off, j, cells, _ => by simp
  | v :: rest, off, j, cells, h => by
    simp only [List.length_cons] at h
    rw [List.zipIdx_cons, List.foldl_cons, fill_list rest off (j + 1) _ (by simp; omega)]
    have e := list_seg_step cells.toList (off + j) v rest (by simp; omega)
    simpa [Array.toList_setIfInBounds, Nat.add_assoc] using e
theorem fill_one (l : List Value) (off : Nat) (cells : Array Value) (h : off + l.length ≤ cells.size) :
    l.toArray.zipIdx.foldl (fun (cs : Array Value) (p : Value × Nat) => cs.setIfInBounds (off + p.2) p.1) cells = (cells.toList.take off ++ l ++ cells.toList.drop (off + l.length)).toArray := by
  have := fill_list l off 0 cells (by simpa using h)
  apply Array.toList_inj.1
  rw [← Array.foldl_toList, Array.toList_zipIdx]
  simpa using this
theorem build_sec {l : Sec} (hl : l.length = 128) (w : World) : (Instr.build 143 #[(0, .agg (bytesV l).toArray)]).run Tryz.prog w = .ok (.agg (secV l false).toArray) w := by
  have hf := fill_one (bytesV l) 0 (secV zer false).toArray (by simp [bytesV_length, hl, secV, zer_length])
  have e : ((secV zer false).toArray.toList.take 0 ++ bytesV l ++ (secV zer false).toArray.toList.drop (0 + (bytesV l).length)).toArray = (secV l false).toArray := by
    congr 1
    have : (secV zer false).drop (bytesV l).length = [.bool false] := by rw [bytesV_length, hl]; rfl
    simp only [Nat.zero_add, List.take_zero, List.nil_append, this]; rfl
  rw [e] at hf
  have hs : (bytesV l).toArray.size = 128 := by simp [bytesV_length, hl]
  have hz : (secV zer false).toArray.size = 129 := by simp [secV, bytesV_length, zer_length]
  generalize (secV l false).toArray = out at hf ⊢
  have hz2 := zero_sector w
  generalize (secV zer false).toArray = zs at hf hz hz2
  generalize (bytesV l).toArray = bs at hf hs
  simp only [Nat.zero_add, Array.size_zipIdx, hs] at hf
  simp [Instr.build, hz2, Instr.fill, Value.cells, hs, hz, go_sem]
  exact hf
theorem look_sec (w : World) {M n i : Nat} {f : Nat → Option Sec} {D : DataW Unit} (h : MapIn w M n f D) (hi : i < n) (hn : n ≤ 128) :
    (Instr.lookup 115 (.map (some M)) (.int .i64 (i : Int)) false).run Tryz.prog w = .ok (.agg (bytesV ((f i).getD zer)).toArray) w := by
  obtain ⟨v, ps, hr, hv⟩ := h.own.lookup keyed Tryz.underlying115 (zero_sec w) (secR_mk zer_length) (key_kI (i := i) (by omega))
  rw [hr, h.told hi hv]
/-- One sector's cells are laid anew. -/
theorem store_sec {w : World} {S n i : Nat} {st : Nat → Sec} {rot : Nat → Bool} {b : Sec} (hst : ∀ i, (st i).length = 128) (hi : i < n) (hb : b.length = 128)
    (h : w.heap[S]? = some (.cells (secsV n st rot).toArray 143 (0, 0))) :
    (storeVar 143 ⟨S, i * 129, none⟩ (.agg (secV b false).toArray)).run Tryz.prog w = .ok () (w.setRow S (secsV n (upd st i b) (upd rot i false)).toArray) := by
  have hf : ∀ i, (secV (st i) (rot i)).length = 129 := fun i => secV_length (hst i) _
  have hlen : (secsV n st rot).length = 129 * n := flat_length hf n
  have hsl : (secV b false).length = 129 := secV_length hb _
  have hfit : i * 129 + 129 ≤ 129 * n := by have := apart_of (k := 129) hi; omega
  have hr := run_storeCells_at Tryz.prog S (i * 129) 143 (secV b false) 0 (secsV n st rot).toArray w h (by rw [hsl]; simp [hlen]; omega) (fun v hv => by
    rcases List.mem_append.1 hv with hv | hv
    · exact bytesV_one b v hv
    · rw [List.mem_singleton.1 hv]; rfl)
  have e : (secsV n st rot).toArray.toList.take (i * 129 + 0) ++ secV b false ++ (secsV n st rot).toArray.toList.drop (i * 129 + 0 + (secV b false).length) = secsV n (upd st i b) (upd rot i false) := by
    rw [hsl, Nat.add_zero, Nat.mul_comm]
    have := flat_splice hf hi (v := secV b false) hsl
    refine this.trans (flat_congr fun j hj => ?_)
    unfold upd; split <;> rfl
  rw [e] at hr
  have hz : (secV b false).toArray.size = 129 := by simp [hsl]
  obtain ⟨inf, h1, h2⟩ := Option.map_eq_some_iff.1 size_sector
  generalize hxs : secV b false = xs at hr hz
  simp only [storeVar, sizeOf, typeInfo, Value.cells]
  simp [h1, h2, hz, hr]
theorem DiskIn.stored {w w1 w2 : World} {d S M m i : Nat} {s : St} {D : DataW Unit} (h : DiskIn w d S M s) (hm : MapIn w M s.n s.wt D)
    (e1 : w1 = w.setRow S (secsV s.n (upd s.st i ((s.wt i).getD zer)) (upd s.rot i false)).toArray) (hw : w2.ownsMap Tryz.prog 3 secR M m (D.del (kI i))) (hg : w1.grownBy w2 (some M)) : DiskIn w2 d S M (s.store i) := by
  obtain ⟨a1, a2, a3⟩ := h.apart
  obtain ⟨b1, b2, b3⟩ := h.lt
  have hs : w1.heap.size = w.heap.size := by rw [e1]; simp
  refine ⟨h.ok.store i, h.pos, ?_, ?_, _, hm.del hw⟩
  · rw [hg.block d (by omega) (by simpa using a2), e1, setRow_other w S d _ a1]; exact h.top
  · rw [hg.block S (by omega) (by simpa using a3), e1]; exact setRow_heap w S _ _ _ _ h.secs
theorem Chg.of_drew {d S M : Nat} {w w' : World} (h : Chg d S M w.drew w') : Chg d S M w w' := ⟨h.os, h.tape, h.output, h.size, h.block⟩
theorem chg_setRow (d S M : Nat) (w : World) (cs : Array Value) : Chg d S M w (w.setRow S cs) := ⟨rfl, rfl, rfl, by simp, fun k _ _ hS _ => setRow_other w S k _ hS⟩
set_option maxHeartbeats 1000000 in
set_option maxRecDepth 100000 in
theorem store_any {d S M : Nat} {s : St} (w : World) (h : DiskIn w d S M s) (i : Nat) (hi : i < s.n) :
    Calls Tryz.prog 87 #[.pointer (some ⟨d, 0, none⟩), .int .i64 (i : Int)] w (NextD d S M (s.store i) (.tuple #[]) w) := by
  have c0 := h.c0
  have c1 := h.c1
  obtain ⟨D, hm⟩ := h.map_
  have hn := h.ok.n
  have hl : ((s.wt i).getD zer).length = 128 := by
    cases e : s.wt i with
    | none => exact zer_length
    | some b => exact (h.ok.wt i b e).2
  have HL := Lib.hid (look_sec w.drew (hm.keep (w' := w.drew) rfl) hi hn)
  have HB := Lib.hid (build_sec hl w.drew)
  have HS := Lib.hid (store_sec (w := w.drew) (b := (s.wt i).getD zer) h.ok.st hi hl h.secs)
  have HN := Lib.hid (fun w1 w2 e hw hg => DiskIn.stored (w := w.drew) (w1 := w1) (w2 := w2) (m := Maps.size D) (i := i) (D := D) (h.keep rfl rfl rfl) (hm.keep rfl) e hw hg)
  have hap := h.apart
  have hown := hm.own
  generalize hcs : (secsV s.n (upd s.st i ((s.wt i).getD zer)) (upd s.rot i false)).toArray = cs at HS HN
  have HO := Lib.hid (show World.ownsMap (w.drew.setRow S cs) Tryz.prog 3 secR M (Maps.size D) D from (hm.keep (setRow_other w.drew S M cs (fun e => hap.2.2 e.symm))).own)
  have hc1 : (w.drew.setRow S cs).cell? ⟨d, 1, none⟩ = some (.map (some M)) := (World.cell?_of_block (a := ⟨d, 1, none⟩) (setRow_other w.drew S d cs hap.1)).trans c1
  have hslt := h.lt.2.1
  clear h hm hown hcs
  go_enter Tryz.func87, Tryz.ntmps87
  go_wp2_with fail
  refine wp_region_still_tail 13 (by kernel_rfl) (by kernel_rfl) ?_
  simp only [List.take_succ_cons, List.take_zero, List.drop_succ_cons, List.drop_zero]
  iterate 10 still_step
  refine wpStill_lookup rfl _ _ _ _ rfl _ _ _ rfl rfl HL.out ?_
  refine wpStill_build rfl _ _ _ rfl _ _ rfl HB.out ?_
  still_step
  refine wpStill_nil ?_
  refine wpList_store_run rfl _ _ _ rfl _ _ rfl rfl HS.out ?_
  generalize hw1 : w.drew.setRow S cs = w1 at HO hc1
  have HW1 := Lib.hid hw1
  clear hw1
  go_wp2_with (at_delete; refine wpList_delete_own _ rfl _ _ 115 3 rfl 139 keyed Tryz.underlying115 secR M (Maps.size D) D rfl HO.out _ (kI i) rfl (key_kI (by omega)) ?_; intro w2 hown2 ht2)
  have HQ := Lib.hid (HN.out w1 w2 HW1.out.symm hown2 ht2.grown)
  have HG := Lib.hid (show Chg d S M w w2 from Chg.of_drew ((HW1.out ▸ (chg_setRow d S M w.drew cs) : Chg d S M w.drew w1).trans (Chg.of_grown ht2.grown (Or.inr (Or.inr rfl)))))
  go_end0
  exact ⟨rfl, HQ.out, HG.out⟩
end Go.Proofs.YtbokangpcjeofaaGreatDoor
/-
  (*disk.Disk).wipe, Die, Replace.
-/
namespace Go.Proofs.YtbokangpcjeofaaGreatDoor
open Go.RowKit Go.Deep Dk Go.Maps
def cleared (w : World) (M clock : Nat) : World := { w with heap := w.heap.setIfInBounds M (.map #[] clock) }
theorem clear_map {w : World} {M clock : Nat} {es : Array MapEntry} (h : w.heap[M]? = some (.map es clock)) (ty : TypeId) :
    (Builtin.clear_ #[115] ty #[.map (some M)]).run Tryz.prog w = .ok (.tuple #[]) (cleared w M clock) := by
  simp [Builtin.clear_, run_underlying Tryz.underlying115, MapKept.run_getObj_map h, MapKept.run_setObj_map _ h, cleared]
theorem zero_cells_flat {zs : List Value} {k : Nat} (hk : zs.length = k) (n : Nat) : (Builtin.zeroCells zs.toArray n).toList = flat n fun _ => zs := by
  have := made_flat hk n
  rw [← this]
  simp [Builtin.zeroCells, madeCells, hk]
theorem clear_secs {w : World} {S n : Nat} {st : Nat → Sec} {rot : Nat → Bool} (hst : ∀ i, (st i).length = 128) (h0 : 1 ≤ n)
    (h : w.heap[S]? = some (.cells (secsV n st rot).toArray 143 (0, 0))) (ty : TypeId) :
    (Builtin.clear_ #[114] ty #[.slice (some ⟨S, 0, none⟩) n n]).run Tryz.prog w = .ok (.tuple #[]) (w.setRow S (secsV n (fun _ => zer) (fun _ => false)).toArray) := by
  have hf : ∀ i, (secV (st i) (rot i)).length = 129 := fun i => secV_length (hst i) _
  have hlen : (secsV n st rot).length = 129 * n := flat_length hf n
  have hz := zero_cells_flat (secV_length zer_length false) n
  have hzl : (Builtin.zeroCells (secV zer false).toArray n).toList.length = 129 * n := by rw [hz]; exact flat_length (fun _ => secV_length zer_length false) n
  have hr := run_storeCells_at Tryz.prog S 0 143 (Builtin.zeroCells (secV zer false).toArray n).toList 0 (secsV n st rot).toArray w h (by rw [hzl]; simp [hlen]) (fun v hv => by
    rw [hz] at hv
    obtain ⟨i, _, hv⟩ := List.mem_flatMap.1 hv
    rcases List.mem_append.1 hv with hv | hv
    · exact bytesV_one _ v hv
    · rw [List.mem_singleton.1 hv]; rfl)
  have e : (secsV n st rot).toArray.toList.take (0 + 0) ++ (Builtin.zeroCells (secV zer false).toArray n).toList ++ (secsV n st rot).toArray.toList.drop (0 + 0 + (Builtin.zeroCells (secV zer false).toArray n).toList.length) = secsV n (fun _ => zer) (fun _ => false) := by
    rw [hzl, hz]
    simp [secsV]
    exact Nat.le_of_eq (flat_length hf n)
  rw [e] at hr
  have hz2 := zero_sector w
  generalize (secsV n (fun _ => zer) (fun _ => false)).toArray = out at hr ⊢
  obtain ⟨m, rfl⟩ : ∃ m, n = m + 1 := ⟨n - 1, by omega⟩
  generalize (secV zer false).toArray = zs at hr hz2
  simp [Builtin.clear_, run_underlying Tryz.underlying114, hz2, Value.cells, hr]
theorem cleared_other {w : World} {M clock k : Nat} (h : k ≠ M) : (cleared w M clock).heap[k]? = w.heap[k]? := by
  show (w.heap.setIfInBounds M _)[k]? = _
  rw [Array.getElem?_setIfInBounds_ne (fun e => h e.symm)]
theorem cleared_in {w : World} {M clock : Nat} {es : Array MapEntry} (h : w.heap[M]? = some (.map es clock)) (n : Nat) : MapIn (cleared w M clock) M n (fun _ => none) (.map []) := by
  have hlt : M < w.heap.size := (Array.getElem?_eq_some_iff.1 h).1
  refine ⟨⟨#[], clock, ?_, ⟨by simp, MapKept.stamped_empty clock, by simp⟩, Nat.le_refl _, rfl⟩, fun _ h => (by cases h), fun _ _ => rfl, fun _ _ _ h => (by cases h)⟩
  show (w.heap.setIfInBounds M _)[M]? = _
  rw [Array.getElem?_setIfInBounds_self_of_lt hlt]
theorem chg_cleared (d S M clock : Nat) (w : World) : Chg d S M w (cleared w M clock) := ⟨rfl, rfl, rfl, by simp [cleared], fun k _ _ _ hM => cleared_other hM⟩
set_option maxHeartbeats 1000000 in
set_option maxRecDepth 100000 in
theorem wipe_any {d S M : Nat} {s : St} (w : World) (h : DiskIn w d S M s) : Calls Tryz.prog 89 #[.pointer (some ⟨d, 0, none⟩)] w (NextD d S M (s.wipe s.dead) (.tuple #[]) w) := by
  have c0 := h.c0
  have c1 := h.c1
  obtain ⟨D, hm⟩ := h.map_
  obtain ⟨es, clock, hM, _⟩ := hm.own
  obtain ⟨a1, a2, a3⟩ := h.apart
  have HC := Lib.hid (fun ty => clear_secs h.ok.st h.pos h.secs ty)
  generalize hcs : (secsV s.n (fun _ => zer) (fun _ => false)).toArray = cs at HC
  have hw1 : (w.setRow S cs).heap[M]? = some (.map es clock) := (setRow_other w S M cs (fun e => a3 e.symm)).trans hM
  have HD := Lib.hid (fun ty => clear_map hw1 ty)
  have HN := Lib.hid (show DiskIn (cleared (w.setRow S cs) M clock) d S M (s.wipe s.dead) from
    ⟨h.ok.wipe _, h.pos, (cleared_other a2).trans ((setRow_other w S d cs a1).trans h.top), (cleared_other a3).trans (hcs ▸ setRow_heap w S _ _ _ _ h.secs), _, cleared_in hw1 _⟩)
  have HG := Lib.hid ((chg_setRow d S M w cs).trans (chg_cleared d S M clock (w.setRow S cs)))
  have hc1 : (w.setRow S cs).cell? ⟨d, 1, none⟩ = some (.map (some M)) := (World.cell?_of_block (a := ⟨d, 1, none⟩) (setRow_other w S d cs a1)).trans c1
  have e1 := HC.out 0
  have e2 := HD.out 0
  clear h hm hM hcs hw1
  generalize w.setRow S cs = w1 at *
  generalize cleared w1 M clock = w2 at *
  go_enter Tryz.func89, Tryz.ntmps89
  go_wp2
  go_end0
  exact ⟨rfl, HN.out, HG.out⟩
theorem DiskIn.setDead {w : World} {d S M : Nat} {s : St} (h : DiskIn w d S M s) (b : Bool) : DiskIn (w.setCell ⟨d, 2, none⟩ (.bool b)) d S M { s with dead := b } := by
  obtain ⟨a1, a2, a3⟩ := h.apart
  obtain ⟨D, hm⟩ := h.map_
  exact ⟨⟨h.ok.n, h.ok.st, h.ok.wt⟩, h.pos, heap_setCell_same w d 2 _ _ (.bool b) h.top, (heap_setCell_other w ⟨d, 2, none⟩ S _ (fun e => a1 e.symm)).trans h.secs, D, hm.keep (heap_setCell_other w ⟨d, 2, none⟩ M _ (fun e => a2 e.symm))⟩
theorem chg_setCell (d S M i : Nat) (v : Value) (w : World) : Chg d S M w (w.setCell ⟨d, i, none⟩ v) :=
  ⟨rfl, rfl, rfl, ((Below.refl 0 w).setCell (p := ⟨d, i, none⟩) (Nat.zero_le _) v).size, fun k _ hd _ _ => heap_setCell_other w ⟨d, i, none⟩ k v hd⟩
set_option maxHeartbeats 1000000 in
set_option maxRecDepth 100000 in
theorem die_any {d S M : Nat} {s : St} (w : World) (h : DiskIn w d S M s) : Calls Tryz.prog 64 #[.pointer (some ⟨d, 0, none⟩)] w (NextD d S M (s.wipe true) (.tuple #[]) w) := by
  have HW := Lib.hid (wipe_any w h)
  clear h
  go_enter Tryz.func64, Tryz.ntmps64
  go_wp2_with fail
  refine HW.out.mono ?_
  rintro e w1 ⟨rfl, hD, hG⟩
  have c2 := hD.c2
  have f2 := hD.f2 2
  have HD := Lib.hid (hD.setDead true)
  have HG := Lib.hid hG
  clear hD hG
  go_wp2
  go_end0
  exact ⟨rfl, HD.out, HG.out.trans (chg_setCell d S M 2 _ w1)⟩
set_option maxHeartbeats 1000000 in
set_option maxRecDepth 100000 in
theorem replace_any {d S M : Nat} {s : St} (w : World) (h : DiskIn w d S M s) : Calls Tryz.prog 65 #[.pointer (some ⟨d, 0, none⟩)] w (NextD d S M (s.wipe false) (.tuple #[]) w) := by
  have HW := Lib.hid (wipe_any w h)
  clear h
  go_enter Tryz.func65, Tryz.ntmps65
  go_wp2_with fail
  refine HW.out.mono ?_
  rintro e w1 ⟨rfl, hD, hG⟩
  have c2 := hD.c2
  have f2 := hD.f2 2
  have HD := Lib.hid (hD.setDead false)
  have HG := Lib.hid hG
  clear hD hG
  go_wp2
  go_end0
  exact ⟨rfl, HD.out, HG.out.trans (chg_setCell d S M 2 _ w1)⟩
end Go.Proofs.YtbokangpcjeofaaGreatDoor
