/-
  super.Put.
-/
import Derived.Test.YtidnmkghmaeniaaGreatSFits
import Derived.Test.YtidnmkghmaeniaaGreatSGet
namespace Go.Proofs.YtidnmkghmaeniaaGreat
open Go.RowKit Go.Deep Crc Dk Qk Go.Maps Hf
def opSPut : ByteArray := ⟨#[115, 117, 112, 101, 114, 46, 80, 117, 116]⟩
def opSFind : ByteArray := ⟨#[115, 117, 112, 101, 114, 46, 70, 105, 110, 100]⟩
/-- The error of a Put. -/
def Rk.serr (q : Rk) (c : Cf) (i : Int) : Value :=
  if c.fits q = true then
    (if q.wcode i 0 (put (supF c i)).length = 0 then
      (if (q.write i 0 (put (supF c i))).fcode i = 0 then .nilIface else wrapV opSPut i (wrapV opQFlush i (errV ((q.write i 0 (put (supF c i))).fcode i))))
    else wrapV opSPut i (wrapV opQWrite i (errV (q.wcode i 0 (put (supF c i)).length))))
  else wrapV opSPut i (errV 1)
theorem serr_nil {q : Rk} {c : Cf} {i : Int} (h : Rk.scode q c i = 0) : Rk.serr q c i = .nilIface := by
  unfold Rk.scode at h
  unfold Rk.serr
  by_cases hf : c.fits q = true
  · rw [if_pos hf] at h ⊢
    by_cases hw : q.wcode i 0 (put (supF c i)).length = 0
    · rw [if_pos hw] at h ⊢
      rw [if_pos h]
    · rw [if_neg hw] at h; exact absurd h hw
  · rw [if_neg hf] at h; cases h
end Go.Proofs.YtidnmkghmaeniaaGreat
/-
  Two configurations compared; super.Find.
-/
namespace Go.Proofs.YtidnmkghmaeniaaGreat
open Go.RowKit Go.Deep Crc Dk Qk Go.Maps Hf
theorem eq_conf (a b : Cf) (w : World) : (Op.equalIn 10000 23 (.agg (cfA a)) (.agg (cfA b))).run Tryz.prog w = .ok (decide (a = b)) w := by
  have hfs : (Tryz.prog.fieldsOf 23).toList.map (fun q => (q.name, q.type, q.offset)) = [("Id", 3, 0), ("K", 3, 1), ("N", 3, 2), ("Stripes", 3, 3), ("Slots", 3, 4)] := by kernel_rfl
  rw [run_equalIn_struct w 9999 _ _ _ (by kernel_rfl) (by kernel_rfl)]
  generalize (Tryz.prog.fieldsOf 23).toList = fs at hfs
  obtain ⟨f0, fs, rfl, h0, hfs⟩ := List.map_eq_cons_iff.1 hfs
  obtain ⟨f1, fs, rfl, h1, hfs⟩ := List.map_eq_cons_iff.1 hfs
  obtain ⟨f2, fs, rfl, h2, hfs⟩ := List.map_eq_cons_iff.1 hfs
  obtain ⟨f3, fs, rfl, h3, hfs⟩ := List.map_eq_cons_iff.1 hfs
  obtain ⟨f4, fs, rfl, h4, hfs⟩ := List.map_eq_cons_iff.1 hfs
  obtain rfl := List.map_eq_nil_iff.1 hfs
  have ei : ∀ (x y : Int), (Op.equalIn 9999 3 (.int .i64 x) (.int .i64 y)).run Tryz.prog w = .ok (x == y) w := fun x y => run_equalIn_int w 9998 _ .i64 .i64 _ _ Tryz.underlying3
  have pi : ∀ (c : Cf) (i : Nat) (x : Int), (cfA c)[i]? = some (.int .i64 x) → (part 3 (cfA c) i).run Tryz.prog w = .ok (.int .i64 x) w := fun c i x h => part_int w _ _ _ h
  rw [eqFields_step w 9999 _ _ f0 _ h0 (by decide) (pi a 0 a.id rfl) (pi b 0 b.id rfl) (ei _ _),
    eqFields_step w 9999 _ _ f1 _ h1 (by decide) (pi a 1 a.k rfl) (pi b 1 b.k rfl) (ei _ _),
    eqFields_step w 9999 _ _ f2 _ h2 (by decide) (pi a 2 a.n rfl) (pi b 2 b.n rfl) (ei _ _),
    eqFields_step w 9999 _ _ f3 _ h3 (by decide) (pi a 3 a.t rfl) (pi b 3 b.t rfl) (ei _ _),
    eqFields_step w 9999 _ _ f4 _ h4 (by decide) (pi a 4 a.s rfl) (pi b 4 b.s rfl) (ei _ _)]
  simp only [Op.eqFields, Sem.run_pure, beq_iff_eq]
  have hd : decide (a = b) = decide (a.id = b.id ∧ a.k = b.k ∧ a.n = b.n ∧ a.t = b.t ∧ a.s = b.s) :=
    decide_eq_decide.2 ⟨fun h => by subst h; exact ⟨rfl, rfl, rfl, rfl, rfl⟩, fun ⟨h1, h2, h3, h4, h5⟩ => Cf.same h1 h2 h3 h4 h5⟩
  rw [hd]
  by_cases e0 : a.id = b.id
  · by_cases e1 : a.k = b.k
    · by_cases e2 : a.n = b.n
      · by_cases e3 : a.t = b.t
        · by_cases e4 : a.s = b.s
          · simp [e0, e1, e2, e3, e4]
          · simp [e0, e1, e2, e3, e4]
        · simp [e0, e1, e2, e3]
      · simp [e0, e1, e2]
    · simp [e0, e1]
  · simp [e0]
theorem eql_conf (a b : Cf) (w : World) : (binOp .eql 23 (.agg (cfA a)) (.agg (cfA b))).run Tryz.prog w = .ok (.bool (decide (a = b))) w := by
  rw [run_eql_struct, eq_conf]; rfl
theorem neql_conf (a b : Cf) (w : World) : (binOp .neq 23 (.agg (cfA a)) (.agg (cfA b))).run Tryz.prog w = .ok (.bool (!decide (a = b))) w := by
  rw [run_neq_struct, eq_conf]; rfl
theorem guard_conf : Tryz.prog.eqGuardType Tryz.prog.depth 23 = false := by kernel_rfl
/-- What Find answers. -/
def ferr (q : Rk) : Value := if fndOk q = true then .nilIface else wrapV opSFind ((fnd q q.n).2 : Int) (errV 7)
def fcodeF (q : Rk) : Int := if fndOk q = true then 0 else 7
def CfErr (c : Cf) (v : Value) (w : World) (e : Ending) (w' : World) : Prop := e = .returned (.tuple #[.agg (cfA c), v]) ∧ Below w.heap.size w w'
/-- The walk's places: the answer's block, the first configuration's. -/
def FdS (lo : Nat) (c : Lc) (q : Rk) (cf : Cf) (b0 b1 : Nat) (w w' : World) : Prop := RackIn lo w' c q ∧ CfB cf b1 w' ∧ CfB zeroC b0 w' ∧ b0 < b1 ∧ b1 < w'.heap.size ∧ Below w.heap.size w w'
theorem FdS.then {lo : Nat} {c : Lc} {q : Rk} {cf : Cf} {b0 b1 : Nat} {w w1 w2 : World} (h : FdS lo c q cf b0 b1 w w1) (hb : Below w1.heap.size w1 w2) : FdS lo c q cf b0 b1 w w2 :=
  ⟨h.1.below hb, h.2.1.below h.2.2.2.2.1 hb, h.2.2.1.below (Nat.lt_trans h.2.2.2.1 h.2.2.2.2.1) hb, h.2.2.2.1, Nat.lt_of_lt_of_le h.2.2.2.2.1 hb.size, bthen h.2.2.2.2.2 hb⟩
theorem RackIn.keepB {lo B : Nat} {w w' : World} {c : Lc} {q : Rk} (h : RackIn lo w c q) (hf : Far B c q.n ∧ c.P < B) (hb : Below B w w') : RackIn lo w' c q :=
  h.keep (hb.block _ hf.1.1) (hb.block _ hf.2) fun i hi => ⟨hb.block _ (hf.1.2 i hi).1, hb.block _ (hf.1.2 i hi).2.1, hb.block _ (hf.1.2 i hi).2.2⟩
theorem FdS.fill {lo : Nat} {c : Lc} {q : Rk} {cf : Cf} {b0 : Nat} {w w1 : World} (h : FdS lo c q cf b0 (w.heap.size + 1) w w1) (hf : Far w.heap.size c q.n ∧ c.P < w.heap.size) (x : Cf) : FdS lo c q x b0 (w.heap.size + 1) w (fillC x (w.heap.size + 1) w1) := by
  have hb := fillC_below (B := w.heap.size + 1) (Below.refl (w.heap.size + 1) w1) (Nat.le_refl _) x
  exact ⟨h.1.keepB ⟨hf.1.mono (Nat.le_succ _), Nat.lt_succ_of_lt hf.2⟩ hb, h.2.1.fill x, h.2.2.1.below h.2.2.2.1 hb, h.2.2.2.1, Nat.lt_of_lt_of_le h.2.2.2.2.1 hb.size, h.2.2.2.2.2.trans (hb.mono (Nat.le_succ _))⟩
def RelFd (lo : Nat) (c : Lc) (q : Rk) (w : World) (v x : Value) (wr : World) : Prop :=
  ∃ m : Nat, m ≤ q.n ∧ x = .int .i64 m ∧ v = .int .i64 ((fnd q m).2 : Int) ∧ FdS lo c q (fnd q m).1 w.heap.size (w.heap.size + 1) w wr
end Go.Proofs.YtidnmkghmaeniaaGreat
