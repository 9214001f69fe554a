/-
  journal.record's test of a frame; slices.IndexFunc with it.
-/
import Derived.Test.YtidnmkghmaeniaaGreatJMem
import Derived.Test.YtidnmkghmaeniaaGreatJBase
import Derived.Deep.RegionHeld3
import Derived.Deep.DeepCutAuto
import Derived.Deep.CutBlock
import Derived.Test.YtidnmkghmaeniaaGreatQMore
namespace Go.Proofs.YtidnmkghmaeniaaGreat
open Go.RowKit Go.Deep Crc Dk Qk Go.Maps Hf
theorem find_here {α : Type} {p : α → Bool} {l : List α} {k : Nat} (d : α) (hk : k < l.length) (hno : ∀ x, x < k → p (l.getD x d) = false) (hy : p (l.getD k d) = true) : l.find? p = some (l.getD k d) := by
  refine List.find?_eq_some_iff_getElem.2 ⟨hy, k, hk, by simp [List.getD, hk], fun j hj => ?_⟩
  have := hno j hj
  have hj' : j < l.length := Nat.lt_trans hj hk
  simp only [List.getD, List.getElem?_eq_getElem hj', Option.getD_some] at this
  simp [this]
theorem find_none {α : Type} {p : α → Bool} {l : List α} (d : α) (hno : ∀ x, x < l.length → p (l.getD x d) = false) : l.find? p = none := by
  refine List.find?_eq_none.2 fun a ha => ?_
  obtain ⟨i, hi, rfl⟩ := List.getElem_of_mem ha
  have := hno i hi
  simp only [List.getD, List.getElem?_eq_getElem hi, Option.getD_some] at this
  simp [this]
/-- The place of the first that fits. -/
def PickAt (p : Fr → Bool) (l : List Fr) (w : World) (e : Ending) (w' : World) : Prop :=
  ((e = .returned (.int .i64 (-1)) ∧ l.find? p = none) ∨ ∃ k : Nat, k < l.length ∧ e = .returned (.int .i64 (k : Int)) ∧ l.find? p = some (l.getD k zeroF)) ∧ Below w.heap.size w w'
def RelPA (p : Fr → Bool) (l : List Fr) (w : World) (c : Value) (wr : World) : Prop := ∃ k : Nat, k ≤ l.length ∧ c = .int .i64 k ∧ (∀ x, x < k → p (l.getD x zeroF) = false) ∧ Below w.heap.size w wr
end Go.Proofs.YtidnmkghmaeniaaGreat
/-
  journal.goodFrames: the good frames of one place, in the order of the disks.
-/
namespace Go.Proofs.YtidnmkghmaeniaaGreat
open Go.RowKit Go.Deep Crc Dk Qk Go.Maps Hf
def FrsNew (fs : List Fr) (w : World) (e : Ending) (w' : World) : Prop := ∃ v, e = .returned v ∧ w'.ownsRow w.heap.size 81 112 v fs.length (fs.map frC).flatten ∧ Below w.heap.size w w'
theorem frs_flat (fs : List Fr) (f : Fr) : ((fs ++ [f]).map frC).flatten = (fs.map frC).flatten ++ frC f := by rw [List.map_append, List.flatten_append]; simp
theorem jfr_is {q : Rk} {c : Cf} {s : Int} {i d : Nat} {f : Fr} (h : jfr q c s i d = some f) : f.is := by
  unfold jfr at h
  split at h
  · injection h with h; rw [← h]; exact qgot_is _ _ _ _ _ _
  · cases h
theorem jl_is {q : Rk} {c : Cf} {s : Int} {i : Nat} : ∀ f ∈ jl q c s i, f.is := fun f hf => by
  unfold jl at hf
  obtain ⟨d, _, h⟩ := List.mem_filterMap.1 hf
  exact jfr_is h
def RelGF (q : Rk) (cf : Cf) (s : Int) (i : Nat) (U : List Nat) (w1 : World) (v c : Value) (wr : World) : Prop :=
  ∃ m : Nat, m ≤ U.length ∧ c = .int .i64 m ∧ wr.ownsRow w1.heap.size 81 112 v (jlN q cf s i U m).length ((jlN q cf s i U m).map frC).flatten ∧ Below w1.heap.size w1 wr
end Go.Proofs.YtidnmkghmaeniaaGreat
/-
  journal.record: the record put together of the first frames that fit (written by genjrec.py).
-/
namespace Go.Proofs.YtidnmkghmaeniaaGreat
open Go.RowKit Go.Deep Crc Dk Qk Go.Maps Hf
theorem step_append_block (w : World) {ops : Array Oper} {o : Oper} {a : Act} {K : Act → World → Prop} {Q : Exit → Act → World → Prop} {E : Prop} (hgd : o.guard = none) (s x : Operand)
    (ho : o.op = .call { callee := .builtin .append, args := #[s, x], argTypes := #[29, 29] })
    (base : Nat) (v : Value) (n : Nat) (xs : List Value) (hsv : a.eval s = v) (hown : w.ownsRow base 39 108 v n xs)
    (b : Nat) (d : List UInt8) (hx : a.eval x = .slice (some ⟨b, 0, none⟩) 1 1) (hb : ∀ j u, (bytesV d)[j]? = some u → w.cell? ⟨b, j, none⟩ = some u) (hd : d.length = 108) (h63 : n + 1 ≤ 100000) (hbase : base ≤ w.heap.size)
    (h : ∀ v' w', w'.ownsRow base 39 108 v' (n + 1) (xs ++ bytesV d) → Grew w v.ownBlock w' v'.ownBlock → K (a.put o.dst v') w') : if Region.wanted o (yielded ops a.tmps) = true then Oper.wp Tryz.prog o a w K Q else E := by
  have hw : Region.wanted o (yielded ops a.tmps) = true := by simp [Region.wanted, hgd]
  rw [if_pos hw]
  obtain ⟨i0, hi0, hz⟩ := Option.map_eq_some_iff.1 Tryz.infoBlock
  simp only [Prod.mk.injEq] at hz
  obtain ⟨hz0, hz1, hz2⟩ := hz
  exact wp_append_src w s x 29 29 ho base 39 i0 (.agg (bytesV (List.replicate 108 0)).toArray) 108 108 Tryz.underlying29 hi0 hz0 hz1 hz2 rfl v n xs hsv hown (.slice (some ⟨b, 0, none⟩) 1 1) 1 (bytesV d) hx
    (src_cells Tryz.underlying29 (by rw [bytesV_length]; exact hd) hb (bytesV_one d)) (by unfold maxLen; omega) (by omega) hbase fun v' w' h1 h2 _ => h v' w' h1 h2
theorem step_one_block {w : World} {ops : Array Oper} {o : Oper} {a : Act} {K : Act → World → Prop} {Q : Exit → Act → World → Prop} {E : Prop} (hgd : o.guard = none) (x : Operand) (ho : o.op = .buildSlice 29 1 #[(0, x)])
    (d : List UInt8) (hx : a.eval x = .agg (bytesV d).toArray) (hd : d.length = 108)
    (h : K (a.put o.dst (.slice (some ⟨w.heap.size, 0, none⟩) 1 1)) (w.alloc (.cells (bytesV d).toArray 39))) : if Region.wanted o (yielded ops a.tmps) = true then Oper.wp Tryz.prog o a w K Q else E := by
  have hw : Region.wanted o (yielded ops a.tmps) = true := by simp [Region.wanted, hgd]
  rw [if_pos hw]
  obtain ⟨i0, hi0, hz⟩ := Option.map_eq_some_iff.1 Tryz.infoBlock
  simp only [Prod.mk.injEq] at hz
  obtain ⟨hz0, hz1, hz2⟩ := hz
  exact wp_buildSlice _ _ 1 _ ho (bytesV d).toArray i0 _ Tryz.underlying29 hi0 hz0 (by rw [hz1]; omega) (by rw [hz1]; omega) (by
    simp only [List.map_toArray, List.map_cons, List.map_nil]
    rw [hx, hz1]
    exact fill_piece (by rw [bytesV_length]; exact hd) (by simp)) h
/-- v is a slice of slices of frames. -/
def SlFs (B : Nat) (w : World) (v : Value) (Ls : List (List Fr)) : Prop :=
  (Ls = [] ∧ ∃ a cap, v = .slice a 0 cap) ∨ ∃ b cap, v = .slice (some ⟨b, 0, none⟩) Ls.length cap ∧ b < B ∧ ∀ i, i < Ls.length → ∃ u, w.cell? ⟨b, i, none⟩ = some u ∧ SlF B w u (Ls.getD i [])
theorem SlFs.len {B : Nat} {w : World} {v : Value} {Ls : List (List Fr)} (h : SlFs B w v Ls) : ∃ a cap, v = .slice a Ls.length cap := by
  rcases h with ⟨rfl, a, cap, h⟩ | ⟨b, cap, h1, _⟩
  · exact ⟨a, cap, h⟩
  · exact ⟨_, cap, h1⟩
theorem SlFs.below {B : Nat} {w w' : World} {v : Value} {Ls : List (List Fr)} (h : SlFs B w v Ls) (hb : Below B w w') : SlFs B w' v Ls := by
  rcases h with h | ⟨b, cap, h1, h2, h3⟩
  · exact Or.inl h
  · refine Or.inr ⟨b, cap, h1, h2, fun i hi => ?_⟩
    obtain ⟨u, e1, e2⟩ := h3 i hi
    exact ⟨u, by rw [hb.cell (p := ⟨b, i, none⟩) h2]; exact e1, e2.below hb⟩
theorem SlFs.at_ {B : Nat} {w : World} {v : Value} {Ls : List (List Fr)} (h : SlFs B w v Ls) {i : Nat} (hi : i < Ls.length) : ∃ b cap u, v = .slice (some ⟨b, 0, none⟩) Ls.length cap ∧ b < B ∧ w.cell? ⟨b, i, none⟩ = some u ∧ SlF B w u (Ls.getD i []) := by
  rcases h with ⟨rfl, _⟩ | ⟨b, cap, h1, h2, h3⟩
  · simp at hi
  · obtain ⟨u, e1, e2⟩ := h3 i hi
    exact ⟨b, cap, u, h1, h2, e1, e2⟩
abbrev gL (Ls : List (List Fr)) : Nat → List Fr := fun i => Ls.getD i []
theorem jrec_step {L : Nat → List Fr} {n : Int} {k : Nat} {x : Rc} (h : jrec L n k = some x) : jrec L n (k + 1) = (match jpick n x.t k (L k) with | none => none | some f => some ⟨n, f.t, x.b ++ [f.d]⟩) := by
  unfold jrec
  rw [h]
  rfl
/-- What record answers. -/
def RecBit (o : Option Rc) (w : World) (e : Ending) (w' : World) : Prop :=
  ∃ v, e = .returned (.tuple #[.agg (rcA (o.getD zeroR).q (o.getD zeroR).t v), .bool o.isSome]) ∧ w'.ownsRow w.heap.size 39 108 v (o.getD zeroR).b.length ((o.getD zeroR).b.map bytesV).flatten ∧ Below w.heap.size w w'
end Go.Proofs.YtidnmkghmaeniaaGreat
/-
  journal.Slot.
-/
namespace Go.Proofs.YtidnmkghmaeniaaGreat
open Go.RowKit Go.Deep Crc Dk Qk Go.Maps Hf
/-- The error of Slot. -/
def jslotV (q : Rk) (c : Cf) (s : Int) : Value := if jhasSlot c q s = true then (if jall (jl q c s) c.k.toNat then .nilIface else wrapV opJSlot s (lossV s 0 1)) else wrapV opJSlot s (errV 1)
def SlotOut (q : Rk) (c : Cf) (s : Int) (w : World) (e : Ending) (w' : World) : Prop :=
  ∃ v, e = .returned (.tuple #[.agg (rcA (jrecR q c s).q (jrecR q c s).t v), .bool (jwhole q c s), .int .i64 (jnewest q c s), jslotV q c s]) ∧ w'.ownsRow w.heap.size 39 108 v (jrecR q c s).b.length ((jrecR q c s).b.map bytesV).flatten ∧ Below w.heap.size w w'
theorem slot_no {q : Rk} {c : Cf} {s : Int} (h : ¬ jw q c s) : jrecR q c s = zeroR ∧ jwhole q c s = false ∧ jnewest q c s = 0 := by
  have e : jrecO q c s = none := if_neg h
  refine ⟨?_, ?_, if_neg h⟩
  · unfold jrecR; rw [e]; rfl
  · unfold jwhole; rw [e]; rfl
theorem jl_len (q : Rk) (c : Cf) (s : Int) (i : Nat) (h : q.n ≤ 8) : (jl q c s i).length ≤ 8 := by
  have h1 : (jl q c s i).length ≤ (ups q).length := List.length_filterMap_le ..
  have h2 := upsN_length q q.n
  unfold ups at h1
  omega
theorem jrec_congr {L M : Nat → List Fr} {n : Int} : ∀ {k : Nat}, (∀ i, i < k → L i = M i) → jrec L n k = jrec M n k
  | 0, _ => rfl
  | k + 1, h => by
    have ih := jrec_congr (L := L) (M := M) (n := n) (k := k) fun i hi => h i (by omega)
    unfold jrec
    rw [ih, h k (by omega)]
theorem own_ne {w : World} {B e s n b : Nat} {v : Value} {xs : List Value} (h : w.ownsRow B e s v n xs) (hb : b < B) : v.ownBlock = none ∨ v.ownBlock ≠ some b := by
  cases hv : v.ownBlock with
  | none => exact Or.inl rfl
  | some j => exact Or.inr fun e => by have := (own_block' h hv).1; injection e; omega
theorem topG_take {n0 : Int} {l : List Fr} {j : Nat} (h : j < l.length) : topG n0 (l.take (j + 1)) = max (topG n0 (l.take j)) (l.getD j zeroF).g := by
  rw [List.take_succ_eq_append_getElem h, topG_snoc]; simp [List.getD, h]
theorem jslotV_loss {q : Rk} {c : Cf} {s : Int} (hh : jhasSlot c q s = true) (h : ¬ jall (jl q c s) c.k.toNat) : jslotV q c s = wrapV opJSlot s (lossV s 0 1) := by
  unfold jslotV; rw [if_pos hh, if_neg h]
end Go.Proofs.YtidnmkghmaeniaaGreat
/-
  stavebook.Same of blocks, stavekeep.Record (written by genjsame.py).
-/
namespace Go.Proofs.YtidnmkghmaeniaaGreat
open Go.RowKit Go.Deep Crc Dk Qk Go.Maps Hf
theorem neql_block {l m : List UInt8} (hl : l.length = 108) (hm : m.length = 108) (w : World) : (binOp .neq 39 (.agg (bytesV l).toArray) (.agg (bytesV m).toArray)).run Tryz.prog w = .ok (.bool (!decide (l = m))) w := by
  obtain ⟨i0, hi0, _⟩ := info_u8
  rw [run_neq_struct, run_equalIn_array w (9998 + 1) _ _ Tryz.underlying39 hi0, cells_u8, eq_items w 9998 l m _ (fun i hi => by simp at hi; omega), all_eq hl hm]; rfl
theorem guard_block : Tryz.prog.eqGuardType Tryz.prog.depth 39 = false := by kernel_rfl
def RelSK (l m : List (List UInt8)) (w : World) (c : Value) (wr : World) : Prop := ∃ k : Nat, k ≤ l.length ∧ c = .int .i64 k ∧ (∀ x, x < k → l.getD x z108 = m.getD x z108) ∧ Below w.heap.size w wr
theorem blocks_eq {l m : List (List UInt8)} (hl : l.length = m.length) (h : ∀ x, x < l.length → l.getD x z108 = m.getD x z108) : l = m := by
  refine List.ext_getElem hl fun i h1 h2 => ?_
  have := h i h1
  simpa [List.getD, h1, h2] using this
set_option maxHeartbeats 4000000 in
set_option maxRecDepth 100000 in
theorem same_blocks (va vb : Value) (l m : List (List UInt8)) (w : World) (ha : SlK w.heap.size w va l) (hb : SlK w.heap.size w vb m) (hl : l.length ≤ 8) :
    Calls Tryz.prog 13 #[va, vb] w (Bit (decide (l = m)) w) := by
  have HA := Lib.hid ha
  have HM := Lib.hid hb
  by_cases hlen : l.length = m.length
  · obtain ⟨a1, cap1, rfl⟩ := ha.len
    obtain ⟨a2, cap2, rfl⟩ := hb.len
    have Hlen := Lib.hid hlen
    generalize hr : decide (l = m) = r
    have Hr := Lib.hid hr
    clear ha hb hr
    rw [← hlen]
    clear hlen
    go_enter Tryz.func13, Tryz.ntmps13
    go_wp2_with fail
    go_loopw [5] (fun c wr => RelSK l m w c wr) (fun c _ => l.length - (intOf c).toNat)
    case atStart => exact ⟨0, Nat.zero_le _, rfl, fun x hx => absurd hx (by omega), Below.refl _ _⟩
    case round =>
      obtain ⟨k, hk, rfl, hno, hB1⟩ := hrel
      have Hno := Lib.hid hno
      have HB1 := Lib.hid hB1
      have hz := szBk_run
      have hgd := guard_block
      by_cases hlt : k < l.length
      · obtain ⟨b, cap', h1, hbB, h2, hd1⟩ := HA.out.at_ hlt
        obtain ⟨b', cap'', h3, hbB', h4, hd2⟩ := HM.out.at_ (i := k) (by have := Hlen.out; omega)
        rw [← Hlen.out] at h3
        injection h1 with h1 h1' h1''
        injection h3 with h3 h3' h3''
        subst h1 h1'' h3 h3''
        have HD1 := Lib.hid (fun (w' : World) (hw : Below w.heap.size w w') => show (loadCellsFrom ⟨b, k * szBk, none⟩ 0 szBk #[]).run Tryz.prog w' = .ok (bytesV (l.getD k z108)).toArray w' from by
          obtain ⟨b2, c2, q, _, e, _⟩ := (HA.out.below hw).at_ hlt
          injection q with q1 q2 q3
          injection q1 with q1
          injection q1 with q1
          subst q1
          exact e)
        have HD2 := Lib.hid (fun (w' : World) (hw : Below w.heap.size w w') => show (loadCellsFrom ⟨b', k * szBk, none⟩ 0 szBk #[]).run Tryz.prog w' = .ok (bytesV (m.getD k z108)).toArray w' from by
          obtain ⟨b2, c2, q, _, e, _⟩ := (HM.out.below hw).at_ (i := k) (by have := Hlen.out; omega)
          injection q with q1 q2 q3
          injection q1 with q1
          injection q1 with q1
          subst q1
          exact e)
        have hq1 := HD1.out
        have hq2 := HD2.out
        have hne := fun w => neql_block hd1 hd2 w
        clear h1' h3' h2 h4 hno hB1
        by_cases he : l.getD k z108 = m.getD k z108
        · have He := Lib.hid he
          have hd : decide (l.getD k z108 = m.getD k z108) = true := decide_eq_true he
          rw [hd] at hne
          clear hd he hd1 hd2
          generalize bytesV (l.getD k z108) = x at *
          generalize bytesV (m.getD k z108) = y at *
          go_wp2_with fail
          refine wp_region_noPanic ?_
          refine wp_region_held_drew (S := (fun w' => Below w.heap.size w w')) (by kernel_rfl) HB1.out.drew (fun hHeld => ?_)
          refine wpAnyH_take (i := 0) (oi := ⟨some 17, _, _, _, _, _⟩) (v := ?_) rfl (by kernel_rfl) (by kernel_rfl) (by kernel_rfl) (fun _ _ _ h => h) (Or.inl ⟨by rfl, ?_⟩) hHeld ?_
          rotate_left
          · intro w hSw; (go_simp; try with_reducible rfl)
          simp only [Act.put, List.setIfInBounds_toArray, List.set_cons_zero, List.set_cons_succ]
          refine wpAnyH_take (i := 1) (oi := ⟨some 18, _, _, _, _, _⟩) (v := ?_) rfl (by kernel_rfl) (by kernel_rfl) (by kernel_rfl) (fun _ _ _ h => h) (Or.inl ⟨by rfl, ?_⟩) hHeld ?_
          rotate_left
          · intro w hSw; (go_simp; try with_reducible rfl)
          simp only [Act.put, List.setIfInBounds_toArray, List.set_cons_zero, List.set_cons_succ]
          refine wpAnyH_take (i := 2) (oi := ⟨some 19, _, _, _, _, _⟩) (v := ?_) rfl (by kernel_rfl) (by kernel_rfl) (by kernel_rfl) (fun _ _ _ h => h) (Or.inl ⟨by rfl, ?_⟩) hHeld ?_
          rotate_left
          · intro w hSw; (go_simp; try with_reducible rfl)
          simp only [Act.put, List.setIfInBounds_toArray, List.set_cons_zero, List.set_cons_succ]
          refine wpAnyH_take (i := 3) (oi := ⟨some 20, _, _, _, _, _⟩) (v := ?_) rfl (by kernel_rfl) (by kernel_rfl) (by kernel_rfl) (fun _ _ _ h => h) (Or.inl ⟨by rfl, ?_⟩) hHeld ?_
          rotate_left
          · intro w hSw; (go_simp; try with_reducible rfl)
          simp only [Act.put, List.setIfInBounds_toArray, List.set_cons_zero, List.set_cons_succ]
          refine wpAnyH_take (i := 4) (oi := ⟨some 21, _, _, _, _, _⟩) (v := ?_) rfl (by kernel_rfl) (by kernel_rfl) (by kernel_rfl) (fun _ _ _ h => h) (Or.inl ⟨by rfl, ?_⟩) hHeld ?_
          rotate_left
          · intro w hSw; (go_simp; try with_reducible rfl)
          simp only [Act.put, List.setIfInBounds_toArray, List.set_cons_zero, List.set_cons_succ]
          refine wpAnyH_take (i := 5) (oi := ⟨some 22, _, _, _, _, _⟩) (v := ?_) rfl (by kernel_rfl) (by kernel_rfl) (by kernel_rfl) (fun _ _ _ h => h) (Or.inl ⟨by rfl, ?_⟩) hHeld ?_
          rotate_left
          · intro w hSw; (go_simp; try with_reducible rfl)
          simp only [Act.put, List.setIfInBounds_toArray, List.set_cons_zero, List.set_cons_succ]
          refine wpAnyH_take (i := 6) (oi := ⟨some 23, _, _, _, _, _⟩) (v := ?_) rfl (by kernel_rfl) (by kernel_rfl) (by kernel_rfl) (fun _ _ _ h => h) (Or.inl ⟨by rfl, ?_⟩) hHeld ?_
          rotate_left
          · intro w hSw; (go_simp; try with_reducible rfl)
          simp only [Act.put, List.setIfInBounds_toArray, List.set_cons_zero, List.set_cons_succ]
          refine wpAnyH_take (i := 7) (oi := ⟨some 24, _, _, _, _, _⟩) (v := ?_) rfl (by kernel_rfl) (by kernel_rfl) (by kernel_rfl) (fun _ _ _ h => h) (Or.inl ⟨by rfl, ?_⟩) hHeld ?_
          rotate_left
          · intro w hSw; (go_simp; try with_reducible rfl)
          simp only [Act.put, List.setIfInBounds_toArray, List.set_cons_zero, List.set_cons_succ]
          refine wpAnyH_take (i := 8) (oi := ⟨some 25, _, _, _, _, _⟩) (v := ?_) rfl (by kernel_rfl) (by kernel_rfl) (by kernel_rfl) (fun _ _ _ h => h) (Or.inl ⟨by rfl, ?_⟩) hHeld ?_
          rotate_left
          · intro w hSw; (go_simp; try with_reducible rfl)
          simp only [Act.put, List.setIfInBounds_toArray, List.set_cons_zero, List.set_cons_succ]
          refine wpAnyH_done (by kernel_rfl) ?_ _
          refine NoPanic.normal ?_
          go_wp2_with fail
          go_roundw
          case rel =>
            refine ⟨k + 1, by omega, by go_num, fun y hy => ?_, HB1.out.drew⟩
            rcases Nat.lt_or_ge y k with h | h
            · exact Hno.out y h
            · obtain rfl : y = k := by omega
              exact He.out
          case measure => simp [intOf]; omega
        · have He := Lib.hid (show ¬ l = m from fun e => he (by rw [e]))
          have hd : decide (l.getD k z108 = m.getD k z108) = false := decide_eq_false he
          rw [hd] at hne
          clear hd he hd1 hd2
          generalize bytesV (l.getD k z108) = x at *
          generalize bytesV (m.getD k z108) = y at *
          go_wp2_with fail
          refine wp_region_noPanic ?_
          refine wp_region_held_drew (S := (fun w' => Below w.heap.size w w')) (by kernel_rfl) HB1.out.drew (fun hHeld => ?_)
          refine wpAnyH_take (i := 0) (oi := ⟨some 17, _, _, _, _, _⟩) (v := ?_) rfl (by kernel_rfl) (by kernel_rfl) (by kernel_rfl) (fun _ _ _ h => h) (Or.inl ⟨by rfl, ?_⟩) hHeld ?_
          rotate_left
          · intro w hSw; (go_simp; try with_reducible rfl)
          simp only [Act.put, List.setIfInBounds_toArray, List.set_cons_zero, List.set_cons_succ]
          refine wpAnyH_take (i := 1) (oi := ⟨some 18, _, _, _, _, _⟩) (v := ?_) rfl (by kernel_rfl) (by kernel_rfl) (by kernel_rfl) (fun _ _ _ h => h) (Or.inl ⟨by rfl, ?_⟩) hHeld ?_
          rotate_left
          · intro w hSw; (go_simp; try with_reducible rfl)
          simp only [Act.put, List.setIfInBounds_toArray, List.set_cons_zero, List.set_cons_succ]
          refine wpAnyH_take (i := 2) (oi := ⟨some 19, _, _, _, _, _⟩) (v := ?_) rfl (by kernel_rfl) (by kernel_rfl) (by kernel_rfl) (fun _ _ _ h => h) (Or.inl ⟨by rfl, ?_⟩) hHeld ?_
          rotate_left
          · intro w hSw; (go_simp; try with_reducible rfl)
          simp only [Act.put, List.setIfInBounds_toArray, List.set_cons_zero, List.set_cons_succ]
          refine wpAnyH_take (i := 3) (oi := ⟨some 20, _, _, _, _, _⟩) (v := ?_) rfl (by kernel_rfl) (by kernel_rfl) (by kernel_rfl) (fun _ _ _ h => h) (Or.inl ⟨by rfl, ?_⟩) hHeld ?_
          rotate_left
          · intro w hSw; (go_simp; try with_reducible rfl)
          simp only [Act.put, List.setIfInBounds_toArray, List.set_cons_zero, List.set_cons_succ]
          refine wpAnyH_take (i := 4) (oi := ⟨some 21, _, _, _, _, _⟩) (v := ?_) rfl (by kernel_rfl) (by kernel_rfl) (by kernel_rfl) (fun _ _ _ h => h) (Or.inl ⟨by rfl, ?_⟩) hHeld ?_
          rotate_left
          · intro w hSw; (go_simp; try with_reducible rfl)
          simp only [Act.put, List.setIfInBounds_toArray, List.set_cons_zero, List.set_cons_succ]
          refine wpAnyH_take (i := 5) (oi := ⟨some 22, _, _, _, _, _⟩) (v := ?_) rfl (by kernel_rfl) (by kernel_rfl) (by kernel_rfl) (fun _ _ _ h => h) (Or.inl ⟨by rfl, ?_⟩) hHeld ?_
          rotate_left
          · intro w hSw; (go_simp; try with_reducible rfl)
          simp only [Act.put, List.setIfInBounds_toArray, List.set_cons_zero, List.set_cons_succ]
          refine wpAnyH_take (i := 6) (oi := ⟨some 23, _, _, _, _, _⟩) (v := ?_) rfl (by kernel_rfl) (by kernel_rfl) (by kernel_rfl) (fun _ _ _ h => h) (Or.inl ⟨by rfl, ?_⟩) hHeld ?_
          rotate_left
          · intro w hSw; (go_simp; try with_reducible rfl)
          simp only [Act.put, List.setIfInBounds_toArray, List.set_cons_zero, List.set_cons_succ]
          refine wpAnyH_take (i := 7) (oi := ⟨some 24, _, _, _, _, _⟩) (v := ?_) rfl (by kernel_rfl) (by kernel_rfl) (by kernel_rfl) (fun _ _ _ h => h) (Or.inl ⟨by rfl, ?_⟩) hHeld ?_
          rotate_left
          · intro w hSw; (go_simp; try with_reducible rfl)
          simp only [Act.put, List.setIfInBounds_toArray, List.set_cons_zero, List.set_cons_succ]
          refine wpAnyH_take (i := 8) (oi := ⟨some 25, _, _, _, _, _⟩) (v := ?_) rfl (by kernel_rfl) (by kernel_rfl) (by kernel_rfl) (fun _ _ _ h => h) (Or.inl ⟨by rfl, ?_⟩) hHeld ?_
          rotate_left
          · intro w hSw; (go_simp; try with_reducible rfl)
          simp only [Act.put, List.setIfInBounds_toArray, List.set_cons_zero, List.set_cons_succ]
          refine wpAnyH_done (by kernel_rfl) ?_ _
          refine NoPanic.normal ?_
          go_wp2_with fail
          go_ret
          exact bit (by rw [← Hr.out]; simpa using He.out) HB1.out.drew
      · obtain rfl : k = l.length := by omega
        clear hno hB1
        go_wp2_with fail
        go_ret
        exact bit (by rw [← Hr.out]; exact (decide_eq_true (blocks_eq Hlen.out Hno.out)).symm) HB1.out
  · obtain ⟨a1, cap1, rfl⟩ := ha.len
    obtain ⟨a2, cap2, rfl⟩ := hb.len
    have e1 : ((l.length : Int) != m.length) = true := by simpa using (by omega : ¬ (l.length : Int) = m.length)
    have e2 : ¬ (l.length : Int) = m.length := by omega
    have Hr := Lib.hid (show decide (l = m) = false from decide_eq_false fun e => hlen (by rw [e]))
    rw [Hr.out]
    clear ha hb hlen
    go_enter Tryz.func13, Tryz.ntmps13
    go_wp2_with fail
    go_ret
    exact bit rfl (Below.refl _ _)
def rcB (x y : Rc) : Bool := decide (x = y)
theorem rcB_eq (x y : Rc) : rcB x y = (decide (x.q = y.q) && decide (x.t = y.t) && decide (x.b = y.b)) := by
  unfold rcB
  rw [Bool.eq_iff_iff]
  simp only [Bool.and_eq_true, decide_eq_true_eq]
  exact ⟨fun h => by subst h; exact ⟨⟨rfl, rfl⟩, rfl⟩, fun ⟨⟨h1, h2⟩, h3⟩ => Rc.same h1 h2 h3⟩
end Go.Proofs.YtidnmkghmaeniaaGreat
/-
  A record in a law's memory; the journal's calls as steps of a walk.
-/
namespace Go.Proofs.YtidnmkghmaeniaaGreat
open Go.RowKit Go.Deep Crc Dk Qk Go.Maps Hf
theorem jrecR_is (q : Rk) (c : Cf) (s : Int) : (jrecR q c s).is := by
  have key : ∀ {n : Int} {k : Nat} {x : Rc}, jrec (jl q c s) n k = some x → x.is := fun {n k} => by
    induction k with
    | zero => intro x h; unfold jrec at h; injection h with h; subst h; exact fun d hd => by cases hd
    | succ k ih =>
      intro x h
      unfold jrec at h
      cases hr : jrec (jl q c s) n k with
      | none => rw [hr] at h; cases h
      | some y =>
        rw [hr] at h
        cases hp : jpick n y.t k (jl q c s k) with
        | none => simp only [hp] at h; cases h
        | some f =>
          simp only [hp] at h
          injection h with h
          subst h
          intro d hd
          rcases List.mem_append.1 hd with hd | hd
          · exact ih hr d hd
          · rw [List.mem_singleton.1 hd]
            exact jl_is f (List.mem_of_find?_eq_some hp)
  unfold jrecR
  cases h : jrecO q c s with
  | none => exact fun d hd => by cases hd
  | some x =>
    unfold jrecO at h
    split at h
    · exact key h
    · cases h
end Go.Proofs.YtidnmkghmaeniaaGreat
/-
  A rack and a configuration in a law's memory; two losses compared.
-/
namespace Go.Proofs.YtidnmkghmaeniaaGreat
open Go.RowKit Go.Deep Crc Dk Qk Go.Maps Hf
structure JW (w1 : World) (c : Lc) (cf : Cf) (b B n : Nat) (q : Rk) (w : World) : Prop where
  qs : QS w1 c q w
  nn : q.n = n
  cfg : CfB cf b w
  bl : b < w1.heap.size
  far : Far B c n
  bB : B ≤ w.heap.size
theorem JW.below {w1 : World} {c : Lc} {cf : Cf} {b B n : Nat} {q : Rk} {w w' : World} (h : JW w1 c cf b B n q w) (hb : Below w.heap.size w w') : JW w1 c cf b B n q w' :=
  ⟨h.qs.below hb, h.nn, CfB.below h.cfg (Nat.lt_of_lt_of_le h.bl h.qs.le) hb, h.bl, h.far, Nat.le_trans h.bB hb.size⟩
theorem JW.drew {w1 : World} {c : Lc} {cf : Cf} {b B n : Nat} {q : Rk} {w : World} (h : JW w1 c cf b B n q w) : JW w1 c cf b B n q w.drew := ⟨h.qs.drew, h.nn, h.cfg, h.bl, h.far, h.bB⟩
theorem JW.next {w1 : World} {c : Lc} {cf : Cf} {b B n : Nat} {q q' : Rk} {w w' : World} (h : JW w1 c cf b B n q w) (hq : QS w1 c q' w') (hn : q'.n = q.n) (hc : RC c q.n w w') : JW w1 c cf b B n q' w' :=
  ⟨hq, hn.trans h.nn, CfB.below h.cfg h.bl (by have h1 := hc.below h.qs.rack (Below.refl w1.heap.size w |> fun _ => (show Below w1.heap.size w w from Below.refl _ _)) h.qs.le; exact h1), h.bl, h.far, Nat.le_trans h.bB hc.size⟩
/-- What a call on the rack leaves. -/
def JN (w1 : World) (c : Lc) (cf : Cf) (b B n : Nat) (q' : Rk) (v : Value) (w : World) (e : Ending) (w' : World) : Prop := e = .returned v ∧ JW w1 c cf b B n q' w' ∧ RC c n w w'
theorem JW.step {w1 : World} {c : Lc} {cf : Cf} {b B n : Nat} {q q' : Rk} {w : World} {v : Value} {f : Nat} {args : Array Value} (h : JW w1 c cf b B n q w) (hc : Calls Tryz.prog f args w (QN w1 c q.n q' v w)) (hn : q'.n = q.n) :
    Calls Tryz.prog f args w (JN w1 c cf b B n q' v w) := hc.mono fun _ _ ⟨h1, h2, h3⟩ => ⟨h1, h.next h2 hn h3, by rw [← h.nn]; exact h3⟩
theorem jlog_n (q : Rk) (c : Cf) (x : Rc) : (Rk.jlog q c x).n = q.n := by
  unfold Rk.jlog; split
  · exact runS_n _ _
  · rfl
theorem jlog_k (q : Rk) (c : Cf) (x : Rc) : (Rk.jlog q c x).k = q.k := by
  unfold Rk.jlog; split
  · exact runS_k _ _
  · rfl
theorem jblank_n (q : Rk) (c : Cf) (s : Int) : (Rk.jblank q c s).n = q.n := by
  unfold Rk.jblank; split
  · exact runS_n _ _
  · rfl
theorem jblank_k (q : Rk) (c : Cf) (s : Int) : (Rk.jblank q c s).k = q.k := by
  unfold Rk.jblank; split
  · exact runS_k _ _
  · rfl
theorem rotten_n (q : Rk) (i sec a : Int) (x : Nat) : (Rk.rotten q i sec a x).n = q.n := by unfold Rk.rotten; split <;> rfl
theorem JW.rot {w1 : World} {c : Lc} {cf : Cf} {b B n : Nat} {q : Rk} {w : World} (h : JW w1 c cf b B n q w) (i sec a : Int) (x : Nat) :
    Calls Tryz.prog 12 #[.pointer (some ⟨c.r, 0, none⟩), .int .i64 i, .int .i64 sec, .int .i64 a, .int .u32 x] w (JN w1 c cf b B n (Rk.rotten q i sec a x) (.bool (Rk.rots q i sec a x)) w) := h.step (h.qs.rot i sec a x) (rotten_n _ _ _ _ _)
theorem JW.made {w1 w2 w3 : World} {c : Lc} {cf : Cf} {b : Nat} {q : Rk} (h : QS w1 c q w2) (hc : CfB cf b w1) (hb : b < w1.heap.size) (hl : Below w2.heap.size w2 w3) : JW w1 c cf b w2.heap.size q.n q w3 :=
  ⟨h.below hl, rfl, CfB.below (CfB.below hc hb h.base) (Nat.lt_of_lt_of_le hb h.le) hl, hb, h.rack.far, hl.size⟩
theorem eql_loss (a b c : Int) (w : World) : (binOp .eql 75 (.agg #[.int .i64 a, .int .i64 b, .int .i64 c]) (.agg #[.int .i64 a, .int .i64 b, .int .i64 c])).run Tryz.prog w = .ok (.bool true) w := by
  rw [run_eql_struct, run_equalIn_struct w 9999 75 _ _ (by kernel_rfl) (by kernel_rfl)]
  simp [Program.fieldsOf, Op.eqFields, part, isAgg, underlying, Tryz.underlying75, Tryz.underlying3, Result.andThen, run_equalIn_int w 9998 3 .i64 .i64 _ _ Tryz.underlying3]
theorem neql_loss (a b c : Int) (w : World) : (binOp .neq 75 (.agg #[.int .i64 a, .int .i64 b, .int .i64 c]) (.agg #[.int .i64 a, .int .i64 b, .int .i64 c])).run Tryz.prog w = .ok (.bool false) w := by
  rw [run_neq_struct, run_equalIn_struct w 9999 75 _ _ (by kernel_rfl) (by kernel_rfl)]
  simp [Program.fieldsOf, Op.eqFields, part, isAgg, underlying, Tryz.underlying75, Tryz.underlying3, Result.andThen, run_equalIn_int w 9998 3 .i64 .i64 _ _ Tryz.underlying3]
theorem guard_loss : Tryz.prog.eqGuardType Tryz.prog.depth 75 = false := by kernel_rfl
theorem rcB_refl (x : Rc) : rcB x x = true := decide_eq_true rfl
end Go.Proofs.YtidnmkghmaeniaaGreat
