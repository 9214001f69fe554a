/-
  rack.New.
-/
import Derived.Test.YtdcpgpgomnpefaaGreatDoorQSmall
import Derived.Deep.RegionLaw
import Derived.Deep.DrawnRows
namespace Go.Proofs.YtdcpgpgomnpefaaGreatDoor
open Go.RowKit Go.Deep Dk Qk Go.Maps
theorem info_dptr : (Tryz.prog.info? 131).map (fun i => (i.zero, i.size, i.bytes)) = some (some (.pointer none), 1, 8) := by kernel_rfl
set_option maxRecDepth 100000 in
theorem wpList_append_dptr (w : World) {ops : Array Oper} {rest : List Oper} {o : Oper} {a : Act} {Q : Exit → Act → World → Prop} (hgd : o.guard = none) (s x : Operand)
    (ho : o.op = .call { callee := .builtin .append, args := #[s, x], argTypes := #[128, 128] })
    (base : Nat) (v : Value) (n : Nat) (xs : List Value) (hsv : a.eval s = v) (hown : w.ownsRow base 131 1 v n xs)
    (b : Nat) (u : Value) (hx : a.eval x = .slice (some ⟨b, 0, none⟩) 1 1) (hb : w.cell? ⟨b, 0, none⟩ = some u) (hu : u.oneCell' = true) (h63 : n + 1 ≤ 100000) (hbase : base ≤ w.heap.size)
    (h : ∀ v' w', w'.ownsRow base 131 1 v' (n + 1) (xs ++ [u]) → Grew w v.ownBlock w' v'.ownBlock → wpList Tryz.prog ops Q rest (a.put o.dst v') w') : wpList Tryz.prog ops Q (o :: rest) a w := by
  obtain ⟨i0, hi0, hz⟩ := Option.map_eq_some_iff.1 info_dptr
  simp only [Prod.mk.injEq] at hz
  obtain ⟨hz0, hz1, hz2⟩ := hz
  have hsrc : Src Tryz.prog 1 128 (.slice (some ⟨b, 0, none⟩) 1 1) 1 [u] w := Src.ofSlice _ Tryz.underlying128 ⟨b, 0, none⟩ 1 1 [u] rfl (fun j y hy => by
    match j, hy with
    | 0, hy => injection hy with hy; subst hy; simpa [Addr.add] using hb
    | j + 1, hy => simp at hy) (fun y hy => by rw [List.mem_singleton.1 hy]; exact hu)
  exact wpList_append_src w hgd s x 128 128 ho base 131 i0 (.pointer none) 1 8 Tryz.underlying128 hi0 hz0 hz1 hz2 rfl v n xs hsv hown (.slice (some ⟨b, 0, none⟩) 1 1) 1 [u] hx hsrc (by unfold maxLen; omega) (by omega) hbase fun v' w' h1 h2 _ => h v' w' h1 h2
theorem grown_cellq (w : World) (g i : Nat) (u : Value) : w.grownBy (w.setCell ⟨g, i, none⟩ u) (some g) :=
  ⟨rfl, rfl, rfl, by simp, fun k _ hk => heap_setCell_other w ⟨g, i, none⟩ k u (fun e => hk (by rw [e]))⟩
theorem qcell_later {w2 wx w3 : World} {r r' : Option Nat} {c i : Nat} {x : Value} (hb : Below w2.heap.size w2 wx) (hg : Grew wx r w3 r') (hl : c < w2.heap.size) (hr : r ≠ some c) (h : w2.cell? ⟨c, i, none⟩ = some x) : w3.cell? ⟨c, i, none⟩ = some x := by
  rw [hg.cell (a := ⟨c, i, none⟩) (Nat.lt_of_lt_of_le hl hb.size) (fun e => hr e.symm), hb.cell (p := ⟨c, i, none⟩) hl]; exact h
theorem qfrozen_later {w2 wx w3 : World} {r r' : Option Nat} {c i : Nat} (hb : Below w2.heap.size w2 wx) (hg : Grew wx r w3 r') (hl : c < w2.heap.size) (hr : r ≠ some c) (h : w2.frozen? ⟨c, i, none⟩ = false) : w3.frozen? ⟨c, i, none⟩ = false := by
  rw [hg.frozen (a := ⟨c, i, none⟩) (Nat.lt_of_lt_of_le hl hb.size) (fun e => hr e.symm), hb.frozen (p := ⟨c, i, none⟩) hl]; exact h
/-- A block of another kind is not the row's. -/
theorem own_not {w : World} {B e n g : Nat} {v : Value} {xs : List Value} {o : Obj} (h : w.ownsRow B e 1 v n xs) (hg : w.heap[g]? = some o) (ho : ∀ cur f, o ≠ .cells cur e f) : v.ownBlock ≠ some g := by
  rcases h.2 with ⟨rfl, _⟩ | ⟨g', cap, cur', rfl, _, hg', _⟩
  · intro e; cases e
  · intro e
    have e : g' = g := by
      have : (Value.slice (some ⟨g', 0, none⟩) n cap).ownBlock = some g' := rfl
      rw [this] at e; injection e
    subst e
    rw [hg] at hg'
    injection hg' with hg'
    exact ho _ _ hg'
theorem DiskIn.not {w : World} {d S M B n : Nat} {s : St} {v : Value} {xs : List Value} (h : DiskIn w d S M s) (ho : w.ownsRow B 131 1 v n xs) : v.ownBlock ≠ some d ∧ v.ownBlock ≠ some S ∧ v.ownBlock ≠ some M := by
  obtain ⟨es, k, hm⟩ := h.mapObj
  exact ⟨own_not ho h.top fun cur f e => by (injection e with _ e _; exact absurd e (by decide)), own_not ho h.secs fun cur f e => by (injection e with _ e _; exact absurd e (by decide)), own_not ho hm fun cur f e => by cases e⟩
def dptr (d : Nat → Nat) (j : Nat) : List Value := (List.range j).map fun i => .pointer (some ⟨d i, 0, none⟩)
theorem dptr_succ (d : Nat → Nat) (j : Nat) : dptr d (j + 1) = dptr d j ++ [.pointer (some ⟨d j, 0, none⟩)] := by simp [dptr, List.range_succ]
theorem dptr_length (d : Nat → Nat) (j : Nat) : (dptr d j).length = j := by simp [dptr]
theorem dptr_congr {d e : Nat → Nat} {j : Nat} (h : ∀ i, i < j → d i = e i) : dptr d j = dptr e j := by
  unfold dptr
  refine List.map_congr_left fun i hi => ?_
  rw [h i (List.mem_range.1 hi)]
/-- So far j disks have been made. -/
structure NRk (w : World) (j k : Nat) (v : Value) (d S M : Nat → Nat) (w0 : World) : Prop where
  top : w.heap[w0.heap.size]? = some (.cells #[v, .bool false, .int .i64 (-1)] 130 (0, 0))
  own : w.ownsRow (w0.heap.size + 1) 131 1 v j (dptr d j)
  disk : ∀ i, i < j → DiskIn w (d i) (S i) (M i) (new k)
  lo : ∀ i, i < j → w0.heap.size ≤ d i ∧ w0.heap.size ≤ S i ∧ w0.heap.size ≤ M i
  inj : ∀ i i', i < j → i' < j → i ≠ i' → d i ≠ d i' ∧ S i ≠ S i' ∧ M i ≠ M i'
  below : Below w0.heap.size w0 w
theorem NRk.lt {w w0 : World} {j k : Nat} {v : Value} {d S M : Nat → Nat} (h : NRk w j k v d S M w0) : w0.heap.size < w.heap.size := (Array.getElem?_eq_some_iff.1 h.top).1
theorem NRk.cells {w w0 : World} {j k : Nat} {v : Value} {d S M : Nat → Nat} (h : NRk w j k v d S M w0) : w.cell? ⟨w0.heap.size, 0, none⟩ = some v ∧ w.frozen? ⟨w0.heap.size, 0, none⟩ = false := by
  refine ⟨?_, frozen_of_row _ _ 0 _ _ h.top⟩
  rw [cell_of_row _ _ 0 _ _ (0, 0) h.top]; rfl
theorem NRk.off {w w0 : World} {j k : Nat} {v : Value} {d S M : Nat → Nat} (h : NRk w j k v d S M w0) : v.ownBlock ≠ some w0.heap.size := fun e => by have := (own_block h.own e).1; omega
theorem NRk.next {w0 wr w2 wx w3 : World} {j k d' S' M' : Nat} {v v' : Value} {d S M : Nat → Nat} (h : NRk wr j k v d S M w0) (hb : Below wr.heap.size wr w2) (hD : DiskIn w2 d' S' M' (new k)) (h1 : wr.heap.size ≤ d') (h2 : wr.heap.size ≤ S') (h3 : wr.heap.size ≤ M')
    (hx : Below w2.heap.size w2 wx) (hown : w3.ownsRow (w0.heap.size + 1) 131 1 v' (j + 1) (dptr d j ++ [.pointer (some ⟨d', 0, none⟩)])) (hg : Grew wx v.ownBlock w3 v'.ownBlock) :
    NRk (w3.setCell ⟨w0.heap.size, 0, none⟩ v') (j + 1) k v' (upd d j d') (upd S j S') (upd M j M') w0 := by
  have hlt := h.lt
  have hoff := h.off
  have hbx : Below wr.heap.size wr wx := hb.trans (hx.mono hb.size)
  have hownx := own_below h.own hbx
  have oth : ∀ k, k ≠ w0.heap.size → (w3.setCell ⟨w0.heap.size, 0, none⟩ v').heap[k]? = w3.heap[k]? := fun k hk => heap_setCell_other _ ⟨w0.heap.size, 0, none⟩ k _ hk
  have disk : ∀ {a b c : Nat}, DiskIn wx a b c (new k) → DiskIn (w3.setCell ⟨w0.heap.size, 0, none⟩ v') a b c (new k) := fun {a b c} hq => by
    obtain ⟨n1, n2, n3⟩ := hq.not hownx
    obtain ⟨l1, l2, l3⟩ := hq.lt
    have ht := (hbx.block _ hlt).trans h.top
    obtain ⟨es, kk, hm⟩ := hq.mapObj
    exact hq.keep ((oth _ (cells_ne hq.top ht (by decide))).trans (hg.by_.block _ l1 (fun e => n1 e.symm))) ((oth _ (cells_ne hq.secs ht (by decide))).trans (hg.by_.block _ l2 (fun e => n2 e.symm))) ((oth _ (cells_map_ne ht hm).symm).trans (hg.by_.block _ l3 (fun e => n3 e.symm)))
  have up : ∀ {f : Nat → Nat} {x i : Nat}, i < j → upd f j x i = f i := fun {f x i} hi => upd_other _ _ (by omega)
  refine ⟨heap_setCell_same w3 _ 0 _ _ v' ((hg.by_.block _ (Nat.lt_of_lt_of_le hlt hbx.size) (fun e => hoff e.symm)).trans ((hbx.block _ hlt).trans h.top)), ?_, fun i hi => ?_, fun i hi => ?_, fun i i' hi hi' hne => ?_, ?_⟩
  · rw [dptr_succ, upd_same, dptr_congr (e := d) fun i hi => up hi]
    exact World.ownsRow.kept hown (grown_cellq w3 _ 0 v') (Or.inr fun e => by have := (own_block hown e).1; omega)
  · by_cases e : i = j
    · subst e; rw [upd_same, upd_same, upd_same]; exact disk (hD.below hx)
    · rw [upd_other _ _ e, upd_other _ _ e, upd_other _ _ e]; exact disk (((h.disk i (by omega)).below hb).below hx)
  · by_cases e : i = j
    · subst e; rw [upd_same, upd_same, upd_same]; omega
    · rw [upd_other _ _ e, upd_other _ _ e, upd_other _ _ e]; exact h.lo i (by omega)
  · by_cases e : i = j
    · subst e
      have hl := (h.disk i' (by omega)).lt
      rw [upd_same, upd_same, upd_same, upd_other _ _ hne.symm, upd_other _ _ hne.symm, upd_other _ _ hne.symm]; omega
    · by_cases e' : i' = j
      · subst e'
        have hl := (h.disk i (by omega)).lt
        rw [upd_same, upd_same, upd_same, upd_other _ _ e, upd_other _ _ e, upd_other _ _ e]; omega
      · rw [upd_other _ _ e, upd_other _ _ e, upd_other _ _ e, upd_other _ _ e', upd_other _ _ e', upd_other _ _ e']; exact h.inj i i' (by omega) (by omega) hne
  · refine Below.setCell (p := ⟨w0.heap.size, 0, none⟩) ?_ (Nat.le_refl _) _
    exact (h.below.trans (hbx.mono h.below.size)).trans (hg.below (Nat.le_trans h.below.size hbx.size) fun k hk => by have := (own_block h.own hk).1; omega)
/-- A new rack. -/
def NewR (n k : Nat) (w : World) (e : Ending) (w' : World) : Prop :=
  ∃ c : Lc, e = .returned (.tuple #[.pointer (some ⟨c.r, 0, none⟩), .nilIface]) ∧ RackIn w.heap.size w' c (newRk n k) ∧ Below w.heap.size w w'
theorem NRk.made {w w0 : World} {n k : Nat} {v : Value} {d S M : Nat → Nat} (h : NRk w n k v d S M w0) (h1 : 1 ≤ n) (h2 : n ≤ 8) (h3 : 1 ≤ k) (h4 : k ≤ 128) : NewR n k w0 (.returned (.tuple #[.pointer (some ⟨w0.heap.size, 0, none⟩), .nilIface])) w := by
  rcases h.own.2 with ⟨_, h0⟩ | ⟨P, cap, cur, rfl, hB, hg, hle, _, _, ht⟩
  · omega
  · refine ⟨⟨w0.heap.size, P, cap, d, S, M⟩, rfl, ⟨newRk_ok h1 h2 h3 h4, Nat.le_refl _, by show _ ≤ P; omega, h.lo, hle, h.top, ⟨cur, hg, fun i hi => ?_⟩, h.disk, h.inj⟩, h.below⟩
    have hi : i < n := hi
    rw [Nat.mul_one] at ht
    have hu : (dptr d n)[i]? = some (.pointer (some ⟨d i, 0, none⟩)) := by simp [dptr, hi]
    show cur[i]? = some (.pointer (some ⟨d i, 0, none⟩))
    rw [← hu, ← ht, List.getElem?_take, if_pos hi, Array.getElem?_toList]
theorem nrk_start (w : World) (k : Nat) : NRk (w.alloc (.cells #[.slice none 0 0, .bool false, .int .i64 (-1)] 130)) 0 k (.slice none 0 0) (fun _ => 0) (fun _ => 0) (fun _ => 0) w :=
  ⟨heap_alloc_new w _, ⟨rfl, Or.inl ⟨rfl, rfl⟩⟩, fun _ h => absurd h (by omega), fun _ h => absurd h (by omega), fun _ _ h => absurd h (by omega), one_below w _⟩
def RelQN (n k : Nat) (w : World) (i : Value) (wr : World) : Prop := ∃ (j : Nat) (v : Value) (d S M : Nat → Nat), j ≤ n ∧ i = .int .i64 j ∧ NRk wr j k v d S M w
theorem relQN_next {n j k d' S' M' : Nat} {w0 wr w2 wx w3 : World} {v v' : Value} {d S M : Nat → Nat} (h : NRk wr j k v d S M w0) (hj : j < n) (hb : Below wr.heap.size wr w2) (hD : DiskIn w2 d' S' M' (new k)) (h1 : wr.heap.size ≤ d') (h2 : wr.heap.size ≤ S') (h3 : wr.heap.size ≤ M')
    (hx : Below w2.heap.size w2 wx) (hown : w3.ownsRow (w0.heap.size + 1) 131 1 v' (j + 1) (dptr d j ++ [.pointer (some ⟨d', 0, none⟩)])) (hg : Grew wx v.ownBlock w3 v'.ownBlock) : RelQN n k w0 (.int .i64 ((j : Int) + 1)) (w3.setCell ⟨w0.heap.size, 0, none⟩ v') :=
  ⟨j + 1, v', _, _, _, by omega, by go_num, h.next hb hD h1 h2 h3 hx hown hg⟩
set_option maxHeartbeats 2000000 in
set_option maxRecDepth 100000 in
theorem qnew_yes (n k : Nat) (w : World) (h1 : 1 ≤ n) (h2 : n ≤ 8) (h3 : 1 ≤ k) (h4 : k ≤ 128) : Calls Tryz.prog 23 #[.int .i64 (n : Int), .int .i64 (k : Int)] w (NewR n k w) := by
  have HNS := Lib.hid (nrk_start w k)
  have i1 : ¬ (n : Int) < 1 := by omega
  have i2 : ¬ 8 < n := by omega
  go_enter Tryz.func23, Tryz.ntmps23
  go_wp2_with fail
  go_loopw [21] (fun c wr => RelQN n k w c wr) (fun c _ => n - (intOf c).toNat)
  case atStart => exact ⟨0, _, _, _, _, Nat.zero_le _, rfl, HNS.out⟩
  case round =>
    obtain ⟨j, v, d, S, M, hj, rfl, hr3⟩ := hrel
    by_cases hlt : j < n
    · have HR3 := Lib.hid hr3
      clear hr3
      go_wp2_with fail
      refine (new_yes k wr h3 h4).mono ?_
      rintro e w2 ⟨d', S', M', rfl, hD, e1, e2, e3, hb⟩
      have HE := Lib.hid (show wr.heap.size ≤ d' ∧ wr.heap.size ≤ S' ∧ wr.heap.size ≤ M' from ⟨e1, e2, e3⟩)
      have HD := Lib.hid hD
      have HB := Lib.hid hb
      obtain ⟨c1, c3⟩ := HR3.out.cells
      have hcl0 := HR3.out.lt
      have c1 : w2.cell? ⟨w.heap.size, 0, none⟩ = some v := (hb.cell (p := ⟨w.heap.size, 0, none⟩) hcl0).trans c1
      have c3 : w2.frozen? ⟨w.heap.size, 0, none⟩ = false := (hb.frozen (p := ⟨w.heap.size, 0, none⟩) hcl0).trans c3
      have hcl : w.heap.size < w2.heap.size := Nat.lt_of_lt_of_le hcl0 hb.size
      have HNE := Lib.hid (show v.ownBlock ≠ some w.heap.size from HR3.out.off)
      have HO := Lib.hid (own_below HR3.out.own hb)
      clear hD e1 e2 e3 hb hcl0
      go_wp2_with (at_builtin; refine wpList_append_dptr _ rfl (.tmp 37) (.tmp 39) rfl (w.heap.size + 1) _ _ _ rfl (own_below HO.out (one_below _ _)) w2.heap.size (.pointer (some ⟨d', 0, none⟩)) rfl (by simp) rfl (by omega) (by simp; omega) ?_; intro v' w3 hown3 hg3; have c1d := qcell_later (one_below _ _) hg3 hcl HNE.out c1; have c3d := qfrozen_later (one_below _ _) hg3 hcl HNE.out c3; have HO3 := Lib.hid hown3; have HG3 := Lib.hid hg3; obtain ⟨gv, cv, rfl, _⟩ := own_slice hown3; clear hown3 hg3)
      go_roundw
      case rel => exact relQN_next HR3.out hlt HB.out HD.out HE.out.1 HE.out.2.1 HE.out.2.2 (one_below _ _) HO3.out HG3.out
      case measure => simp [intOf]; omega
    · obtain rfl : j = n := by omega
      have HR3 := Lib.hid hr3
      clear hr3
      go_wp2_with fail
      exact bodyPost_ret (v := .tuple #[.pointer (some ⟨w.heap.size, 0, none⟩), .nilIface]) (by simp [results, Tryz.results23, go_sem]) rfl (HR3.out.made h1 h2 h3 h4)
set_option maxHeartbeats 2000000 in
set_option maxRecDepth 100000 in
theorem qnew_no (n : Int) (k : Int) (w : World) (h : ¬ (1 ≤ n ∧ n ≤ 8)) : Calls Tryz.prog 23 #[.int .i64 n, .int .i64 k] w (Err2 (.pointer none) opQNew 1 n w) := by
  by_cases h1 : n < 1
  · clear h
    go_enter Tryz.func23, Tryz.ntmps23
    go_wp2_with (go_at_call 45; refine (wrap_some _ _ _ _ _).mono ?_; rintro e w' ⟨rfl, rfl⟩)
    exact bodyPost_ret (v := .tuple #[.pointer none, wrapV opQNew n (errV 1)]) (by simp [results, Tryz.results23, go_sem, wrapV, errV, opQNew]) rfl ⟨rfl, rfl⟩
  · have h2 : 8 < n := by omega
    clear h
    go_enter Tryz.func23, Tryz.ntmps23
    go_wp2_with (go_at_call 45; refine (wrap_some _ _ _ _ _).mono ?_; rintro e w' ⟨rfl, rfl⟩)
    exact bodyPost_ret (v := .tuple #[.pointer none, wrapV opQNew n (errV 1)]) (by simp [results, Tryz.results23, go_sem, wrapV, errV, opQNew]) rfl ⟨rfl, rfl⟩
/-- A rack whose disks can't be made. -/
def NewBad (n k : Int) (w : World) (e : Ending) (w' : World) : Prop := e = .returned (.tuple #[.pointer none, wrapV opQNew n (wrapV opNew k (errV 1))]) ∧ Below w.heap.size w w'
set_option maxHeartbeats 2000000 in
set_option maxRecDepth 100000 in
theorem qnew_bad (n : Nat) (k : Int) (w : World) (h1 : 1 ≤ n) (h2 : n ≤ 8) (h : ¬ (1 ≤ k ∧ k ≤ 128)) : Calls Tryz.prog 23 #[.int .i64 (n : Int), .int .i64 k] w (NewBad n k w) := by
  have i1 : ¬ (n : Int) < 1 := by omega
  have i2 : ¬ 8 < n := by omega
  have HN := Lib.hid (fun w => new_no k w h)
  unfold Err2 wrapV errV at HN
  clear h
  go_enter Tryz.func23, Tryz.ntmps23
  go_wp2_with fail
  go_loopw [21] (fun c wr => c = .int .i64 0 ∧ Below w.heap.size w wr) (fun _ _ => 0)
  case atStart => exact ⟨rfl, one_below w _⟩
  case round =>
    obtain ⟨rfl, hb⟩ := hrel
    have HB := Lib.hid hb
    have i3 : 0 < n := by omega
    clear hb
    go_wp2_with (first
      | (go_at_call 74; refine (HN.out _).mono ?_; rintro e w' ⟨rfl, rfl⟩)
      | (go_at_call 45; refine (wrap_some _ _ _ _ _).mono ?_; rintro e w' ⟨rfl, rfl⟩))
    exact bodyPost_ret (v := .tuple #[.pointer none, wrapV opQNew n (wrapV opNew k (errV 1))]) (by simp [results, Tryz.results23, go_sem, wrapV, errV, opQNew]) rfl ⟨rfl, HB.out⟩
end Go.Proofs.YtdcpgpgomnpefaaGreatDoor
