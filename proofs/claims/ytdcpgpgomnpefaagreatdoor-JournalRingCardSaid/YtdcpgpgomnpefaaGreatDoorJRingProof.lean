/-
  stavelaw10.JournalRing: the walk (written by genjring.py).
-/
import Derived.Test.YtdcpgpgomnpefaaGreatDoorJLaw
import Derived.Test.YtdcpgpgomnpefaaGreatDoorOpenI
import Derived.Deep.RegionHeld3
import Derived.Deep.DeepCutAuto
import Derived.Deep.CutBlock
import Derived.IntWalk
import Derived.Maps.OwnSet
import Derived.Test.YtdcpgpgomnpefaaGreatDoorBase
import Derived.Test.YtdcpgpgomnpefaaGreatDoorLaw
namespace Go.Proofs.YtdcpgpgomnpefaaGreatDoor
open Go.RowKit Go.Deep Crc Dk Qk Go.Maps Hf
/-! ### records in a map -/
def recV (q t : Int) (g : Option Nat) (n c : Nat) : Value := .agg #[.int .i64 q, .int .i64 t, .slice (g.map fun b => ⟨b, 0, none⟩) n c]
def gD (g : Option Nat) : DataW Unit := match g with | none => .nil | some b => .lit (.int .i64 (b : Int))
def encR (q t : Int) (g : Option Nat) (n c : Nat) : DataW Unit := .agg [.lit (.int .i64 q), .lit (.int .i64 t), gD g, .lit (.int .i64 (n : Int)), .lit (.int .i64 (c : Int))]
theorem recV_inj {q t q' t' : Int} {g g' : Option Nat} {n c n' c' : Nat} (h : encR q t g n c = encR q' t' g' n' c') : recV q t g n c = recV q' t' g' n' c' := by
  unfold encR at h
  simp only [DataW.agg.injEq, List.cons.injEq, DataW.lit.injEq, Lit.int.injEq, true_and, and_true] at h
  obtain ⟨rfl, rfl, hg, hn, hc⟩ := h
  obtain rfl : n = n' := by omega
  obtain rfl : c = c' := by omega
  have : g = g' := by
    cases g <;> cases g' <;> simp [gD] at hg ⊢
    omega
  rw [this]
open Classical in
noncomputable def recR (v : Value) : Option (DataW Unit × List MemPlace) :=
  if h : ∃ x : Int × Int × Option Nat × Nat × Nat, v = recV x.1 x.2.1 x.2.2.1 x.2.2.2.1 x.2.2.2.2 then some (encR h.choose.1 h.choose.2.1 h.choose.2.2.1 h.choose.2.2.2.1 h.choose.2.2.2.2, []) else none
theorem recV_enc {q t q' t' : Int} {g g' : Option Nat} {n c n' c' : Nat} (h : recV q t g n c = recV q' t' g' n' c') : encR q t g n c = encR q' t' g' n' c' := by
  unfold recV at h
  injection h with h
  have h := congrArg Array.toList h
  simp only [List.cons.injEq, Value.int.injEq, Value.slice.injEq, true_and, and_true] at h
  obtain ⟨rfl, rfl, hg, rfl, rfl⟩ := h
  have : g = g' := by
    cases g <;> cases g' <;> simp at hg ⊢
    exact hg
  rw [this]
theorem recR_mk (q t : Int) (g : Option Nat) (n c : Nat) : recR (recV q t g n c) = some (encR q t g n c, []) := by
  have hx : ∃ x : Int × Int × Option Nat × Nat × Nat, recV q t g n c = recV x.1 x.2.1 x.2.2.1 x.2.2.2.1 x.2.2.2.2 := ⟨⟨q, t, g, n, c⟩, rfl⟩
  unfold recR
  rw [dif_pos hx, recV_enc hx.choose_spec]
theorem recR_inv {v : Value} {q t : Int} {g : Option Nat} {n c : Nat} {ps : List MemPlace} (h : recR v = some (encR q t g n c, ps)) : v = recV q t g n c := by
  unfold recR at h
  split at h
  · rename_i hx
    injection h with h
    injection h with h _
    rw [hx.choose_spec]
    exact recV_inj h
  · cases h
theorem ring_own {w : World} {B e n : Nat} {v : Value} {xs : List Value} (h : w.ownsRow B e 108 v n xs) (hn : 0 < n) : ∃ g c, v = .slice (some ⟨g, 0, none⟩) n c ∧ ∃ cs t fr, w.heap[g]? = some (.cells cs t fr) := by
  rcases h.2 with ⟨rfl, h0⟩ | ⟨g, c, cur, rfl, _, hg, _⟩
  · omega
  · exact ⟨g, c, rfl, _, _, _, hg⟩
/-- Block M is a map that has the records f, for the first Z; their blocks are the call's own. -/
def RMap (w : World) (M Z B K : Nat) (f : Nat → Option Rc) (m : Nat) : Prop :=
  B ≤ M ∧ ∃ D, w.ownsMap Tryz.prog 3 recR M m D ∧ (∀ i, i < Z → Maps.has D (kI i) = (f i).isSome) ∧ ∀ i x, i < Z → f i = some x → ∃ g c, (∀ z, D.atKey (kI i) z = encR x.q x.t (some g) K c) ∧ w.ownsRow B 134 108 (.slice (some ⟨g, 0, none⟩) K c) K (x.b.map bytesV).flatten
theorem RMap.made (w : World) (Z B K : Nat) (hB : B ≤ w.heap.size) : RMap (w.alloc (.map #[] 0)) w.heap.size Z B K (fun _ => none) 0 :=
  ⟨hB, .map [], World.ownsMap_made w _ _ _, fun _ _ => rfl, fun _ _ _ h => (by cases h)⟩
theorem RMap.below {w w' : World} {M Z B K m : Nat} {f : Nat → Option Rc} (h : RMap w M Z B K f m) (hb : Below w.heap.size w w') : RMap w' M Z B K f m := by
  obtain ⟨h0, D, h1, h2, h3⟩ := h
  have hl := h1.lt
  obtain ⟨es, clock, g1, g2⟩ := h1
  refine ⟨h0, D, ⟨es, clock, (hb.block _ hl).trans g1, g2⟩, h2, fun i x hi hx => ?_⟩
  obtain ⟨g, c, e1, e2⟩ := h3 i x hi hx
  exact ⟨g, c, e1, own_below e2 hb⟩
theorem RMap.rc {w w' : World} {M Z B K m n : Nat} {f : Nat → Option Rc} {c : Lc} (h : RMap w M Z B K f m) (hf : Far B c n) (hc : RC c n w w') : RMap w' M Z B K f m := by
  obtain ⟨h0, D, h1, h2, h3⟩ := h
  have hl := h1.lt
  obtain ⟨es, clock, g1, g2⟩ := h1
  refine ⟨h0, D, ⟨es, clock, (hc.block _ hl (by have := hf.1; omega) (fun i hi => by have := hf.2 i hi; omega)).trans g1, g2⟩, h2, fun i x hi hx => ?_⟩
  obtain ⟨g, cc, e1, e2⟩ := h3 i x hi hx
  exact ⟨g, cc, e1, own_rc e2 hf hc⟩
theorem RMap.put {w w' : World} {M Z B K m : Nat} {f : Nat → Option Rc} {D : DataW Unit} (h0 : B ≤ M) (h1 : w.ownsMap Tryz.prog 3 recR M m D) (h2 : ∀ i, i < Z → Maps.has D (kI i) = (f i).isSome)
    (h3 : ∀ i x, i < Z → f i = some x → ∃ g c, (∀ z, D.atKey (kI i) z = encR x.q x.t (some g) K c) ∧ w.ownsRow B 134 108 (.slice (some ⟨g, 0, none⟩) K c) K (x.b.map bytesV).flatten)
    {s : Nat} {x : Rc} {g c : Nat} (hv : w.ownsRow B 134 108 (.slice (some ⟨g, 0, none⟩) K c) K (x.b.map bytesV).flatten) (hK : 0 < K)
    (hw : w'.ownsMap Tryz.prog 3 recR M (m + 1) (D.put (kI s) (encR x.q x.t (some g) K c))) (hg : w.grownBy w' (some M)) : RMap w' M Z B K (upd f s (some x)) (m + 1) := by
  have hm := h1.isMap
  have keep : ∀ {g c : Nat} {xs : List Value}, w.ownsRow B 134 108 (.slice (some ⟨g, 0, none⟩) K c) K xs → w'.ownsRow B 134 108 (.slice (some ⟨g, 0, none⟩) K c) K xs := fun {g c xs} h => by
    refine World.ownsRow.kept h hg (Or.inr fun e => ?_)
    obtain ⟨g', c', e1, cs, t, fr, e2⟩ := ring_own h hK
    injection e1 with e1 _ _
    injection e1 with e1
    injection e1 with e1 _ _
    subst e1
    have e : g = M := by injection e
    subst e
    obtain ⟨es, clock, e3, _⟩ := h1
    rw [e2] at e3
    cases e3
  refine ⟨h0, _, hw, fun i hi => ?_, fun i y hi hy => ?_⟩
  · by_cases e : i = s
    · subst e; rw [Maps.has_put_same hm (kI_key i), upd_same]; rfl
    · rw [Maps.has_put_other (fun q => e (kI_inj q)), upd_other _ _ e]; exact h2 i hi
  · by_cases e : i = s
    · subst e
      rw [upd_same] at hy; injection hy with hy; subst hy
      exact ⟨g, c, fun z => Maps.atKey_put_same hm (kI_key i) _ z, keep hv⟩
    · rw [upd_other _ _ e] at hy
      obtain ⟨g', c', e1, e2⟩ := h3 i y hi hy
      exact ⟨g', c', fun z => by rw [Maps.atKey_put_other (fun q => e (kI_inj q))]; exact e1 z, keep e2⟩
/-! ### the ring -/
structure RingQ (cf : Cf) (N Z : Nat) (f : Nat → Option Rc) (q : Rk) : Prop where
  wl : Wl q cf
  nn : q.n = N
  sl : ∀ s, s < Z → SlotIs q cf s ((f s).getD (blankR cf))
  rc : ∀ s x, f s = some x → RcIn cf s x
structure RingB (cf : Cf) (N : Nat) (m : Nat) (q : Rk) : Prop where
  wl : Wl q cf
  nn : q.n = N
  sl : ∀ s, s < m → SlotIs q cf s (blankR cf)
theorem RingB.next {cf : Cf} {N m : Nat} {q : Rk} (h : RingB cf N m q) (hm : (m : Int) < cf.s) : Rk.jblankC q cf m = 0 ∧ RingB cf N (m + 1) (Rk.jblank q cf m) := by
  obtain ⟨a1, a2, a3, a4, a5, _⟩ := h.wl.blank hm
  refine ⟨a1, a2, a3.trans h.nn, fun s hs => ?_⟩
  by_cases e : s = m
  · subst e; exact a4
  · exact a5 s _ e (h.sl s (by omega))
theorem RingB.ring {cf : Cf} {N Z : Nat} {q : Rk} (h : RingB cf N Z q) : RingQ cf N Z (fun _ => none) q := ⟨h.wl, h.nn, h.sl, fun _ _ h => by cases h⟩
theorem RingQ.next {cf : Cf} {N Z s : Nat} {f : Nat → Option Rc} {q : Rk} {x : Rc} (h : RingQ cf N Z f q) (hs : (s : Int) < cf.s) (hx : RcIn cf s x) (h2 : 2 ≤ x.q) : Rk.jlogC q cf x = 0 ∧ RingQ cf N Z (upd f s (some x)) (Rk.jlog q cf x) := by
  obtain ⟨a1, a2, a3, a4, a5, _⟩ := h.wl.log hs hx h2
  refine ⟨a1, a2, a3.trans h.nn, fun i hi => ?_, fun i y hy => ?_⟩
  · by_cases e : i = s
    · subst e; rw [upd_same]; exact a4
    · rw [upd_other _ _ e]; exact a5 i _ e (h.sl i hi)
  · by_cases e : i = s
    · subst e; rw [upd_same] at hy; injection hy with hy; subst hy; exact hx
    · rw [upd_other _ _ e] at hy; exact h.rc i y hy
theorem RingQ.told {cf : Cf} {N Z s : Nat} {f : Nat → Option Rc} {q : Rk} (h : RingQ cf N Z f q) (hs : (s : Int) < cf.s) (hz : s < Z) : jcode q cf s = 0 ∧ jnewest q cf s = ((f s).getD (blankR cf)).q ∧ jwhole q cf s = true ∧ jrecR q cf s = (f s).getD (blankR cf) := by
  refine (h.sl s hz).told h.wl hs ?_
  cases e : f s with
  | none => exact blank_in h.wl.right s
  | some x => exact h.rc s x e
/-- A record's place. -/
def ZRec (b : Nat) (w : World) : Prop := ∃ cs : Array Value, cs.size = 3 ∧ w.heap[b]? = some (.cells cs 59 (0, 0))
theorem ZRec.lt {b : Nat} {w : World} (h : ZRec b w) : b < w.heap.size := (Array.getElem?_eq_some_iff.1 h.choose_spec.2).1
theorem ZRec.below {b : Nat} {w w' : World} (h : ZRec b w) (hb : Below w.heap.size w w') : ZRec b w' := by
  have hl := h.lt
  obtain ⟨cs, h1, h2⟩ := h
  exact ⟨cs, h1, (hb.block b hl).trans h2⟩
theorem ZRec.other {b b' : Nat} {w : World} (h : ZRec b w) (hn : b ≠ b') (cs : Array Value) : ZRec b (w.setRow b' cs) := by
  obtain ⟨c1, h1, h2⟩ := h
  exact ⟨c1, h1, by rw [setRow_other w b' b cs hn]; exact h2⟩
theorem zrec_new (w : World) : ZRec w.heap.size (w.alloc (.cells #[.int .i64 0, .int .i64 0, .slice none 0 0] 59)) := ⟨_, rfl, heap_alloc_new w _⟩
theorem cut_apart {w : World} {B e n b : Nat} {v : Value} {xs : List Value} (h : w.ownsRow B e 108 v n xs) (hb : b < B) : v.ownBlock ≠ some b := fun hk => by
  rcases h.2 with ⟨rfl, _⟩ | ⟨g, c, cur, rfl, hB, _⟩
  · cases hk
  · injection hk with hk
    have e : g = b := hk
    omega
theorem cut_apart2 {w : World} {B e n b : Nat} {v : Value} {xs : List Value} (h : w.ownsRow B e 108 v n xs) (hb : w.heap.size ≤ b) : v.ownBlock ≠ some b := fun hk => by
  rcases h.2 with ⟨rfl, _⟩ | ⟨g, c, cur, rfl, hB, hg, _⟩
  · cases hk
  · injection hk with hk
    have e : g = b := hk
    have := (Array.getElem?_eq_some_iff.1 hg).1
    omega
theorem own_setrow {w : World} {B e n b : Nat} {v : Value} {xs : List Value} (h : w.ownsRow B e 108 v n xs) (hn : v.ownBlock ≠ some b) (cs : Array Value) : (w.setRow b cs).ownsRow B e 108 v n xs :=
  World.ownsRow.kept (row := some b) h ⟨rfl, rfl, rfl, by simp, fun k _ hk => setRow_other w b k _ (fun e => hk (by rw [e]))⟩ (Or.inr hn)
theorem step_store_rec {w : World} {ops : Array Oper} {o : Oper} {a : Act} {K : Act → World → Prop} {Q : Exit → Act → World → Prop} {E : Prop} (hgd : o.guard = none) (x y : Operand) (ho : o.op = .store 59 x y)
    (b : Nat) (hx : a.eval x = .pointer (some ⟨b, 0, none⟩)) (q t : Int) (v : Value) (hy : a.eval y = .agg (rcA q t v)) (hz : ZRec b w) (hv : ∃ g n c, v = .slice g n c)
    (h : K (a.put o.dst undef) (w.setRow b (rcA q t v))) : if Region.wanted o (yielded ops a.tmps) = true then Oper.wp Tryz.prog o a w K Q else E := by
  have hw : Region.wanted o (yielded ops a.tmps) = true := by simp [Region.wanted, hgd]
  rw [if_pos hw]
  obtain ⟨cs, h1, h2⟩ := hz
  obtain ⟨g, n, cc, rfl⟩ := hv
  exact wp_store_row _ x y ho b _ hx hy _ cs h2 (by kernel_rfl) (by rw [h1]; rfl) (by simp [rcA, Value.oneCell']) h
theorem one_rec {B b1 : Nat} {x : Rc} {v1 : Value} {w : World} (hx : x.is) (z1 : ZRec b1 w) (l1 : B ≤ b1) (o1 : w.ownsRow B 134 108 v1 x.b.length (x.b.map bytesV).flatten) (s11 : v1.ownBlock ≠ some b1) :
    RcB B x v1 b1 (w.setRow b1 (rcA x.q x.t v1)) := by
  obtain ⟨c1, _, e1⟩ := z1
  exact ⟨hx, l1, setRow_heap w b1 _ _ _ _ e1, own_setrow o1 s11 _⟩
theorem step_mapUpdate_own {P : Program} (w : World) {ops : Array Oper} {o : Oper} {a : Act} {K : Act → World → Prop} {Q : Exit → Act → World → Prop} {Z : Prop}
    (hg : o.guard = none) (m x v : Operand) (t : TypeId) (hop : o.op = Op.mapUpdate t m x v)
    (k e : TypeId) (Ky : Keyed P k) (ht : P.underlying t = some (.map k e)) (R : Value → Option (DataW Unit × List MemPlace)) (b n : Nat) (D : DataW Unit)
    (hm : a.eval m = .map (some b)) (hown : w.ownsMap P k R b n D) (hn : n < maxLen) (key val : Value) (kl : Lit) (hx : a.eval x = key) (hv : a.eval v = val) (hkey : keyOf P k key = some kl)
    (d : DataW Unit) (ps : List MemPlace) (hval : R val = some (d, ps))
    (h : ∀ w', w'.ownsMap P k R b (n + 1) (D.put kl d) → w.grownBy w' (some b) → K (a.put o.dst undef) w') : if Region.wanted o (yielded ops a.tmps) = true then Oper.wp P o a w K Q else Z := by
  rw [if_pos (by simp [Region.wanted, hg])]
  obtain ⟨w', hrun, r1, r2⟩ := hown.update Ky ht hn hkey hval
  unfold Oper.wp
  simp [execOp, hop, hm, hx, hv, hrun, Result.andThen]
  exact h w' r1 r2
theorem grown_below {w w' : World} {M B : Nat} (hg : w.grownBy w' (some M)) (hB : B ≤ M) (hw : B ≤ w.heap.size) : Below B w w' :=
  ⟨hg.os, hg.tape, hg.output, hg.size, fun k hk => hg.block k (by omega) (by intro e; injection e with e; omega)⟩
theorem JW.grown {w1 : World} {c : Lc} {cf : Cf} {b B n M : Nat} {q : Rk} {w w' : World} {es : Array MapEntry} {ck : Nat} (h : JW w1 c cf b B n q w) (hm : w.heap[M]? = some (.map es ck)) (hg : w.grownBy w' (some M)) (hM : B ≤ M) : JW w1 c cf b B n q w' := by
  have hb := grown_below hg hM h.bB
  have hl : w1.heap.size ≤ B := by have := h.qs.rack.lr; have := h.far.1; omega
  obtain ⟨cs, hr, _⟩ := h.qs.rack.row
  refine ⟨⟨h.qs.rack.keep (hb.block _ (by have := h.far.1; omega)) (hg.block _ h.qs.rack.lt.2.1 (by intro e; injection e with e; rw [e, hm] at hr; cases hr)) fun i hi => ?_, h.qs.base.trans (hb.mono hl)⟩, h.nn, h.cfg.below (B := B) (by have := h.bl; omega) hb, h.bl, h.far, Nat.le_trans h.bB hg.size⟩
  have := h.far.2 i (by rw [← h.nn]; exact hi)
  exact ⟨hb.block _ (by omega), hb.block _ (by omega), hb.block _ (by omega)⟩
theorem RcB.grown {B b M : Nat} {x : Rc} {v : Value} {w w' : World} {es : Array MapEntry} {ck : Nat} (h : RcB B x v b w) (hm : w.heap[M]? = some (.map es ck)) (hg : w.grownBy w' (some M)) (hx : 0 < x.b.length) : RcB B x v b w' := by
  have hbl := h.lt
  refine ⟨h.is, h.le, (hg.block b hbl (by intro e; injection e with e; subst e; rw [h.top] at hm; cases hm)).trans h.top, World.ownsRow.kept h.row hg (Or.inr fun e => ?_)⟩
  obtain ⟨g', c', e1, cs, t, fr, e2⟩ := ring_own h.row hx
  subst e1
  have e : g' = M := by injection e
  subst e
  rw [e2] at hm
  cases hm
set_option maxHeartbeats 32000000 in
set_option maxRecDepth 100000 in
theorem ring_any (w : World) (k_ n_ z_ : Int) (vh : Value) (lh : List Int) (hvh : SlI w.heap.size w vh lh) (hT : Typ w) : Calls Tryz.prog 8 #[.int .i64 k_, .int .i64 n_, .int .i64 z_, vh] w (Bit true w) := by
  have HT := Lib.hid hT
  have HVH := Lib.hid hvh
  obtain ⟨ah, ch, rfl⟩ := hvh.len
  clear hT hvh
  have hmm := @run_makeMap Tryz.prog
  have HZR := Lib.hid (show ∀ w : World, (zeroValue 59).run Tryz.prog w = .ok (recV 0 0 none 0 0) w from fun w => Tryz.zeroValue59 w)
  go_enter Tryz.func8, Tryz.ntmps8
  go_wp2_with (go_at_call 32; refine (within_int _ _ _ _ (by omega) (by omega) (by omega)).mono ?_; rintro e w0 ⟨zz, hzz, rfl, hw0⟩; subst hw0)
  obtain ⟨Z, rfl⟩ := Int.eq_ofNat_of_zero_le (show 0 ≤ zz by omega)
  have HZ := Lib.hid (show 1 ≤ Z ∧ Z ≤ 4 by omega)
  refine (fixed_any k_ n_ 3 (Z : Int) _ ⟨by decide, by decide⟩ ⟨by have := HZ.out.1; omega, by have := HZ.out.2; omega⟩).mono ?_
  rintro e w1 ⟨cf, hcf, rfl, hb1⟩
  obtain ⟨N, K, SC, hL⟩ := cfL_of hcf
  have HL := Lib.hid hL
  have CS := Lib.hid (fun w => ksectors_any cf w hL.ok.right)
  have CN := Lib.hid (fun w => hL.new w)
  have H2 := Lib.hid (show JfS cf w1.heap.size w (w1.alloc (.cells (cfA cf) 24)) from ⟨cfB_new w1 cf, by simp, balloc hb1 _⟩)
  have HNR := Lib.hid hL.r
  clear hb1 hcf hL
  go_wp2_with fail
  have h2 := H2.out
  generalize w1.alloc (.cells (cfA cf) 24) = w2 at *
  generalize w1.heap.size = b at *
  have d0 : ∀ w', JfS cf b w w' → w'.cell? ⟨b, 0, none⟩ = some (.int .i64 cf.id) := fun w' h => h.1.cell 0
  have d1 : ∀ w', JfS cf b w w' → w'.cell? ⟨b, 1, none⟩ = some (.int .i64 cf.k) := fun w' h => h.1.cell 1
  have d2 : ∀ w', JfS cf b w w' → w'.cell? ⟨b, 2, none⟩ = some (.int .i64 cf.n) := fun w' h => h.1.cell 2
  have d3 : ∀ w', JfS cf b w w' → w'.cell? ⟨b, 3, none⟩ = some (.int .i64 cf.t) := fun w' h => h.1.cell 3
  have d4 : ∀ w', JfS cf b w w' → w'.cell? ⟨b, 4, none⟩ = some (.int .i64 cf.s) := fun w' h => h.1.cell 4
  refine wp_region_noPanic ?_
  refine wp_region_held_drew (S := (fun w' => JfS cf b w w')) (by kernel_rfl) h2.drew (fun hHeld => ?_)
  refine wpAnyH_take (i := 0) (oi := ⟨some 29, _, _, _, _, _⟩) (v := ?_) rfl (by kernel_rfl) (by kernel_rfl) (by kernel_rfl) (fun _ _ _ h => h) (Or.inl ⟨by rfl, ?_⟩) hHeld ?_
  rotate_left
  · intro w hSw; (go_simp; try with_reducible rfl)
  simp only [Act.put, List.setIfInBounds_toArray, List.set_cons_zero, List.set_cons_succ]
  refine wpAnyH_take (i := 1) (oi := ⟨some 30, _, _, _, _, _⟩) (v := ?_) rfl (by kernel_rfl) (by kernel_rfl) (by kernel_rfl) (fun _ _ _ h => h) (Or.inl ⟨by rfl, ?_⟩) hHeld ?_
  rotate_left
  · intro w hSw; (go_simp; try with_reducible rfl)
  simp only [Act.put, List.setIfInBounds_toArray, List.set_cons_zero, List.set_cons_succ]
  refine wpAnyH_take (i := 2) (oi := ⟨some 31, _, _, _, _, _⟩) (v := ?_) rfl (by kernel_rfl) (by kernel_rfl) (by kernel_rfl) (fun _ _ _ h => h) (Or.inl ⟨by rfl, ?_⟩) hHeld ?_
  rotate_left
  · intro w hSw; (go_simp; try with_reducible rfl)
  simp only [Act.put, List.setIfInBounds_toArray, List.set_cons_zero, List.set_cons_succ]
  refine wpAnyH_ready (rs := [3]) (by kernel_rfl) (by simp) (AllReadyH.cons rfl (fun K hK => ?_) AllReadyH.nil)
  go_simp
  refine (CS.out _).mono ?_
  rintro e w3 ⟨rfl, hb3⟩
  have h3 := JfS.then hHeld hb3
  clear hb3
  refine hK.out _ _ h3 (fun _ => ?_)
  clear hK K
  refine wpAnyH_ready (rs := [4]) (by kernel_rfl) (by simp) (AllReadyH.cons rfl (fun K hK => ?_) AllReadyH.nil)
  go_simp
  refine (CN.out _).mono ?_
  rintro e w4 ⟨c, rfl, h4⟩
  have H4 := Lib.hid h4
  have h5 := JfS.made h3 h4
  clear h4
  refine hK.out _ _ h5 (fun _ => ?_)
  clear hK K
  refine wpAnyH_take (i := 5) (oi := ⟨some 28, _, _, _, _, _⟩) (v := ?_) rfl (by kernel_rfl) (by kernel_rfl) (by kernel_rfl) (fun _ _ _ h => h) (Or.inl ⟨by rfl, ?_⟩) h5 ?_
  rotate_left
  · intro w hSw; (go_simp; try with_reducible rfl)
  simp only [Act.put, List.setIfInBounds_toArray, List.set_cons_zero, List.set_cons_succ]
  refine wpAnyH_take (i := 6) (oi := ⟨some 34, _, _, _, _, _⟩) (v := ?_) rfl (by kernel_rfl) (by kernel_rfl) (by kernel_rfl) (fun _ _ _ h => h) (Or.inl ⟨by rfl, ?_⟩) h5 ?_
  rotate_left
  · intro w hSw; (go_simp; try with_reducible rfl)
  simp only [Act.put, List.setIfInBounds_toArray, List.set_cons_zero, List.set_cons_succ]
  refine wpAnyH_take (i := 7) (oi := ⟨some 35, _, _, _, _, _⟩) (v := ?_) rfl (by kernel_rfl) (by kernel_rfl) (by kernel_rfl) (fun _ _ _ h => h) (Or.inl ⟨by rfl, ?_⟩) h5 ?_
  rotate_left
  · intro w hSw; (go_simp; try with_reducible rfl)
  simp only [Act.put, List.setIfInBounds_toArray, List.set_cons_zero, List.set_cons_succ]
  refine wpAnyH_take (i := 8) (oi := ⟨some 10, _, _, _, _, _⟩) (v := ?_) rfl (by kernel_rfl) (by kernel_rfl) (by kernel_rfl) (fun _ _ _ h => h) (Or.inl ⟨by rfl, ?_⟩) h5 ?_
  rotate_left
  · intro w hSw; (go_simp; try with_reducible rfl)
  simp only [Act.put, List.setIfInBounds_toArray, List.set_cons_zero, List.set_cons_succ]
  refine wpAnyH_take (i := 9) (oi := ⟨some 11, _, _, _, _, _⟩) (v := ?_) rfl (by kernel_rfl) (by kernel_rfl) (by kernel_rfl) (fun _ _ _ h => h) (Or.inl ⟨by rfl, ?_⟩) h5 ?_
  rotate_left
  · intro w hSw; (go_simp; try with_reducible rfl)
  simp only [Act.put, List.setIfInBounds_toArray, List.set_cons_zero, List.set_cons_succ]
  refine wpAnyH_done (by kernel_rfl) ?_ _
  refine NoPanic.normal ?_
  have HB3 := Lib.hid (show JfS cf b w w3 from h3)
  have HJ4 := Lib.hid (show JW w3 c cf b w4.heap.size N (newRk N SC) w4 from JW.made H4.out HB3.out.1 HB3.out.2.1 (Below.refl _ _))
  have HBW := Lib.hid (fun (q : Rk) (w' : World) (h : JW w3 c cf b w4.heap.size N q w') => show Below w.heap.size w w' from bthen HB3.out.2.2 h.qs.base)
  have HTY := Lib.hid (fun (q : Rk) (w' : World) (h : JW w3 c cf b w4.heap.size N q w') => show Typ w' from HT.out.below (HBW.out q w' h))
  clear d0 d1 d2 d3 d4 h2 hHeld h3 h5
  have HBK := Lib.hid (fun a w => HL.out.blocks a w)
  obtain ⟨r1, r2, r3, r4, r5, r6, r7⟩ := HNR.out
  clear hzz
  have hz1 := HZ.out.1
  have hz4 := HZ.out.2
  have HDC : Hid (∀ q w', JW w3 c cf b w4.heap.size N q w' → w'.cell? ⟨b, 0, none⟩ = some (.int .i64 cf.id) ∧ w'.cell? ⟨b, 1, none⟩ = some (.int .i64 cf.k) ∧ w'.cell? ⟨b, 2, none⟩ = some (.int .i64 cf.n) ∧ w'.cell? ⟨b, 3, none⟩ = some (.int .i64 cf.t) ∧ w'.cell? ⟨b, 4, none⟩ = some (.int .i64 (Z : Int))) := Lib.hid fun q w' h => by
    rw [← HL.out.s]; exact CfB.cells h.cfg
  have HCFA := Lib.hid (show (#[.int .i64 cf.id, .int .i64 cf.k, .int .i64 cf.n, .int .i64 cf.t, .int .i64 (Z : Int)] : Array Value) = cfA cf by rw [← HL.out.s])
  go_wp2_with fail
  go_loopw [12] (fun i wr => ∃ (m : Nat) (q : Rk), m ≤ Z ∧ i = .int .i64 m ∧ RingB cf N m q ∧ JW w3 c cf b w4.heap.size N q wr) (fun i _ => Z - (intOf i).toNat)
  case atStart => exact ⟨0, newRk N SC, Nat.zero_le _, rfl, ⟨HL.out.wl, rfl, fun s hs => absurd hs (by omega)⟩, HJ4.out⟩
  case round =>
    obtain ⟨m, q, hm, rfl, hI, hJ⟩ := hrel
    have HI := Lib.hid hI
    have HJ := Lib.hid hJ
    clear hI hJ
    obtain ⟨d0, d1, d2, d3, d4⟩ := HDC.out _ _ HJ.out
    by_cases hlt : m < Z
    · obtain ⟨n1, n2⟩ := HI.out.next (by rw [HL.out.s]; omega)
      have HN := Lib.hid n2
      have CBL := Lib.hid (show Calls Tryz.prog 25 #[.pointer (some ⟨c.r, 0, none⟩), .agg #[.int .i64 cf.id, .int .i64 cf.k, .int .i64 cf.n, .int .i64 cf.t, .int .i64 (Z : Int)], .int .i64 (m : Int)] wr (JN w3 c cf b w4.heap.size N (Rk.jblank q cf m) .nilIface wr) from by
        rw [HCFA.out]
        have := HJ.out.blank (m : Int)
        rwa [jblank_nil n1] at this)
      generalize Rk.jblank q cf m = q2 at *
      clear n1 n2
      go_wp2_with fail
      refine CBL.out.mono ?_
      rintro e w7 ⟨rfl, hj7, hc7⟩
      have HJ7 := Lib.hid hj7
      clear hj7 hc7
      go_wp2_with fail
      go_roundw
      case rel => exact ⟨m + 1, q2, hlt, by go_num, HN.out, HJ7.out⟩
      case measure => simp [intOf]; omega
    · obtain rfl : m = Z := by omega
      have HQ0 := Lib.hid HI.out.ring
      have HJM := Lib.hid (HJ.out.below (one_below wr (.map #[] 0)))
      have HM0 := Lib.hid (RMap.made wr m w4.heap.size K HJ.out.bB)
      go_wp2_with fail
      clear d0 d1 d2 d3 d4
      generalize wr.alloc (.map #[] 0) = wm at *
      generalize wr.heap.size = M at *
      go_loopw [14] (fun i wr => ∃ (j : Nat) (q : Rk) (f : Nat → Option Rc), j ≤ 12 ∧ j ≤ lh.length ∧ i = .int .i64 j ∧ RingQ cf N m f q ∧ JW w3 c cf b w4.heap.size N q wr ∧ RMap wr M m w4.heap.size K f j) (fun i _ => 12 - (intOf i).toNat)
      case atStart => exact ⟨0, q, fun _ => none, by omega, Nat.zero_le _, rfl, HQ0.out, HJM.out, HM0.out⟩
      clear HJM HM0 HQ0 HI HJ
      case round =>
        obtain ⟨j, q, f, hj12, hjl, rfl, hI, hJ, hM⟩ := hrel
        have HI := Lib.hid hI
        have HJ := Lib.hid hJ
        have HM := Lib.hid hM
        clear hI hJ hM
        obtain ⟨d0, d1, d2, d3, d4⟩ := HDC.out _ _ HJ.out
        by_cases hle : j < lh.length
        · have hle' : (j : Int) < lh.length := by omega
          by_cases hl12 : j < 12
          · have hl12' : (j : Int) < 12 := by omega
            obtain ⟨sl, hsl0⟩ : ∃ sl, sl = (2 + j) % m := ⟨_, rfl⟩
            have hml : sl < m := by rw [hsl0]; exact Nat.mod_lt _ (by omega)
            have hmod : (2 + (j : Int)) % (m : Int) = (sl : Int) := by rw [hsl0, show (2 : Int) + (j : Int) = ((2 + j : Nat) : Int) by omega]; rfl
            have hm0 : ¬ m = 0 := by omega
            clear hsl0
            have hw2 : IntKind.i64.wrap (2 + (j : Int)) = 2 + (j : Int) := IntWalk.i64_in _ (by omega)
            obtain ⟨bh, oh, ch', hsl, hch⟩ := HVH.out.num (Nat.le_refl _) (HBW.out q wr HJ.out) hle
            injection hsl with q1' q2' q3'
            subst q1' q3'
            clear q2'
            generalize lh.getD j 0 = vv at *
            have hbl : bh < wr.heap.size := World.block_lt_of_cell? wr _ hch
            go_wp2_with fail
            have d1' : ∀ w', Below wr.heap.size wr w' → w'.cell? ⟨b, 1, none⟩ = some (.int .i64 cf.k) := fun w' h => (HJ.out.below h).cfg.cell 1
            have dh : ∀ w', Below wr.heap.size wr w' → w'.cell? ⟨bh, oh + j, none⟩ = some (.int .i64 vv) := fun w' h => by rw [h.cell (p := ⟨bh, oh + j, none⟩) hbl]; exact hch
            clear d0 d1 d2 d3 d4 hch
            go_cut [15] from 64 to 83 (fun p wx => ∃ b1 v1 tt, p = .pointer (some ⟨b1, 0, none⟩) ∧ (0 ≤ tt ∧ tt ≤ 2) ∧ Below wr.heap.size wr wx ∧ RcB wr.heap.size (lawR (2 + (j : Int)) tt vv K) v1 b1 wx)
            case first =>
              refine wp_region_noPanic ?_
              refine wp_region_held_drew (S := (fun w' => Below wr.heap.size wr w')) (by kernel_rfl) (show Below wr.heap.size wr wr.drew from (Below.refl _ _).drew) (fun hHeld => ?_)
              generalize wr.drew = w5 at *
              refine wpAnyH_take (i := 0) (oi := ⟨some 64, _, _, _, _, _⟩) (v := ?_) rfl (by kernel_rfl) (by kernel_rfl) (by kernel_rfl) (fun _ _ _ h => h) (Or.inl ⟨by rfl, ?_⟩) hHeld ?_
              rotate_left
              · intro w hSw; (go_simp; try with_reducible rfl)
              simp only [Act.put, List.setIfInBounds_toArray, List.set_cons_zero, List.set_cons_succ]
              refine wpAnyH_take (i := 1) (oi := ⟨some 65, _, _, _, _, _⟩) (v := ?_) rfl (by kernel_rfl) (by kernel_rfl) (by kernel_rfl) (fun _ _ _ h => h) (Or.inl ⟨by rfl, ?_⟩) hHeld ?_
              rotate_left
              · intro w hSw; (go_simp; try with_reducible rfl)
              simp only [Act.put, List.setIfInBounds_toArray, List.set_cons_zero, List.set_cons_succ]
              refine wpAnyH_take (i := 2) (oi := ⟨some 66, _, _, _, _, _⟩) (v := ?_) rfl (by kernel_rfl) (by kernel_rfl) (by kernel_rfl) (fun _ _ _ h => h) (Or.inl ⟨by rfl, ?_⟩) hHeld ?_
              rotate_left
              · intro w hSw; (go_simp; try with_reducible rfl)
              simp only [Act.put, List.setIfInBounds_toArray, List.set_cons_zero, List.set_cons_succ]
              refine wpAnyH_take (i := 3) (oi := ⟨some 67, _, _, _, _, _⟩) (v := ?_) rfl (by kernel_rfl) (by kernel_rfl) (by kernel_rfl) (fun _ _ _ h => h) (Or.inl ⟨by rfl, ?_⟩) hHeld ?_
              rotate_left
              · intro w hSw; (go_simp; try with_reducible rfl)
              simp only [Act.put, List.setIfInBounds_toArray, List.set_cons_zero, List.set_cons_succ]
              refine wpAnyH_take (i := 4) (oi := ⟨some 68, _, _, _, _, _⟩) (v := ?_) rfl (by kernel_rfl) (by kernel_rfl) (by kernel_rfl) (fun _ _ _ h => h) (Or.inl ⟨by rfl, ?_⟩) hHeld ?_
              rotate_left
              · intro w hSw; (go_simp; try with_reducible rfl)
              simp only [Act.put, List.setIfInBounds_toArray, List.set_cons_zero, List.set_cons_succ]
              refine wpAnyH_take (i := 5) (oi := ⟨some 69, _, _, _, _, _⟩) (v := ?_) rfl (by kernel_rfl) (by kernel_rfl) (by kernel_rfl) (fun _ _ _ h => h) (Or.inl ⟨by rfl, ?_⟩) hHeld ?_
              rotate_left
              · intro w hSw; (go_simp; try with_reducible rfl)
              simp only [Act.put, List.setIfInBounds_toArray, List.set_cons_zero, List.set_cons_succ]
              refine wpAnyH_take (i := 7) (oi := ⟨some 71, _, _, _, _, _⟩) (v := ?_) rfl (by kernel_rfl) (by kernel_rfl) (by kernel_rfl) (fun _ _ _ h => h) (Or.inl ⟨by rfl, ?_⟩) hHeld ?_
              rotate_left
              · intro w hSw; (go_simp; try with_reducible rfl)
              simp only [Act.put, List.setIfInBounds_toArray, List.set_cons_zero, List.set_cons_succ]
              refine wpAnyH_take (i := 8) (oi := ⟨some 72, _, _, _, _, _⟩) (v := ?_) rfl (by kernel_rfl) (by kernel_rfl) (by kernel_rfl) (fun _ _ _ h => h) (Or.inl ⟨by rfl, ?_⟩) hHeld ?_
              rotate_left
              · intro w hSw; (go_simp; try with_reducible rfl)
              simp only [Act.put, List.setIfInBounds_toArray, List.set_cons_zero, List.set_cons_succ]
              refine wpAnyH_take (i := 9) (oi := ⟨some 73, _, _, _, _, _⟩) (v := ?_) rfl (by kernel_rfl) (by kernel_rfl) (by kernel_rfl) (fun _ _ _ h => h) (Or.inl ⟨by rfl, ?_⟩) hHeld ?_
              rotate_left
              · intro w hSw; (go_simp; try with_reducible rfl)
              simp only [Act.put, List.setIfInBounds_toArray, List.set_cons_zero, List.set_cons_succ]
              refine wpAnyH_take (i := 10) (oi := ⟨some 74, _, _, _, _, _⟩) (v := ?_) rfl (by kernel_rfl) (by kernel_rfl) (by kernel_rfl) (fun _ _ _ h => h) (Or.inl ⟨by rfl, ?_⟩) hHeld ?_
              rotate_left
              · intro w hSw; (go_simp; try with_reducible rfl)
              simp only [Act.put, List.setIfInBounds_toArray, List.set_cons_zero, List.set_cons_succ]
              refine wpAnyH_take (i := 11) (oi := ⟨some 75, _, _, _, _, _⟩) (v := ?_) rfl (by kernel_rfl) (by kernel_rfl) (by kernel_rfl) (fun _ _ _ h => h) (Or.inl ⟨by rfl, ?_⟩) hHeld ?_
              rotate_left
              · intro w hSw; (go_simp; try with_reducible rfl)
              simp only [Act.put, List.setIfInBounds_toArray, List.set_cons_zero, List.set_cons_succ]
              refine wpAnyH_take (i := 12) (oi := ⟨some 76, _, _, _, _, _⟩) (v := ?_) rfl (by kernel_rfl) (by kernel_rfl) (by kernel_rfl) (fun _ _ _ h => h) (Or.inl ⟨by rfl, ?_⟩) hHeld ?_
              rotate_left
              · intro w hSw; (go_simp; try with_reducible rfl)
              simp only [Act.put, List.setIfInBounds_toArray, List.set_cons_zero, List.set_cons_succ]
              refine wpAnyH_ready (rs := [6, 15]) (by kernel_rfl) (by simp) ?_
              refine AllReadyH.cons (o := ⟨some 70, _, _, _, _, _⟩) rfl (fun K hK => ?_) ?_
              · go_simp
                refine (within_int _ _ _ _ (by omega) (by omega) (by omega)).mono ?_
                rintro e wn21 ⟨tt, htt, rfl, hwn21⟩
                subst hwn21
                refine hK.out _ _ hHeld (fun _ => ?_)
                clear hK K
                refine wpAnyH_ready (rs := [13, 15]) (by kernel_rfl) (by simp) ?_
                refine AllReadyH.cons (o := ⟨some 77, _, _, _, _, _⟩) rfl (fun K hK => ?_) ?_
                · go_simp
                  refine (HBK.out vv _).mono ?_
                  rintro e wn22 ⟨vv13, rfl, hv22, hbn22⟩
                  have hb22 : Below wr.heap.size wr wn22 := hHeld.trans (hbn22.mono hHeld.size)
                  have o13_22 := own_base hv22 hHeld.size
                  clear hv22 hbn22
                  obtain ⟨gg13, cc13, rfl, -⟩ := own_slice' o13_22
                  refine hK.out _ _ hb22 (fun _ => ?_)
                  clear hK K
                  refine wpAnyH_take (i := 14) (oi := ⟨some 78, _, _, _, _, _⟩) (v := ?_) rfl (by kernel_rfl) (by kernel_rfl) (by kernel_rfl) (fun _ _ _ h => h) (Or.inl ⟨by rfl, ?_⟩) hb22 ?_
                  rotate_left
                  · intro w hSw; (go_simp; try with_reducible rfl)
                  simp only [Act.put, List.setIfInBounds_toArray, List.set_cons_zero, List.set_cons_succ]
                  refine wpAnyH_ready (rs := [15]) (by kernel_rfl) (by simp) ?_
                  refine AllReadyH.cons (o := ⟨some 15, _, _, _, _, _⟩) rfl (fun K hK => ?_) ?_
                  · go_simp
                    have hst23 := one_below wn22 (.cells #[.int .i64 0, .int .i64 0, .slice none 0 0] 59)
                    have zn23 := zrec_new wn22
                    have l15 : wr.heap.size ≤ wn22.heap.size := hb22.size
                    have s13_15 := cut_apart2 o13_22 (Nat.le_refl _)
                    have hb23 : Below wr.heap.size wr (wn22.alloc (.cells #[.int .i64 0, .int .i64 0, .slice none 0 0] 59)) := hb22.trans (hst23.mono hb22.size)
                    have o13_23 := own_below o13_22 hst23
                    clear o13_22 hst23 hb22
                    generalize wn22.alloc (.cells #[.int .i64 0, .int .i64 0, .slice none 0 0] 59) = wa23 at *
                    generalize wn22.heap.size = bz15 at *
                    refine hK.out _ _ hb23 (fun _ => ?_)
                    clear hK K
                    refine wpAnyH_ready (rs := [16]) (by kernel_rfl) (by simp) ?_
                    refine AllReadyH.cons (o := ⟨none, _, _, _, _, _⟩) rfl (fun K hK => ?_) ?_
                    · refine step_store_rec (o := ⟨none, _, _, _, _, _⟩) rfl (.tmp 15) (.tmp 78) rfl bz15 rfl _ _ _ rfl zn23 ⟨_, _, _, rfl⟩ ?_
                      refine hK.out _ _ (setRow_below hb23 l15 _) (fun _ => ?_)
                      clear hK K
                      refine wpAnyH_done (by kernel_rfl) ?_ _
                      refine NoPanic.normal ?_
                      go_wp2_with fail
                      go_meet
                      exact ⟨bz15, _, tt, rfl, htt, (setRow_below hb23 l15 _), one_rec (x := lawR (2 + (j : Int)) tt vv K) (lawR_is _ _ _ _) zn23 l15 o13_23 s13_15⟩
                    exact AllReadyH.nil
                  exact AllReadyH.nil
                refine AllReadyH.cons (o := ⟨some 15, _, _, _, _, _⟩) rfl (fun K hK => ?_) ?_
                · go_simp
                  have hst22 := one_below w5 (.cells #[.int .i64 0, .int .i64 0, .slice none 0 0] 59)
                  have zn22 := zrec_new w5
                  have l15 : wr.heap.size ≤ w5.heap.size := hHeld.size
                  have hb22 : Below wr.heap.size wr (w5.alloc (.cells #[.int .i64 0, .int .i64 0, .slice none 0 0] 59)) := hHeld.trans (hst22.mono hHeld.size)
                  clear hst22
                  generalize w5.alloc (.cells #[.int .i64 0, .int .i64 0, .slice none 0 0] 59) = wa22 at *
                  generalize w5.heap.size = bz15 at *
                  refine hK.out _ _ hb22 (fun _ => ?_)
                  clear hK K
                  refine wpAnyH_ready (rs := [13]) (by kernel_rfl) (by simp) ?_
                  refine AllReadyH.cons (o := ⟨some 77, _, _, _, _, _⟩) rfl (fun K hK => ?_) ?_
                  · go_simp
                    refine (HBK.out vv _).mono ?_
                    rintro e wn23 ⟨vv13, rfl, hv23, hbn23⟩
                    have s13_15 := cut_apart hv23 zn22.lt
                    have hb23 : Below wr.heap.size wr wn23 := hb22.trans (hbn23.mono hb22.size)
                    have z15_23 := zn22.below hbn23
                    have o13_23 := own_base hv23 hb22.size
                    clear zn22 hv23 hbn23
                    obtain ⟨gg13, cc13, rfl, -⟩ := own_slice' o13_23
                    refine hK.out _ _ hb23 (fun _ => ?_)
                    clear hK K
                    refine wpAnyH_take (i := 14) (oi := ⟨some 78, _, _, _, _, _⟩) (v := ?_) rfl (by kernel_rfl) (by kernel_rfl) (by kernel_rfl) (fun _ _ _ h => h) (Or.inl ⟨by rfl, ?_⟩) hb23 ?_
                    rotate_left
                    · intro w hSw; (go_simp; try with_reducible rfl)
                    simp only [Act.put, List.setIfInBounds_toArray, List.set_cons_zero, List.set_cons_succ]
                    refine wpAnyH_ready (rs := [16]) (by kernel_rfl) (by simp) ?_
                    refine AllReadyH.cons (o := ⟨none, _, _, _, _, _⟩) rfl (fun K hK => ?_) ?_
                    · refine step_store_rec (o := ⟨none, _, _, _, _, _⟩) rfl (.tmp 15) (.tmp 78) rfl bz15 rfl _ _ _ rfl z15_23 ⟨_, _, _, rfl⟩ ?_
                      refine hK.out _ _ (setRow_below hb23 l15 _) (fun _ => ?_)
                      clear hK K
                      refine wpAnyH_done (by kernel_rfl) ?_ _
                      refine NoPanic.normal ?_
                      go_wp2_with fail
                      go_meet
                      exact ⟨bz15, _, tt, rfl, htt, (setRow_below hb23 l15 _), one_rec (x := lawR (2 + (j : Int)) tt vv K) (lawR_is _ _ _ _) z15_23 l15 o13_23 s13_15⟩
                    exact AllReadyH.nil
                  exact AllReadyH.nil
                exact AllReadyH.nil
              refine AllReadyH.cons (o := ⟨some 15, _, _, _, _, _⟩) rfl (fun K hK => ?_) ?_
              · go_simp
                have hst21 := one_below w5 (.cells #[.int .i64 0, .int .i64 0, .slice none 0 0] 59)
                have zn21 := zrec_new w5
                have l15 : wr.heap.size ≤ w5.heap.size := hHeld.size
                have hb21 : Below wr.heap.size wr (w5.alloc (.cells #[.int .i64 0, .int .i64 0, .slice none 0 0] 59)) := hHeld.trans (hst21.mono hHeld.size)
                clear hst21
                generalize w5.alloc (.cells #[.int .i64 0, .int .i64 0, .slice none 0 0] 59) = wa21 at *
                generalize w5.heap.size = bz15 at *
                refine hK.out _ _ hb21 (fun _ => ?_)
                clear hK K
                refine wpAnyH_ready (rs := [6]) (by kernel_rfl) (by simp) ?_
                refine AllReadyH.cons (o := ⟨some 70, _, _, _, _, _⟩) rfl (fun K hK => ?_) ?_
                · go_simp
                  refine (within_int _ _ _ _ (by omega) (by omega) (by omega)).mono ?_
                  rintro e wn22 ⟨tt, htt, rfl, hwn22⟩
                  subst hwn22
                  refine hK.out _ _ hb21 (fun _ => ?_)
                  clear hK K
                  refine wpAnyH_ready (rs := [13]) (by kernel_rfl) (by simp) ?_
                  refine AllReadyH.cons (o := ⟨some 77, _, _, _, _, _⟩) rfl (fun K hK => ?_) ?_
                  · go_simp
                    refine (HBK.out vv _).mono ?_
                    rintro e wn23 ⟨vv13, rfl, hv23, hbn23⟩
                    have s13_15 := cut_apart hv23 zn21.lt
                    have hb23 : Below wr.heap.size wr wn23 := hb21.trans (hbn23.mono hb21.size)
                    have z15_23 := zn21.below hbn23
                    have o13_23 := own_base hv23 hb21.size
                    clear zn21 hv23 hbn23
                    obtain ⟨gg13, cc13, rfl, -⟩ := own_slice' o13_23
                    refine hK.out _ _ hb23 (fun _ => ?_)
                    clear hK K
                    refine wpAnyH_take (i := 14) (oi := ⟨some 78, _, _, _, _, _⟩) (v := ?_) rfl (by kernel_rfl) (by kernel_rfl) (by kernel_rfl) (fun _ _ _ h => h) (Or.inl ⟨by rfl, ?_⟩) hb23 ?_
                    rotate_left
                    · intro w hSw; (go_simp; try with_reducible rfl)
                    simp only [Act.put, List.setIfInBounds_toArray, List.set_cons_zero, List.set_cons_succ]
                    refine wpAnyH_ready (rs := [16]) (by kernel_rfl) (by simp) ?_
                    refine AllReadyH.cons (o := ⟨none, _, _, _, _, _⟩) rfl (fun K hK => ?_) ?_
                    · refine step_store_rec (o := ⟨none, _, _, _, _, _⟩) rfl (.tmp 15) (.tmp 78) rfl bz15 rfl _ _ _ rfl z15_23 ⟨_, _, _, rfl⟩ ?_
                      refine hK.out _ _ (setRow_below hb23 l15 _) (fun _ => ?_)
                      clear hK K
                      refine wpAnyH_done (by kernel_rfl) ?_ _
                      refine NoPanic.normal ?_
                      go_wp2_with fail
                      go_meet
                      exact ⟨bz15, _, tt, rfl, htt, (setRow_below hb23 l15 _), one_rec (x := lawR (2 + (j : Int)) tt vv K) (lawR_is _ _ _ _) z15_23 l15 o13_23 s13_15⟩
                    exact AllReadyH.nil
                  exact AllReadyH.nil
                exact AllReadyH.nil
              exact AllReadyH.nil
            clear d1' dh
            obtain ⟨b1, v1, tt, rfl, htt, hb6, hx6⟩ := hcut
            have HJ6 := Lib.hid (HJ.out.below hb6)
            have HM6 := Lib.hid (HM.out.below hb6)
            have hlen : (lawR (2 + (j : Int)) tt vv K).b.length = K := by show (blks vv K).length = K; rw [blks_length]
            obtain ⟨gv, cv, rfl, _⟩ := ring_own hx6.row (by rw [hlen]; omega)
            have hx7 : RcB w4.heap.size (lawR (2 + (j : Int)) tt vv K) (.slice (some ⟨gv, 0, none⟩) (lawR (2 + (j : Int)) tt vv K).b.length cv) b1 wc := ⟨hx6.is, Nat.le_trans HJ.out.bB hx6.le, hx6.top, own_base hx6.row HJ.out.bB⟩
            rw [hlen] at hx7
            have HX6 := Lib.hid hx7
            have hrc : RcIn cf sl (lawR (2 + (j : Int)) tt vv K) := HL.out.rc (by omega) (by omega) htt.1 (by omega) (Or.inr ⟨by omega, hmod⟩)
            obtain ⟨n1, n2⟩ := HI.out.next (by rw [HL.out.s]; omega) hrc (show (2 : Int) ≤ 2 + (j : Int) by omega)
            have HN := Lib.hid n2
            have HLX := Lib.hid hlen
            have CLG := Lib.hid (show Calls Tryz.prog 26 #[.pointer (some ⟨c.r, 0, none⟩), .agg #[.int .i64 cf.id, .int .i64 cf.k, .int .i64 cf.n, .int .i64 cf.t, .int .i64 (m : Int)], .agg #[.int .i64 (2 + (j : Int)), .int .i64 tt, .slice (some ⟨gv, 0, none⟩) K cv]] wc (JN w3 c cf b w4.heap.size N (Rk.jlog q cf (lawR (2 + (j : Int)) tt vv K)) .nilIface wc) from by
              rw [HCFA.out]
              have := HJ6.out.log HX6.out
              rwa [jlog_nil n1] at this)
            have HRX := Lib.hid (show ∀ w' : World, RcB w4.heap.size (lawR (2 + (j : Int)) tt vv K) (.slice (some ⟨gv, 0, none⟩) K cv) b1 w' → w'.cell? ⟨b1, 0, none⟩ = some (.int .i64 (2 + (j : Int))) ∧ w'.cell? ⟨b1, 1, none⟩ = some (.int .i64 tt) ∧ w'.cell? ⟨b1, 2, none⟩ = some (.slice (some ⟨gv, 0, none⟩) K cv) from fun w' h => h.cells)
            generalize Rk.jlog q cf (lawR (2 + (j : Int)) tt vv K) = q2 at *
            clear hx6 hx7 hb6 hlen hrc n1 n2
            obtain ⟨d0, d1, d2, d3, d4⟩ := HDC.out _ _ HJ6.out
            obtain ⟨x0, x1, x2⟩ := HRX.out _ HX6.out
            go_wp2_with fail
            refine CLG.out.mono ?_
            rintro e w7 ⟨rfl, hj7, hc7⟩
            have HJ7 := Lib.hid hj7
            have HX7 := Lib.hid (HX6.out.rc HJ7.out.far hc7)
            have HM7 := Lib.hid ((HM6.out.rc HJ7.out.far hc7).below (Below.refl _ _).drew)
            clear hj7 hc7 d0 d1 d2 d3 d4 x0 x1 x2
            go_wp2_with fail
            have e4 : ∀ w', JW w3 c cf b w4.heap.size N q2 w' ∧ RcB w4.heap.size (lawR (2 + (j : Int)) tt vv K) (.slice (some ⟨gv, 0, none⟩) K cv) b1 w' → w'.cell? ⟨b, 4, none⟩ = some (.int .i64 (m : Int)) := fun w' h => (HDC.out _ _ h.1).2.2.2.2
            have x0 : ∀ w', JW w3 c cf b w4.heap.size N q2 w' ∧ RcB w4.heap.size (lawR (2 + (j : Int)) tt vv K) (.slice (some ⟨gv, 0, none⟩) K cv) b1 w' → w'.cell? ⟨b1, 0, none⟩ = some (.int .i64 (2 + (j : Int))) := fun w' h => (HRX.out _ h.2).1
            have x1 : ∀ w', JW w3 c cf b w4.heap.size N q2 w' ∧ RcB w4.heap.size (lawR (2 + (j : Int)) tt vv K) (.slice (some ⟨gv, 0, none⟩) K cv) b1 w' → w'.cell? ⟨b1, 1, none⟩ = some (.int .i64 tt) := fun w' h => (HRX.out _ h.2).2.1
            have x2 : ∀ w', JW w3 c cf b w4.heap.size N q2 w' ∧ RcB w4.heap.size (lawR (2 + (j : Int)) tt vv K) (.slice (some ⟨gv, 0, none⟩) K cv) b1 w' → w'.cell? ⟨b1, 2, none⟩ = some (.slice (some ⟨gv, 0, none⟩) K cv) := fun w' h => (HRX.out _ h.2).2.2
            obtain ⟨h0, D, mo1, mo2, mo3⟩ := HM7.out
            have HX8 := Lib.hid (HX7.out.below (Below.refl _ _).drew)
            have HJ8 := Lib.hid HJ7.out.drew
            have HFIN := Lib.hid (fun (w8 : World) (hw : w8.ownsMap Tryz.prog 3 recR M (j + 1) (D.put (kI sl) (encR (2 + (j : Int)) tt (some gv) K cv))) (hg : w7.drew.grownBy w8 (some M)) => show RMap w8 M m w4.heap.size K (upd f sl (some (lawR (2 + (j : Int)) tt vv K))) (j + 1) ∧ JW w3 c cf b w4.heap.size N q2 w8 ∧ RcB w4.heap.size (lawR (2 + (j : Int)) tt vv K) (.slice (some ⟨gv, 0, none⟩) K cv) b1 w8 from by
              have mo1' := mo1
              obtain ⟨es, ck, g1, _⟩ := mo1'
              have hrow := HX8.out.row
              rw [HLX.out] at hrow
              exact ⟨RMap.put (x := lawR (2 + (j : Int)) tt vv K) h0 mo1 mo2 mo3 hrow (by omega) hw hg, HJ8.out.grown g1 hg h0, HX8.out.grown g1 hg (by rw [HLX.out]; omega)⟩)
            have hrec : recR (.agg #[.int .i64 (2 + (j : Int)), .int .i64 tt, .slice (some ⟨gv, 0, none⟩) K cv]) = some (encR (2 + (j : Int)) tt (some gv) K cv, []) := recR_mk (2 + (j : Int)) tt (some gv) K cv
            have HMX := Lib.hid mo1
            have HK1 := Lib.hid (key_kI (i := sl) (by omega))
            have HK2 := Lib.hid (show keyOf Tryz.prog 3 (.int .i64 ((2 + (j : Int)) % (m : Int))) = some (kI sl) from by rw [hmod]; exact HK1.out)
            have HK3 := Lib.hid (show keyOf Tryz.prog 3 (.int .i64 (Int.tmod (2 + (j : Int)) (m : Int))) = some (kI sl) from by rw [Int.tmod_eq_emod_of_nonneg (by omega)]; exact HK2.out)
            clear mo1 mo2 mo3 h0 HM7
            refine wp_region_noPanic ?_
            refine wp_region_held_drew (S := (fun w' => JW w3 c cf b w4.heap.size N q2 w' ∧ RcB w4.heap.size (lawR (2 + (j : Int)) tt vv K) (.slice (some ⟨gv, 0, none⟩) K cv) b1 w')) (by kernel_rfl) (show JW w3 c cf b w4.heap.size N q2 w7.drew ∧ _ from ⟨HJ8.out, HX8.out⟩) (fun hHeld => ?_)
            refine wpAnyH_take (i := 0) (oi := ⟨some 84, _, _, _, _, _⟩) (v := ?_) rfl (by kernel_rfl) (by kernel_rfl) (by kernel_rfl) (fun _ _ _ h => h) (Or.inl ⟨by rfl, ?_⟩) hHeld ?_
            rotate_left
            · intro w hSw; (go_simp; try with_reducible rfl)
            simp only [Act.put, List.setIfInBounds_toArray, List.set_cons_zero, List.set_cons_succ]
            refine wpAnyH_take (i := 1) (oi := ⟨some 85, _, _, _, _, _⟩) (v := ?_) rfl (by kernel_rfl) (by kernel_rfl) (by kernel_rfl) (fun _ _ _ h => h) (Or.inl ⟨by rfl, ?_⟩) hHeld ?_
            rotate_left
            · intro w hSw; (go_simp; try with_reducible rfl)
            simp only [Act.put, List.setIfInBounds_toArray, List.set_cons_zero, List.set_cons_succ]
            refine wpAnyH_take (i := 2) (oi := ⟨some 86, _, _, _, _, _⟩) (v := ?_) rfl (by kernel_rfl) (by kernel_rfl) (by kernel_rfl) (fun _ _ _ h => h) (Or.inl ⟨by rfl, ?_⟩) hHeld ?_
            rotate_left
            · intro w hSw; (go_simp; try with_reducible rfl)
            simp only [Act.put, List.setIfInBounds_toArray, List.set_cons_zero, List.set_cons_succ]
            refine wpAnyH_take (i := 3) (oi := ⟨some 87, _, _, _, _, _⟩) (v := ?_) rfl (by kernel_rfl) (by kernel_rfl) (by kernel_rfl) (fun _ _ _ h => h) (Or.inl ⟨by rfl, ?_⟩) hHeld ?_
            rotate_left
            · intro w hSw; (go_simp; try with_reducible rfl)
            simp only [Act.put, List.setIfInBounds_toArray, List.set_cons_zero, List.set_cons_succ]
            refine wpAnyH_take (i := 4) (oi := ⟨some 88, _, _, _, _, _⟩) (v := ?_) rfl (by kernel_rfl) (by kernel_rfl) (by kernel_rfl) (fun _ _ _ h => h) (Or.inl ⟨by rfl, ?_⟩) hHeld ?_
            rotate_left
            · intro w hSw; (go_simp; try with_reducible rfl)
            simp only [Act.put, List.setIfInBounds_toArray, List.set_cons_zero, List.set_cons_succ]
            refine wpAnyH_take (i := 5) (oi := ⟨some 89, _, _, _, _, _⟩) (v := ?_) rfl (by kernel_rfl) (by kernel_rfl) (by kernel_rfl) (fun _ _ _ h => h) (Or.inl ⟨by rfl, ?_⟩) hHeld ?_
            rotate_left
            · intro w hSw; (go_simp; try with_reducible rfl)
            simp only [Act.put, List.setIfInBounds_toArray, List.set_cons_zero, List.set_cons_succ]
            refine wpAnyH_take (i := 6) (oi := ⟨some 90, _, _, _, _, _⟩) (v := ?_) rfl (by kernel_rfl) (by kernel_rfl) (by kernel_rfl) (fun _ _ _ h => h) (Or.inl ⟨by rfl, ?_⟩) hHeld ?_
            rotate_left
            · intro w hSw; (go_simp; try with_reducible rfl)
            simp only [Act.put, List.setIfInBounds_toArray, List.set_cons_zero, List.set_cons_succ]
            refine wpAnyH_ready (rs := [7]) (by kernel_rfl) (by simp) ?_
            refine AllReadyH.cons (o := ⟨none, _, _, _, _, _⟩) rfl (fun K hK => ?_) ?_
            · refine step_mapUpdate_own (o := ⟨none, _, _, _, _, _⟩) w7.drew rfl _ _ _ 84 rfl 3 59 keyed Tryz.underlying84 recR M j D rfl HMX.out (by unfold maxLen; omega) _ (.agg #[.int .i64 (2 + (j : Int)), .int .i64 tt, .slice (some ⟨gv, 0, none⟩) _ cv]) (kI sl) rfl rfl (by first | exact HK1.out | exact HK2.out | exact HK3.out) _ [] hrec ?_
              intro w8 hown8 hg8
              have HF8 := Lib.hid (HFIN.out w8 hown8 hg8)
              have h8 := HF8.out.2
              clear hown8 hg8
              refine hK.out _ _ h8 (fun _ => ?_)
              clear hK K
              refine wpAnyH_done (by kernel_rfl) ?_ _
              refine NoPanic.normal ?_
              go_wp2_with fail
              go_roundw
              case rel => exact ⟨j + 1, q2, _, by omega, by omega, by go_num, HN.out, HF8.out.2.1, HF8.out.1⟩
              case measure => simp [intOf]; omega
            exact AllReadyH.nil
          · have hl12' : ¬ (j : Int) < 12 := by omega
            go_wp2_with fail
            clear d0 d1 d2 d3 d4
            go_loopw [16] (fun i wr => ∃ (s : Nat), s ≤ m ∧ i = .int .i64 s ∧ JW w3 c cf b w4.heap.size N q wr ∧ RMap wr M m w4.heap.size K f j) (fun i _ => m - (intOf i).toNat)
            case atStart => exact ⟨0, Nat.zero_le _, rfl, HJ.out, HM.out⟩
            clear HJ HM
            case round =>
              obtain ⟨s, hs, rfl, hJ, hM⟩ := hrel
              have HJ := Lib.hid hJ
              have HM := Lib.hid hM
              clear hJ hM
              obtain ⟨d0, d1, d2, d3, d4⟩ := HDC.out _ _ HJ.out
              by_cases hlt : s < m
              · have hlt' : (s : Int) < m := by omega
                cases hf : f s with
                | none =>
                  have HTD := Lib.hid (show jcode q cf s = 0 ∧ jnewest q cf s = 0 ∧ jwhole q cf s = true ∧ jrecR q cf s = (blankR cf) from by
                    have := HI.out.told (s := s) (by rw [HL.out.s]; omega) hlt
                    rw [hf] at this
                    exact this)
                  have CSL := Lib.hid (HJ.out.slot s)
                  unfold SlotOut at CSL
                  rw [HTD.out.2.2.2, HTD.out.2.2.1, HTD.out.2.1, jslot_nil HTD.out.1, ← HCFA.out] at CSL
                  go_wp2_with fail
                  refine CSL.out.mono ?_
                  rintro e w12 ⟨vz, rfl, hvz, hb12⟩
                  have HZ13 := Lib.hid (show RcB w4.heap.size (blankR cf) vz w12.heap.size (w12.alloc (.cells (rcA 0 0 vz) 59)) from rcB_new (x := (blankR cf)) (blankR_is cf) (Nat.le_trans HJ.out.bB hb12.size) (own_base hvz HJ.out.bB))
                  have HJ13 := Lib.hid (HJ.out.below (balloc hb12 (.cells (rcA 0 0 vz) 59)))
                  have HM13 := Lib.hid (HM.out.below (balloc hb12 (.cells (rcA 0 0 vz) 59)))
                  obtain ⟨gz, cz, rfl, -⟩ := own_slice' hvz
                  have hq3 : (Value.agg (rcA (blankR cf).q (blankR cf).t (.slice gz (blankR cf).b.length cz))) = .agg #[.int .i64 0, .int .i64 0, .slice gz (blankR cf).b.length cz] := rfl
                  rw [hq3]
                  clear hvz hb12 hq3 d0 d1 d2 d3 d4
                  have HZC := Lib.hid (show ∀ w' : World, RcB w4.heap.size (blankR cf) (.slice gz (blankR cf).b.length cz) w12.heap.size w' → w'.cell? ⟨w12.heap.size, 0, none⟩ = some (.int .i64 0) ∧ w'.cell? ⟨w12.heap.size, 1, none⟩ = some (.int .i64 0) ∧ w'.cell? ⟨w12.heap.size, 2, none⟩ = some (.slice gz (blankR cf).b.length cz) from fun w' h => h.cells)
                  generalize (blankR cf).b.length = lz at HZ13 HZC HJ13 HM13 ⊢
                  obtain ⟨w13, hw13⟩ : ∃ w13, w13 = (w12.alloc (.cells (rcA 0 0 (.slice gz lz cz)) 59)) := ⟨_, rfl⟩
                  rw [← hw13] at HZ13 HJ13 HM13
                  have hcR : (w12.alloc (.cells #[.int .i64 0, .int .i64 0, .slice gz lz cz] 59)) = w13 := hw13.symm
                  clear hw13
                  obtain ⟨h0, D, m1, m2, m3⟩ := HM13.out
                  have HMX := Lib.hid m1
                  have HHAS := Lib.hid (show Maps.has D (kI s) = false by rw [m2 s hlt, hf]; rfl)
                  have HLK := Lib.hid (fun (v : Value) (ps : List MemPlace) (h : recR v = some (D.atKey (kI s) (encR 0 0 none 0 0), ps)) => show v = .agg #[.int .i64 0, .int .i64 0, .slice none 0 0] from by
                    rw [Maps.atKey_of_not_has HHAS.out] at h
                    exact recR_inv h)
                  clear m1 m2 m3 h0
                  have HZ14 := Lib.hid (HZ13.out.below (one_below w13 (.cells #[.int .i64 0, .int .i64 0, .slice none 0 0] 59)))
                  have HJ14 := Lib.hid (HJ13.out.below (one_below w13 (.cells #[.int .i64 0, .int .i64 0, .slice none 0 0] 59)))
                  have HM14 := Lib.hid (HM13.out.below (one_below w13 (.cells #[.int .i64 0, .int .i64 0, .slice none 0 0] 59)))
                  obtain ⟨yy0, yy1, yy2⟩ := HZC.out _ HZ13.out
                  have hne : ¬ w12.heap.size = w13.heap.size := by have := HZ13.out.lt; omega
                  obtain ⟨y0, y1, y2⟩ := HZC.out _ HZ14.out
                  go_wp2_with (at_lookup; refine wpList_lookup_own_ok _ rfl _ _ 84 rfl 3 59 keyed Tryz.underlying84 recR (HZR.out _) (encR 0 0 none 0 0) [] (recR_mk 0 0 none 0 0) M j D rfl HMX.out _ (kI s) rfl (key_kI (by omega)) ?_; rw [HHAS.out]; intro v ps hv; obtain rfl := HLK.out v ps hv; clear hv)
                  go_roundw
                  case rel => exact ⟨s + 1, hlt, by go_num, HJ14.out, HM14.out⟩
                  case measure => simp [intOf]; omega
                | some x =>
                  have HTD := Lib.hid (show jcode q cf s = 0 ∧ jnewest q cf s = x.q ∧ jwhole q cf s = true ∧ jrecR q cf s = x from by
                    have := HI.out.told (s := s) (by rw [HL.out.s]; omega) hlt
                    rw [hf] at this
                    exact this)
                  have HIX := Lib.hid (HI.out.rc s x hf).is
                  have HXL := Lib.hid (show x.b.length = K by rw [(HI.out.rc s x hf).len, HL.out.k, Int.toNat_natCast])
                  have CSL := Lib.hid (HJ.out.slot s)
                  unfold SlotOut at CSL
                  rw [HTD.out.2.2.2, HTD.out.2.2.1, HTD.out.2.1, jslot_nil HTD.out.1, ← HCFA.out] at CSL
                  go_wp2_with fail
                  refine CSL.out.mono ?_
                  rintro e w12 ⟨vz, rfl, hvz, hb12⟩
                  have HZ13 := Lib.hid (show RcB w4.heap.size x vz w12.heap.size (w12.alloc (.cells (rcA x.q x.t vz) 59)) from rcB_new (x := x) HIX.out (Nat.le_trans HJ.out.bB hb12.size) (own_base hvz HJ.out.bB))
                  have HJ13 := Lib.hid (HJ.out.below (balloc hb12 (.cells (rcA x.q x.t vz) 59)))
                  have HM13 := Lib.hid (HM.out.below (balloc hb12 (.cells (rcA x.q x.t vz) 59)))
                  obtain ⟨gz, cz, rfl, -⟩ := own_slice' hvz
                  have hq3 : (Value.agg (rcA x.q x.t (.slice gz x.b.length cz))) = .agg #[.int .i64 x.q, .int .i64 x.t, .slice gz x.b.length cz] := rfl
                  rw [hq3]
                  clear hvz hb12 hq3 d0 d1 d2 d3 d4
                  have HZC := Lib.hid (show ∀ w' : World, RcB w4.heap.size x (.slice gz x.b.length cz) w12.heap.size w' → w'.cell? ⟨w12.heap.size, 0, none⟩ = some (.int .i64 x.q) ∧ w'.cell? ⟨w12.heap.size, 1, none⟩ = some (.int .i64 x.t) ∧ w'.cell? ⟨w12.heap.size, 2, none⟩ = some (.slice gz x.b.length cz) from fun w' h => h.cells)
                  generalize x.b.length = lz at HZ13 HZC HJ13 HM13 ⊢
                  obtain ⟨w13, hw13⟩ : ∃ w13, w13 = (w12.alloc (.cells (rcA x.q x.t (.slice gz lz cz)) 59)) := ⟨_, rfl⟩
                  rw [← hw13] at HZ13 HJ13 HM13
                  have hcR : (w12.alloc (.cells #[.int .i64 x.q, .int .i64 x.t, .slice gz lz cz] 59)) = w13 := hw13.symm
                  clear hw13
                  obtain ⟨h0, D, m1, m2, m3⟩ := HM13.out
                  have HMX := Lib.hid m1
                  have HHAS := Lib.hid (show Maps.has D (kI s) = true by rw [m2 s hlt, hf]; rfl)
                  obtain ⟨gw, cw, a1, a2⟩ := m3 s x hlt hf
                  have HLK := Lib.hid (fun (v : Value) (ps : List MemPlace) (h : recR v = some (D.atKey (kI s) (encR 0 0 none 0 0), ps)) => show v = .agg #[.int .i64 x.q, .int .i64 x.t, .slice (some ⟨gw, 0, none⟩) K cw] from by
                    rw [a1] at h
                    exact recR_inv h)
                  have HW14 := Lib.hid (show RcB w4.heap.size x (.slice (some ⟨gw, 0, none⟩) K cw) w13.heap.size (w13.alloc (.cells (rcA x.q x.t (.slice (some ⟨gw, 0, none⟩) K cw)) 59)) from rcB_new HIX.out (HJ13.out.bB) (by rw [HXL.out]; exact a2))
                  clear a1 a2
                  clear m1 m2 m3 h0
                  have HZ14 := Lib.hid (HZ13.out.below (one_below w13 (.cells #[.int .i64 x.q, .int .i64 x.t, .slice (some ⟨gw, 0, none⟩) K cw] 59)))
                  have HJ14 := Lib.hid (HJ13.out.below (one_below w13 (.cells #[.int .i64 x.q, .int .i64 x.t, .slice (some ⟨gw, 0, none⟩) K cw] 59)))
                  have HM14 := Lib.hid (HM13.out.below (one_below w13 (.cells #[.int .i64 x.q, .int .i64 x.t, .slice (some ⟨gw, 0, none⟩) K cw] 59)))
                  obtain ⟨w14, hw14⟩ : ∃ w14, w14 = (w13.alloc (.cells #[.int .i64 x.q, .int .i64 x.t, .slice (some ⟨gw, 0, none⟩) K cw] 59)) := ⟨_, rfl⟩
                  rw [← hw14] at HZ14 HJ14 HM14
                  have hw0 : w14.cell? ⟨w13.heap.size, 0, none⟩ = some (.int .i64 x.q) := by rw [hw14]; exact new_cells w13 _ _ 0 _ rfl
                  have hw1 : w14.cell? ⟨w13.heap.size, 1, none⟩ = some (.int .i64 x.t) := by rw [hw14]; exact new_cells w13 _ _ 1 _ rfl
                  have hw2 : w14.cell? ⟨w13.heap.size, 2, none⟩ = some (.slice (some ⟨gw, 0, none⟩) K cw) := by rw [hw14]; exact new_cells w13 _ _ 2 _ rfl
                  have HW15 := Lib.hid (show RcB w4.heap.size x (.slice (some ⟨gw, 0, none⟩) K cw) w13.heap.size w14 from by rw [hw14]; exact HW14.out)
                  have CRC := Lib.hid (show Calls Tryz.prog 30 #[.agg #[.int .i64 x.q, .int .i64 x.t, .slice gz lz cz], .agg #[.int .i64 x.q, .int .i64 x.t, .slice (some ⟨gw, 0, none⟩) K cw]] w14 (Bit true w14) from by
                    have := krecord_any x x _ _ w14 HZ14.out.slk HW15.out.slk (by rw [HXL.out]; omega)
                    rwa [rcB_refl] at this)
                  have hcW : (w13.alloc (.cells #[.int .i64 x.q, .int .i64 x.t, .slice (some ⟨gw, 0, none⟩) K cw] 59)) = w14 := hw14.symm
                  clear hw14 HW14
                  obtain ⟨y0, y1, y2⟩ := HZC.out _ HZ14.out
                  go_wp2_with (at_lookup; refine wpList_lookup_own_ok _ rfl _ _ 84 rfl 3 59 keyed Tryz.underlying84 recR (HZR.out _) (encR 0 0 none 0 0) [] (recR_mk 0 0 none 0 0) M j D rfl HMX.out _ (kI s) rfl (key_kI (by omega)) ?_; rw [HHAS.out]; intro v ps hv; obtain rfl := HLK.out v ps hv; clear hv)
                  refine CRC.out.mono ?_
                  rintro e w15 ⟨rfl, hb15⟩
                  have HJ15 := Lib.hid (HJ14.out.below hb15)
                  have HM15 := Lib.hid (HM14.out.below hb15)
                  clear hb15 hcR hcW y0 y1 y2 hw0 hw1 hw2
                  go_wp2_with fail
                  go_roundw
                  case rel => exact ⟨s + 1, hlt, by go_num, HJ15.out, HM15.out⟩
                  case measure => simp [intOf]; omega
              · obtain rfl : s = m := by omega
                have HRR := Lib.hid (journal_runs wr (HTY.out _ _ HJ.out))
                go_wp2_with fail
                refine HRR.out.mono ?_
                rintro e w11 ⟨rfl, hb11⟩
                go_wp2_with fail
                go_ret
                exact bit rfl (bthen (HBW.out _ _ HJ.out) hb11)
        · have hle' : ¬ (j : Int) < lh.length := by omega
          go_wp2_with fail
          clear d0 d1 d2 d3 d4
          go_loopw [16] (fun i wr => ∃ (s : Nat), s ≤ m ∧ i = .int .i64 s ∧ JW w3 c cf b w4.heap.size N q wr ∧ RMap wr M m w4.heap.size K f j) (fun i _ => m - (intOf i).toNat)
          case atStart => exact ⟨0, Nat.zero_le _, rfl, HJ.out, HM.out⟩
          clear HJ HM
          case round =>
            obtain ⟨s, hs, rfl, hJ, hM⟩ := hrel
            have HJ := Lib.hid hJ
            have HM := Lib.hid hM
            clear hJ hM
            obtain ⟨d0, d1, d2, d3, d4⟩ := HDC.out _ _ HJ.out
            by_cases hlt : s < m
            · have hlt' : (s : Int) < m := by omega
              cases hf : f s with
              | none =>
                have HTD := Lib.hid (show jcode q cf s = 0 ∧ jnewest q cf s = 0 ∧ jwhole q cf s = true ∧ jrecR q cf s = (blankR cf) from by
                  have := HI.out.told (s := s) (by rw [HL.out.s]; omega) hlt
                  rw [hf] at this
                  exact this)
                have CSL := Lib.hid (HJ.out.slot s)
                unfold SlotOut at CSL
                rw [HTD.out.2.2.2, HTD.out.2.2.1, HTD.out.2.1, jslot_nil HTD.out.1, ← HCFA.out] at CSL
                go_wp2_with fail
                refine CSL.out.mono ?_
                rintro e w12 ⟨vz, rfl, hvz, hb12⟩
                have HZ13 := Lib.hid (show RcB w4.heap.size (blankR cf) vz w12.heap.size (w12.alloc (.cells (rcA 0 0 vz) 59)) from rcB_new (x := (blankR cf)) (blankR_is cf) (Nat.le_trans HJ.out.bB hb12.size) (own_base hvz HJ.out.bB))
                have HJ13 := Lib.hid (HJ.out.below (balloc hb12 (.cells (rcA 0 0 vz) 59)))
                have HM13 := Lib.hid (HM.out.below (balloc hb12 (.cells (rcA 0 0 vz) 59)))
                obtain ⟨gz, cz, rfl, -⟩ := own_slice' hvz
                have hq3 : (Value.agg (rcA (blankR cf).q (blankR cf).t (.slice gz (blankR cf).b.length cz))) = .agg #[.int .i64 0, .int .i64 0, .slice gz (blankR cf).b.length cz] := rfl
                rw [hq3]
                clear hvz hb12 hq3 d0 d1 d2 d3 d4
                have HZC := Lib.hid (show ∀ w' : World, RcB w4.heap.size (blankR cf) (.slice gz (blankR cf).b.length cz) w12.heap.size w' → w'.cell? ⟨w12.heap.size, 0, none⟩ = some (.int .i64 0) ∧ w'.cell? ⟨w12.heap.size, 1, none⟩ = some (.int .i64 0) ∧ w'.cell? ⟨w12.heap.size, 2, none⟩ = some (.slice gz (blankR cf).b.length cz) from fun w' h => h.cells)
                generalize (blankR cf).b.length = lz at HZ13 HZC HJ13 HM13 ⊢
                obtain ⟨w13, hw13⟩ : ∃ w13, w13 = (w12.alloc (.cells (rcA 0 0 (.slice gz lz cz)) 59)) := ⟨_, rfl⟩
                rw [← hw13] at HZ13 HJ13 HM13
                have hcR : (w12.alloc (.cells #[.int .i64 0, .int .i64 0, .slice gz lz cz] 59)) = w13 := hw13.symm
                clear hw13
                obtain ⟨h0, D, m1, m2, m3⟩ := HM13.out
                have HMX := Lib.hid m1
                have HHAS := Lib.hid (show Maps.has D (kI s) = false by rw [m2 s hlt, hf]; rfl)
                have HLK := Lib.hid (fun (v : Value) (ps : List MemPlace) (h : recR v = some (D.atKey (kI s) (encR 0 0 none 0 0), ps)) => show v = .agg #[.int .i64 0, .int .i64 0, .slice none 0 0] from by
                  rw [Maps.atKey_of_not_has HHAS.out] at h
                  exact recR_inv h)
                clear m1 m2 m3 h0
                have HZ14 := Lib.hid (HZ13.out.below (one_below w13 (.cells #[.int .i64 0, .int .i64 0, .slice none 0 0] 59)))
                have HJ14 := Lib.hid (HJ13.out.below (one_below w13 (.cells #[.int .i64 0, .int .i64 0, .slice none 0 0] 59)))
                have HM14 := Lib.hid (HM13.out.below (one_below w13 (.cells #[.int .i64 0, .int .i64 0, .slice none 0 0] 59)))
                obtain ⟨yy0, yy1, yy2⟩ := HZC.out _ HZ13.out
                have hne : ¬ w12.heap.size = w13.heap.size := by have := HZ13.out.lt; omega
                obtain ⟨y0, y1, y2⟩ := HZC.out _ HZ14.out
                go_wp2_with (at_lookup; refine wpList_lookup_own_ok _ rfl _ _ 84 rfl 3 59 keyed Tryz.underlying84 recR (HZR.out _) (encR 0 0 none 0 0) [] (recR_mk 0 0 none 0 0) M j D rfl HMX.out _ (kI s) rfl (key_kI (by omega)) ?_; rw [HHAS.out]; intro v ps hv; obtain rfl := HLK.out v ps hv; clear hv)
                go_roundw
                case rel => exact ⟨s + 1, hlt, by go_num, HJ14.out, HM14.out⟩
                case measure => simp [intOf]; omega
              | some x =>
                have HTD := Lib.hid (show jcode q cf s = 0 ∧ jnewest q cf s = x.q ∧ jwhole q cf s = true ∧ jrecR q cf s = x from by
                  have := HI.out.told (s := s) (by rw [HL.out.s]; omega) hlt
                  rw [hf] at this
                  exact this)
                have HIX := Lib.hid (HI.out.rc s x hf).is
                have HXL := Lib.hid (show x.b.length = K by rw [(HI.out.rc s x hf).len, HL.out.k, Int.toNat_natCast])
                have CSL := Lib.hid (HJ.out.slot s)
                unfold SlotOut at CSL
                rw [HTD.out.2.2.2, HTD.out.2.2.1, HTD.out.2.1, jslot_nil HTD.out.1, ← HCFA.out] at CSL
                go_wp2_with fail
                refine CSL.out.mono ?_
                rintro e w12 ⟨vz, rfl, hvz, hb12⟩
                have HZ13 := Lib.hid (show RcB w4.heap.size x vz w12.heap.size (w12.alloc (.cells (rcA x.q x.t vz) 59)) from rcB_new (x := x) HIX.out (Nat.le_trans HJ.out.bB hb12.size) (own_base hvz HJ.out.bB))
                have HJ13 := Lib.hid (HJ.out.below (balloc hb12 (.cells (rcA x.q x.t vz) 59)))
                have HM13 := Lib.hid (HM.out.below (balloc hb12 (.cells (rcA x.q x.t vz) 59)))
                obtain ⟨gz, cz, rfl, -⟩ := own_slice' hvz
                have hq3 : (Value.agg (rcA x.q x.t (.slice gz x.b.length cz))) = .agg #[.int .i64 x.q, .int .i64 x.t, .slice gz x.b.length cz] := rfl
                rw [hq3]
                clear hvz hb12 hq3 d0 d1 d2 d3 d4
                have HZC := Lib.hid (show ∀ w' : World, RcB w4.heap.size x (.slice gz x.b.length cz) w12.heap.size w' → w'.cell? ⟨w12.heap.size, 0, none⟩ = some (.int .i64 x.q) ∧ w'.cell? ⟨w12.heap.size, 1, none⟩ = some (.int .i64 x.t) ∧ w'.cell? ⟨w12.heap.size, 2, none⟩ = some (.slice gz x.b.length cz) from fun w' h => h.cells)
                generalize x.b.length = lz at HZ13 HZC HJ13 HM13 ⊢
                obtain ⟨w13, hw13⟩ : ∃ w13, w13 = (w12.alloc (.cells (rcA x.q x.t (.slice gz lz cz)) 59)) := ⟨_, rfl⟩
                rw [← hw13] at HZ13 HJ13 HM13
                have hcR : (w12.alloc (.cells #[.int .i64 x.q, .int .i64 x.t, .slice gz lz cz] 59)) = w13 := hw13.symm
                clear hw13
                obtain ⟨h0, D, m1, m2, m3⟩ := HM13.out
                have HMX := Lib.hid m1
                have HHAS := Lib.hid (show Maps.has D (kI s) = true by rw [m2 s hlt, hf]; rfl)
                obtain ⟨gw, cw, a1, a2⟩ := m3 s x hlt hf
                have HLK := Lib.hid (fun (v : Value) (ps : List MemPlace) (h : recR v = some (D.atKey (kI s) (encR 0 0 none 0 0), ps)) => show v = .agg #[.int .i64 x.q, .int .i64 x.t, .slice (some ⟨gw, 0, none⟩) K cw] from by
                  rw [a1] at h
                  exact recR_inv h)
                have HW14 := Lib.hid (show RcB w4.heap.size x (.slice (some ⟨gw, 0, none⟩) K cw) w13.heap.size (w13.alloc (.cells (rcA x.q x.t (.slice (some ⟨gw, 0, none⟩) K cw)) 59)) from rcB_new HIX.out (HJ13.out.bB) (by rw [HXL.out]; exact a2))
                clear a1 a2
                clear m1 m2 m3 h0
                have HZ14 := Lib.hid (HZ13.out.below (one_below w13 (.cells #[.int .i64 x.q, .int .i64 x.t, .slice (some ⟨gw, 0, none⟩) K cw] 59)))
                have HJ14 := Lib.hid (HJ13.out.below (one_below w13 (.cells #[.int .i64 x.q, .int .i64 x.t, .slice (some ⟨gw, 0, none⟩) K cw] 59)))
                have HM14 := Lib.hid (HM13.out.below (one_below w13 (.cells #[.int .i64 x.q, .int .i64 x.t, .slice (some ⟨gw, 0, none⟩) K cw] 59)))
                obtain ⟨w14, hw14⟩ : ∃ w14, w14 = (w13.alloc (.cells #[.int .i64 x.q, .int .i64 x.t, .slice (some ⟨gw, 0, none⟩) K cw] 59)) := ⟨_, rfl⟩
                rw [← hw14] at HZ14 HJ14 HM14
                have hw0 : w14.cell? ⟨w13.heap.size, 0, none⟩ = some (.int .i64 x.q) := by rw [hw14]; exact new_cells w13 _ _ 0 _ rfl
                have hw1 : w14.cell? ⟨w13.heap.size, 1, none⟩ = some (.int .i64 x.t) := by rw [hw14]; exact new_cells w13 _ _ 1 _ rfl
                have hw2 : w14.cell? ⟨w13.heap.size, 2, none⟩ = some (.slice (some ⟨gw, 0, none⟩) K cw) := by rw [hw14]; exact new_cells w13 _ _ 2 _ rfl
                have HW15 := Lib.hid (show RcB w4.heap.size x (.slice (some ⟨gw, 0, none⟩) K cw) w13.heap.size w14 from by rw [hw14]; exact HW14.out)
                have CRC := Lib.hid (show Calls Tryz.prog 30 #[.agg #[.int .i64 x.q, .int .i64 x.t, .slice gz lz cz], .agg #[.int .i64 x.q, .int .i64 x.t, .slice (some ⟨gw, 0, none⟩) K cw]] w14 (Bit true w14) from by
                  have := krecord_any x x _ _ w14 HZ14.out.slk HW15.out.slk (by rw [HXL.out]; omega)
                  rwa [rcB_refl] at this)
                have hcW : (w13.alloc (.cells #[.int .i64 x.q, .int .i64 x.t, .slice (some ⟨gw, 0, none⟩) K cw] 59)) = w14 := hw14.symm
                clear hw14 HW14
                obtain ⟨y0, y1, y2⟩ := HZC.out _ HZ14.out
                go_wp2_with (at_lookup; refine wpList_lookup_own_ok _ rfl _ _ 84 rfl 3 59 keyed Tryz.underlying84 recR (HZR.out _) (encR 0 0 none 0 0) [] (recR_mk 0 0 none 0 0) M j D rfl HMX.out _ (kI s) rfl (key_kI (by omega)) ?_; rw [HHAS.out]; intro v ps hv; obtain rfl := HLK.out v ps hv; clear hv)
                refine CRC.out.mono ?_
                rintro e w15 ⟨rfl, hb15⟩
                have HJ15 := Lib.hid (HJ14.out.below hb15)
                have HM15 := Lib.hid (HM14.out.below hb15)
                clear hb15 hcR hcW y0 y1 y2 hw0 hw1 hw2
                go_wp2_with fail
                go_roundw
                case rel => exact ⟨s + 1, hlt, by go_num, HJ15.out, HM15.out⟩
                case measure => simp [intOf]; omega
            · obtain rfl : s = m := by omega
              have HRR := Lib.hid (journal_runs wr (HTY.out _ _ HJ.out))
              go_wp2_with fail
              refine HRR.out.mono ?_
              rintro e w11 ⟨rfl, hb11⟩
              go_wp2_with fail
              go_ret
              exact bit rfl (bthen (HBW.out _ _ HJ.out) hb11)
end Go.Proofs.YtdcpgpgomnpefaaGreatDoor
/-
  The law stavelaw10.JournalRing (each slot has the record that was logged to it last, or the blank one) returns true for all numbers, and leaves all memory that was there as it was.
  Conditions: none but the row's own; the one package-level variable that it reads, errors.errorType, is tied to the program's text by the card. The card speaks of the pruned copy of the project that the seat names.
-/
namespace Go.Proofs.YtdcpgpgomnpefaaGreatDoor.journalRing
open Go.ChangeShapes Go.WideShapes Go.ChangeAt Go.RowKit

set_option maxRecDepth 100000 in
theorem contract (H : Type) (enc : TypeId × Value → H) (W : World) (base : Nat) (args : Array Value) (ds gs : List (DataW H)) (before : List MemPlace)
    (hval : ∀ (j : Nat) t v, Tryz.f8.params[j]? = some t → args[j]? = some v → Value.okWide Tryz.prog W .any base t v)
    (hW : DataW.Whole enc Tryz.prog Tryz.f8.params.toList Rows.journalRingSpec.vars false W args.toList ds gs before) (hL : laidMetH Tryz.prog Rows.journalRingRow.laid W) :
    Calls Tryz.prog 8 args W fun e W' => ∃ v, e = .returned v ∧ Rows.journalRingSpec.post enc Tryz.prog Tryz.f8 false true false false W args v W' := by
  have hW' := hW
  obtain ⟨p, q, hA0, hV, rfl, hfz, hnd⟩ := hW
  have hA : DataW.TrodAll enc Tryz.prog W 0 (fun _ => true) true Tryz.f8.params.toList args.toList ds p := hA0
  rw [Tryz.params8] at hA hval
  obtain ⟨v0, vs0, d0, ds0, p0, q0, hargs, rfl, rfl, h0, r0⟩ := trodAll_cons hA
  obtain ⟨v1, vs1, d1, ds1, p1, q1, rfl, rfl, rfl, h1, r1⟩ := trodAll_cons r0
  obtain ⟨v2, vs2, d2, ds2, p2, q2, rfl, rfl, rfl, h2, r2⟩ := trodAll_cons r1
  obtain ⟨v3, vs3, d3, ds3, p3, q3, rfl, rfl, rfl, h3, r3⟩ := trodAll_cons r2
  obtain ⟨rfl, rfl, rfl⟩ := trodAll_nil r3
  obtain rfl : args = #[v0, v1, v2, v3] := Array.ext' hargs
  obtain ⟨k_, rfl, rfl, rfl, _⟩ := open_int Tryz.underlying3 (hval 0 3 v0 (by simp) (by simp)) h0
  obtain ⟨n_, rfl, rfl, rfl, _⟩ := open_int Tryz.underlying3 (hval 1 3 v1 (by simp) (by simp)) h1
  obtain ⟨z_, rfl, rfl, rfl, _⟩ := open_int Tryz.underlying3 (hval 2 3 v2 (by simp) (by simp)) h2
  have hv3 := (hval 3 81 v3 (by simp) (by simp))
  obtain ⟨l, hsl, hll⟩ := open_nums hv3 h3
  obtain ⟨rfl, rfl⟩ := trodVars_none hV
  clear hA0
  have hw : Calls Tryz.prog 8 #[.int .i64 k_, .int .i64 n_, .int .i64 z_, v3] W (Bit true W) := ring_any W k_ n_ z_ v3 l hsl (handle_of_laid hL)
  refine hw.mono fun e W' ⟨he, hg⟩ => ?_
  subst he
  exact ⟨_, rfl, law_post Tryz.laidOut (by kernel_rfl) (by kernel_rfl) (by kernel_rfl) Tryz.underlying4 hW' hg rfl rfl rfl⟩

theorem reads (os : Os) {H : Type} (enc : TypeId × Value → H) : ∃ places, DataW.whole enc Tryz.prog ((laidWorld os).forCall (fun _ _ => 0) ⟨#[], #[.int .i64 0, .int .i64 0, .int .i64 0, .slice none 0 0], []⟩).memory Tryz.f8.params.toList Rows.journalRingSpec.vars false (#[.int .i64 0, .int .i64 0, .int .i64 0, .slice none 0 0] : Array Value).toList 8 = some ([.lit (.int .i64 0), .lit (.int .i64 0), .lit (.int .i64 0), .nil], [], places) :=
  ⟨[], by kernel_rfl⟩

set_option maxRecDepth 100000 in
theorem lifted (os : Os) (started : os.Started) (H : Type) (enc : TypeId × Value → H) (F : Stop.Interp) :
    ReturnsInHanded {} Tryz.checked os 8 .any ((OpenSpec.ofChange Rows.journalRingSpec).preRow enc Tryz.prog Tryz.f8 Rows.journalRingRow.domain false Rows.journalRingRow.laid) (((OpenSpec.ofChange Rows.journalRingSpec).at F).post enc Tryz.prog Tryz.f8 false true false false) := by
  obtain ⟨places, hx⟩ := reads os enc
  refine returnsInHanded_of_row (C := Tryz.checked) (s := OpenSpec.ofChange Rows.journalRingSpec) Tryz.own started (by kernel_rfl) Tryz.func8
    (witness_row_at (enc := enc) (C := Tryz.checked) false (laidWorld os) #[.int .i64 0, .int .i64 0, .int .i64 0, .slice none 0 0] rfl (by kernel_rfl) (by kernel_rfl) (by kernel_rfl)
      (OpenSpec.preRow_of_cond 8 hx (by kernel_rfl) (fun k hk => by cases hk) (by kernel_rfl) (laidWorld_met os _))) ?_
  intro W base args ds gs before hval hW _ _ _ hL _ _
  exact contract H enc W base args ds gs before hval hW hL

theorem said : Rows.JournalRingSaid :=
  OpenClaim.holds_of_cond 8 Tryz.f8 rfl rfl rfl rfl rfl rfl rfl ⟨rfl, rfl, rfl, rfl, rfl⟩ rfl rfl rfl rfl rfl (by kernel_rfl) Tryz.func8 (by kernel_rfl)
    (of_decide_eq_true (by kernel_rfl)) (by unfold Func.isWrapper; first | (rw [if_pos (by decide +kernel)]; kernel_rfl) | (rw [if_neg (by decide +kernel)]; exact ⟨rfl, rfl⟩))
    (fun os started H enc _ F => by rw [OpenClaim.pre_eq_preRow]; exact lifted os started H enc F)

theorem plain (f : FuncId) (fn : Func) (hf : Tryz.pinned.checked.prog.funcNamed "stave/stavelaw10.JournalRing" = some f) (hfn : Tryz.pinned.checked.prog.funcs[f]? = some fn) :
    true = Tryz.pinned.checked.prog.looks [] ∧ ∀ (j : Nat) t, fn.params[j]? = some t → Tryz.pinned.checked.prog.wantsStandIn t = false := by
  obtain rfl : f = 8 := Option.some.inj ((show Tryz.prog.funcNamed "stave/stavelaw10.JournalRing" = some 8 by kernel_rfl).symm.trans hf) |>.symm
  obtain rfl : fn = Tryz.f8 := (Option.some.inj (Tryz.func8.symm.trans hfn)).symm
  have hall : (Tryz.f8.params.toList.all fun t => !Tryz.prog.wantsStandIn t) = true := by kernel_rfl
  refine ⟨by kernel_rfl, fun j t ht => ?_⟩
  have := List.all_eq_true.1 hall t (by simpa using Array.mem_of_getElem? ht)
  have h2 : Tryz.prog.wantsStandIn t = false := by simpa using this
  exact h2

end Go.Proofs.YtdcpgpgomnpefaaGreatDoor.journalRing
namespace Go.Proofs.YtdcpgpgomnpefaaGreatDoor
theorem JournalRing_card : Rows.JournalRingCardSaid :=
  Claim7.holds_tied_plain_at .later [] _ _ _ _ journalRing.said (fun _ h => by cases h) (by kernel_rfl) (fun _ h => by cases h) journalRing_row_tie rfl ⟨rfl, rfl⟩ (by kernel_rfl) rfl journalRing.plain (by kernel_rfl)
#print axioms JournalRing_card
end Go.Proofs.YtdcpgpgomnpefaaGreatDoor
