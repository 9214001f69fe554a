/-
  stavelaw10.JournalCut: the walk (written by genjcut.py).
-/
import Derived.Test.YtdcpgpgomnpefaaGreatDoorJLaw
import Derived.Deep.RegionHeld3
import Derived.Deep.DeepCutAuto
import Derived.Deep.CutBlock
import Derived.IntWalk
import Derived.Test.YtdcpgpgomnpefaaGreatDoorBase
import Derived.Test.YtdcpgpgomnpefaaGreatDoorLaw
import Derived.Test.YtdcpgpgomnpefaaGreatDoorOpenU
namespace Go.Proofs.YtdcpgpgomnpefaaGreatDoor
open Go.RowKit Go.Deep Crc Dk Qk Go.Maps Hf
/-- Of each place of slot 0 a disk has the frame of x or that of y, flushed and not. -/
def TwoS (cf : Cf) (x y : Rc) (s : St) : Prop := s.Ok ∧ s.dead = false ∧ ∀ i : Nat, (i : Int) < cf.k → (s.read (jsec cf 0 i) = put (jF x i) ∨ s.read (jsec cf 0 i) = put (jF y i)) ∧ (s.st (jsec cf 0 i) = put (jF x i) ∨ s.st (jsec cf 0 i) = put (jF y i))
theorem write_read (s : St) (i : Nat) (b : List UInt8) (p : Nat) : (s.write i b).read p = if p = i then b else s.read p := by
  show ((Dk.upd s.wt i (some b)) p).getD (s.st p) = _
  by_cases e : p = i
  · subst e; rw [upd_same, if_pos rfl]; rfl
  · rw [upd_other _ _ e, if_neg e]; rfl
theorem TwoS.write {cf : Cf} {x y : Rc} {s : St} (h : TwoS cf x y s) (hy : RcIn cf 0 y) (hc : CfRight cf) {i : Nat} (hi : (i : Int) < cf.k) (hn : jsec cf 0 i < s.n) : TwoS cf x y (s.write (jsec cf 0 i) (put (jF y i))) := by
  refine ⟨h.1.write hn (put_len (jF_is hy.is i) (hy.frame hc hi)), h.2.1, fun j hj => ⟨?_, (h.2.2 j hj).2⟩⟩
  rw [write_read]
  by_cases e : jsec cf 0 j = jsec cf 0 i
  · obtain ⟨_, rfl⟩ := jsec_inj hj hi e
    rw [if_pos rfl]; exact Or.inr rfl
  · rw [if_neg e]; exact (h.2.2 j hj).1
theorem TwoS.flush {cf : Cf} {x y : Rc} {s : St} (h : TwoS cf x y s) : TwoS cf x y s.flush :=
  ⟨h.1.stores, (flushed_dead _).trans h.2.1, fun j hj => ⟨by rw [St.flush_read h.1]; exact (h.2.2 j hj).1, by rw [St.flush_st h.1]; exact (h.2.2 j hj).1⟩⟩
theorem TwoS.crash {cf : Cf} {x y : Rc} {s : St} (h : TwoS cf x y s) (bits : Nat) : (s.crash bits).dead = false ∧ ∀ i : Nat, (i : Int) < cf.k → (s.crash bits).read (jsec cf 0 i) = put (jF x i) ∨ (s.crash bits).read (jsec cf 0 i) = put (jF y i) := by
  refine ⟨(crashed_dead _ _).trans h.2.1, fun i hi => ?_⟩
  rcases St.crash_either h.1 bits (jsec cf 0 i) with e | e
  · rw [e]; exact (h.2.2 i hi).2
  · rw [e]; exact (h.2.2 i hi).1
theorem ups_all {q : Rk} (h : ∀ d, d < q.n → (q.s d).dead = false) : ups q = List.range q.n := by
  unfold ups upsN
  exact List.filter_eq_self.2 fun a ha => by rw [h a (List.mem_range.1 ha)]; rfl
/-- A record over an elder one, the fuse burning. -/
theorem cut_state {q : Rk} {cf : Cf} {x y : Rc} (h : Wl q cf) (hi : SlotIs q cf 0 x) (hy : RcIn cf 0 y) (hs : (0 : Int) < cf.s) (h2 : 2 ≤ y.q) {f : Nat} (hf : f ≤ q.n * cf.k.toNat + q.n) :
    (Rk.jlogC (q.arm f) cf y = 0 ↔ f = q.n * cf.k.toNat + q.n) ∧ ∀ bits : Nat → Nat, ((Rk.jlog (q.arm f) cf y).boot bits).n = q.n ∧ ((Rk.jlog (q.arm f) cf y).boot bits).k = q.k ∧
      (∀ d, d < q.n → (((Rk.jlog (q.arm f) cf y).boot bits).s d).dead = false ∧ ∀ i : Nat, (i : Int) < cf.k → (((Rk.jlog (q.arm f) cf y).boot bits).s d).read (jsec cf 0 i) = put (jF x i) ∨ (((Rk.jlog (q.arm f) cf y).boot bits).s d).read (jsec cf 0 i) = put (jF y i)) ∧
      (Rk.jlogC (q.arm f) cf y = 0 → ∀ d, d < q.n → ∀ i : Nat, (i : Int) < cf.k → (((Rk.jlog (q.arm f) cf y).boot bits).s d).read (jsec cf 0 i) = put (jF y i)) := by
  have hr := h.right
  have hk0 : 0 ≤ cf.k := by have := hr.2.2.1; omega
  have hFL : (jFs y).length = cf.k.toNat := by rw [jFs_length]; exact hy.len
  have hF := jFs_128 hy hr
  have hbl : jsec cf 0 0 + (jFs y).length ≤ q.k := by rw [hFL]; exact jsec_last h.fits hs
  have hb : (cf.fits (q.arm f) && jright cf y) = true := by
    rw [show cf.fits (q.arm f) = true from h.fits, hy.jr h2 hk0]; rfl
  have hm : y.q % cf.s = ((0 : Nat) : Int) := by
    rcases hy.slot with e | e
    · omega
    · exact e.2
  have hU : ups (q.arm f) = List.range q.n := ups_all (q := q.arm f) h.alive
  have e0 : slotOps cf (y.q % cf.s) y (q.arm f) = jops ((jsec cf 0 0 : Nat) : Int) (jFs y) (List.range q.n) := by unfold slotOps; rw [hm, base_nat hk0, hU]
  have eC : Rk.jlogC (q.arm f) cf y = runC (q.arm f) (jops ((jsec cf 0 0 : Nat) : Int) (jFs y) (List.range q.n)) := by unfold Rk.jlogC; rw [if_pos hb, e0]
  have eS : Rk.jlog (q.arm f) cf y = runS (q.arm f) (jops ((jsec cf 0 0 : Nat) : Int) (jFs y) (List.range q.n)) := by unfold Rk.jlog; rw [if_pos hb, e0]
  have hlen : (jops ((jsec cf 0 0 : Nat) : Int) (jFs y) (List.range q.n)).length = q.n * cf.k.toNat + q.n := by rw [jops_length, List.length_range, hFL]
  have hfit : ∀ o ∈ jops ((jsec cf 0 0 : Nat) : Int) (jFs y) (List.range q.n), o.fit (q.arm f).n (q.arm f).k fun j => ((q.arm f).s j).dead := by
    have := jops_fit (q := q.arm f) (base := jsec cf 0 0) (F := jFs y) hbl hF
    rwa [hU] at this
  obtain ⟨_, r2, r3⟩ := run_fit _ (q.arm f) h.off (show -1 ≤ ((f : Nat) : Int) by omega) hfit
  generalize hL : jops ((jsec cf 0 0 : Nat) : Int) (jFs y) (List.range q.n) = L at *
  have hmem : ∀ o ∈ L, (∃ d i : Nat, d < q.n ∧ (i : Int) < cf.k ∧ o = .w (d : Int) ((jsec cf 0 i : Nat) : Int) (put (jF y i))) ∨ ∃ d : Nat, d < q.n ∧ o = .f (d : Int) := fun o ho => by
    rw [← hL] at ho
    rcases mem_jops ho with ⟨d, i, hd, hi, rfl⟩ | ⟨d, hd, rfl⟩
    · refine Or.inl ⟨d, i, List.mem_range.1 hd, by omega, ?_⟩
      rw [jFs_getD (by rw [← jFs_length]; exact hi), ← jsec_add cf 0 i]
      simp
    · exact Or.inr ⟨d, List.mem_range.1 hd, rfl⟩
  have hP : ∀ M : List Rop, (∀ o ∈ M, o ∈ L) → ∀ d, d < q.n → (ons q.s M d).n = q.k ∧ TwoS cf x y (ons q.s M d) := fun M hM => by
    refine ons_keep (P := fun t => ∀ d, d < q.n → (t d).n = q.k ∧ TwoS cf x y (t d)) M q.s (fun d hd => ⟨h.ok.k d hd, h.sok d hd, h.alive d hd, fun i hik => ?_⟩) fun o ho t ht d hd => ?_
    · have e := hi d i hd hik
      have e2 : (q.s d).st (jsec cf 0 i) = put (jF x i) := by
        rw [← e]; unfold St.read; rw [h.wt d _ hd]; rfl
      exact ⟨Or.inl e, Or.inl e2⟩
    · obtain ⟨t1, t2⟩ := ht d hd
      rcases hmem o (hM o ho) with ⟨d', i, hd', hik, rfl⟩ | ⟨d', hd', rfl⟩
      · show (Dk.upd t (d' : Int).toNat ((t (d' : Int).toNat).write ((jsec cf 0 i : Nat) : Int).toNat _) d).n = _ ∧ TwoS cf x y (Dk.upd t (d' : Int).toNat _ d)
        rw [Int.toNat_natCast, Int.toNat_natCast]
        by_cases e : d = d'
        · subst e
          rw [upd_same]
          exact ⟨t1, t2.write hy hr hik (by rw [t1]; exact jsec_lt h.fits hs hik)⟩
        · rw [upd_other _ _ e]; exact ⟨t1, t2⟩
      · show (Dk.upd t (d' : Int).toNat ((t (d' : Int).toNat).flush) d).n = _ ∧ TwoS cf x y (Dk.upd t (d' : Int).toNat _ d)
        rw [Int.toNat_natCast]
        by_cases e : d = d'
        · subst e
          rw [upd_same]
          exact ⟨(flushed_n _).trans t1, t2.flush⟩
        · rw [upd_other _ _ e]; exact ⟨t1, t2⟩
  have hboot : ∀ (q3 : Rk) (bits : Nat → Nat) (d : Nat), d < q3.n → (q3.boot bits).s d = (q3.s d).crash (bits d) := fun q3 bits d hd => if_pos hd
  by_cases hc : f = q.n * cf.k.toNat + q.n
  · obtain ⟨c1, c2⟩ := r2 (show 0 ≤ ((f : Nat) : Int) by omega) (show ((L.length : Nat) : Int) ≤ ((f : Nat) : Int) by omega)
    have hC : Rk.jlogC (q.arm f) cf y = 0 := eC.trans c1
    have hn3 : (Rk.jlog (q.arm f) cf y).n = q.n := jlog_n _ _ _
    have hs3 : ∀ d, (Rk.jlog (q.arm f) cf y).s d = ons q.s L d := fun d => by rw [eS, c2]; rfl
    refine ⟨⟨fun _ => hc, fun _ => hC⟩, fun bits => ⟨hn3, jlog_k _ _ _, fun d hd => ?_, fun _ d hd i hik => ?_⟩⟩
    · rw [hboot _ _ _ (by rw [hn3]; exact hd), hs3]
      exact (hP L (fun _ h => h) d hd).2.crash _
    · rw [hboot _ _ _ (by rw [hn3]; exact hd), hs3]
      have hfin : ons q.s L d = (wr (q.s d) (jsec cf 0 0) (jFs y) (jFs y).length).flush := by
        rw [← hL, ons_jops _ _ _ _ List.nodup_range, if_pos (List.mem_range.2 hd)]
      rw [hfin]
      obtain ⟨g1, g2, g3, g4, g5, _⟩ := slotS_facts (h.sok d hd) (base := jsec cf 0 0) (F := jFs y) hF (by rw [h.ok.k d hd]; exact hbl)
      have hrd : (wr (q.s d) (jsec cf 0 0) (jFs y) (jFs y).length).flush.read (jsec cf 0 i) = put (jF y i) := by
        have ej := jsec_add cf 0 i
        rw [g5, if_pos ⟨by omega, by omega⟩, show jsec cf 0 i - jsec cf 0 0 = i by omega, jFs_getD (by rw [hy.len]; omega)]
      rcases St.crash_either g3 (bits d) (jsec cf 0 i) with e | e
      · rw [e, ← hrd]; unfold St.read; rw [g4]; rfl
      · rw [e]; exact hrd
  · obtain ⟨c1, c2⟩ := r3 (show 0 ≤ ((f : Nat) : Int) by omega) (show ((f : Nat) : Int) < ((L.length : Nat) : Int) by omega)
    have hC : ¬ Rk.jlogC (q.arm f) cf y = 0 := by rw [eC, c1]; decide
    have hn3 : (Rk.jlog (q.arm f) cf y).n = q.n := jlog_n _ _ _
    have hs3 : ∀ d, (Rk.jlog (q.arm f) cf y).s d = ons q.s (L.take f) d := fun d => by rw [eS, c2]; rfl
    refine ⟨⟨fun e => absurd e hC, fun e => absurd e hc⟩, fun bits => ⟨hn3, jlog_k _ _ _, fun d hd => ?_, fun e => absurd e hC⟩⟩
    rw [hboot _ _ _ (by rw [hn3]; exact hd), hs3]
    exact (hP _ (fun _ h => List.mem_of_mem_take h) d hd).2.crash _
/-- What the slot tells then. -/
theorem cut_told {q : Rk} {cf : Cf} {x y : Rc} {q0 : Rk} (h : Wl q0 cf) (hn : q.n = q0.n) (hk : q.k = q0.k) (hq : q.Ok) (ho : q.off = false) (hx : RcIn cf 0 x) (hy : RcIn cf 0 y) (hs : (0 : Int) < cf.s) (hxy : x.q < y.q)
    (hd : ∀ d, d < q0.n → (q.s d).dead = false ∧ ∀ i : Nat, (i : Int) < cf.k → (q.s d).read (jsec cf 0 i) = put (jF x i) ∨ (q.s d).read (jsec cf 0 i) = put (jF y i)) :
    jcode q cf 0 = 0 ∧ ((jnewest q cf 0 = x.q ∧ jwhole q cf 0 = true ∧ jrecR q cf 0 = x) ∨ (jnewest q cf 0 = y.q ∧ jwhole q cf 0 = true ∧ jrecR q cf 0 = y) ∨ (jnewest q cf 0 = y.q ∧ jwhole q cf 0 = false ∧ jrecR q cf 0 = zeroR)) := by
  have hr := h.right
  have hf : cf.fits q = true := by
    have := h.fits
    unfold Cf.fits at this ⊢
    rw [hn, hk]; exact this
  have hj : ∀ i d : Nat, (i : Int) < cf.k → d < q.n → jfr q cf ((0 : Nat) : Int) i d = some (jF x i) ∨ jfr q cf ((0 : Nat) : Int) i d = some (jF y i) := fun i d hik hdn => by
    obtain ⟨h1, h2⟩ := hd d (by omega)
    rcases h2 i hik with e | e
    · exact Or.inl (jfr_put hq hf hs hik hdn ho h1 hx.is hx.q0 hx.q1 hx.t0 hx.t1 hx.slot e)
    · exact Or.inr (jfr_put hq hf hs hik hdn ho h1 hy.is hy.q0 hy.q1 hy.t0 hy.t1 hy.slot e)
  exact slot_two (s := ((0 : Nat) : Int)) (has_slot hf hs) hx.q0 hxy hr.2.2.1 hx.len hy.len (fun i d hik hdn _ => Or.inr (hj i d hik hdn)) fun i hik => by
    have hn0 := hq.n0
    rcases hj i 0 hik hn0 with e | e
    · exact ⟨0, _, hn0, (hd 0 (by omega)).1, e⟩
    · exact ⟨0, _, hn0, (hd 0 (by omega)).1, e⟩
theorem cut_done {q : Rk} {cf : Cf} {y : Rc} {q0 : Rk} (h : Wl q0 cf) (hn : q.n = q0.n) (hk : q.k = q0.k) (hq : q.Ok) (ho : q.off = false) (hy : RcIn cf 0 y) (hs : (0 : Int) < cf.s)
    (hl : ∀ d, d < q0.n → (q.s d).dead = false) (hd : ∀ d, d < q0.n → ∀ i : Nat, (i : Int) < cf.k → (q.s d).read (jsec cf 0 i) = put (jF y i)) :
    jcode q cf 0 = 0 ∧ jnewest q cf 0 = y.q ∧ jwhole q cf 0 = true ∧ jrecR q cf 0 = y := by
  have hr := h.right
  have hf : cf.fits q = true := by
    have := h.fits
    unfold Cf.fits at this ⊢
    rw [hn, hk]; exact this
  have hj : ∀ i d : Nat, (i : Int) < cf.k → d < q.n → jfr q cf ((0 : Nat) : Int) i d = some (jF y i) := fun i d hik hdn => jfr_put hq hf hs hik hdn ho (hl d (by omega)) hy.is hy.q0 hy.q1 hy.t0 hy.t1 hy.slot (hd d (by omega) i hik)
  exact slot_one (s := ((0 : Nat) : Int)) (has_slot hf hs) hy.q0 hr.2.2.1 hy.len (fun i d hik hdn _ => Or.inr (hj i d hik hdn)) fun i hik => ⟨0, hq.n0, hl 0 (by have := hq.n0; omega), hj i 0 hik hq.n0⟩
theorem JW.arm {w1 : World} {c : Lc} {cf : Cf} {b B n : Nat} {q : Rk} {w : World} (h : JW w1 c cf b B n q w) (k : Int) (h1 : -9223372036854775808 ≤ k) (h2 : k < 9223372036854775808) :
    Calls Tryz.prog 37 #[.pointer (some ⟨c.r, 0, none⟩), .int .i64 k] w (JN w1 c cf b B n (q.arm k) (.tuple #[]) w) := h.step (h.qs.arm k h1 h2) rfl
theorem JW.boot {w1 : World} {c : Lc} {cf : Cf} {b B n : Nat} {q : Rk} {w : World} (h : JW w1 c cf b B n q w) (v : Value) (l : List Nat) (hv : SlU w.heap.size w v l) (hl : ∀ x, x < l.length → l.getD x 0 < 18446744073709551616) :
    Calls Tryz.prog 38 #[.pointer (some ⟨c.r, 0, none⟩), v] w (JN w1 c cf b B n (q.boot fun i => l.getD i 0) (.tuple #[]) w) := h.step (h.qs.boot v l hv hl) rfl
/-- A record's place. -/
def ZRec (b : Nat) (w : World) : Prop := ∃ cs : Array Value, cs.size = 3 ∧ w.heap[b]? = some (.cells cs 59 (0, 0))
theorem ZRec.lt {b : Nat} {w : World} (h : ZRec b w) : b < w.heap.size := (Array.getElem?_eq_some_iff.1 h.choose_spec.2).1
theorem ZRec.below {b : Nat} {w w' : World} (h : ZRec b w) (hb : Below w.heap.size w w') : ZRec b w' := by
  have hl := h.lt
  obtain ⟨cs, h1, h2⟩ := h
  exact ⟨cs, h1, (hb.block b hl).trans h2⟩
theorem ZRec.other {b b' : Nat} {w : World} (h : ZRec b w) (hn : b ≠ b') (cs : Array Value) : ZRec b (w.setRow b' cs) := by
  obtain ⟨c1, h1, h2⟩ := h
  exact ⟨c1, h1, by rw [setRow_other w b' b cs hn]; exact h2⟩
theorem zrec_new (w : World) : ZRec w.heap.size (w.alloc (.cells #[.int .i64 0, .int .i64 0, .slice none 0 0] 59)) := ⟨_, rfl, heap_alloc_new w _⟩
theorem cut_apart {w : World} {B e n b : Nat} {v : Value} {xs : List Value} (h : w.ownsRow B e 108 v n xs) (hb : b < B) : v.ownBlock ≠ some b := fun hk => by
  rcases h.2 with ⟨rfl, _⟩ | ⟨g, c, cur, rfl, hB, _⟩
  · cases hk
  · injection hk with hk
    have e : g = b := hk
    omega
theorem cut_apart2 {w : World} {B e n b : Nat} {v : Value} {xs : List Value} (h : w.ownsRow B e 108 v n xs) (hb : w.heap.size ≤ b) : v.ownBlock ≠ some b := fun hk => by
  rcases h.2 with ⟨rfl, _⟩ | ⟨g, c, cur, rfl, hB, hg, _⟩
  · cases hk
  · injection hk with hk
    have e : g = b := hk
    have := (Array.getElem?_eq_some_iff.1 hg).1
    omega
theorem own_setrow {w : World} {B e n b : Nat} {v : Value} {xs : List Value} (h : w.ownsRow B e 108 v n xs) (hn : v.ownBlock ≠ some b) (cs : Array Value) : (w.setRow b cs).ownsRow B e 108 v n xs :=
  World.ownsRow.kept (row := some b) h ⟨rfl, rfl, rfl, by simp, fun k _ hk => setRow_other w b k _ (fun e => hk (by rw [e]))⟩ (Or.inr hn)
theorem step_store_rec {w : World} {ops : Array Oper} {o : Oper} {a : Act} {K : Act → World → Prop} {Q : Exit → Act → World → Prop} {E : Prop} (hgd : o.guard = none) (x y : Operand) (ho : o.op = .store 59 x y)
    (b : Nat) (hx : a.eval x = .pointer (some ⟨b, 0, none⟩)) (q t : Int) (v : Value) (hy : a.eval y = .agg (rcA q t v)) (hz : ZRec b w) (hv : ∃ g n c, v = .slice g n c)
    (h : K (a.put o.dst undef) (w.setRow b (rcA q t v))) : if Region.wanted o (yielded ops a.tmps) = true then Oper.wp Tryz.prog o a w K Q else E := by
  have hw : Region.wanted o (yielded ops a.tmps) = true := by simp [Region.wanted, hgd]
  rw [if_pos hw]
  obtain ⟨cs, h1, h2⟩ := hz
  obtain ⟨g, n, cc, rfl⟩ := hv
  exact wp_store_row _ x y ho b _ hx hy _ cs h2 (by kernel_rfl) (by rw [h1]; rfl) (by simp [rcA, Value.oneCell']) h
theorem two_recs {B b1 b2 : Nat} {x y : Rc} {v1 v2 : Value} {w : World} (hx : x.is) (hy : y.is) (z1 : ZRec b1 w) (z2 : ZRec b2 w) (l1 : B ≤ b1) (l2 : B ≤ b2) (hne : b1 ≠ b2)
    (o1 : w.ownsRow B 134 108 v1 x.b.length (x.b.map bytesV).flatten) (o2 : w.ownsRow B 134 108 v2 y.b.length (y.b.map bytesV).flatten)
    (s11 : v1.ownBlock ≠ some b1) (s12 : v1.ownBlock ≠ some b2) (s21 : v2.ownBlock ≠ some b1) (s22 : v2.ownBlock ≠ some b2) :
    RcB B x v1 b1 ((w.setRow b1 (rcA x.q x.t v1)).setRow b2 (rcA y.q y.t v2)) ∧ RcB B y v2 b2 ((w.setRow b1 (rcA x.q x.t v1)).setRow b2 (rcA y.q y.t v2)) := by
  have zz := z2.other (Ne.symm hne) (rcA x.q x.t v1)
  obtain ⟨c1, _, e1⟩ := z1
  obtain ⟨c2, _, e2⟩ := zz
  exact ⟨⟨hx, l1, by rw [setRow_other _ b2 b1 _ hne]; exact setRow_heap w b1 _ _ _ _ e1, own_setrow (own_setrow o1 s11 _) s12 _⟩,
    ⟨hy, l2, setRow_heap _ b2 _ _ _ _ e2, own_setrow (own_setrow o2 s21 _) s22 _⟩⟩
theorem jlog_some {q : Rk} {c : Cf} {x : Rc} (h : ¬ Rk.jlogC q c x = 0) : ∃ u, Rk.jlogV q c x = .iface 165 u := by
  unfold Rk.jlogC at h
  unfold Rk.jlogV
  split at h
  · rename_i h1; rw [if_pos h1]; unfold wrapR; rw [if_neg h]; exact ⟨_, rfl⟩
  · rename_i h1; rw [if_neg h1]; exact ⟨_, rfl⟩
/-- Both records laid. -/
def CutQ (w3 : World) (c : Lc) (cf : Cf) (b B N SC : Nat) (x y : Rc) (p q : Value) (w : World) : Prop :=
  ∃ b1 b2 v1 v2, p = .pointer (some ⟨b1, 0, none⟩) ∧ q = .pointer (some ⟨b2, 0, none⟩) ∧ JW w3 c cf b B N (newRk N SC) w ∧ RcB B x v1 b1 w ∧ RcB B y v2 b2 w
set_option maxHeartbeats 32000000 in
set_option maxRecDepth 100000 in
theorem cut_any (w : World) (k_ n_ f_ a_ y_ : Int) (vh : Value) (lh : List Nat) (hvh : SlU w.heap.size w vh lh) (hlh : ∀ x, x < lh.length → lh.getD x 0 < 18446744073709551616) (hT : Typ w) : Calls Tryz.prog 6 #[.int .i64 k_, .int .i64 n_, .int .i64 f_, .int .i64 a_, .int .i64 y_, vh] w (Bit true w) := by
  have HT := Lib.hid hT
  have HVH := Lib.hid hvh
  have HLH := Lib.hid hlh
  obtain ⟨ah, ch, rfl⟩ := hvh.len
  clear hT hvh hlh
  go_enter Tryz.func6, Tryz.ntmps6
  go_wp2_with fail
  refine (fixed_any k_ n_ 2 1 _ (by omega) (by omega)).mono ?_
  rintro e w1 ⟨cf, hcf, rfl, hb1⟩
  obtain ⟨N, K, SC, hL⟩ := cfL_of hcf
  have HL := Lib.hid hL
  have CS := Lib.hid (fun w => ksectors_any cf w hL.ok.right)
  have CN := Lib.hid (fun w => hL.new w)
  have H2 := Lib.hid (show JfS cf w1.heap.size w (w1.alloc (.cells (cfA cf) 24)) from ⟨cfB_new w1 cf, by simp, balloc hb1 _⟩)
  have HNR := Lib.hid hL.r
  clear hb1 hcf hL
  go_wp2_with fail
  have h2 := H2.out
  generalize w1.alloc (.cells (cfA cf) 24) = w2 at *
  generalize w1.heap.size = b at *
  have d0 : ∀ w', JfS cf b w w' → w'.cell? ⟨b, 0, none⟩ = some (.int .i64 cf.id) := fun w' h => h.1.cell 0
  have d1 : ∀ w', JfS cf b w w' → w'.cell? ⟨b, 1, none⟩ = some (.int .i64 cf.k) := fun w' h => h.1.cell 1
  have d2 : ∀ w', JfS cf b w w' → w'.cell? ⟨b, 2, none⟩ = some (.int .i64 cf.n) := fun w' h => h.1.cell 2
  have d3 : ∀ w', JfS cf b w w' → w'.cell? ⟨b, 3, none⟩ = some (.int .i64 cf.t) := fun w' h => h.1.cell 3
  have d4 : ∀ w', JfS cf b w w' → w'.cell? ⟨b, 4, none⟩ = some (.int .i64 cf.s) := fun w' h => h.1.cell 4
  refine wp_region_noPanic ?_
  refine wp_region_held_drew (S := (fun w' => JfS cf b w w')) (by kernel_rfl) h2.drew (fun hHeld => ?_)
  refine wpAnyH_take (i := 0) (oi := ⟨some 29, _, _, _, _, _⟩) (v := ?_) rfl (by kernel_rfl) (by kernel_rfl) (by kernel_rfl) (fun _ _ _ h => h) (Or.inl ⟨by rfl, ?_⟩) hHeld ?_
  rotate_left
  · intro w hSw; (go_simp; try with_reducible rfl)
  simp only [Act.put, List.setIfInBounds_toArray, List.set_cons_zero, List.set_cons_succ]
  refine wpAnyH_take (i := 1) (oi := ⟨some 30, _, _, _, _, _⟩) (v := ?_) rfl (by kernel_rfl) (by kernel_rfl) (by kernel_rfl) (fun _ _ _ h => h) (Or.inl ⟨by rfl, ?_⟩) hHeld ?_
  rotate_left
  · intro w hSw; (go_simp; try with_reducible rfl)
  simp only [Act.put, List.setIfInBounds_toArray, List.set_cons_zero, List.set_cons_succ]
  refine wpAnyH_take (i := 2) (oi := ⟨some 31, _, _, _, _, _⟩) (v := ?_) rfl (by kernel_rfl) (by kernel_rfl) (by kernel_rfl) (fun _ _ _ h => h) (Or.inl ⟨by rfl, ?_⟩) hHeld ?_
  rotate_left
  · intro w hSw; (go_simp; try with_reducible rfl)
  simp only [Act.put, List.setIfInBounds_toArray, List.set_cons_zero, List.set_cons_succ]
  refine wpAnyH_ready (rs := [3]) (by kernel_rfl) (by simp) (AllReadyH.cons rfl (fun K hK => ?_) AllReadyH.nil)
  go_simp
  refine (CS.out _).mono ?_
  rintro e w3 ⟨rfl, hb3⟩
  have h3 := JfS.then hHeld hb3
  clear hb3
  refine hK.out _ _ h3 (fun _ => ?_)
  clear hK K
  refine wpAnyH_ready (rs := [4]) (by kernel_rfl) (by simp) (AllReadyH.cons rfl (fun K hK => ?_) AllReadyH.nil)
  go_simp
  refine (CN.out _).mono ?_
  rintro e w4 ⟨c, rfl, h4⟩
  have H4 := Lib.hid h4
  have h5 := JfS.made h3 h4
  clear h4
  refine hK.out _ _ h5 (fun _ => ?_)
  clear hK K
  refine wpAnyH_take (i := 5) (oi := ⟨some 28, _, _, _, _, _⟩) (v := ?_) rfl (by kernel_rfl) (by kernel_rfl) (by kernel_rfl) (fun _ _ _ h => h) (Or.inl ⟨by rfl, ?_⟩) h5 ?_
  rotate_left
  · intro w hSw; (go_simp; try with_reducible rfl)
  simp only [Act.put, List.setIfInBounds_toArray, List.set_cons_zero, List.set_cons_succ]
  refine wpAnyH_take (i := 6) (oi := ⟨some 34, _, _, _, _, _⟩) (v := ?_) rfl (by kernel_rfl) (by kernel_rfl) (by kernel_rfl) (fun _ _ _ h => h) (Or.inl ⟨by rfl, ?_⟩) h5 ?_
  rotate_left
  · intro w hSw; (go_simp; try with_reducible rfl)
  simp only [Act.put, List.setIfInBounds_toArray, List.set_cons_zero, List.set_cons_succ]
  refine wpAnyH_take (i := 7) (oi := ⟨some 35, _, _, _, _, _⟩) (v := ?_) rfl (by kernel_rfl) (by kernel_rfl) (by kernel_rfl) (fun _ _ _ h => h) (Or.inl ⟨by rfl, ?_⟩) h5 ?_
  rotate_left
  · intro w hSw; (go_simp; try with_reducible rfl)
  simp only [Act.put, List.setIfInBounds_toArray, List.set_cons_zero, List.set_cons_succ]
  refine wpAnyH_take (i := 8) (oi := ⟨some 14, _, _, _, _, _⟩) (v := ?_) rfl (by kernel_rfl) (by kernel_rfl) (by kernel_rfl) (fun _ _ _ h => h) (Or.inl ⟨by rfl, ?_⟩) h5 ?_
  rotate_left
  · intro w hSw; (go_simp; try with_reducible rfl)
  simp only [Act.put, List.setIfInBounds_toArray, List.set_cons_zero, List.set_cons_succ]
  refine wpAnyH_take (i := 9) (oi := ⟨some 15, _, _, _, _, _⟩) (v := ?_) rfl (by kernel_rfl) (by kernel_rfl) (by kernel_rfl) (fun _ _ _ h => h) (Or.inl ⟨by rfl, ?_⟩) h5 ?_
  rotate_left
  · intro w hSw; (go_simp; try with_reducible rfl)
  simp only [Act.put, List.setIfInBounds_toArray, List.set_cons_zero, List.set_cons_succ]
  refine wpAnyH_done (by kernel_rfl) ?_ _
  refine NoPanic.normal ?_
  have HB3 := Lib.hid (show JfS cf b w w3 from h3)
  have HJ4 := Lib.hid (show JW w3 c cf b w4.heap.size N (newRk N SC) w4 from JW.made H4.out HB3.out.1 HB3.out.2.1 (Below.refl _ _))
  have HBW := Lib.hid (fun (q : Rk) (w' : World) (h : JW w3 c cf b w4.heap.size N q w') => show Below w.heap.size w w' from bthen HB3.out.2.2 h.qs.base)
  have HTY := Lib.hid (fun (q : Rk) (w' : World) (h : JW w3 c cf b w4.heap.size N q w') => show Typ w' from HT.out.below (HBW.out q w' h))
  clear d0 d1 d2 d3 d4 h2 hHeld h3 h5
  have hx1 : RcIn cf 0 (lawR 5 0 a_ K) := HL.out.rc (by decide) (by decide) (by decide) (by decide) (Or.inr ⟨by decide, by decide⟩)
  have hy1 : RcIn cf 0 (lawR 6 1 y_ K) := HL.out.rc (by decide) (by decide) (by decide) (by decide) (Or.inr ⟨by decide, by decide⟩)
  have HX := Lib.hid hx1
  have HY := Lib.hid hy1
  have HLOG := Lib.hid (HL.out.wl.log (s := 0) (by rw [HL.out.s]; decide) hx1 (by show (2 : Int) ≤ 5; decide))
  have HBK := Lib.hid (fun a w => HL.out.blocks a w)
  clear hx1 hy1
  go_wp2_with fail
  have d1 : ∀ w', Below w4.heap.size w4 w' → w'.cell? ⟨b, 1, none⟩ = some (.int .i64 cf.k) := fun w' h => (HJ4.out.below h).cfg.cell 1
  go_cut [16, 17] (fun p q wx => CutQ w3 c cf b w4.heap.size N SC (lawR 5 0 a_ K) (lawR 6 1 y_ K) p q wx)
  case first =>
    refine wp_region_noPanic ?_
    refine wp_region_held_drew (S := (fun w' => Below w4.heap.size w4 w')) (by kernel_rfl) (show Below w4.heap.size w4 w4.drew from (Below.refl _ _).drew) (fun hHeld => ?_)
    generalize w4.drew = w5 at *
    refine wpAnyH_take (i := 0) (oi := ⟨some 36, _, _, _, _, _⟩) (v := ?_) rfl (by kernel_rfl) (by kernel_rfl) (by kernel_rfl) (fun _ _ _ h => h) (Or.inl ⟨by rfl, ?_⟩) hHeld ?_
    rotate_left
    · intro w hSw; (go_simp; try with_reducible rfl)
    simp only [Act.put, List.setIfInBounds_toArray, List.set_cons_zero, List.set_cons_succ]
    refine wpAnyH_take (i := 1) (oi := ⟨some 37, _, _, _, _, _⟩) (v := ?_) rfl (by kernel_rfl) (by kernel_rfl) (by kernel_rfl) (fun _ _ _ h => h) (Or.inl ⟨by rfl, ?_⟩) hHeld ?_
    rotate_left
    · intro w hSw; (go_simp; try with_reducible rfl)
    simp only [Act.put, List.setIfInBounds_toArray, List.set_cons_zero, List.set_cons_succ]
    refine wpAnyH_take (i := 2) (oi := ⟨some 38, _, _, _, _, _⟩) (v := ?_) rfl (by kernel_rfl) (by kernel_rfl) (by kernel_rfl) (fun _ _ _ h => h) (Or.inl ⟨by rfl, ?_⟩) hHeld ?_
    rotate_left
    · intro w hSw; (go_simp; try with_reducible rfl)
    simp only [Act.put, List.setIfInBounds_toArray, List.set_cons_zero, List.set_cons_succ]
    refine wpAnyH_take (i := 5) (oi := ⟨some 41, _, _, _, _, _⟩) (v := ?_) rfl (by kernel_rfl) (by kernel_rfl) (by kernel_rfl) (fun _ _ _ h => h) (Or.inl ⟨by rfl, ?_⟩) hHeld ?_
    rotate_left
    · intro w hSw; (go_simp; try with_reducible rfl)
    simp only [Act.put, List.setIfInBounds_toArray, List.set_cons_zero, List.set_cons_succ]
    refine wpAnyH_take (i := 6) (oi := ⟨some 42, _, _, _, _, _⟩) (v := ?_) rfl (by kernel_rfl) (by kernel_rfl) (by kernel_rfl) (fun _ _ _ h => h) (Or.inl ⟨by rfl, ?_⟩) hHeld ?_
    rotate_left
    · intro w hSw; (go_simp; try with_reducible rfl)
    simp only [Act.put, List.setIfInBounds_toArray, List.set_cons_zero, List.set_cons_succ]
    refine wpAnyH_take (i := 7) (oi := ⟨some 43, _, _, _, _, _⟩) (v := ?_) rfl (by kernel_rfl) (by kernel_rfl) (by kernel_rfl) (fun _ _ _ h => h) (Or.inl ⟨by rfl, ?_⟩) hHeld ?_
    rotate_left
    · intro w hSw; (go_simp; try with_reducible rfl)
    simp only [Act.put, List.setIfInBounds_toArray, List.set_cons_zero, List.set_cons_succ]
    refine wpAnyH_ready (rs := [3, 10, 11]) (by kernel_rfl) (by simp) ?_
    refine AllReadyH.cons (o := ⟨some 39, _, _, _, _, _⟩) rfl (fun K hK => ?_) ?_
    · go_simp
      refine (HBK.out a_ _).mono ?_
      rintro e wn21 ⟨vv3, rfl, hv21, hbn21⟩
      have hb21 : Below w4.heap.size w4 wn21 := hHeld.trans (hbn21.mono hHeld.size)
      have o3_21 := own_base hv21 hHeld.size
      clear hv21 hbn21
      obtain ⟨gg3, cc3, rfl, -⟩ := own_slice' o3_21
      refine hK.out _ _ hb21 (fun _ => ?_)
      clear hK K
      refine wpAnyH_take (i := 4) (oi := ⟨some 40, _, _, _, _, _⟩) (v := ?_) rfl (by kernel_rfl) (by kernel_rfl) (by kernel_rfl) (fun _ _ _ h => h) (Or.inl ⟨by rfl, ?_⟩) hb21 ?_
      rotate_left
      · intro w hSw; (go_simp; try with_reducible rfl)
      simp only [Act.put, List.setIfInBounds_toArray, List.set_cons_zero, List.set_cons_succ]
      refine wpAnyH_ready (rs := [8, 10, 11]) (by kernel_rfl) (by simp) ?_
      refine AllReadyH.cons (o := ⟨some 44, _, _, _, _, _⟩) rfl (fun K hK => ?_) ?_
      · go_simp
        refine (HBK.out y_ _).mono ?_
        rintro e wn22 ⟨vv8, rfl, hv22, hbn22⟩
        have hb22 : Below w4.heap.size w4 wn22 := hb21.trans (hbn22.mono hb21.size)
        have o3_22 := own_below o3_21 hbn22
        have o8_22 := own_base hv22 hb21.size
        clear o3_21 hv22 hbn22
        obtain ⟨gg8, cc8, rfl, -⟩ := own_slice' o8_22
        refine hK.out _ _ hb22 (fun _ => ?_)
        clear hK K
        refine wpAnyH_take (i := 9) (oi := ⟨some 45, _, _, _, _, _⟩) (v := ?_) rfl (by kernel_rfl) (by kernel_rfl) (by kernel_rfl) (fun _ _ _ h => h) (Or.inl ⟨by rfl, ?_⟩) hb22 ?_
        rotate_left
        · intro w hSw; (go_simp; try with_reducible rfl)
        simp only [Act.put, List.setIfInBounds_toArray, List.set_cons_zero, List.set_cons_succ]
        refine wpAnyH_ready (rs := [10, 11]) (by kernel_rfl) (by simp) ?_
        refine AllReadyH.cons (o := ⟨some 16, _, _, _, _, _⟩) rfl (fun K hK => ?_) ?_
        · go_simp
          have hst23 := one_below wn22 (.cells #[.int .i64 0, .int .i64 0, .slice none 0 0] 59)
          have zn23 := zrec_new wn22
          have l10 : w4.heap.size ≤ wn22.heap.size := hb22.size
          have s3_10 := cut_apart2 o3_22 (Nat.le_refl _)
          have s8_10 := cut_apart2 o8_22 (Nat.le_refl _)
          have hb23 : Below w4.heap.size w4 (wn22.alloc (.cells #[.int .i64 0, .int .i64 0, .slice none 0 0] 59)) := hb22.trans (hst23.mono hb22.size)
          have o3_23 := own_below o3_22 hst23
          have o8_23 := own_below o8_22 hst23
          clear o3_22 o8_22 hst23 hb22
          generalize wn22.alloc (.cells #[.int .i64 0, .int .i64 0, .slice none 0 0] 59) = wa23 at *
          generalize wn22.heap.size = bz10 at *
          refine hK.out _ _ hb23 (fun _ => ?_)
          clear hK K
          refine wpAnyH_ready (rs := [11]) (by kernel_rfl) (by simp) ?_
          refine AllReadyH.cons (o := ⟨some 17, _, _, _, _, _⟩) rfl (fun K hK => ?_) ?_
          · go_simp
            have hst24 := one_below wa23 (.cells #[.int .i64 0, .int .i64 0, .slice none 0 0] 59)
            have zn24 := zrec_new wa23
            have l11 : w4.heap.size ≤ wa23.heap.size := hb23.size
            have s3_11 := cut_apart2 o3_23 (Nat.le_refl _)
            have s8_11 := cut_apart2 o8_23 (Nat.le_refl _)
            have ne : bz10 ≠ wa23.heap.size := by have := zn23.lt; omega
            have hb24 : Below w4.heap.size w4 (wa23.alloc (.cells #[.int .i64 0, .int .i64 0, .slice none 0 0] 59)) := hb23.trans (hst24.mono hb23.size)
            have z10_24 := zn23.below hst24
            have o3_24 := own_below o3_23 hst24
            have o8_24 := own_below o8_23 hst24
            clear zn23 o3_23 o8_23 hst24 hb23
            generalize wa23.alloc (.cells #[.int .i64 0, .int .i64 0, .slice none 0 0] 59) = wa24 at *
            generalize wa23.heap.size = bz11 at *
            refine hK.out _ _ hb24 (fun _ => ?_)
            clear hK K
            refine wpAnyH_ready (rs := [12]) (by kernel_rfl) (by simp) ?_
            refine AllReadyH.cons (o := ⟨none, _, _, _, _, _⟩) rfl (fun K hK => ?_) ?_
            · refine step_store_rec (o := ⟨none, _, _, _, _, _⟩) rfl (.tmp 16) (.tmp 40) rfl bz10 rfl 5 0 _ rfl z10_24 ⟨_, _, _, rfl⟩ ?_
              refine hK.out _ _ (setRow_below hb24 l10 _) (fun _ => ?_)
              clear hK K
              refine wpAnyH_ready (rs := [13]) (by kernel_rfl) (by simp) ?_
              refine AllReadyH.cons (o := ⟨none, _, _, _, _, _⟩) rfl (fun K hK => ?_) ?_
              · refine step_store_rec (o := ⟨none, _, _, _, _, _⟩) rfl (.tmp 17) (.tmp 45) rfl bz11 rfl 6 1 _ rfl (zn24.other (Ne.symm ne) _) ⟨_, _, _, rfl⟩ ?_
                refine hK.out _ _ (setRow_below (setRow_below hb24 l10 _) l11 _) (fun _ => ?_)
                clear hK K
                refine wpAnyH_done (by kernel_rfl) ?_ _
                refine NoPanic.normal ?_
                go_wp2_with fail
                go_meet
                exact ⟨bz10, bz11, _, _, rfl, rfl, HJ4.out.below (setRow_below (setRow_below hb24 l10 _) l11 _), two_recs (x := lawR 5 0 a_ K) (y := lawR 6 1 y_ K) (lawR_is _ _ _ _) (lawR_is _ _ _ _) z10_24 zn24 l10 l11 ne o3_24 o8_24 s3_10 s3_11 s8_10 s8_11⟩
              exact AllReadyH.nil
            exact AllReadyH.nil
          exact AllReadyH.nil
        refine AllReadyH.cons (o := ⟨some 17, _, _, _, _, _⟩) rfl (fun K hK => ?_) ?_
        · go_simp
          have hst23 := one_below wn22 (.cells #[.int .i64 0, .int .i64 0, .slice none 0 0] 59)
          have zn23 := zrec_new wn22
          have l11 : w4.heap.size ≤ wn22.heap.size := hb22.size
          have s3_11 := cut_apart2 o3_22 (Nat.le_refl _)
          have s8_11 := cut_apart2 o8_22 (Nat.le_refl _)
          have hb23 : Below w4.heap.size w4 (wn22.alloc (.cells #[.int .i64 0, .int .i64 0, .slice none 0 0] 59)) := hb22.trans (hst23.mono hb22.size)
          have o3_23 := own_below o3_22 hst23
          have o8_23 := own_below o8_22 hst23
          clear o3_22 o8_22 hst23 hb22
          generalize wn22.alloc (.cells #[.int .i64 0, .int .i64 0, .slice none 0 0] 59) = wa23 at *
          generalize wn22.heap.size = bz11 at *
          refine hK.out _ _ hb23 (fun _ => ?_)
          clear hK K
          refine wpAnyH_ready (rs := [10]) (by kernel_rfl) (by simp) ?_
          refine AllReadyH.cons (o := ⟨some 16, _, _, _, _, _⟩) rfl (fun K hK => ?_) ?_
          · go_simp
            have hst24 := one_below wa23 (.cells #[.int .i64 0, .int .i64 0, .slice none 0 0] 59)
            have zn24 := zrec_new wa23
            have l10 : w4.heap.size ≤ wa23.heap.size := hb23.size
            have s3_10 := cut_apart2 o3_23 (Nat.le_refl _)
            have s8_10 := cut_apart2 o8_23 (Nat.le_refl _)
            have ne : bz11 ≠ wa23.heap.size := by have := zn23.lt; omega
            have hb24 : Below w4.heap.size w4 (wa23.alloc (.cells #[.int .i64 0, .int .i64 0, .slice none 0 0] 59)) := hb23.trans (hst24.mono hb23.size)
            have z11_24 := zn23.below hst24
            have o3_24 := own_below o3_23 hst24
            have o8_24 := own_below o8_23 hst24
            clear zn23 o3_23 o8_23 hst24 hb23
            generalize wa23.alloc (.cells #[.int .i64 0, .int .i64 0, .slice none 0 0] 59) = wa24 at *
            generalize wa23.heap.size = bz10 at *
            refine hK.out _ _ hb24 (fun _ => ?_)
            clear hK K
            refine wpAnyH_ready (rs := [12]) (by kernel_rfl) (by simp) ?_
            refine AllReadyH.cons (o := ⟨none, _, _, _, _, _⟩) rfl (fun K hK => ?_) ?_
            · refine step_store_rec (o := ⟨none, _, _, _, _, _⟩) rfl (.tmp 16) (.tmp 40) rfl bz10 rfl 5 0 _ rfl zn24 ⟨_, _, _, rfl⟩ ?_
              refine hK.out _ _ (setRow_below hb24 l10 _) (fun _ => ?_)
              clear hK K
              refine wpAnyH_ready (rs := [13]) (by kernel_rfl) (by simp) ?_
              refine AllReadyH.cons (o := ⟨none, _, _, _, _, _⟩) rfl (fun K hK => ?_) ?_
              · refine step_store_rec (o := ⟨none, _, _, _, _, _⟩) rfl (.tmp 17) (.tmp 45) rfl bz11 rfl 6 1 _ rfl (z11_24.other ne _) ⟨_, _, _, rfl⟩ ?_
                refine hK.out _ _ (setRow_below (setRow_below hb24 l10 _) l11 _) (fun _ => ?_)
                clear hK K
                refine wpAnyH_done (by kernel_rfl) ?_ _
                refine NoPanic.normal ?_
                go_wp2_with fail
                go_meet
                exact ⟨bz10, bz11, _, _, rfl, rfl, HJ4.out.below (setRow_below (setRow_below hb24 l10 _) l11 _), two_recs (x := lawR 5 0 a_ K) (y := lawR 6 1 y_ K) (lawR_is _ _ _ _) (lawR_is _ _ _ _) zn24 z11_24 l10 l11 (Ne.symm ne) o3_24 o8_24 s3_10 s3_11 s8_10 s8_11⟩
              exact AllReadyH.nil
            exact AllReadyH.nil
          exact AllReadyH.nil
        exact AllReadyH.nil
      refine AllReadyH.cons (o := ⟨some 16, _, _, _, _, _⟩) rfl (fun K hK => ?_) ?_
      · go_simp
        have hst22 := one_below wn21 (.cells #[.int .i64 0, .int .i64 0, .slice none 0 0] 59)
        have zn22 := zrec_new wn21
        have l10 : w4.heap.size ≤ wn21.heap.size := hb21.size
        have s3_10 := cut_apart2 o3_21 (Nat.le_refl _)
        have hb22 : Below w4.heap.size w4 (wn21.alloc (.cells #[.int .i64 0, .int .i64 0, .slice none 0 0] 59)) := hb21.trans (hst22.mono hb21.size)
        have o3_22 := own_below o3_21 hst22
        clear o3_21 hst22 hb21
        generalize wn21.alloc (.cells #[.int .i64 0, .int .i64 0, .slice none 0 0] 59) = wa22 at *
        generalize wn21.heap.size = bz10 at *
        refine hK.out _ _ hb22 (fun _ => ?_)
        clear hK K
        refine wpAnyH_ready (rs := [8, 11]) (by kernel_rfl) (by simp) ?_
        refine AllReadyH.cons (o := ⟨some 44, _, _, _, _, _⟩) rfl (fun K hK => ?_) ?_
        · go_simp
          refine (HBK.out y_ _).mono ?_
          rintro e wn23 ⟨vv8, rfl, hv23, hbn23⟩
          have s8_10 := cut_apart hv23 zn22.lt
          have hb23 : Below w4.heap.size w4 wn23 := hb22.trans (hbn23.mono hb22.size)
          have z10_23 := zn22.below hbn23
          have o3_23 := own_below o3_22 hbn23
          have o8_23 := own_base hv23 hb22.size
          clear zn22 o3_22 hv23 hbn23
          obtain ⟨gg8, cc8, rfl, -⟩ := own_slice' o8_23
          refine hK.out _ _ hb23 (fun _ => ?_)
          clear hK K
          refine wpAnyH_take (i := 9) (oi := ⟨some 45, _, _, _, _, _⟩) (v := ?_) rfl (by kernel_rfl) (by kernel_rfl) (by kernel_rfl) (fun _ _ _ h => h) (Or.inl ⟨by rfl, ?_⟩) hb23 ?_
          rotate_left
          · intro w hSw; (go_simp; try with_reducible rfl)
          simp only [Act.put, List.setIfInBounds_toArray, List.set_cons_zero, List.set_cons_succ]
          refine wpAnyH_ready (rs := [11]) (by kernel_rfl) (by simp) ?_
          refine AllReadyH.cons (o := ⟨some 17, _, _, _, _, _⟩) rfl (fun K hK => ?_) ?_
          · go_simp
            have hst24 := one_below wn23 (.cells #[.int .i64 0, .int .i64 0, .slice none 0 0] 59)
            have zn24 := zrec_new wn23
            have l11 : w4.heap.size ≤ wn23.heap.size := hb23.size
            have s3_11 := cut_apart2 o3_23 (Nat.le_refl _)
            have s8_11 := cut_apart2 o8_23 (Nat.le_refl _)
            have ne : bz10 ≠ wn23.heap.size := by have := z10_23.lt; omega
            have hb24 : Below w4.heap.size w4 (wn23.alloc (.cells #[.int .i64 0, .int .i64 0, .slice none 0 0] 59)) := hb23.trans (hst24.mono hb23.size)
            have z10_24 := z10_23.below hst24
            have o3_24 := own_below o3_23 hst24
            have o8_24 := own_below o8_23 hst24
            clear z10_23 o3_23 o8_23 hst24 hb23
            generalize wn23.alloc (.cells #[.int .i64 0, .int .i64 0, .slice none 0 0] 59) = wa24 at *
            generalize wn23.heap.size = bz11 at *
            refine hK.out _ _ hb24 (fun _ => ?_)
            clear hK K
            refine wpAnyH_ready (rs := [12]) (by kernel_rfl) (by simp) ?_
            refine AllReadyH.cons (o := ⟨none, _, _, _, _, _⟩) rfl (fun K hK => ?_) ?_
            · refine step_store_rec (o := ⟨none, _, _, _, _, _⟩) rfl (.tmp 16) (.tmp 40) rfl bz10 rfl 5 0 _ rfl z10_24 ⟨_, _, _, rfl⟩ ?_
              refine hK.out _ _ (setRow_below hb24 l10 _) (fun _ => ?_)
              clear hK K
              refine wpAnyH_ready (rs := [13]) (by kernel_rfl) (by simp) ?_
              refine AllReadyH.cons (o := ⟨none, _, _, _, _, _⟩) rfl (fun K hK => ?_) ?_
              · refine step_store_rec (o := ⟨none, _, _, _, _, _⟩) rfl (.tmp 17) (.tmp 45) rfl bz11 rfl 6 1 _ rfl (zn24.other (Ne.symm ne) _) ⟨_, _, _, rfl⟩ ?_
                refine hK.out _ _ (setRow_below (setRow_below hb24 l10 _) l11 _) (fun _ => ?_)
                clear hK K
                refine wpAnyH_done (by kernel_rfl) ?_ _
                refine NoPanic.normal ?_
                go_wp2_with fail
                go_meet
                exact ⟨bz10, bz11, _, _, rfl, rfl, HJ4.out.below (setRow_below (setRow_below hb24 l10 _) l11 _), two_recs (x := lawR 5 0 a_ K) (y := lawR 6 1 y_ K) (lawR_is _ _ _ _) (lawR_is _ _ _ _) z10_24 zn24 l10 l11 ne o3_24 o8_24 s3_10 s3_11 s8_10 s8_11⟩
              exact AllReadyH.nil
            exact AllReadyH.nil
          exact AllReadyH.nil
        refine AllReadyH.cons (o := ⟨some 17, _, _, _, _, _⟩) rfl (fun K hK => ?_) ?_
        · go_simp
          have hst23 := one_below wa22 (.cells #[.int .i64 0, .int .i64 0, .slice none 0 0] 59)
          have zn23 := zrec_new wa22
          have l11 : w4.heap.size ≤ wa22.heap.size := hb22.size
          have s3_11 := cut_apart2 o3_22 (Nat.le_refl _)
          have ne : bz10 ≠ wa22.heap.size := by have := zn22.lt; omega
          have hb23 : Below w4.heap.size w4 (wa22.alloc (.cells #[.int .i64 0, .int .i64 0, .slice none 0 0] 59)) := hb22.trans (hst23.mono hb22.size)
          have z10_23 := zn22.below hst23
          have o3_23 := own_below o3_22 hst23
          clear zn22 o3_22 hst23 hb22
          generalize wa22.alloc (.cells #[.int .i64 0, .int .i64 0, .slice none 0 0] 59) = wa23 at *
          generalize wa22.heap.size = bz11 at *
          refine hK.out _ _ hb23 (fun _ => ?_)
          clear hK K
          refine wpAnyH_ready (rs := [8]) (by kernel_rfl) (by simp) ?_
          refine AllReadyH.cons (o := ⟨some 44, _, _, _, _, _⟩) rfl (fun K hK => ?_) ?_
          · go_simp
            refine (HBK.out y_ _).mono ?_
            rintro e wn24 ⟨vv8, rfl, hv24, hbn24⟩
            have s8_10 := cut_apart hv24 z10_23.lt
            have s8_11 := cut_apart hv24 zn23.lt
            have hb24 : Below w4.heap.size w4 wn24 := hb23.trans (hbn24.mono hb23.size)
            have z10_24 := z10_23.below hbn24
            have z11_24 := zn23.below hbn24
            have o3_24 := own_below o3_23 hbn24
            have o8_24 := own_base hv24 hb23.size
            clear z10_23 zn23 o3_23 hv24 hbn24
            obtain ⟨gg8, cc8, rfl, -⟩ := own_slice' o8_24
            refine hK.out _ _ hb24 (fun _ => ?_)
            clear hK K
            refine wpAnyH_take (i := 9) (oi := ⟨some 45, _, _, _, _, _⟩) (v := ?_) rfl (by kernel_rfl) (by kernel_rfl) (by kernel_rfl) (fun _ _ _ h => h) (Or.inl ⟨by rfl, ?_⟩) hb24 ?_
            rotate_left
            · intro w hSw; (go_simp; try with_reducible rfl)
            simp only [Act.put, List.setIfInBounds_toArray, List.set_cons_zero, List.set_cons_succ]
            refine wpAnyH_ready (rs := [12]) (by kernel_rfl) (by simp) ?_
            refine AllReadyH.cons (o := ⟨none, _, _, _, _, _⟩) rfl (fun K hK => ?_) ?_
            · refine step_store_rec (o := ⟨none, _, _, _, _, _⟩) rfl (.tmp 16) (.tmp 40) rfl bz10 rfl 5 0 _ rfl z10_24 ⟨_, _, _, rfl⟩ ?_
              refine hK.out _ _ (setRow_below hb24 l10 _) (fun _ => ?_)
              clear hK K
              refine wpAnyH_ready (rs := [13]) (by kernel_rfl) (by simp) ?_
              refine AllReadyH.cons (o := ⟨none, _, _, _, _, _⟩) rfl (fun K hK => ?_) ?_
              · refine step_store_rec (o := ⟨none, _, _, _, _, _⟩) rfl (.tmp 17) (.tmp 45) rfl bz11 rfl 6 1 _ rfl (z11_24.other (Ne.symm ne) _) ⟨_, _, _, rfl⟩ ?_
                refine hK.out _ _ (setRow_below (setRow_below hb24 l10 _) l11 _) (fun _ => ?_)
                clear hK K
                refine wpAnyH_done (by kernel_rfl) ?_ _
                refine NoPanic.normal ?_
                go_wp2_with fail
                go_meet
                exact ⟨bz10, bz11, _, _, rfl, rfl, HJ4.out.below (setRow_below (setRow_below hb24 l10 _) l11 _), two_recs (x := lawR 5 0 a_ K) (y := lawR 6 1 y_ K) (lawR_is _ _ _ _) (lawR_is _ _ _ _) z10_24 z11_24 l10 l11 ne o3_24 o8_24 s3_10 s3_11 s8_10 s8_11⟩
              exact AllReadyH.nil
            exact AllReadyH.nil
          exact AllReadyH.nil
        exact AllReadyH.nil
      refine AllReadyH.cons (o := ⟨some 17, _, _, _, _, _⟩) rfl (fun K hK => ?_) ?_
      · go_simp
        have hst22 := one_below wn21 (.cells #[.int .i64 0, .int .i64 0, .slice none 0 0] 59)
        have zn22 := zrec_new wn21
        have l11 : w4.heap.size ≤ wn21.heap.size := hb21.size
        have s3_11 := cut_apart2 o3_21 (Nat.le_refl _)
        have hb22 : Below w4.heap.size w4 (wn21.alloc (.cells #[.int .i64 0, .int .i64 0, .slice none 0 0] 59)) := hb21.trans (hst22.mono hb21.size)
        have o3_22 := own_below o3_21 hst22
        clear o3_21 hst22 hb21
        generalize wn21.alloc (.cells #[.int .i64 0, .int .i64 0, .slice none 0 0] 59) = wa22 at *
        generalize wn21.heap.size = bz11 at *
        refine hK.out _ _ hb22 (fun _ => ?_)
        clear hK K
        refine wpAnyH_ready (rs := [8, 10]) (by kernel_rfl) (by simp) ?_
        refine AllReadyH.cons (o := ⟨some 44, _, _, _, _, _⟩) rfl (fun K hK => ?_) ?_
        · go_simp
          refine (HBK.out y_ _).mono ?_
          rintro e wn23 ⟨vv8, rfl, hv23, hbn23⟩
          have s8_11 := cut_apart hv23 zn22.lt
          have hb23 : Below w4.heap.size w4 wn23 := hb22.trans (hbn23.mono hb22.size)
          have z11_23 := zn22.below hbn23
          have o3_23 := own_below o3_22 hbn23
          have o8_23 := own_base hv23 hb22.size
          clear zn22 o3_22 hv23 hbn23
          obtain ⟨gg8, cc8, rfl, -⟩ := own_slice' o8_23
          refine hK.out _ _ hb23 (fun _ => ?_)
          clear hK K
          refine wpAnyH_take (i := 9) (oi := ⟨some 45, _, _, _, _, _⟩) (v := ?_) rfl (by kernel_rfl) (by kernel_rfl) (by kernel_rfl) (fun _ _ _ h => h) (Or.inl ⟨by rfl, ?_⟩) hb23 ?_
          rotate_left
          · intro w hSw; (go_simp; try with_reducible rfl)
          simp only [Act.put, List.setIfInBounds_toArray, List.set_cons_zero, List.set_cons_succ]
          refine wpAnyH_ready (rs := [10]) (by kernel_rfl) (by simp) ?_
          refine AllReadyH.cons (o := ⟨some 16, _, _, _, _, _⟩) rfl (fun K hK => ?_) ?_
          · go_simp
            have hst24 := one_below wn23 (.cells #[.int .i64 0, .int .i64 0, .slice none 0 0] 59)
            have zn24 := zrec_new wn23
            have l10 : w4.heap.size ≤ wn23.heap.size := hb23.size
            have s3_10 := cut_apart2 o3_23 (Nat.le_refl _)
            have s8_10 := cut_apart2 o8_23 (Nat.le_refl _)
            have ne : bz11 ≠ wn23.heap.size := by have := z11_23.lt; omega
            have hb24 : Below w4.heap.size w4 (wn23.alloc (.cells #[.int .i64 0, .int .i64 0, .slice none 0 0] 59)) := hb23.trans (hst24.mono hb23.size)
            have z11_24 := z11_23.below hst24
            have o3_24 := own_below o3_23 hst24
            have o8_24 := own_below o8_23 hst24
            clear z11_23 o3_23 o8_23 hst24 hb23
            generalize wn23.alloc (.cells #[.int .i64 0, .int .i64 0, .slice none 0 0] 59) = wa24 at *
            generalize wn23.heap.size = bz10 at *
            refine hK.out _ _ hb24 (fun _ => ?_)
            clear hK K
            refine wpAnyH_ready (rs := [12]) (by kernel_rfl) (by simp) ?_
            refine AllReadyH.cons (o := ⟨none, _, _, _, _, _⟩) rfl (fun K hK => ?_) ?_
            · refine step_store_rec (o := ⟨none, _, _, _, _, _⟩) rfl (.tmp 16) (.tmp 40) rfl bz10 rfl 5 0 _ rfl zn24 ⟨_, _, _, rfl⟩ ?_
              refine hK.out _ _ (setRow_below hb24 l10 _) (fun _ => ?_)
              clear hK K
              refine wpAnyH_ready (rs := [13]) (by kernel_rfl) (by simp) ?_
              refine AllReadyH.cons (o := ⟨none, _, _, _, _, _⟩) rfl (fun K hK => ?_) ?_
              · refine step_store_rec (o := ⟨none, _, _, _, _, _⟩) rfl (.tmp 17) (.tmp 45) rfl bz11 rfl 6 1 _ rfl (z11_24.other ne _) ⟨_, _, _, rfl⟩ ?_
                refine hK.out _ _ (setRow_below (setRow_below hb24 l10 _) l11 _) (fun _ => ?_)
                clear hK K
                refine wpAnyH_done (by kernel_rfl) ?_ _
                refine NoPanic.normal ?_
                go_wp2_with fail
                go_meet
                exact ⟨bz10, bz11, _, _, rfl, rfl, HJ4.out.below (setRow_below (setRow_below hb24 l10 _) l11 _), two_recs (x := lawR 5 0 a_ K) (y := lawR 6 1 y_ K) (lawR_is _ _ _ _) (lawR_is _ _ _ _) zn24 z11_24 l10 l11 (Ne.symm ne) o3_24 o8_24 s3_10 s3_11 s8_10 s8_11⟩
              exact AllReadyH.nil
            exact AllReadyH.nil
          exact AllReadyH.nil
        refine AllReadyH.cons (o := ⟨some 16, _, _, _, _, _⟩) rfl (fun K hK => ?_) ?_
        · go_simp
          have hst23 := one_below wa22 (.cells #[.int .i64 0, .int .i64 0, .slice none 0 0] 59)
          have zn23 := zrec_new wa22
          have l10 : w4.heap.size ≤ wa22.heap.size := hb22.size
          have s3_10 := cut_apart2 o3_22 (Nat.le_refl _)
          have ne : bz11 ≠ wa22.heap.size := by have := zn22.lt; omega
          have hb23 : Below w4.heap.size w4 (wa22.alloc (.cells #[.int .i64 0, .int .i64 0, .slice none 0 0] 59)) := hb22.trans (hst23.mono hb22.size)
          have z11_23 := zn22.below hst23
          have o3_23 := own_below o3_22 hst23
          clear zn22 o3_22 hst23 hb22
          generalize wa22.alloc (.cells #[.int .i64 0, .int .i64 0, .slice none 0 0] 59) = wa23 at *
          generalize wa22.heap.size = bz10 at *
          refine hK.out _ _ hb23 (fun _ => ?_)
          clear hK K
          refine wpAnyH_ready (rs := [8]) (by kernel_rfl) (by simp) ?_
          refine AllReadyH.cons (o := ⟨some 44, _, _, _, _, _⟩) rfl (fun K hK => ?_) ?_
          · go_simp
            refine (HBK.out y_ _).mono ?_
            rintro e wn24 ⟨vv8, rfl, hv24, hbn24⟩
            have s8_11 := cut_apart hv24 z11_23.lt
            have s8_10 := cut_apart hv24 zn23.lt
            have hb24 : Below w4.heap.size w4 wn24 := hb23.trans (hbn24.mono hb23.size)
            have z11_24 := z11_23.below hbn24
            have z10_24 := zn23.below hbn24
            have o3_24 := own_below o3_23 hbn24
            have o8_24 := own_base hv24 hb23.size
            clear z11_23 zn23 o3_23 hv24 hbn24
            obtain ⟨gg8, cc8, rfl, -⟩ := own_slice' o8_24
            refine hK.out _ _ hb24 (fun _ => ?_)
            clear hK K
            refine wpAnyH_take (i := 9) (oi := ⟨some 45, _, _, _, _, _⟩) (v := ?_) rfl (by kernel_rfl) (by kernel_rfl) (by kernel_rfl) (fun _ _ _ h => h) (Or.inl ⟨by rfl, ?_⟩) hb24 ?_
            rotate_left
            · intro w hSw; (go_simp; try with_reducible rfl)
            simp only [Act.put, List.setIfInBounds_toArray, List.set_cons_zero, List.set_cons_succ]
            refine wpAnyH_ready (rs := [12]) (by kernel_rfl) (by simp) ?_
            refine AllReadyH.cons (o := ⟨none, _, _, _, _, _⟩) rfl (fun K hK => ?_) ?_
            · refine step_store_rec (o := ⟨none, _, _, _, _, _⟩) rfl (.tmp 16) (.tmp 40) rfl bz10 rfl 5 0 _ rfl z10_24 ⟨_, _, _, rfl⟩ ?_
              refine hK.out _ _ (setRow_below hb24 l10 _) (fun _ => ?_)
              clear hK K
              refine wpAnyH_ready (rs := [13]) (by kernel_rfl) (by simp) ?_
              refine AllReadyH.cons (o := ⟨none, _, _, _, _, _⟩) rfl (fun K hK => ?_) ?_
              · refine step_store_rec (o := ⟨none, _, _, _, _, _⟩) rfl (.tmp 17) (.tmp 45) rfl bz11 rfl 6 1 _ rfl (z11_24.other ne _) ⟨_, _, _, rfl⟩ ?_
                refine hK.out _ _ (setRow_below (setRow_below hb24 l10 _) l11 _) (fun _ => ?_)
                clear hK K
                refine wpAnyH_done (by kernel_rfl) ?_ _
                refine NoPanic.normal ?_
                go_wp2_with fail
                go_meet
                exact ⟨bz10, bz11, _, _, rfl, rfl, HJ4.out.below (setRow_below (setRow_below hb24 l10 _) l11 _), two_recs (x := lawR 5 0 a_ K) (y := lawR 6 1 y_ K) (lawR_is _ _ _ _) (lawR_is _ _ _ _) z10_24 z11_24 l10 l11 (Ne.symm ne) o3_24 o8_24 s3_10 s3_11 s8_10 s8_11⟩
              exact AllReadyH.nil
            exact AllReadyH.nil
          exact AllReadyH.nil
        exact AllReadyH.nil
      exact AllReadyH.nil
    refine AllReadyH.cons (o := ⟨some 16, _, _, _, _, _⟩) rfl (fun K hK => ?_) ?_
    · go_simp
      have hst21 := one_below w5 (.cells #[.int .i64 0, .int .i64 0, .slice none 0 0] 59)
      have zn21 := zrec_new w5
      have l10 : w4.heap.size ≤ w5.heap.size := hHeld.size
      have hb21 : Below w4.heap.size w4 (w5.alloc (.cells #[.int .i64 0, .int .i64 0, .slice none 0 0] 59)) := hHeld.trans (hst21.mono hHeld.size)
      clear hst21
      generalize w5.alloc (.cells #[.int .i64 0, .int .i64 0, .slice none 0 0] 59) = wa21 at *
      generalize w5.heap.size = bz10 at *
      refine hK.out _ _ hb21 (fun _ => ?_)
      clear hK K
      refine wpAnyH_ready (rs := [3, 11]) (by kernel_rfl) (by simp) ?_
      refine AllReadyH.cons (o := ⟨some 39, _, _, _, _, _⟩) rfl (fun K hK => ?_) ?_
      · go_simp
        refine (HBK.out a_ _).mono ?_
        rintro e wn22 ⟨vv3, rfl, hv22, hbn22⟩
        have s3_10 := cut_apart hv22 zn21.lt
        have hb22 : Below w4.heap.size w4 wn22 := hb21.trans (hbn22.mono hb21.size)
        have z10_22 := zn21.below hbn22
        have o3_22 := own_base hv22 hb21.size
        clear zn21 hv22 hbn22
        obtain ⟨gg3, cc3, rfl, -⟩ := own_slice' o3_22
        refine hK.out _ _ hb22 (fun _ => ?_)
        clear hK K
        refine wpAnyH_take (i := 4) (oi := ⟨some 40, _, _, _, _, _⟩) (v := ?_) rfl (by kernel_rfl) (by kernel_rfl) (by kernel_rfl) (fun _ _ _ h => h) (Or.inl ⟨by rfl, ?_⟩) hb22 ?_
        rotate_left
        · intro w hSw; (go_simp; try with_reducible rfl)
        simp only [Act.put, List.setIfInBounds_toArray, List.set_cons_zero, List.set_cons_succ]
        refine wpAnyH_ready (rs := [8, 11]) (by kernel_rfl) (by simp) ?_
        refine AllReadyH.cons (o := ⟨some 44, _, _, _, _, _⟩) rfl (fun K hK => ?_) ?_
        · go_simp
          refine (HBK.out y_ _).mono ?_
          rintro e wn23 ⟨vv8, rfl, hv23, hbn23⟩
          have s8_10 := cut_apart hv23 z10_22.lt
          have hb23 : Below w4.heap.size w4 wn23 := hb22.trans (hbn23.mono hb22.size)
          have z10_23 := z10_22.below hbn23
          have o3_23 := own_below o3_22 hbn23
          have o8_23 := own_base hv23 hb22.size
          clear z10_22 o3_22 hv23 hbn23
          obtain ⟨gg8, cc8, rfl, -⟩ := own_slice' o8_23
          refine hK.out _ _ hb23 (fun _ => ?_)
          clear hK K
          refine wpAnyH_take (i := 9) (oi := ⟨some 45, _, _, _, _, _⟩) (v := ?_) rfl (by kernel_rfl) (by kernel_rfl) (by kernel_rfl) (fun _ _ _ h => h) (Or.inl ⟨by rfl, ?_⟩) hb23 ?_
          rotate_left
          · intro w hSw; (go_simp; try with_reducible rfl)
          simp only [Act.put, List.setIfInBounds_toArray, List.set_cons_zero, List.set_cons_succ]
          refine wpAnyH_ready (rs := [11]) (by kernel_rfl) (by simp) ?_
          refine AllReadyH.cons (o := ⟨some 17, _, _, _, _, _⟩) rfl (fun K hK => ?_) ?_
          · go_simp
            have hst24 := one_below wn23 (.cells #[.int .i64 0, .int .i64 0, .slice none 0 0] 59)
            have zn24 := zrec_new wn23
            have l11 : w4.heap.size ≤ wn23.heap.size := hb23.size
            have s3_11 := cut_apart2 o3_23 (Nat.le_refl _)
            have s8_11 := cut_apart2 o8_23 (Nat.le_refl _)
            have ne : bz10 ≠ wn23.heap.size := by have := z10_23.lt; omega
            have hb24 : Below w4.heap.size w4 (wn23.alloc (.cells #[.int .i64 0, .int .i64 0, .slice none 0 0] 59)) := hb23.trans (hst24.mono hb23.size)
            have z10_24 := z10_23.below hst24
            have o3_24 := own_below o3_23 hst24
            have o8_24 := own_below o8_23 hst24
            clear z10_23 o3_23 o8_23 hst24 hb23
            generalize wn23.alloc (.cells #[.int .i64 0, .int .i64 0, .slice none 0 0] 59) = wa24 at *
            generalize wn23.heap.size = bz11 at *
            refine hK.out _ _ hb24 (fun _ => ?_)
            clear hK K
            refine wpAnyH_ready (rs := [12]) (by kernel_rfl) (by simp) ?_
            refine AllReadyH.cons (o := ⟨none, _, _, _, _, _⟩) rfl (fun K hK => ?_) ?_
            · refine step_store_rec (o := ⟨none, _, _, _, _, _⟩) rfl (.tmp 16) (.tmp 40) rfl bz10 rfl 5 0 _ rfl z10_24 ⟨_, _, _, rfl⟩ ?_
              refine hK.out _ _ (setRow_below hb24 l10 _) (fun _ => ?_)
              clear hK K
              refine wpAnyH_ready (rs := [13]) (by kernel_rfl) (by simp) ?_
              refine AllReadyH.cons (o := ⟨none, _, _, _, _, _⟩) rfl (fun K hK => ?_) ?_
              · refine step_store_rec (o := ⟨none, _, _, _, _, _⟩) rfl (.tmp 17) (.tmp 45) rfl bz11 rfl 6 1 _ rfl (zn24.other (Ne.symm ne) _) ⟨_, _, _, rfl⟩ ?_
                refine hK.out _ _ (setRow_below (setRow_below hb24 l10 _) l11 _) (fun _ => ?_)
                clear hK K
                refine wpAnyH_done (by kernel_rfl) ?_ _
                refine NoPanic.normal ?_
                go_wp2_with fail
                go_meet
                exact ⟨bz10, bz11, _, _, rfl, rfl, HJ4.out.below (setRow_below (setRow_below hb24 l10 _) l11 _), two_recs (x := lawR 5 0 a_ K) (y := lawR 6 1 y_ K) (lawR_is _ _ _ _) (lawR_is _ _ _ _) z10_24 zn24 l10 l11 ne o3_24 o8_24 s3_10 s3_11 s8_10 s8_11⟩
              exact AllReadyH.nil
            exact AllReadyH.nil
          exact AllReadyH.nil
        refine AllReadyH.cons (o := ⟨some 17, _, _, _, _, _⟩) rfl (fun K hK => ?_) ?_
        · go_simp
          have hst23 := one_below wn22 (.cells #[.int .i64 0, .int .i64 0, .slice none 0 0] 59)
          have zn23 := zrec_new wn22
          have l11 : w4.heap.size ≤ wn22.heap.size := hb22.size
          have s3_11 := cut_apart2 o3_22 (Nat.le_refl _)
          have ne : bz10 ≠ wn22.heap.size := by have := z10_22.lt; omega
          have hb23 : Below w4.heap.size w4 (wn22.alloc (.cells #[.int .i64 0, .int .i64 0, .slice none 0 0] 59)) := hb22.trans (hst23.mono hb22.size)
          have z10_23 := z10_22.below hst23
          have o3_23 := own_below o3_22 hst23
          clear z10_22 o3_22 hst23 hb22
          generalize wn22.alloc (.cells #[.int .i64 0, .int .i64 0, .slice none 0 0] 59) = wa23 at *
          generalize wn22.heap.size = bz11 at *
          refine hK.out _ _ hb23 (fun _ => ?_)
          clear hK K
          refine wpAnyH_ready (rs := [8]) (by kernel_rfl) (by simp) ?_
          refine AllReadyH.cons (o := ⟨some 44, _, _, _, _, _⟩) rfl (fun K hK => ?_) ?_
          · go_simp
            refine (HBK.out y_ _).mono ?_
            rintro e wn24 ⟨vv8, rfl, hv24, hbn24⟩
            have s8_10 := cut_apart hv24 z10_23.lt
            have s8_11 := cut_apart hv24 zn23.lt
            have hb24 : Below w4.heap.size w4 wn24 := hb23.trans (hbn24.mono hb23.size)
            have z10_24 := z10_23.below hbn24
            have z11_24 := zn23.below hbn24
            have o3_24 := own_below o3_23 hbn24
            have o8_24 := own_base hv24 hb23.size
            clear z10_23 zn23 o3_23 hv24 hbn24
            obtain ⟨gg8, cc8, rfl, -⟩ := own_slice' o8_24
            refine hK.out _ _ hb24 (fun _ => ?_)
            clear hK K
            refine wpAnyH_take (i := 9) (oi := ⟨some 45, _, _, _, _, _⟩) (v := ?_) rfl (by kernel_rfl) (by kernel_rfl) (by kernel_rfl) (fun _ _ _ h => h) (Or.inl ⟨by rfl, ?_⟩) hb24 ?_
            rotate_left
            · intro w hSw; (go_simp; try with_reducible rfl)
            simp only [Act.put, List.setIfInBounds_toArray, List.set_cons_zero, List.set_cons_succ]
            refine wpAnyH_ready (rs := [12]) (by kernel_rfl) (by simp) ?_
            refine AllReadyH.cons (o := ⟨none, _, _, _, _, _⟩) rfl (fun K hK => ?_) ?_
            · refine step_store_rec (o := ⟨none, _, _, _, _, _⟩) rfl (.tmp 16) (.tmp 40) rfl bz10 rfl 5 0 _ rfl z10_24 ⟨_, _, _, rfl⟩ ?_
              refine hK.out _ _ (setRow_below hb24 l10 _) (fun _ => ?_)
              clear hK K
              refine wpAnyH_ready (rs := [13]) (by kernel_rfl) (by simp) ?_
              refine AllReadyH.cons (o := ⟨none, _, _, _, _, _⟩) rfl (fun K hK => ?_) ?_
              · refine step_store_rec (o := ⟨none, _, _, _, _, _⟩) rfl (.tmp 17) (.tmp 45) rfl bz11 rfl 6 1 _ rfl (z11_24.other (Ne.symm ne) _) ⟨_, _, _, rfl⟩ ?_
                refine hK.out _ _ (setRow_below (setRow_below hb24 l10 _) l11 _) (fun _ => ?_)
                clear hK K
                refine wpAnyH_done (by kernel_rfl) ?_ _
                refine NoPanic.normal ?_
                go_wp2_with fail
                go_meet
                exact ⟨bz10, bz11, _, _, rfl, rfl, HJ4.out.below (setRow_below (setRow_below hb24 l10 _) l11 _), two_recs (x := lawR 5 0 a_ K) (y := lawR 6 1 y_ K) (lawR_is _ _ _ _) (lawR_is _ _ _ _) z10_24 z11_24 l10 l11 ne o3_24 o8_24 s3_10 s3_11 s8_10 s8_11⟩
              exact AllReadyH.nil
            exact AllReadyH.nil
          exact AllReadyH.nil
        exact AllReadyH.nil
      refine AllReadyH.cons (o := ⟨some 17, _, _, _, _, _⟩) rfl (fun K hK => ?_) ?_
      · go_simp
        have hst22 := one_below wa21 (.cells #[.int .i64 0, .int .i64 0, .slice none 0 0] 59)
        have zn22 := zrec_new wa21
        have l11 : w4.heap.size ≤ wa21.heap.size := hb21.size
        have ne : bz10 ≠ wa21.heap.size := by have := zn21.lt; omega
        have hb22 : Below w4.heap.size w4 (wa21.alloc (.cells #[.int .i64 0, .int .i64 0, .slice none 0 0] 59)) := hb21.trans (hst22.mono hb21.size)
        have z10_22 := zn21.below hst22
        clear zn21 hst22 hb21
        generalize wa21.alloc (.cells #[.int .i64 0, .int .i64 0, .slice none 0 0] 59) = wa22 at *
        generalize wa21.heap.size = bz11 at *
        refine hK.out _ _ hb22 (fun _ => ?_)
        clear hK K
        refine wpAnyH_ready (rs := [3]) (by kernel_rfl) (by simp) ?_
        refine AllReadyH.cons (o := ⟨some 39, _, _, _, _, _⟩) rfl (fun K hK => ?_) ?_
        · go_simp
          refine (HBK.out a_ _).mono ?_
          rintro e wn23 ⟨vv3, rfl, hv23, hbn23⟩
          have s3_10 := cut_apart hv23 z10_22.lt
          have s3_11 := cut_apart hv23 zn22.lt
          have hb23 : Below w4.heap.size w4 wn23 := hb22.trans (hbn23.mono hb22.size)
          have z10_23 := z10_22.below hbn23
          have z11_23 := zn22.below hbn23
          have o3_23 := own_base hv23 hb22.size
          clear z10_22 zn22 hv23 hbn23
          obtain ⟨gg3, cc3, rfl, -⟩ := own_slice' o3_23
          refine hK.out _ _ hb23 (fun _ => ?_)
          clear hK K
          refine wpAnyH_take (i := 4) (oi := ⟨some 40, _, _, _, _, _⟩) (v := ?_) rfl (by kernel_rfl) (by kernel_rfl) (by kernel_rfl) (fun _ _ _ h => h) (Or.inl ⟨by rfl, ?_⟩) hb23 ?_
          rotate_left
          · intro w hSw; (go_simp; try with_reducible rfl)
          simp only [Act.put, List.setIfInBounds_toArray, List.set_cons_zero, List.set_cons_succ]
          refine wpAnyH_ready (rs := [8]) (by kernel_rfl) (by simp) ?_
          refine AllReadyH.cons (o := ⟨some 44, _, _, _, _, _⟩) rfl (fun K hK => ?_) ?_
          · go_simp
            refine (HBK.out y_ _).mono ?_
            rintro e wn24 ⟨vv8, rfl, hv24, hbn24⟩
            have s8_10 := cut_apart hv24 z10_23.lt
            have s8_11 := cut_apart hv24 z11_23.lt
            have hb24 : Below w4.heap.size w4 wn24 := hb23.trans (hbn24.mono hb23.size)
            have z10_24 := z10_23.below hbn24
            have z11_24 := z11_23.below hbn24
            have o3_24 := own_below o3_23 hbn24
            have o8_24 := own_base hv24 hb23.size
            clear z10_23 z11_23 o3_23 hv24 hbn24
            obtain ⟨gg8, cc8, rfl, -⟩ := own_slice' o8_24
            refine hK.out _ _ hb24 (fun _ => ?_)
            clear hK K
            refine wpAnyH_take (i := 9) (oi := ⟨some 45, _, _, _, _, _⟩) (v := ?_) rfl (by kernel_rfl) (by kernel_rfl) (by kernel_rfl) (fun _ _ _ h => h) (Or.inl ⟨by rfl, ?_⟩) hb24 ?_
            rotate_left
            · intro w hSw; (go_simp; try with_reducible rfl)
            simp only [Act.put, List.setIfInBounds_toArray, List.set_cons_zero, List.set_cons_succ]
            refine wpAnyH_ready (rs := [12]) (by kernel_rfl) (by simp) ?_
            refine AllReadyH.cons (o := ⟨none, _, _, _, _, _⟩) rfl (fun K hK => ?_) ?_
            · refine step_store_rec (o := ⟨none, _, _, _, _, _⟩) rfl (.tmp 16) (.tmp 40) rfl bz10 rfl 5 0 _ rfl z10_24 ⟨_, _, _, rfl⟩ ?_
              refine hK.out _ _ (setRow_below hb24 l10 _) (fun _ => ?_)
              clear hK K
              refine wpAnyH_ready (rs := [13]) (by kernel_rfl) (by simp) ?_
              refine AllReadyH.cons (o := ⟨none, _, _, _, _, _⟩) rfl (fun K hK => ?_) ?_
              · refine step_store_rec (o := ⟨none, _, _, _, _, _⟩) rfl (.tmp 17) (.tmp 45) rfl bz11 rfl 6 1 _ rfl (z11_24.other (Ne.symm ne) _) ⟨_, _, _, rfl⟩ ?_
                refine hK.out _ _ (setRow_below (setRow_below hb24 l10 _) l11 _) (fun _ => ?_)
                clear hK K
                refine wpAnyH_done (by kernel_rfl) ?_ _
                refine NoPanic.normal ?_
                go_wp2_with fail
                go_meet
                exact ⟨bz10, bz11, _, _, rfl, rfl, HJ4.out.below (setRow_below (setRow_below hb24 l10 _) l11 _), two_recs (x := lawR 5 0 a_ K) (y := lawR 6 1 y_ K) (lawR_is _ _ _ _) (lawR_is _ _ _ _) z10_24 z11_24 l10 l11 ne o3_24 o8_24 s3_10 s3_11 s8_10 s8_11⟩
              exact AllReadyH.nil
            exact AllReadyH.nil
          exact AllReadyH.nil
        exact AllReadyH.nil
      exact AllReadyH.nil
    refine AllReadyH.cons (o := ⟨some 17, _, _, _, _, _⟩) rfl (fun K hK => ?_) ?_
    · go_simp
      have hst21 := one_below w5 (.cells #[.int .i64 0, .int .i64 0, .slice none 0 0] 59)
      have zn21 := zrec_new w5
      have l11 : w4.heap.size ≤ w5.heap.size := hHeld.size
      have hb21 : Below w4.heap.size w4 (w5.alloc (.cells #[.int .i64 0, .int .i64 0, .slice none 0 0] 59)) := hHeld.trans (hst21.mono hHeld.size)
      clear hst21
      generalize w5.alloc (.cells #[.int .i64 0, .int .i64 0, .slice none 0 0] 59) = wa21 at *
      generalize w5.heap.size = bz11 at *
      refine hK.out _ _ hb21 (fun _ => ?_)
      clear hK K
      refine wpAnyH_ready (rs := [3, 10]) (by kernel_rfl) (by simp) ?_
      refine AllReadyH.cons (o := ⟨some 39, _, _, _, _, _⟩) rfl (fun K hK => ?_) ?_
      · go_simp
        refine (HBK.out a_ _).mono ?_
        rintro e wn22 ⟨vv3, rfl, hv22, hbn22⟩
        have s3_11 := cut_apart hv22 zn21.lt
        have hb22 : Below w4.heap.size w4 wn22 := hb21.trans (hbn22.mono hb21.size)
        have z11_22 := zn21.below hbn22
        have o3_22 := own_base hv22 hb21.size
        clear zn21 hv22 hbn22
        obtain ⟨gg3, cc3, rfl, -⟩ := own_slice' o3_22
        refine hK.out _ _ hb22 (fun _ => ?_)
        clear hK K
        refine wpAnyH_take (i := 4) (oi := ⟨some 40, _, _, _, _, _⟩) (v := ?_) rfl (by kernel_rfl) (by kernel_rfl) (by kernel_rfl) (fun _ _ _ h => h) (Or.inl ⟨by rfl, ?_⟩) hb22 ?_
        rotate_left
        · intro w hSw; (go_simp; try with_reducible rfl)
        simp only [Act.put, List.setIfInBounds_toArray, List.set_cons_zero, List.set_cons_succ]
        refine wpAnyH_ready (rs := [8, 10]) (by kernel_rfl) (by simp) ?_
        refine AllReadyH.cons (o := ⟨some 44, _, _, _, _, _⟩) rfl (fun K hK => ?_) ?_
        · go_simp
          refine (HBK.out y_ _).mono ?_
          rintro e wn23 ⟨vv8, rfl, hv23, hbn23⟩
          have s8_11 := cut_apart hv23 z11_22.lt
          have hb23 : Below w4.heap.size w4 wn23 := hb22.trans (hbn23.mono hb22.size)
          have z11_23 := z11_22.below hbn23
          have o3_23 := own_below o3_22 hbn23
          have o8_23 := own_base hv23 hb22.size
          clear z11_22 o3_22 hv23 hbn23
          obtain ⟨gg8, cc8, rfl, -⟩ := own_slice' o8_23
          refine hK.out _ _ hb23 (fun _ => ?_)
          clear hK K
          refine wpAnyH_take (i := 9) (oi := ⟨some 45, _, _, _, _, _⟩) (v := ?_) rfl (by kernel_rfl) (by kernel_rfl) (by kernel_rfl) (fun _ _ _ h => h) (Or.inl ⟨by rfl, ?_⟩) hb23 ?_
          rotate_left
          · intro w hSw; (go_simp; try with_reducible rfl)
          simp only [Act.put, List.setIfInBounds_toArray, List.set_cons_zero, List.set_cons_succ]
          refine wpAnyH_ready (rs := [10]) (by kernel_rfl) (by simp) ?_
          refine AllReadyH.cons (o := ⟨some 16, _, _, _, _, _⟩) rfl (fun K hK => ?_) ?_
          · go_simp
            have hst24 := one_below wn23 (.cells #[.int .i64 0, .int .i64 0, .slice none 0 0] 59)
            have zn24 := zrec_new wn23
            have l10 : w4.heap.size ≤ wn23.heap.size := hb23.size
            have s3_10 := cut_apart2 o3_23 (Nat.le_refl _)
            have s8_10 := cut_apart2 o8_23 (Nat.le_refl _)
            have ne : bz11 ≠ wn23.heap.size := by have := z11_23.lt; omega
            have hb24 : Below w4.heap.size w4 (wn23.alloc (.cells #[.int .i64 0, .int .i64 0, .slice none 0 0] 59)) := hb23.trans (hst24.mono hb23.size)
            have z11_24 := z11_23.below hst24
            have o3_24 := own_below o3_23 hst24
            have o8_24 := own_below o8_23 hst24
            clear z11_23 o3_23 o8_23 hst24 hb23
            generalize wn23.alloc (.cells #[.int .i64 0, .int .i64 0, .slice none 0 0] 59) = wa24 at *
            generalize wn23.heap.size = bz10 at *
            refine hK.out _ _ hb24 (fun _ => ?_)
            clear hK K
            refine wpAnyH_ready (rs := [12]) (by kernel_rfl) (by simp) ?_
            refine AllReadyH.cons (o := ⟨none, _, _, _, _, _⟩) rfl (fun K hK => ?_) ?_
            · refine step_store_rec (o := ⟨none, _, _, _, _, _⟩) rfl (.tmp 16) (.tmp 40) rfl bz10 rfl 5 0 _ rfl zn24 ⟨_, _, _, rfl⟩ ?_
              refine hK.out _ _ (setRow_below hb24 l10 _) (fun _ => ?_)
              clear hK K
              refine wpAnyH_ready (rs := [13]) (by kernel_rfl) (by simp) ?_
              refine AllReadyH.cons (o := ⟨none, _, _, _, _, _⟩) rfl (fun K hK => ?_) ?_
              · refine step_store_rec (o := ⟨none, _, _, _, _, _⟩) rfl (.tmp 17) (.tmp 45) rfl bz11 rfl 6 1 _ rfl (z11_24.other ne _) ⟨_, _, _, rfl⟩ ?_
                refine hK.out _ _ (setRow_below (setRow_below hb24 l10 _) l11 _) (fun _ => ?_)
                clear hK K
                refine wpAnyH_done (by kernel_rfl) ?_ _
                refine NoPanic.normal ?_
                go_wp2_with fail
                go_meet
                exact ⟨bz10, bz11, _, _, rfl, rfl, HJ4.out.below (setRow_below (setRow_below hb24 l10 _) l11 _), two_recs (x := lawR 5 0 a_ K) (y := lawR 6 1 y_ K) (lawR_is _ _ _ _) (lawR_is _ _ _ _) zn24 z11_24 l10 l11 (Ne.symm ne) o3_24 o8_24 s3_10 s3_11 s8_10 s8_11⟩
              exact AllReadyH.nil
            exact AllReadyH.nil
          exact AllReadyH.nil
        refine AllReadyH.cons (o := ⟨some 16, _, _, _, _, _⟩) rfl (fun K hK => ?_) ?_
        · go_simp
          have hst23 := one_below wn22 (.cells #[.int .i64 0, .int .i64 0, .slice none 0 0] 59)
          have zn23 := zrec_new wn22
          have l10 : w4.heap.size ≤ wn22.heap.size := hb22.size
          have s3_10 := cut_apart2 o3_22 (Nat.le_refl _)
          have ne : bz11 ≠ wn22.heap.size := by have := z11_22.lt; omega
          have hb23 : Below w4.heap.size w4 (wn22.alloc (.cells #[.int .i64 0, .int .i64 0, .slice none 0 0] 59)) := hb22.trans (hst23.mono hb22.size)
          have z11_23 := z11_22.below hst23
          have o3_23 := own_below o3_22 hst23
          clear z11_22 o3_22 hst23 hb22
          generalize wn22.alloc (.cells #[.int .i64 0, .int .i64 0, .slice none 0 0] 59) = wa23 at *
          generalize wn22.heap.size = bz10 at *
          refine hK.out _ _ hb23 (fun _ => ?_)
          clear hK K
          refine wpAnyH_ready (rs := [8]) (by kernel_rfl) (by simp) ?_
          refine AllReadyH.cons (o := ⟨some 44, _, _, _, _, _⟩) rfl (fun K hK => ?_) ?_
          · go_simp
            refine (HBK.out y_ _).mono ?_
            rintro e wn24 ⟨vv8, rfl, hv24, hbn24⟩
            have s8_11 := cut_apart hv24 z11_23.lt
            have s8_10 := cut_apart hv24 zn23.lt
            have hb24 : Below w4.heap.size w4 wn24 := hb23.trans (hbn24.mono hb23.size)
            have z11_24 := z11_23.below hbn24
            have z10_24 := zn23.below hbn24
            have o3_24 := own_below o3_23 hbn24
            have o8_24 := own_base hv24 hb23.size
            clear z11_23 zn23 o3_23 hv24 hbn24
            obtain ⟨gg8, cc8, rfl, -⟩ := own_slice' o8_24
            refine hK.out _ _ hb24 (fun _ => ?_)
            clear hK K
            refine wpAnyH_take (i := 9) (oi := ⟨some 45, _, _, _, _, _⟩) (v := ?_) rfl (by kernel_rfl) (by kernel_rfl) (by kernel_rfl) (fun _ _ _ h => h) (Or.inl ⟨by rfl, ?_⟩) hb24 ?_
            rotate_left
            · intro w hSw; (go_simp; try with_reducible rfl)
            simp only [Act.put, List.setIfInBounds_toArray, List.set_cons_zero, List.set_cons_succ]
            refine wpAnyH_ready (rs := [12]) (by kernel_rfl) (by simp) ?_
            refine AllReadyH.cons (o := ⟨none, _, _, _, _, _⟩) rfl (fun K hK => ?_) ?_
            · refine step_store_rec (o := ⟨none, _, _, _, _, _⟩) rfl (.tmp 16) (.tmp 40) rfl bz10 rfl 5 0 _ rfl z10_24 ⟨_, _, _, rfl⟩ ?_
              refine hK.out _ _ (setRow_below hb24 l10 _) (fun _ => ?_)
              clear hK K
              refine wpAnyH_ready (rs := [13]) (by kernel_rfl) (by simp) ?_
              refine AllReadyH.cons (o := ⟨none, _, _, _, _, _⟩) rfl (fun K hK => ?_) ?_
              · refine step_store_rec (o := ⟨none, _, _, _, _, _⟩) rfl (.tmp 17) (.tmp 45) rfl bz11 rfl 6 1 _ rfl (z11_24.other ne _) ⟨_, _, _, rfl⟩ ?_
                refine hK.out _ _ (setRow_below (setRow_below hb24 l10 _) l11 _) (fun _ => ?_)
                clear hK K
                refine wpAnyH_done (by kernel_rfl) ?_ _
                refine NoPanic.normal ?_
                go_wp2_with fail
                go_meet
                exact ⟨bz10, bz11, _, _, rfl, rfl, HJ4.out.below (setRow_below (setRow_below hb24 l10 _) l11 _), two_recs (x := lawR 5 0 a_ K) (y := lawR 6 1 y_ K) (lawR_is _ _ _ _) (lawR_is _ _ _ _) z10_24 z11_24 l10 l11 (Ne.symm ne) o3_24 o8_24 s3_10 s3_11 s8_10 s8_11⟩
              exact AllReadyH.nil
            exact AllReadyH.nil
          exact AllReadyH.nil
        exact AllReadyH.nil
      refine AllReadyH.cons (o := ⟨some 16, _, _, _, _, _⟩) rfl (fun K hK => ?_) ?_
      · go_simp
        have hst22 := one_below wa21 (.cells #[.int .i64 0, .int .i64 0, .slice none 0 0] 59)
        have zn22 := zrec_new wa21
        have l10 : w4.heap.size ≤ wa21.heap.size := hb21.size
        have ne : bz11 ≠ wa21.heap.size := by have := zn21.lt; omega
        have hb22 : Below w4.heap.size w4 (wa21.alloc (.cells #[.int .i64 0, .int .i64 0, .slice none 0 0] 59)) := hb21.trans (hst22.mono hb21.size)
        have z11_22 := zn21.below hst22
        clear zn21 hst22 hb21
        generalize wa21.alloc (.cells #[.int .i64 0, .int .i64 0, .slice none 0 0] 59) = wa22 at *
        generalize wa21.heap.size = bz10 at *
        refine hK.out _ _ hb22 (fun _ => ?_)
        clear hK K
        refine wpAnyH_ready (rs := [3]) (by kernel_rfl) (by simp) ?_
        refine AllReadyH.cons (o := ⟨some 39, _, _, _, _, _⟩) rfl (fun K hK => ?_) ?_
        · go_simp
          refine (HBK.out a_ _).mono ?_
          rintro e wn23 ⟨vv3, rfl, hv23, hbn23⟩
          have s3_11 := cut_apart hv23 z11_22.lt
          have s3_10 := cut_apart hv23 zn22.lt
          have hb23 : Below w4.heap.size w4 wn23 := hb22.trans (hbn23.mono hb22.size)
          have z11_23 := z11_22.below hbn23
          have z10_23 := zn22.below hbn23
          have o3_23 := own_base hv23 hb22.size
          clear z11_22 zn22 hv23 hbn23
          obtain ⟨gg3, cc3, rfl, -⟩ := own_slice' o3_23
          refine hK.out _ _ hb23 (fun _ => ?_)
          clear hK K
          refine wpAnyH_take (i := 4) (oi := ⟨some 40, _, _, _, _, _⟩) (v := ?_) rfl (by kernel_rfl) (by kernel_rfl) (by kernel_rfl) (fun _ _ _ h => h) (Or.inl ⟨by rfl, ?_⟩) hb23 ?_
          rotate_left
          · intro w hSw; (go_simp; try with_reducible rfl)
          simp only [Act.put, List.setIfInBounds_toArray, List.set_cons_zero, List.set_cons_succ]
          refine wpAnyH_ready (rs := [8]) (by kernel_rfl) (by simp) ?_
          refine AllReadyH.cons (o := ⟨some 44, _, _, _, _, _⟩) rfl (fun K hK => ?_) ?_
          · go_simp
            refine (HBK.out y_ _).mono ?_
            rintro e wn24 ⟨vv8, rfl, hv24, hbn24⟩
            have s8_11 := cut_apart hv24 z11_23.lt
            have s8_10 := cut_apart hv24 z10_23.lt
            have hb24 : Below w4.heap.size w4 wn24 := hb23.trans (hbn24.mono hb23.size)
            have z11_24 := z11_23.below hbn24
            have z10_24 := z10_23.below hbn24
            have o3_24 := own_below o3_23 hbn24
            have o8_24 := own_base hv24 hb23.size
            clear z11_23 z10_23 o3_23 hv24 hbn24
            obtain ⟨gg8, cc8, rfl, -⟩ := own_slice' o8_24
            refine hK.out _ _ hb24 (fun _ => ?_)
            clear hK K
            refine wpAnyH_take (i := 9) (oi := ⟨some 45, _, _, _, _, _⟩) (v := ?_) rfl (by kernel_rfl) (by kernel_rfl) (by kernel_rfl) (fun _ _ _ h => h) (Or.inl ⟨by rfl, ?_⟩) hb24 ?_
            rotate_left
            · intro w hSw; (go_simp; try with_reducible rfl)
            simp only [Act.put, List.setIfInBounds_toArray, List.set_cons_zero, List.set_cons_succ]
            refine wpAnyH_ready (rs := [12]) (by kernel_rfl) (by simp) ?_
            refine AllReadyH.cons (o := ⟨none, _, _, _, _, _⟩) rfl (fun K hK => ?_) ?_
            · refine step_store_rec (o := ⟨none, _, _, _, _, _⟩) rfl (.tmp 16) (.tmp 40) rfl bz10 rfl 5 0 _ rfl z10_24 ⟨_, _, _, rfl⟩ ?_
              refine hK.out _ _ (setRow_below hb24 l10 _) (fun _ => ?_)
              clear hK K
              refine wpAnyH_ready (rs := [13]) (by kernel_rfl) (by simp) ?_
              refine AllReadyH.cons (o := ⟨none, _, _, _, _, _⟩) rfl (fun K hK => ?_) ?_
              · refine step_store_rec (o := ⟨none, _, _, _, _, _⟩) rfl (.tmp 17) (.tmp 45) rfl bz11 rfl 6 1 _ rfl (z11_24.other ne _) ⟨_, _, _, rfl⟩ ?_
                refine hK.out _ _ (setRow_below (setRow_below hb24 l10 _) l11 _) (fun _ => ?_)
                clear hK K
                refine wpAnyH_done (by kernel_rfl) ?_ _
                refine NoPanic.normal ?_
                go_wp2_with fail
                go_meet
                exact ⟨bz10, bz11, _, _, rfl, rfl, HJ4.out.below (setRow_below (setRow_below hb24 l10 _) l11 _), two_recs (x := lawR 5 0 a_ K) (y := lawR 6 1 y_ K) (lawR_is _ _ _ _) (lawR_is _ _ _ _) z10_24 z11_24 l10 l11 (Ne.symm ne) o3_24 o8_24 s3_10 s3_11 s8_10 s8_11⟩
              exact AllReadyH.nil
            exact AllReadyH.nil
          exact AllReadyH.nil
        exact AllReadyH.nil
      exact AllReadyH.nil
    exact AllReadyH.nil
  clear d1
  obtain ⟨b1, b2, v1, v2, rfl, rfl, hj6, hx6, hy6⟩ := hcut
  have HJ6 := Lib.hid hj6
  have HX6 := Lib.hid hx6
  have HY6 := Lib.hid hy6
  obtain ⟨gv, cv, rfl, -⟩ := own_slice' hx6.row
  obtain ⟨gy, cy, rfl, -⟩ := own_slice' hy6.row
  clear hj6 hx6 hy6
  generalize (lawR 5 0 a_ K).b.length = lb at *
  generalize (lawR 6 1 y_ K).b.length = ly at *
  have HRX := Lib.hid (show ∀ w' : World, RcB w4.heap.size (lawR 5 0 a_ K) (.slice gv lb cv) b1 w' → w'.cell? ⟨b1, 0, none⟩ = some (.int .i64 5) ∧ w'.cell? ⟨b1, 1, none⟩ = some (.int .i64 0) ∧ w'.cell? ⟨b1, 2, none⟩ = some (.slice gv lb cv) from fun w' h => h.cells)
  have HRY := Lib.hid (show ∀ w' : World, RcB w4.heap.size (lawR 6 1 y_ K) (.slice gy ly cy) b2 w' → w'.cell? ⟨b2, 0, none⟩ = some (.int .i64 6) ∧ w'.cell? ⟨b2, 1, none⟩ = some (.int .i64 1) ∧ w'.cell? ⟨b2, 2, none⟩ = some (.slice gy ly cy) from fun w' h => h.cells)
  have CLG := Lib.hid (show Calls Tryz.prog 26 #[.pointer (some ⟨c.r, 0, none⟩), .agg (cfA cf), .agg #[.int .i64 5, .int .i64 0, .slice gv lb cv]] wc (JN w3 c cf b w4.heap.size N (Rk.jlog (newRk N SC) cf (lawR 5 0 a_ K)) .nilIface wc) from by
    have := HJ6.out.log HX6.out
    rwa [jlog_nil HLOG.out.1] at this)
  obtain ⟨d0, d1, d2, d3, d4⟩ := CfB.cells HJ6.out.cfg
  obtain ⟨x0, x1, x2⟩ := HRX.out _ HX6.out
  go_wp2_with fail
  refine CLG.out.mono ?_
  rintro e w7 ⟨rfl, hj7, hc7⟩
  have HJ7 := Lib.hid hj7
  have HX7 := Lib.hid (HX6.out.rc HJ7.out.far hc7)
  have HY7 := Lib.hid (HY6.out.rc HJ7.out.far hc7)
  have HWL := Lib.hid (show Wl (Rk.jlog (newRk N SC) cf (lawR 5 0 a_ K)) cf ∧ (Rk.jlog (newRk N SC) cf (lawR 5 0 a_ K)).n = N ∧ SlotIs (Rk.jlog (newRk N SC) cf (lawR 5 0 a_ K)) cf 0 (lawR 5 0 a_ K) from ⟨HLOG.out.2.1, HLOG.out.2.2.1, HLOG.out.2.2.2.1⟩)
  clear d0 d1 d2 d3 d4 x0 x1 x2 hj7 hc7
  generalize Rk.jlog (newRk N SC) cf (lawR 5 0 a_ K) = q1 at *
  obtain ⟨r1, r2, r3, r4, r5, r6, r7⟩ := HNR.out
  have hNK : N * K ≤ 6 * 4 := Nat.mul_le_mul r2 r6
  have hw1 : IntKind.i64.wrap ((N : Int) * (K : Int)) = ((N * K : Nat) : Int) := by rw [← Int.natCast_mul]; exact IntWalk.i64_in _ (by omega)
  obtain ⟨M, hM⟩ : ∃ M, M = N * K + N := ⟨_, rfl⟩
  have hw2 : IntKind.i64.wrap (((N * K : Nat) : Int) + (N : Int)) = (M : Int) := by rw [hM, ← Int.natCast_add]; exact IntWalk.i64_in _ (by omega)
  have hMM : M ≤ 30 := by omega
  have HCT := Lib.hid (fun (fz : Nat) (hf : fz ≤ M) => show (Rk.jlogC (q1.arm fz) cf (lawR 6 1 y_ K) = 0 ↔ fz = M) ∧ _ from by
    have := cut_state (f := fz) HWL.out.1 HWL.out.2.2 HY.out (by rw [HL.out.s]; decide) (by show (2 : Int) ≤ 6; decide) (by rw [HWL.out.2.1, HL.out.k, Int.toNat_natCast, ← hM]; exact hf)
    rw [HWL.out.2.1, HL.out.k, Int.toNat_natCast, ← hM, ← HL.out.k] at this
    exact this)
  have HDC : Hid (∀ q w', JW w3 c cf b w4.heap.size N q w' → w'.cell? ⟨b, 0, none⟩ = some (.int .i64 cf.id) ∧ w'.cell? ⟨b, 1, none⟩ = some (.int .i64 (K : Int)) ∧ w'.cell? ⟨b, 2, none⟩ = some (.int .i64 (N : Int)) ∧ w'.cell? ⟨b, 3, none⟩ = some (.int .i64 cf.t) ∧ w'.cell? ⟨b, 4, none⟩ = some (.int .i64 cf.s)) := Lib.hid fun q w' h => by
    rw [← HL.out.n, ← HL.out.k]; exact CfB.cells h.cfg
  obtain ⟨d0, d1, d2, d3, d4⟩ := HDC.out _ _ HJ7.out
  clear hNK hM
  generalize N * K = NK at *
  go_wp2_with (go_at_call 32; refine (within_int _ _ _ _ (by omega) (by omega) (by omega)).mono ?_; rintro e w8 ⟨ff, hff, rfl, hw8⟩; subst hw8)
  obtain ⟨fz, rfl⟩ := Int.eq_ofNat_of_zero_le hff.1
  have hfz : fz ≤ M := by omega
  have HCU := Lib.hid (HCT.out fz hfz)
  have CAR := Lib.hid (HJ7.out.arm (fz : Int) (by omega) (by omega))
  clear hff d0 d1 d2 d3 d4 hw1 hw2
  refine CAR.out.mono ?_
  rintro e w9 ⟨rfl, hj9, hc9⟩
  have HJ9 := Lib.hid hj9
  have HX9 := Lib.hid (HX7.out.rc HJ9.out.far hc9)
  have HY9 := Lib.hid (HY7.out.rc HJ9.out.far hc9)
  clear hj9 hc9
  by_cases hfm : fz = M
  · have em : ((fz : Int) == (M : Int)) = true := by simpa using (by omega : (fz : Int) = (M : Int))
    have hC := HCU.out.1.2 hfm
    have CLG2 := Lib.hid (show Calls Tryz.prog 26 #[.pointer (some ⟨c.r, 0, none⟩), .agg (cfA cf), .agg #[.int .i64 6, .int .i64 1, .slice gy ly cy]] w9 (JN w3 c cf b w4.heap.size N (Rk.jlog (q1.arm fz) cf (lawR 6 1 y_ K)) .nilIface w9) from by
      have := HJ9.out.log HY9.out
      rwa [jlog_nil hC] at this)
    obtain ⟨d0, d1, d2, d3, d4⟩ := CfB.cells HJ9.out.cfg
    obtain ⟨x0, x1, x2⟩ := HRY.out _ HY9.out
    go_wp2_with fail
    refine CLG2.out.mono ?_
    rintro e w10 ⟨rfl, hj10, hc10⟩
    have HJ10 := Lib.hid hj10
    have HX10 := Lib.hid (HX9.out.rc HJ10.out.far hc10)
    have HY10 := Lib.hid (HY9.out.rc HJ10.out.far hc10)
    clear d0 d1 d2 d3 d4 x0 x1 x2 hj10 hc10
    have CBT := Lib.hid (HJ10.out.boot _ lh ((HVH.out.below (HBW.out _ _ HJ10.out)).wider (HBW.out _ _ HJ10.out).size) HLH.out)
    go_wp2_with fail
    refine CBT.out.mono ?_
    rintro e w11 ⟨rfl, hj11, hc11⟩
    have HJ11 := Lib.hid hj11
    have HX11 := Lib.hid (HX10.out.rc HJ11.out.far hc11)
    have HY11 := Lib.hid (HY10.out.rc HJ11.out.far hc11)
    have HTD := Lib.hid (show jcode ((Rk.jlog (q1.arm fz) cf (lawR 6 1 y_ K)).boot fun i => lh.getD i 0) cf 0 = 0 ∧ jnewest ((Rk.jlog (q1.arm fz) cf (lawR 6 1 y_ K)).boot fun i => lh.getD i 0) cf 0 = 6 ∧ jwhole ((Rk.jlog (q1.arm fz) cf (lawR 6 1 y_ K)).boot fun i => lh.getD i 0) cf 0 = true ∧ jrecR ((Rk.jlog (q1.arm fz) cf (lawR 6 1 y_ K)).boot fun i => lh.getD i 0) cf 0 = lawR 6 1 y_ K from by
      obtain ⟨t1, t2, t3, t4⟩ := HCU.out.2 fun i => lh.getD i 0
      exact cut_done HWL.out.1 (t1.trans HWL.out.2.1.symm) t2 hj11.qs.rack.ok rfl HY.out (by rw [HL.out.s]; decide) (fun d hd => (t3 d (by rw [← HWL.out.2.1]; exact hd)).1) (fun d hd => t4 hC d (by rw [← HWL.out.2.1]; exact hd)))
    clear hj11 hc11 CBT CLG2 HJ10 HCU hC
    generalize ((Rk.jlog (q1.arm fz) cf (lawR 6 1 y_ K)).boot fun i => lh.getD i 0) = q9 at *
    have CSL := Lib.hid (HJ11.out.slot 0)
    unfold SlotOut at CSL
    rw [HTD.out.2.2.2, HTD.out.2.2.1, HTD.out.2.1, jslot_nil HTD.out.1] at CSL
    obtain ⟨e0, e1, e2, e3, e4⟩ := CfB.cells HJ11.out.cfg
    go_wp2_with fail
    refine CSL.out.mono ?_
    rintro e w12 ⟨vz, rfl, hvz, hb12⟩
    have HZ13 := Lib.hid (show RcB w4.heap.size (lawR 6 1 y_ K) vz w12.heap.size (w12.alloc (.cells (rcA 6 1 vz) 59)) from rcB_new (x := (lawR 6 1 y_ K)) (lawR_is _ _ _ _) (Nat.le_trans HJ11.out.bB hb12.size) (own_base hvz HJ11.out.bB))
    have HJ13 := Lib.hid (HJ11.out.below (balloc hb12 (.cells (rcA 6 1 vz) 59)))
    have HX13 := Lib.hid (HX11.out.below (balloc hb12 (.cells (rcA 6 1 vz) 59)))
    have HY13 := Lib.hid (HY11.out.below (balloc hb12 (.cells (rcA 6 1 vz) 59)))
    obtain ⟨gz, cz, rfl, -⟩ := own_slice' hvz
    have hq3 : (Value.agg (rcA (lawR 6 1 y_ K).q (lawR 6 1 y_ K).t (.slice gz (lawR 6 1 y_ K).b.length cz))) = .agg #[.int .i64 6, .int .i64 1, .slice gz (lawR 6 1 y_ K).b.length cz] := rfl
    rw [hq3]
    clear hvz hb12 hq3 e0 e1 e2 e3 e4
    have HLB := Lib.hid (show (lawR 6 1 y_ K).b.length ≤ 8 from by show (blks y_ K).length ≤ 8; rw [blks_length]; omega)
    have HKR := Lib.hid (fun (w' : World) (va vb : Value) (h1 : SlK w'.heap.size w' va (lawR 6 1 y_ K).b) (h2 : SlK w'.heap.size w' vb (lawR 6 1 y_ K).b) => show Calls Tryz.prog 30 #[.agg #[.int .i64 6, .int .i64 1, va], .agg #[.int .i64 6, .int .i64 1, vb]] w' (Bit true w') from by
      have := krecord_any (lawR 6 1 y_ K) (lawR 6 1 y_ K) va vb w' h1 h2 HLB.out
      rwa [rcB_refl] at this)
    have HZC := Lib.hid (show ∀ w' : World, RcB w4.heap.size (lawR 6 1 y_ K) (.slice gz (lawR 6 1 y_ K).b.length cz) w12.heap.size w' → w'.cell? ⟨w12.heap.size, 0, none⟩ = some (.int .i64 6) ∧ w'.cell? ⟨w12.heap.size, 1, none⟩ = some (.int .i64 1) ∧ w'.cell? ⟨w12.heap.size, 2, none⟩ = some (.slice gz (lawR 6 1 y_ K).b.length cz) from fun w' h => h.cells)
    generalize (lawR 6 1 y_ K).b.length = lz at *
    obtain ⟨w13, hw13⟩ : ∃ w13, w13 = (w12.alloc (.cells (rcA 6 1 (.slice gz lz cz)) 59)) := ⟨_, rfl⟩
    rw [← hw13] at HZ13 HJ13 HX13 HY13
    have hcR : (w12.alloc (.cells #[.int .i64 6, .int .i64 1, .slice gz lz cz] 59)) = w13 := hw13.symm
    clear hw13
    obtain ⟨y0, y1, y2⟩ := HZC.out _ HZ13.out
    have CRC := Lib.hid (HKR.out w13 _ _ HZ13.out.slk HY13.out.slk)
    obtain ⟨x0, x1, x2⟩ := HRY.out _ HY13.out
    go_wp2_with fail
    clear hcR
    refine CRC.out.mono ?_
    rintro e w14 ⟨rfl, hb14⟩
    have HB14 := Lib.hid (bthen (HBW.out _ _ HJ13.out) hb14)
    have HRR := Lib.hid (journal_runs w14 (HT.out.below HB14.out))
    clear hb14 x0 x1 x2 y0 y1 y2
    go_wp2_with fail
    refine HRR.out.mono ?_
    rintro e w15 ⟨rfl, hb15⟩
    go_wp2_with fail
    go_ret
    exact bit rfl (bthen HB14.out hb15)
  · have em : ((fz : Int) == (M : Int)) = false := by simpa using (by omega : ¬ (fz : Int) = (M : Int))
    have hC : ¬ Rk.jlogC (q1.arm fz) cf (lawR 6 1 y_ K) = 0 := fun e => hfm (HCU.out.1.1 e)
    obtain ⟨ue, hue⟩ := jlog_some hC
    have CLG2 := Lib.hid (show Calls Tryz.prog 26 #[.pointer (some ⟨c.r, 0, none⟩), .agg (cfA cf), .agg #[.int .i64 6, .int .i64 1, .slice gy ly cy]] w9 (JN w3 c cf b w4.heap.size N (Rk.jlog (q1.arm fz) cf (lawR 6 1 y_ K)) (.iface 165 ue) w9) from by
      have := HJ9.out.log HY9.out
      rwa [hue] at this)
    clear hue
    obtain ⟨d0, d1, d2, d3, d4⟩ := CfB.cells HJ9.out.cfg
    obtain ⟨x0, x1, x2⟩ := HRY.out _ HY9.out
    go_wp2_with fail
    refine CLG2.out.mono ?_
    rintro e w10 ⟨rfl, hj10, hc10⟩
    have HJ10 := Lib.hid hj10
    have HX10 := Lib.hid (HX9.out.rc HJ10.out.far hc10)
    have HY10 := Lib.hid (HY9.out.rc HJ10.out.far hc10)
    clear d0 d1 d2 d3 d4 x0 x1 x2 hj10 hc10
    have CBT := Lib.hid (HJ10.out.boot _ lh ((HVH.out.below (HBW.out _ _ HJ10.out)).wider (HBW.out _ _ HJ10.out).size) HLH.out)
    go_wp2_with fail
    refine CBT.out.mono ?_
    rintro e w11 ⟨rfl, hj11, hc11⟩
    have HJ11 := Lib.hid hj11
    have HX11 := Lib.hid (HX10.out.rc HJ11.out.far hc11)
    have HY11 := Lib.hid (HY10.out.rc HJ11.out.far hc11)
    have HTD3 := Lib.hid (show jcode ((Rk.jlog (q1.arm fz) cf (lawR 6 1 y_ K)).boot fun i => lh.getD i 0) cf 0 = 0 ∧ _ from by
      obtain ⟨t1, t2, t3, t4⟩ := HCU.out.2 fun i => lh.getD i 0
      exact cut_told HWL.out.1 (t1.trans HWL.out.2.1.symm) t2 hj11.qs.rack.ok rfl HX.out HY.out (by rw [HL.out.s]; decide) (show (5 : Int) < 6 by decide) (fun d hd => t3 d (by rw [← HWL.out.2.1]; exact hd)))
    clear hj11 hc11 CBT CLG2 HJ10 HCU hC
    generalize ((Rk.jlog (q1.arm fz) cf (lawR 6 1 y_ K)).boot fun i => lh.getD i 0) = q9 at *
    obtain ⟨t0, ht⟩ := HTD3.out
    clear HTD3
    rcases ht with ht | ht | ht
    · have HTD := Lib.hid (show jcode q9 cf 0 = 0 ∧ jnewest q9 cf 0 = 5 ∧ jwhole q9 cf 0 = true ∧ jrecR q9 cf 0 = lawR 5 0 a_ K from ⟨t0, ht⟩)
      clear t0 ht
      have CSL := Lib.hid (HJ11.out.slot 0)
      unfold SlotOut at CSL
      rw [HTD.out.2.2.2, HTD.out.2.2.1, HTD.out.2.1, jslot_nil HTD.out.1] at CSL
      obtain ⟨e0, e1, e2, e3, e4⟩ := CfB.cells HJ11.out.cfg
      go_wp2_with fail
      refine CSL.out.mono ?_
      rintro e w12 ⟨vz, rfl, hvz, hb12⟩
      have HZ13 := Lib.hid (show RcB w4.heap.size (lawR 5 0 a_ K) vz w12.heap.size (w12.alloc (.cells (rcA 5 0 vz) 59)) from rcB_new (x := (lawR 5 0 a_ K)) (lawR_is _ _ _ _) (Nat.le_trans HJ11.out.bB hb12.size) (own_base hvz HJ11.out.bB))
      have HJ13 := Lib.hid (HJ11.out.below (balloc hb12 (.cells (rcA 5 0 vz) 59)))
      have HX13 := Lib.hid (HX11.out.below (balloc hb12 (.cells (rcA 5 0 vz) 59)))
      have HY13 := Lib.hid (HY11.out.below (balloc hb12 (.cells (rcA 5 0 vz) 59)))
      obtain ⟨gz, cz, rfl, -⟩ := own_slice' hvz
      have hq3 : (Value.agg (rcA (lawR 5 0 a_ K).q (lawR 5 0 a_ K).t (.slice gz (lawR 5 0 a_ K).b.length cz))) = .agg #[.int .i64 5, .int .i64 0, .slice gz (lawR 5 0 a_ K).b.length cz] := rfl
      rw [hq3]
      clear hvz hb12 hq3 e0 e1 e2 e3 e4
      have HLB := Lib.hid (show (lawR 5 0 a_ K).b.length ≤ 8 from by show (blks a_ K).length ≤ 8; rw [blks_length]; omega)
      have HKR := Lib.hid (fun (w' : World) (va vb : Value) (h1 : SlK w'.heap.size w' va (lawR 5 0 a_ K).b) (h2 : SlK w'.heap.size w' vb (lawR 5 0 a_ K).b) => show Calls Tryz.prog 30 #[.agg #[.int .i64 5, .int .i64 0, va], .agg #[.int .i64 5, .int .i64 0, vb]] w' (Bit true w') from by
        have := krecord_any (lawR 5 0 a_ K) (lawR 5 0 a_ K) va vb w' h1 h2 HLB.out
        rwa [rcB_refl] at this)
      have HZC := Lib.hid (show ∀ w' : World, RcB w4.heap.size (lawR 5 0 a_ K) (.slice gz (lawR 5 0 a_ K).b.length cz) w12.heap.size w' → w'.cell? ⟨w12.heap.size, 0, none⟩ = some (.int .i64 5) ∧ w'.cell? ⟨w12.heap.size, 1, none⟩ = some (.int .i64 0) ∧ w'.cell? ⟨w12.heap.size, 2, none⟩ = some (.slice gz (lawR 5 0 a_ K).b.length cz) from fun w' h => h.cells)
      generalize (lawR 5 0 a_ K).b.length = lz at *
      obtain ⟨w13, hw13⟩ : ∃ w13, w13 = (w12.alloc (.cells (rcA 5 0 (.slice gz lz cz)) 59)) := ⟨_, rfl⟩
      rw [← hw13] at HZ13 HJ13 HX13 HY13
      have hcR : (w12.alloc (.cells #[.int .i64 5, .int .i64 0, .slice gz lz cz] 59)) = w13 := hw13.symm
      clear hw13
      obtain ⟨y0, y1, y2⟩ := HZC.out _ HZ13.out
      have CRC := Lib.hid (HKR.out w13 _ _ HZ13.out.slk HX13.out.slk)
      obtain ⟨x0, x1, x2⟩ := HRX.out _ HX13.out
      go_wp2_with fail
      clear hcR
      refine CRC.out.mono ?_
      rintro e w14 ⟨rfl, hb14⟩
      have HB14 := Lib.hid (bthen (HBW.out _ _ HJ13.out) hb14)
      have HRR := Lib.hid (journal_runs w14 (HT.out.below HB14.out))
      clear hb14 x0 x1 x2 y0 y1 y2
      go_wp2_with fail
      refine HRR.out.mono ?_
      rintro e w15 ⟨rfl, hb15⟩
      go_wp2_with fail
      go_ret
      exact bit rfl (bthen HB14.out hb15)
    · have HTD := Lib.hid (show jcode q9 cf 0 = 0 ∧ jnewest q9 cf 0 = 6 ∧ jwhole q9 cf 0 = true ∧ jrecR q9 cf 0 = lawR 6 1 y_ K from ⟨t0, ht⟩)
      clear t0 ht
      have CSL := Lib.hid (HJ11.out.slot 0)
      unfold SlotOut at CSL
      rw [HTD.out.2.2.2, HTD.out.2.2.1, HTD.out.2.1, jslot_nil HTD.out.1] at CSL
      obtain ⟨e0, e1, e2, e3, e4⟩ := CfB.cells HJ11.out.cfg
      go_wp2_with fail
      refine CSL.out.mono ?_
      rintro e w12 ⟨vz, rfl, hvz, hb12⟩
      have HZ13 := Lib.hid (show RcB w4.heap.size (lawR 6 1 y_ K) vz w12.heap.size (w12.alloc (.cells (rcA 6 1 vz) 59)) from rcB_new (x := (lawR 6 1 y_ K)) (lawR_is _ _ _ _) (Nat.le_trans HJ11.out.bB hb12.size) (own_base hvz HJ11.out.bB))
      have HJ13 := Lib.hid (HJ11.out.below (balloc hb12 (.cells (rcA 6 1 vz) 59)))
      have HX13 := Lib.hid (HX11.out.below (balloc hb12 (.cells (rcA 6 1 vz) 59)))
      have HY13 := Lib.hid (HY11.out.below (balloc hb12 (.cells (rcA 6 1 vz) 59)))
      obtain ⟨gz, cz, rfl, -⟩ := own_slice' hvz
      have hq3 : (Value.agg (rcA (lawR 6 1 y_ K).q (lawR 6 1 y_ K).t (.slice gz (lawR 6 1 y_ K).b.length cz))) = .agg #[.int .i64 6, .int .i64 1, .slice gz (lawR 6 1 y_ K).b.length cz] := rfl
      rw [hq3]
      clear hvz hb12 hq3 e0 e1 e2 e3 e4
      have HLB := Lib.hid (show (lawR 6 1 y_ K).b.length ≤ 8 from by show (blks y_ K).length ≤ 8; rw [blks_length]; omega)
      have HKR := Lib.hid (fun (w' : World) (va vb : Value) (h1 : SlK w'.heap.size w' va (lawR 6 1 y_ K).b) (h2 : SlK w'.heap.size w' vb (lawR 6 1 y_ K).b) => show Calls Tryz.prog 30 #[.agg #[.int .i64 6, .int .i64 1, va], .agg #[.int .i64 6, .int .i64 1, vb]] w' (Bit true w') from by
        have := krecord_any (lawR 6 1 y_ K) (lawR 6 1 y_ K) va vb w' h1 h2 HLB.out
        rwa [rcB_refl] at this)
      have HZC := Lib.hid (show ∀ w' : World, RcB w4.heap.size (lawR 6 1 y_ K) (.slice gz (lawR 6 1 y_ K).b.length cz) w12.heap.size w' → w'.cell? ⟨w12.heap.size, 0, none⟩ = some (.int .i64 6) ∧ w'.cell? ⟨w12.heap.size, 1, none⟩ = some (.int .i64 1) ∧ w'.cell? ⟨w12.heap.size, 2, none⟩ = some (.slice gz (lawR 6 1 y_ K).b.length cz) from fun w' h => h.cells)
      generalize (lawR 6 1 y_ K).b.length = lz at *
      obtain ⟨w13, hw13⟩ : ∃ w13, w13 = (w12.alloc (.cells (rcA 6 1 (.slice gz lz cz)) 59)) := ⟨_, rfl⟩
      rw [← hw13] at HZ13 HJ13 HX13 HY13
      have hcR : (w12.alloc (.cells #[.int .i64 6, .int .i64 1, .slice gz lz cz] 59)) = w13 := hw13.symm
      clear hw13
      obtain ⟨y0, y1, y2⟩ := HZC.out _ HZ13.out
      have CRC := Lib.hid (HKR.out w13 _ _ HZ13.out.slk HY13.out.slk)
      obtain ⟨x0, x1, x2⟩ := HRY.out _ HY13.out
      go_wp2_with fail
      clear hcR
      refine CRC.out.mono ?_
      rintro e w14 ⟨rfl, hb14⟩
      have HB14 := Lib.hid (bthen (HBW.out _ _ HJ13.out) hb14)
      have HRR := Lib.hid (journal_runs w14 (HT.out.below HB14.out))
      clear hb14 x0 x1 x2 y0 y1 y2
      go_wp2_with fail
      refine HRR.out.mono ?_
      rintro e w15 ⟨rfl, hb15⟩
      go_wp2_with fail
      go_ret
      exact bit rfl (bthen HB14.out hb15)
    · have HTD := Lib.hid (show jcode q9 cf 0 = 0 ∧ jnewest q9 cf 0 = 6 ∧ jwhole q9 cf 0 = false ∧ jrecR q9 cf 0 = zeroR from ⟨t0, ht⟩)
      clear t0 ht
      have CSL := Lib.hid (HJ11.out.slot 0)
      unfold SlotOut at CSL
      rw [HTD.out.2.2.2, HTD.out.2.2.1, HTD.out.2.1, jslot_nil HTD.out.1] at CSL
      obtain ⟨e0, e1, e2, e3, e4⟩ := CfB.cells HJ11.out.cfg
      go_wp2_with fail
      refine CSL.out.mono ?_
      rintro e w12 ⟨vz, rfl, hvz, hb12⟩
      have HZ13 := Lib.hid (show RcB w4.heap.size zeroR vz w12.heap.size (w12.alloc (.cells (rcA 0 0 vz) 59)) from rcB_new (x := zeroR) (fun d hd => by cases hd) (Nat.le_trans HJ11.out.bB hb12.size) (own_base hvz HJ11.out.bB))
      have HJ13 := Lib.hid (HJ11.out.below (balloc hb12 (.cells (rcA 0 0 vz) 59)))
      have HX13 := Lib.hid (HX11.out.below (balloc hb12 (.cells (rcA 0 0 vz) 59)))
      have HY13 := Lib.hid (HY11.out.below (balloc hb12 (.cells (rcA 0 0 vz) 59)))
      obtain ⟨gz, cz, rfl, -⟩ := own_slice' hvz
      have hq3 : (Value.agg (rcA zeroR.q zeroR.t (.slice gz zeroR.b.length cz))) = .agg #[.int .i64 0, .int .i64 0, .slice gz zeroR.b.length cz] := rfl
      rw [hq3]
      clear hvz hb12 hq3 e0 e1 e2 e3 e4
      have HZC := Lib.hid (show ∀ w' : World, RcB w4.heap.size zeroR (.slice gz zeroR.b.length cz) w12.heap.size w' → w'.cell? ⟨w12.heap.size, 0, none⟩ = some (.int .i64 0) ∧ w'.cell? ⟨w12.heap.size, 1, none⟩ = some (.int .i64 0) ∧ w'.cell? ⟨w12.heap.size, 2, none⟩ = some (.slice gz zeroR.b.length cz) from fun w' h => h.cells)
      generalize zeroR.b.length = lz at *
      obtain ⟨w13, hw13⟩ : ∃ w13, w13 = (w12.alloc (.cells (rcA 0 0 (.slice gz lz cz)) 59)) := ⟨_, rfl⟩
      rw [← hw13] at HZ13 HJ13 HX13 HY13
      have hcR : (w12.alloc (.cells #[.int .i64 0, .int .i64 0, .slice gz lz cz] 59)) = w13 := hw13.symm
      clear hw13
      obtain ⟨y0, y1, y2⟩ := HZC.out _ HZ13.out
      have HRR := Lib.hid (journal_runs w13 (HTY.out _ _ HJ13.out))
      go_wp2_with fail
      clear hcR
      refine HRR.out.mono ?_
      rintro e w15 ⟨rfl, hb15⟩
      go_wp2_with fail
      go_ret
      exact bit rfl (bthen (HBW.out _ _ HJ13.out) hb15)
end Go.Proofs.YtdcpgpgomnpefaaGreatDoor
/-
  The law stavelaw10.JournalCut (a record over an elder one, the power cut behind any number of operations: the slot then tells one of the two whole, or that the newer is torn; never another) returns true for all numbers, and leaves all memory that was there as it was.
  Conditions: none but the row's own; the one package-level variable that it reads, errors.errorType, is tied to the program's text by the card. The card speaks of the pruned copy of the project that the seat names.
-/
namespace Go.Proofs.YtdcpgpgomnpefaaGreatDoor.journalCut
open Go.ChangeShapes Go.WideShapes Go.ChangeAt Go.RowKit

set_option maxRecDepth 100000 in
theorem contract (H : Type) (enc : TypeId × Value → H) (W : World) (base : Nat) (args : Array Value) (ds gs : List (DataW H)) (before : List MemPlace)
    (hval : ∀ (j : Nat) t v, Tryz.f6.params[j]? = some t → args[j]? = some v → Value.okWide Tryz.prog W .any base t v)
    (hW : DataW.Whole enc Tryz.prog Tryz.f6.params.toList Rows.journalCutSpec.vars false W args.toList ds gs before) (hL : laidMetH Tryz.prog Rows.journalCutRow.laid W) :
    Calls Tryz.prog 6 args W fun e W' => ∃ v, e = .returned v ∧ Rows.journalCutSpec.post enc Tryz.prog Tryz.f6 false true false false W args v W' := by
  have hW' := hW
  obtain ⟨p, q, hA0, hV, rfl, hfz, hnd⟩ := hW
  have hA : DataW.TrodAll enc Tryz.prog W 0 (fun _ => true) true Tryz.f6.params.toList args.toList ds p := hA0
  rw [Tryz.params6] at hA hval
  obtain ⟨v0, vs0, d0, ds0, p0, q0, hargs, rfl, rfl, h0, r0⟩ := trodAll_cons hA
  obtain ⟨v1, vs1, d1, ds1, p1, q1, rfl, rfl, rfl, h1, r1⟩ := trodAll_cons r0
  obtain ⟨v2, vs2, d2, ds2, p2, q2, rfl, rfl, rfl, h2, r2⟩ := trodAll_cons r1
  obtain ⟨v3, vs3, d3, ds3, p3, q3, rfl, rfl, rfl, h3, r3⟩ := trodAll_cons r2
  obtain ⟨v4, vs4, d4, ds4, p4, q4, rfl, rfl, rfl, h4, r4⟩ := trodAll_cons r3
  obtain ⟨v5, vs5, d5, ds5, p5, q5, rfl, rfl, rfl, h5, r5⟩ := trodAll_cons r4
  obtain ⟨rfl, rfl, rfl⟩ := trodAll_nil r5
  obtain rfl : args = #[v0, v1, v2, v3, v4, v5] := Array.ext' hargs
  obtain ⟨k_, rfl, rfl, rfl, _⟩ := open_int Tryz.underlying3 (hval 0 3 v0 (by simp) (by simp)) h0
  obtain ⟨n_, rfl, rfl, rfl, _⟩ := open_int Tryz.underlying3 (hval 1 3 v1 (by simp) (by simp)) h1
  obtain ⟨f_, rfl, rfl, rfl, _⟩ := open_int Tryz.underlying3 (hval 2 3 v2 (by simp) (by simp)) h2
  obtain ⟨a_, rfl, rfl, rfl, _⟩ := open_int Tryz.underlying3 (hval 3 3 v3 (by simp) (by simp)) h3
  obtain ⟨y_, rfl, rfl, rfl, _⟩ := open_int Tryz.underlying3 (hval 4 3 v4 (by simp) (by simp)) h4
  have hv5 := (hval 5 29 v5 (by simp) (by simp))
  obtain ⟨l, hsl, hll⟩ := open_u64s hv5 h5
  obtain ⟨rfl, rfl⟩ := trodVars_none hV
  clear hA0
  have hw : Calls Tryz.prog 6 #[.int .i64 k_, .int .i64 n_, .int .i64 f_, .int .i64 a_, .int .i64 y_, v5] W (Bit true W) := cut_any W k_ n_ f_ a_ y_ v5 l hsl hll (handle_of_laid hL)
  refine hw.mono fun e W' ⟨he, hg⟩ => ?_
  subst he
  exact ⟨_, rfl, law_post Tryz.laidOut (by kernel_rfl) (by kernel_rfl) (by kernel_rfl) Tryz.underlying4 hW' hg rfl rfl rfl⟩

theorem reads (os : Os) {H : Type} (enc : TypeId × Value → H) : ∃ places, DataW.whole enc Tryz.prog ((laidWorld os).forCall (fun _ _ => 0) ⟨#[], #[.int .i64 0, .int .i64 0, .int .i64 0, .int .i64 0, .int .i64 0, .slice none 0 0], []⟩).memory Tryz.f6.params.toList Rows.journalCutSpec.vars false (#[.int .i64 0, .int .i64 0, .int .i64 0, .int .i64 0, .int .i64 0, .slice none 0 0] : Array Value).toList 8 = some ([.lit (.int .i64 0), .lit (.int .i64 0), .lit (.int .i64 0), .lit (.int .i64 0), .lit (.int .i64 0), .nil], [], places) :=
  ⟨[], by kernel_rfl⟩

set_option maxRecDepth 100000 in
theorem lifted (os : Os) (started : os.Started) (H : Type) (enc : TypeId × Value → H) (F : Stop.Interp) :
    ReturnsInHanded {} Tryz.checked os 6 .any ((OpenSpec.ofChange Rows.journalCutSpec).preRow enc Tryz.prog Tryz.f6 Rows.journalCutRow.domain false Rows.journalCutRow.laid) (((OpenSpec.ofChange Rows.journalCutSpec).at F).post enc Tryz.prog Tryz.f6 false true false false) := by
  obtain ⟨places, hx⟩ := reads os enc
  refine returnsInHanded_of_row (C := Tryz.checked) (s := OpenSpec.ofChange Rows.journalCutSpec) Tryz.own started (by kernel_rfl) Tryz.func6
    (witness_row_at (enc := enc) (C := Tryz.checked) false (laidWorld os) #[.int .i64 0, .int .i64 0, .int .i64 0, .int .i64 0, .int .i64 0, .slice none 0 0] rfl (by kernel_rfl) (by kernel_rfl) (by kernel_rfl)
      (OpenSpec.preRow_of_cond 8 hx (by kernel_rfl) (fun k hk => by cases hk) (by kernel_rfl) (laidWorld_met os _))) ?_
  intro W base args ds gs before hval hW _ _ _ hL _ _
  exact contract H enc W base args ds gs before hval hW hL

theorem said : Rows.JournalCutSaid :=
  OpenClaim.holds_of_cond 6 Tryz.f6 rfl rfl rfl rfl rfl rfl rfl ⟨rfl, rfl, rfl, rfl, rfl⟩ rfl rfl rfl rfl rfl (by kernel_rfl) Tryz.func6 (by kernel_rfl)
    (of_decide_eq_true (by kernel_rfl)) (by unfold Func.isWrapper; first | (rw [if_pos (by decide +kernel)]; kernel_rfl) | (rw [if_neg (by decide +kernel)]; exact ⟨rfl, rfl⟩))
    (fun os started H enc _ F => by rw [OpenClaim.pre_eq_preRow]; exact lifted os started H enc F)

theorem plain (f : FuncId) (fn : Func) (hf : Tryz.pinned.checked.prog.funcNamed "stave/stavelaw10.JournalCut" = some f) (hfn : Tryz.pinned.checked.prog.funcs[f]? = some fn) :
    true = Tryz.pinned.checked.prog.looks [] ∧ ∀ (j : Nat) t, fn.params[j]? = some t → Tryz.pinned.checked.prog.wantsStandIn t = false := by
  obtain rfl : f = 6 := Option.some.inj ((show Tryz.prog.funcNamed "stave/stavelaw10.JournalCut" = some 6 by kernel_rfl).symm.trans hf) |>.symm
  obtain rfl : fn = Tryz.f6 := (Option.some.inj (Tryz.func6.symm.trans hfn)).symm
  have hall : (Tryz.f6.params.toList.all fun t => !Tryz.prog.wantsStandIn t) = true := by kernel_rfl
  refine ⟨by kernel_rfl, fun j t ht => ?_⟩
  have := List.all_eq_true.1 hall t (by simpa using Array.mem_of_getElem? ht)
  have h2 : Tryz.prog.wantsStandIn t = false := by simpa using this
  exact h2

end Go.Proofs.YtdcpgpgomnpefaaGreatDoor.journalCut
namespace Go.Proofs.YtdcpgpgomnpefaaGreatDoor
theorem JournalCut_card : Rows.JournalCutCardSaid :=
  Claim7.holds_tied_plain_at .later [] _ _ _ _ journalCut.said (fun _ h => by cases h) (by kernel_rfl) (fun _ h => by cases h) journalCut_row_tie rfl ⟨rfl, rfl⟩ (by kernel_rfl) rfl journalCut.plain (by kernel_rfl)
#print axioms JournalCut_card
end Go.Proofs.YtdcpgpgomnpefaaGreatDoor
