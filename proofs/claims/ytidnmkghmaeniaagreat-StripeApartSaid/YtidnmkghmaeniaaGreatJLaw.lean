/-
  stavelaw10.JournalRuns: the chapter's runs.
-/
import Derived.Test.YtidnmkghmaeniaaGreatJGet
namespace Go.Proofs.YtidnmkghmaeniaaGreat
open Go.RowKit Go.Deep Crc Dk Qk Go.Maps Hf
def cJ : Cf := ⟨9, 1, 2, 1, 2⟩
def xJ : Rc := ⟨3, 0, blks 5 1⟩
def jq0 : Rk := newRk 2 4
def jq1 : Rk := Rk.jblank jq0 cJ 0
def jq2 : Rk := Rk.jblank jq1 cJ 1
def jq3 : Rk := Rk.jlog jq2 cJ xJ
def jq4 : Rk := Rk.rotten jq3 0 2 0 1
def jq5 : Rk := Rk.rotten jq4 1 2 0 1
set_option maxRecDepth 100000 in
theorem jx_in : RcIn cJ 1 xJ := ⟨blks_is 5 1, blks_length 5 1, by decide, by decide, by decide, by decide, Or.inr ⟨by decide, by decide⟩⟩
theorem jwl0 : Wl jq0 cJ := wl_new (by decide) (by decide) (by decide) (by decide) (by decide)
theorem jnr0 : NoRot jq0 := fun _ _ _ => rfl
set_option maxRecDepth 100000 in
theorem j1 : Rk.jblankC jq0 cJ 0 = 0 ∧ Wl jq1 cJ ∧ SlotIs jq1 cJ 0 (blankR cJ) ∧ NoRot jq1 := by
  obtain ⟨a1, a2, a3, a4, a5, a6⟩ := jwl0.blank (s := 0) (by decide)
  exact ⟨a1, a2, a4, a6 jnr0⟩
set_option maxRecDepth 100000 in
theorem j2 : Rk.jblankC jq1 cJ 1 = 0 ∧ Wl jq2 cJ ∧ SlotIs jq2 cJ 0 (blankR cJ) ∧ NoRot jq2 := by
  obtain ⟨_, h2, h3, h4⟩ := j1
  obtain ⟨a1, a2, a3, a4, a5, a6⟩ := h2.blank (s := 1) (by decide)
  exact ⟨a1, a2, a5 0 _ (by decide) h3, a6 h4⟩
set_option maxRecDepth 100000 in
theorem j3 : Rk.jlogC jq2 cJ xJ = 0 ∧ Wl jq3 cJ ∧ SlotIs jq3 cJ 0 (blankR cJ) ∧ SlotIs jq3 cJ 1 xJ ∧ NoRot jq3 := by
  obtain ⟨_, h2, h3, h4⟩ := j2
  obtain ⟨a1, a2, a3, a4, a5, a6⟩ := h2.log (s := 1) (by decide) jx_in (by decide)
  exact ⟨a1, a2, a5 0 _ (by decide) h3, a4, a6 h4⟩
theorem jn1 : jq1.n = 2 ∧ jq1.k = 4 := ⟨jblank_n jq0 cJ 0, jblank_k jq0 cJ 0⟩
theorem jn2 : jq2.n = 2 ∧ jq2.k = 4 := ⟨(jblank_n jq1 cJ 1).trans jn1.1, (jblank_k jq1 cJ 1).trans jn1.2⟩
theorem jn3 : jq3.n = 2 ∧ jq3.k = 4 := ⟨(jlog_n jq2 cJ xJ).trans jn2.1, (jlog_k jq2 cJ xJ).trans jn2.2⟩
set_option maxRecDepth 100000 in
theorem jt1 : jcode jq3 cJ 1 = 0 ∧ jnewest jq3 cJ 1 = 3 ∧ jwhole jq3 cJ 1 = true ∧ jrecR jq3 cJ 1 = xJ := j3.2.2.2.1.told j3.2.1 (by decide) jx_in
set_option maxRecDepth 100000 in
theorem jt0 : jcode jq3 cJ 0 = 0 ∧ jnewest jq3 cJ 0 = 0 ∧ jwhole jq3 cJ 0 = true ∧ jrecR jq3 cJ 0 = blankR cJ := j3.2.2.1.told j3.2.1 (by decide) (blank_in j3.2.1.right 0)
theorem jslot_nil {q : Rk} {c : Cf} {s : Int} (h : jcode q c s = 0) : jslotV q c s = .nilIface := by
  unfold jcode at h
  unfold jslotV
  split at h
  · rename_i h1
    rw [if_pos h1]
    split at h
    · rename_i h2; rw [if_pos h2]
    · cases h
  · cases h
set_option maxRecDepth 100000 in
theorem jr4 : Rk.rots jq3 0 2 0 1 = true ∧ Wl jq4 cJ ∧ jq4.n = 2 ∧ jq4.k = 4 ∧ goodB ((jq4.s 0).read 2) = false ∧ (jq4.s 1).read 2 = put (jF xJ 0) ∧ (jq4.s 1).rot 2 = false := by
  obtain ⟨n3, k3⟩ := jn3
  obtain ⟨_, h2, _, h4, h5⟩ := j3
  obtain ⟨a1, a2, a3, a4, a5, a6⟩ := h2.rot (d := 0) (p := 2) (a := 0) (x := 1) (by rw [n3]; decide) (by rw [k3]; decide) (h5 0 2 (by rw [n3]; decide)) (by decide) (by decide)
  obtain ⟨b1, b2⟩ := a6 1 2 (Or.inl (by decide))
  refine ⟨a1, a2, a3.trans n3, a4.trans k3, ?_, b1.trans (h4 1 0 (by rw [n3]; decide) (by decide)), b2.trans (h5 1 2 (by rw [n3]; decide))⟩
  show goodB (((Rk.rotten jq3 ((0 : Nat) : Int) ((2 : Nat) : Int) ((0 : Nat) : Int) 1).s 0).read 2) = false
  rw [a5, show (jq3.s 0).read 2 = put (jF xJ 0) from h4 0 0 (by rw [n3]; decide) (by decide)]
  exact rot_bad (jF_is jx_in.is 0) (jx_in.frame h2.right (by decide)) (by decide) (by decide) (by decide)
set_option maxRecDepth 100000 in
theorem jr5 : Rk.rots jq4 1 2 0 1 = true ∧ Wl jq5 cJ ∧ jq5.n = 2 ∧ goodB ((jq5.s 0).read 2) = false ∧ goodB ((jq5.s 1).read 2) = false := by
  obtain ⟨_, h2, n4, k4, g0, g1, g2⟩ := jr4
  obtain ⟨a1, a2, a3, a4, a5, a6⟩ := h2.rot (d := 1) (p := 2) (a := 0) (x := 1) (by rw [n4]; decide) (by rw [k4]; decide) g2 (by decide) (by decide)
  obtain ⟨b1, _⟩ := a6 0 2 (Or.inl (by decide))
  refine ⟨a1, a2, a3.trans n4, ?_, ?_⟩
  · show goodB (((Rk.rotten jq4 ((1 : Nat) : Int) ((2 : Nat) : Int) ((0 : Nat) : Int) 1).s 0).read 2) = false
    rw [b1]; exact g0
  · show goodB (((Rk.rotten jq4 ((1 : Nat) : Int) ((2 : Nat) : Int) ((0 : Nat) : Int) 1).s 1).read 2) = false
    rw [a5, g1]
    exact rot_bad (jF_is jx_in.is 0) (jx_in.frame h2.right (by decide)) (by decide) (by decide) (by decide)
set_option maxRecDepth 100000 in
theorem jt5 : jslotV jq5 cJ 1 = wrapV opJSlot 1 (lossV 1 0 1) := by
  obtain ⟨_, h2, n5, g0, g1⟩ := jr5
  have hh := has_slot (s := 1) h2.fits (by decide)
  obtain ⟨_, hno⟩ := slot_lost (i := 0) hh (by decide) fun d hd _ => jfr_bad (by decide) (Or.inr (Or.inr (by
    rw [n5] at hd
    have : d = 0 ∨ d = 1 := by omega
    rcases this with rfl | rfl
    · exact g0
    · exact g1)))
  exact jslotV_loss hh hno
end Go.Proofs.YtidnmkghmaeniaaGreat
/-
  How a law of the journal begins: a configuration, a new rack of it.
-/
namespace Go.Proofs.YtidnmkghmaeniaaGreat
open Go.RowKit Go.Deep Crc Dk Qk Go.Maps Hf
def JfS (cf : Cf) (b : Nat) (w w' : World) : Prop := CfB cf b w' ∧ b < w'.heap.size ∧ Below w.heap.size w w'
theorem JfS.drew {cf : Cf} {b : Nat} {w w' : World} (h : JfS cf b w w') : JfS cf b w w'.drew := ⟨h.1, h.2.1, h.2.2.drew⟩
theorem JfS.then {cf : Cf} {b : Nat} {w w1 w2 : World} (h : JfS cf b w w1) (hb : Below w1.heap.size w1 w2) : JfS cf b w w2 := ⟨CfB.below h.1 h.2.1 hb, Nat.lt_of_lt_of_le h.2.1 hb.size, bthen h.2.2 hb⟩
theorem JfS.made {cf : Cf} {b : Nat} {w w1 w2 : World} {c : Lc} {q : Rk} (h : JfS cf b w w1) (hq : QS w1 c q w2) : JfS cf b w w2 := h.then hq.base
/-- A law's configuration. -/
structure CfL (cf : Cf) (N K SC : Nat) (T Z : Int) : Prop where
  ok : CfgOk cf
  n : cf.n = N
  k : cf.k = K
  secs : cf.secs = SC
  t : cf.t = T
  s : cf.s = Z
  r : 1 ≤ N ∧ N ≤ 6 ∧ 1 ≤ SC ∧ SC ≤ 128 ∧ 1 ≤ K ∧ K ≤ 4 ∧ K ≤ N
theorem cfL_of {cf : Cf} {T Z : Int} (h : CfgOk cf ∧ cf.t = T ∧ cf.s = Z) : ∃ N K SC, CfL cf N K SC T Z := by
  obtain ⟨⟨h1, h2, h3, h4, h5, h6⟩, ht, hs⟩ := h
  have hok : CfgOk cf := ⟨h1, h2, h3, h4, h5, h6⟩
  obtain ⟨x1, x2, _⟩ := hok.right.secs
  obtain ⟨N, hN⟩ := Int.eq_ofNat_of_zero_le (show 0 ≤ cf.n by omega)
  obtain ⟨K, hK⟩ := Int.eq_ofNat_of_zero_le (show 0 ≤ cf.k by omega)
  obtain ⟨SC, hSC⟩ := Int.eq_ofNat_of_zero_le (show 0 ≤ cf.secs by omega)
  exact ⟨N, K, SC, hok, hN, hK, hSC, ht, hs, by omega⟩
theorem CfL.fits {cf : Cf} {N K SC : Nat} {T Z : Int} (h : CfL cf N K SC T Z) {q : Rk} (h1 : q.n = N) (h2 : q.k = SC) : cf.fits q = true := by
  unfold Cf.fits
  rw [show cfRightB cf = true from decide_eq_true h.ok.right, h1, h2, h.n, h.secs, decide_eq_true rfl, decide_eq_true (Int.le_refl _)]; rfl
theorem CfL.wl {cf : Cf} {N K SC : Nat} {T Z : Int} (h : CfL cf N K SC T Z) : Wl (newRk N SC) cf := wl_new h.r.1 (by have := h.r.2.1; omega) h.r.2.2.1 h.r.2.2.2.1 (h.fits rfl rfl)
theorem CfL.nr (N SC : Nat) : NoRot (newRk N SC) := fun _ _ _ => rfl
theorem CfL.new {cf : Cf} {N K SC : Nat} {T Z : Int} (h : CfL cf N K SC T Z) (w : World) : Calls Tryz.prog 6 #[.int .i64 cf.n, .int .i64 cf.secs] w (QNew w N SC) := by
  rw [h.n, h.secs]; exact qs_new N SC w h.r.1 (by have := h.r.2.1; omega) h.r.2.2.1 h.r.2.2.2.1
theorem CfL.blocks {cf : Cf} {N K SC : Nat} {T Z : Int} (h : CfL cf N K SC T Z) (a : Int) (w : World) : Calls Tryz.prog 7 #[.int .i64 cf.k, .int .i64 a] w (BlksNew (blks a K) w) := by
  rw [h.k]; exact blocks_any K a w (by have := h.r.2.2.2.2.2.1; omega)
/-- A record of a law: its number, its stripe, the blocks of a number. -/
def lawR (q t a : Int) (K : Nat) : Rc := ⟨q, t, blks a K⟩
theorem lawR_is (q t a : Int) (K : Nat) : (lawR q t a K).is := blks_is a K
theorem CfL.rc {cf : Cf} {N K SC : Nat} {T Z : Int} (h : CfL cf N K SC T Z) {q t a : Int} {s : Nat} (h0 : 0 ≤ q) (h1 : q ≤ 1152921504606846976) (h2 : 0 ≤ t) (h3 : t < T) (hs : q = 0 ∨ 2 ≤ q ∧ q % Z = s) : RcIn cf s (lawR q t a K) :=
  ⟨lawR_is q t a K, by show (blks a K).length = _; rw [blks_length, h.k]; rfl, h0, h1, h2, by rw [h.t]; exact h3, by rw [h.s]; exact hs⟩
theorem dying_n (q : Rk) (i : Int) (d : Bool) : (Rk.dying q i d).n = q.n := by unfold Rk.dying; split <;> rfl
theorem JW.die {w1 : World} {c : Lc} {cf : Cf} {b B n : Nat} {q : Rk} {w : World} (h : JW w1 c cf b B n q w) (i : Int) :
    Calls Tryz.prog 9 #[.pointer (some ⟨c.r, 0, none⟩), .int .i64 i] w (JN w1 c cf b B n (Rk.dying q i true) (.bool (decide (q.has i))) w) := h.step (h.qs.die i) (dying_n _ _ _)
theorem JW.replace {w1 : World} {c : Lc} {cf : Cf} {b B n : Nat} {q : Rk} {w : World} (h : JW w1 c cf b B n q w) (i : Int) :
    Calls Tryz.prog 11 #[.pointer (some ⟨c.r, 0, none⟩), .int .i64 i] w (JN w1 c cf b B n (Rk.dying q i false) (.bool (decide (q.has i))) w) := h.step (h.qs.replace i) (dying_n _ _ _)
end Go.Proofs.YtidnmkghmaeniaaGreat
