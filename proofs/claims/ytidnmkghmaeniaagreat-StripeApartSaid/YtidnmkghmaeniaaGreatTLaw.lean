/-
  stavelaw11: chapter 11's runs; stripes in a law's walk (written by gentlaw.py).
-/
import Derived.Test.YtidnmkghmaeniaaGreatTGet
import Derived.Test.YtidnmkghmaeniaaGreatJLaw
import Derived.Deep.RegionHeld3
import Derived.IntWalk
namespace Go.Proofs.YtidnmkghmaeniaaGreat
open Go.RowKit Go.Deep Dk Qk Go.Maps Hf
theorem tL_ups {q : Rk} {c : Cf} {s : Nat} {g : Int} {bs : List (List UInt8)} {P : Nat → Bool} (h : TIs q c s g bs P) : (tL q P).length ≤ (ups q).length :=
  nodup_bound _ _ (tL_nodup q P) fun d hd => mem_ups.2 ⟨tL_lt d hd, ((h d (tL_lt d hd)).1 (List.mem_filter.1 hd).2).1⟩
theorem got_told {q : Rk} {c : Cf} {s : Nat} {g : Int} {bs : List (List UInt8)} {P : Nat → Bool} (hp : Pl q c) (hx : StIn c s g bs) (h : TIs q c s g bs P) (hl : c.k.toNat ≤ (tL q P).length) :
    tcode q c s = 0 ∧ tnew q c s = g ∧ ∀ bs', BlocksOf c.k.toNat 108 (chosen c.k.toNat (tpts q c s)) bs' → bs' = bs := by
  have hr := hp.right
  have hh : thas c q s = true := thas_iff.2 ⟨hp.fits, by omega, hx.s1⟩
  obtain ⟨e1, e2⟩ := h.look hp hx
  have hk : 1 ≤ c.k.toNat := by have := hr.2.2.1; omega
  have hk8 : c.k.toNat ≤ 8 := by have := hr.2.2.2.1; have := hr.2.2.2.2.1; omega
  have hne : tL q P ≠ [] := fun e => by rw [e] at hl; simp at hl; omega
  have hu := tL_ups h
  refine ⟨?_, by rw [e1, if_neg hne], fun bs' hb => ?_⟩
  · unfold tcode
    rw [if_pos hh, if_neg (fun e => e.elim (fun e => by rw [hp.off] at e; cases e) (fun e => by omega)), e2, List.length_map, if_neg (by omega)]
  · rw [e2] at hb
    exact parts_blocks hk8 (tL_nodup q P) hl (fun d hd => by have := tL_lt d hd; have := hp.ok.n8; omega) hx.len hx.is hb
theorem lost_told {q : Rk} {c : Cf} {s : Nat} {g : Int} {bs : List (List UInt8)} {P : Nat → Bool} (hp : Pl q c) (hx : StIn c s g bs) (h : TIs q c s g bs P) (hu : c.k.toNat ≤ (ups q).length) (hl : (tL q P).length < c.k.toNat) :
    tcode q c s = 6 ∧ tgetV q c s = wrapV opTGet s (lossV s ((tL q P).length : Nat) c.k) := by
  have hr := hp.right
  have hh : thas c q s = true := thas_iff.2 ⟨hp.fits, by omega, hx.s1⟩
  obtain ⟨e1, e2⟩ := h.look hp hx
  have h1 : ¬ (q.off = true ∨ ((ups q).length : Int) < c.k) := fun e => e.elim (fun e => by rw [hp.off] at e; cases e) (fun e => by omega)
  have h2 : (((tL q P).length : Nat) : Int) < c.k := by omega
  unfold tcode tgetV
  rw [if_pos hh, if_pos hh, if_neg h1, if_neg h1, e2, List.length_map, if_pos h2, if_pos h2]
  exact ⟨rfl, rfl⟩
theorem off_told {q : Rk} {c : Cf} {s : Nat} (hp : Pl q c) (hs : (s : Int) < c.t) (hu : (ups q).length < c.k.toNat) : tcode q c s = 7 ∧ tgetV q c s = wrapV opTGet s (errV 7) := by
  have hr := hp.right
  have hh : thas c q s = true := thas_iff.2 ⟨hp.fits, by omega, hs⟩
  have h1 : (q.off = true ∨ ((ups q).length : Int) < c.k) := Or.inr (by omega)
  unfold tcode tgetV
  rw [if_pos hh, if_pos hh, if_pos h1, if_pos h1]
  exact ⟨rfl, rfl⟩
/-- A row of blocks of the walk's own. -/
structure BkB (B : Nat) (bs : List (List UInt8)) (v : Value) (w : World) : Prop where
  is : ∀ d ∈ bs, d.length = 108
  row : w.ownsRow B 39 108 v bs.length (bs.map bytesV).flatten
theorem BkB.below {B : Nat} {bs : List (List UInt8)} {v : Value} {w w' : World} (h : BkB B bs v w) (hb : Below w.heap.size w w') : BkB B bs v w' := ⟨h.is, own_below h.row hb⟩
theorem BkB.rc {B n : Nat} {bs : List (List UInt8)} {v : Value} {w w' : World} {c : Lc} (h : BkB B bs v w) (hf : Far B c n) (hc : RC c n w w') : BkB B bs v w' := ⟨h.is, own_rc h.row hf hc⟩
theorem BkB.slk {B : Nat} {bs : List (List UInt8)} {v : Value} {w : World} (h : BkB B bs v w) : SlK w.heap.size w v bs := slK_own h.row h.is rfl
theorem bkB_of {B : Nat} {n : Int} {k : Nat} {v : Value} {w w' : World} (h : w'.ownsRow w.heap.size 39 108 v (blks n k).length ((blks n k).map bytesV).flatten) (hB : B ≤ w.heap.size) : BkB B (blks n k) v w' := ⟨blks_is n k, own_base h hB⟩
theorem JW.tput {w1 : World} {c : Lc} {cf : Cf} {b B n : Nat} {q : Rk} {w : World} (h : JW w1 c cf b B n q w) (s g : Int) {bs : List (List UInt8)} {v : Value} (hv : SlK w.heap.size w v bs) :
    Calls Tryz.prog 8 #[.pointer (some ⟨c.r, 0, none⟩), .agg (cfA cf), .int .i64 s, .int .i64 g, v] w (JN w1 c cf b B n (Rk.tput q cf s g bs) (Rk.tputV q cf s g bs) w) := h.step (h.qs.of (tput_any w h.qs.rack cf s g bs v hv)) (tput_n _ _ _ _ _)
theorem JW.tlook {w1 : World} {c : Lc} {cf : Cf} {b B n : Nat} {q : Rk} {w : World} (h : JW w1 c cf b B n q w) (s : Int) :
    Calls Tryz.prog 20 #[.pointer (some ⟨c.r, 0, none⟩), .agg (cfA cf), .int .i64 s] w (LookOut q cf s w) := tlook_any w h.qs.rack cf s
def GotB (g : Int) (bs : List (List UInt8)) (w : World) (e : Ending) (w' : World) : Prop := ∃ v, e = .returned (.tuple #[v, .int .i64 g, .nilIface]) ∧ w'.ownsRow w.heap.size 39 108 v bs.length (bs.map bytesV).flatten ∧ Below w.heap.size w w'
def GotV (v : Value) (w : World) (e : Ending) (w' : World) : Prop := e = .returned (.tuple #[.slice none 0 0, .int .i64 0, v]) ∧ Below w.heap.size w w'
theorem JW.tget_yes {w1 : World} {c : Lc} {cf : Cf} {b B n : Nat} {q : Rk} {w : World} (h : JW w1 c cf b B n q w) {s g : Int} {bs : List (List UInt8)} (h0 : tcode q cf s = 0 ∧ tnew q cf s = g ∧ ∀ bs', BlocksOf cf.k.toNat 108 (chosen cf.k.toNat (tpts q cf s)) bs' → bs' = bs) :
    Calls Tryz.prog 10 #[.pointer (some ⟨c.r, 0, none⟩), .agg (cfA cf), .int .i64 s] w (GotB g bs w) := by
  refine (tget_any w h.qs.rack cf s).mono ?_
  rintro e w' ⟨hb, ⟨_, v, bs', rfl, ho, _, hB⟩ | ⟨hc, _⟩⟩
  · obtain rfl := h0.2.2 bs' hB
    exact ⟨v, by rw [h0.2.1], ho, hb⟩
  · exact absurd h0.1 hc
theorem JW.tget_no {w1 : World} {c : Lc} {cf : Cf} {b B n : Nat} {q : Rk} {w : World} (h : JW w1 c cf b B n q w) {s : Int} (h0 : tcode q cf s ≠ 0) :
    Calls Tryz.prog 10 #[.pointer (some ⟨c.r, 0, none⟩), .agg (cfA cf), .int .i64 s] w (GotV (tgetV q cf s) w) := by
  refine (tget_any w h.qs.rack cf s).mono ?_
  rintro e w' ⟨hb, ⟨hc, _⟩ | ⟨_, rfl⟩⟩
  · exact absurd hc h0
  · exact ⟨rfl, hb⟩
theorem dying_k (q : Rk) (i : Int) (b : Bool) : (Rk.dying q i b).k = q.k := by unfold Rk.dying; split <;> rfl
def cT : Cf := ⟨9, 2, 3, 1, 1⟩
def tq0 : Rk := newRk 3 4
def tq1 : Rk := Rk.tput tq0 cT 0 5 (blks 5 2)
def tq2 : Rk := Rk.dying tq1 1 true
def tq3 : Rk := Rk.dying tq2 1 false
def tq4 : Rk := Rk.tput tq3 cT 0 6 (blks 8 2)
def tq5 : Rk := Rk.rotten tq4 2 3 0 1
set_option maxRecDepth 100000 in
theorem tx5 : StIn cT 0 5 (blks 5 2) := ⟨by decide, by decide, by decide, blks_length 5 2, blks_is 5 2⟩
set_option maxRecDepth 100000 in
theorem tx6 : StIn cT 0 6 (blks 8 2) := ⟨by decide, by decide, by decide, blks_length 8 2, blks_is 8 2⟩
set_option maxRecDepth 100000 in
theorem tpl0 : Pl tq0 cT := pl_new (by decide) (by decide) (by decide) (by decide) (by decide)
theorem tsT : tsec cT 0 = 3 := rfl
set_option maxRecDepth 100000 in
theorem tn1 : tq1.n = 3 ∧ tq1.k = 4 := ⟨tput_n tq0 cT 0 5 _, tput_k tq0 cT 0 5 _⟩
set_option maxRecDepth 100000 in
theorem tt1 : Rk.tputC tq0 cT 0 5 (blks 5 2) = 0 ∧ Pl tq1 cT ∧ (∀ d, d < 3 → (tq1.s d).dead = false ∧ (tq1.s d).read 3 = put (tF 2 0 5 (blks 5 2) d) ∧ (tq1.s d).rot 3 = false) := by
  obtain ⟨h1, h2, h3, h4, h5⟩ := tpl0.tput tx5
  exact ⟨h1, h2, fun d hd => ⟨h3 d hd, (h4 d 3 hd).trans (if_pos ⟨rfl, rfl⟩), h5 d 3 hd (Or.inl rfl)⟩⟩
set_option maxRecDepth 100000 in
theorem tt2 : Pl tq2 cT ∧ tq2.n = 3 ∧ ∀ d, tq2.s d = if d = 1 then (tq1.s 1).wipe true else tq1.s d := by
  obtain ⟨h1, h2, h3⟩ := tt1.2.1.dying (i := 1) (by rw [tn1.1]; decide) true
  exact ⟨h1, h2.trans tn1.1, h3⟩
set_option maxRecDepth 100000 in
theorem tg2 : tcode tq2 cT 0 = 0 ∧ tnew tq2 cT 0 = 5 ∧ ∀ bs', BlocksOf 2 108 (chosen 2 (tpts tq2 cT 0)) bs' → bs' = blks 5 2 := by
  obtain ⟨h1, h2, h3⟩ := tt2
  have hT : TIs tq2 cT 0 5 (blks 5 2) (fun d => d != 1) := fun d hd => by
    rw [h2] at hd
    rw [h3]
    by_cases e : d = 1
    · subst e
      exact ⟨fun h => by simp at h, fun _ => Or.inl rfl⟩
    · rw [if_neg e]
      obtain ⟨a1, a2, _⟩ := tt1.2.2 d hd
      exact ⟨fun _ => ⟨a1, a2⟩, fun h => by simp at h; exact absurd h e⟩
  have hL : (tL tq2 (fun d => d != 1)).length = 2 := by unfold tL; rw [h2]; rfl
  exact got_told h1 tx5 hT (by rw [hL]; decide)
set_option maxRecDepth 100000 in
theorem tt3 : Pl tq3 cT ∧ tq3.n = 3 ∧ ∀ d, d < 3 → (tq3.s d).dead = false := by
  obtain ⟨h1, h2, h3⟩ := tt2.1.dying (i := 1) (by rw [tt2.2.1]; decide) false
  refine ⟨h1, h2.trans tt2.2.1, fun d hd => ?_⟩
  have e : tq3.s d = if d = 1 then (tq2.s 1).wipe false else tq2.s d := h3 d
  rw [e]
  by_cases e : d = 1
  · rw [if_pos e]; rfl
  · rw [if_neg e, tt2.2.2 d, if_neg e]; exact (tt1.2.2 d hd).1
set_option maxRecDepth 100000 in
theorem tn4 : tq4.n = 3 ∧ tq4.k = 4 := ⟨(tput_n tq3 cT 0 6 _).trans tt3.2.1, (tput_k tq3 cT 0 6 _).trans ((dying_k tq2 1 false).trans ((dying_k tq1 1 true).trans tn1.2))⟩
set_option maxRecDepth 100000 in
theorem tt4 : Rk.tputC tq3 cT 0 6 (blks 8 2) = 0 ∧ Pl tq4 cT ∧ (∀ d, d < 3 → (tq4.s d).dead = false ∧ (tq4.s d).read 3 = put (tF 2 0 6 (blks 8 2) d) ∧ (tq4.s d).rot 3 = false) := by
  obtain ⟨h1, h2, h3, h4, h5⟩ := tt3.1.tput tx6
  rw [tt3.2.1] at h3 h4 h5
  exact ⟨h1, h2, fun d hd => ⟨(h3 d hd).trans (tt3.2.2 d hd), (h4 d 3 hd).trans (if_pos ⟨rfl, tt3.2.2 d hd⟩), h5 d 3 hd (Or.inr ⟨rfl, tt3.2.2 d hd⟩)⟩⟩
set_option maxRecDepth 100000 in
theorem tt5 : Rk.rots tq4 2 3 0 1 = true ∧ Pl tq5 cT ∧ tq5.n = 3 ∧ (∀ d, d < 3 → (tq5.s d).dead = false) ∧ goodB ((tq5.s 2).read 3) = false ∧ ∀ d, d ≠ 2 → (tq5.s d) = tq4.s d := by
  obtain ⟨a1, a2, a3⟩ := tt4.2.2 2 (by decide)
  obtain ⟨h1, h2, h3, h4, h5, h6, h7⟩ := tt4.2.1.rot (d := 2) (p := 3) (a := 0) (x := 1) (by rw [tn4.1]; decide) a1 (by rw [tn4.2]; decide) a3 (by decide) (by decide)
  refine ⟨h1, h2, h3.trans tn4.1, fun d hd => (h4 d).trans (tt4.2.2 d hd).1, ?_, h6⟩
  have e : (tq5.s 2).read 3 = rotL ((tq4.s 2).read 3) 0 1 4 := h5
  rw [e, a2]
  exact rot_bad (tF_is _ _ _ _ _) (tx6.frame tt4.2.1.right (d := 2) (by decide)) (by decide) (by decide) (by decide)
set_option maxRecDepth 100000 in
theorem tg5 : tcode tq5 cT 0 = 0 ∧ tnew tq5 cT 0 = 6 ∧ ∀ bs', BlocksOf 2 108 (chosen 2 (tpts tq5 cT 0)) bs' → bs' = blks 8 2 := by
  obtain ⟨_, h1, h2, h3, h4, h5⟩ := tt5
  have hT : TIs tq5 cT 0 6 (blks 8 2) (fun d => d != 2) := fun d hd => by
    rw [h2] at hd
    by_cases e : d = 2
    · subst e
      exact ⟨fun h => by simp at h, fun _ => Or.inr h4⟩
    · refine ⟨fun _ => ⟨h3 d hd, ?_⟩, fun h => by simp at h; exact absurd h e⟩
      rw [h5 d e]
      exact (tt4.2.2 d hd).2.1
  have hL : (tL tq5 (fun d => d != 2)).length = 2 := by unfold tL; rw [h2]; rfl
  exact got_told h1 tx6 hT (by rw [hL]; decide)
set_option maxHeartbeats 8000000 in
set_option maxRecDepth 100000 in
theorem stripe_runs (w : World) : Calls Tryz.prog 3 #[] w (Bit true w) := by
  obtain ⟨w1, hw1⟩ : ∃ w1, w1 = w.alloc (.cells (cfA cT) 23) := ⟨_, rfl⟩
  have H1 := Lib.hid (show CfB cT w.heap.size w1 ∧ w.heap.size < w1.heap.size ∧ Below w.heap.size w w1 by rw [hw1]; exact ⟨cfB_new w cT, by simp, one_below _ _⟩)
  have HN := Lib.hid (show Calls Tryz.prog 6 #[.int .i64 3, .int .i64 4] w1 (QNew w1 3 4) from qs_new 3 4 w1 (by omega) (by omega) (by omega) (by omega))
  have hcR : (w.alloc (.cells #[.int .i64 9, .int .i64 2, .int .i64 3, .int .i64 1, .int .i64 1] 23)) = w1 := hw1.symm
  clear hw1
  go_enter Tryz.func3, Tryz.ntmps3
  go_wp2_with fail
  clear hcR
  refine HN.out.mono ?_
  rintro e w2 ⟨c, rfl, h2⟩
  have H2 := Lib.hid h2
  have CA := Lib.hid (show Calls Tryz.prog 7 #[.int .i64 2, .int .i64 5] w2 (BlksNew (blks 5 2) w2) from blocks_any 2 5 w2 (by decide))
  have CB := Lib.hid (fun w3 => show Calls Tryz.prog 7 #[.int .i64 2, .int .i64 8] w3 (BlksNew (blks 8 2) w3) from blocks_any 2 8 w3 (by decide))
  clear h2
  have hl5 : (blks 5 2).length = 2 := blks_length 5 2
  have hl8 : (blks 8 2).length = 2 := blks_length 8 2
  have h5 := tt1.1
  have h6 := tt4.1
  have HTP1 := Lib.hid (tput_nil h5)
  have HTP4 := Lib.hid (tput_nil h6)
  clear h5 h6
  have HQ1 := Lib.hid (show Rk.tput tq0 cT 0 5 (blks 5 2) = tq1 from rfl)
  have HQ4 := Lib.hid (show Rk.tput tq3 cT 0 6 (blks 8 2) = tq4 from rfl)
  have HG2 := Lib.hid tg2
  have HG5 := Lib.hid tg5
  have HR5 := Lib.hid tt5.1
  go_wp2_with fail
  refine CA.out.mono ?_
  rintro e w3 ⟨va, rfl, hva, hb3⟩
  have HVA := Lib.hid hva
  have HB3 := Lib.hid hb3
  clear hva hb3
  obtain ⟨gva, cva, rfl, -⟩ := own_slice' HVA.out
  go_wp2_with fail
  refine (CB.out w3).mono ?_
  rintro e w4 ⟨vb, rfl, hvb, hb4⟩
  have HJ4 := Lib.hid (show JW w1 c cT w.heap.size w2.heap.size 3 tq0 w4 from JW.made H2.out H1.out.1 H1.out.2.1 (bthen HB3.out hb4))
  have HA4 := Lib.hid (show BkB w2.heap.size (blks 5 2) (.slice gva (blks 5 2).length cva) w4 from (bkB_of HVA.out (Nat.le_refl _)).below hb4)
  have HB4 := Lib.hid (show BkB w2.heap.size (blks 8 2) vb w4 from bkB_of hvb HB3.out.size)
  obtain ⟨gvb, cvb, rfl, -⟩ := own_slice' hvb
  clear hvb hb4
  generalize blks 5 2 = A at *
  generalize blks 8 2 = D at *
  rw [hl5] at HA4 
  rw [hl8] at HB4
  try rw [hl5]
  try rw [hl8]
  have HCF := Lib.hid (fun (q : Rk) (w' : World) (h : JW w1 c cT w.heap.size w2.heap.size 3 q w') => show w'.cell? ⟨w.heap.size, 0, none⟩ = some (.int .i64 9) ∧ w'.cell? ⟨w.heap.size, 1, none⟩ = some (.int .i64 2) ∧ w'.cell? ⟨w.heap.size, 2, none⟩ = some (.int .i64 3) ∧ w'.cell? ⟨w.heap.size, 3, none⟩ = some (.int .i64 1) ∧ w'.cell? ⟨w.heap.size, 4, none⟩ = some (.int .i64 1) from CfB.cells h.cfg)
  obtain ⟨d0, d1, d2, d3, d4⟩ := HCF.out _ _ HJ4.out
  have C5 := Lib.hid (show Calls Tryz.prog 8 #[.pointer (some ⟨c.r, 0, none⟩), .agg #[.int .i64 9, .int .i64 2, .int .i64 3, .int .i64 1, .int .i64 1], .int .i64 0, .int .i64 5, .slice gva 2 cva] w4 (JN w1 c cT w.heap.size w2.heap.size 3 tq1 .nilIface w4) from by
    have := HJ4.out.tput 0 5 HA4.out.slk
    rwa [HTP1.out, HQ1.out] at this)
  go_wp2_with fail
  refine C5.out.mono ?_
  rintro e w5 ⟨rfl, hj5, hc5⟩
  have HJ5 := Lib.hid hj5
  have HA5 := Lib.hid (HA4.out.rc HJ4.out.far hc5)
  have HB5 := Lib.hid (HB4.out.rc HJ4.out.far hc5)
  clear hj5 hc5 d0 d1 d2 d3 d4
  have C6 := Lib.hid (show Calls Tryz.prog 9 #[.pointer (some ⟨c.r, 0, none⟩), .int .i64 1] w5 (JN w1 c cT w.heap.size w2.heap.size 3 tq2 (.bool (decide (tq1.has 1))) w5) from HJ5.out.die 1)
  go_wp2_with fail
  refine C6.out.mono ?_
  rintro e w6 ⟨rfl, hj6, hc6⟩
  have HJ6 := Lib.hid hj6
  have HA6 := Lib.hid (HA5.out.rc HJ5.out.far hc6)
  have HB6 := Lib.hid (HB5.out.rc HJ5.out.far hc6)
  clear hj6 hc6
  obtain ⟨d0, d1, d2, d3, d4⟩ := HCF.out _ _ HJ6.out
  have C7 := Lib.hid (show Calls Tryz.prog 10 #[.pointer (some ⟨c.r, 0, none⟩), .agg #[.int .i64 9, .int .i64 2, .int .i64 3, .int .i64 1, .int .i64 1], .int .i64 0] w6 (GotB 5 A w6) from HJ6.out.tget_yes HG2.out)
  go_wp2_with fail
  refine C7.out.mono ?_
  rintro e w7 ⟨vx, rfl, hx7, hb7⟩
  have HJ7 := Lib.hid (HJ6.out.below hb7)
  have HA7 := Lib.hid (HA6.out.below hb7)
  have HB7 := Lib.hid (HB6.out.below hb7)
  have HX7 := Lib.hid (show BkB w2.heap.size A vx w7 from ⟨HA6.out.is, own_base hx7 HJ6.out.bB⟩)
  obtain ⟨gx, cx, rfl, -⟩ := own_slice' hx7
  rw [hl5] at HX7
  clear hx7 hb7 d0 d1 d2 d3 d4
  rw [hl5]
  have C8 := Lib.hid (show Calls Tryz.prog 11 #[.pointer (some ⟨c.r, 0, none⟩), .int .i64 1] w7 (JN w1 c cT w.heap.size w2.heap.size 3 tq3 (.bool (decide (tq2.has 1))) w7) from HJ7.out.replace 1)
  go_wp2_with fail
  refine C8.out.mono ?_
  rintro e w8 ⟨rfl, hj8, hc8⟩
  have HJ8 := Lib.hid hj8
  have HA8 := Lib.hid (HA7.out.rc HJ7.out.far hc8)
  have HB8 := Lib.hid (HB7.out.rc HJ7.out.far hc8)
  have HX8 := Lib.hid (HX7.out.rc HJ7.out.far hc8)
  clear hj8 hc8
  obtain ⟨d0, d1, d2, d3, d4⟩ := HCF.out _ _ HJ8.out
  have C9 := Lib.hid (show Calls Tryz.prog 8 #[.pointer (some ⟨c.r, 0, none⟩), .agg #[.int .i64 9, .int .i64 2, .int .i64 3, .int .i64 1, .int .i64 1], .int .i64 0, .int .i64 6, .slice gvb 2 cvb] w8 (JN w1 c cT w.heap.size w2.heap.size 3 tq4 .nilIface w8) from by
    have := HJ8.out.tput 0 6 HB8.out.slk
    rwa [HTP4.out, HQ4.out] at this)
  go_wp2_with fail
  refine C9.out.mono ?_
  rintro e w9 ⟨rfl, hj9, hc9⟩
  have HJ9 := Lib.hid hj9
  have HA9 := Lib.hid (HA8.out.rc HJ8.out.far hc9)
  have HB9 := Lib.hid (HB8.out.rc HJ8.out.far hc9)
  have HX9 := Lib.hid (HX8.out.rc HJ8.out.far hc9)
  clear hj9 hc9 d0 d1 d2 d3 d4
  have C10 := Lib.hid (show Calls Tryz.prog 12 #[.pointer (some ⟨c.r, 0, none⟩), .int .i64 2, .int .i64 3, .int .i64 0, .int .u32 1] w9 (JN w1 c cT w.heap.size w2.heap.size 3 tq5 (.bool true) w9) from by
    have := HJ9.out.rot 2 3 0 1
    rwa [HR5.out] at this)
  go_wp2_with fail
  refine C10.out.mono ?_
  rintro e w10 ⟨rfl, hj10, hc10⟩
  have HJ10 := Lib.hid hj10
  have HA10 := Lib.hid (HA9.out.rc HJ9.out.far hc10)
  have HB10 := Lib.hid (HB9.out.rc HJ9.out.far hc10)
  have HX10 := Lib.hid (HX9.out.rc HJ9.out.far hc10)
  clear hj10 hc10
  obtain ⟨d0, d1, d2, d3, d4⟩ := HCF.out _ _ HJ10.out
  have C11 := Lib.hid (show Calls Tryz.prog 10 #[.pointer (some ⟨c.r, 0, none⟩), .agg #[.int .i64 9, .int .i64 2, .int .i64 3, .int .i64 1, .int .i64 1], .int .i64 0] w10 (GotB 6 D w10) from HJ10.out.tget_yes HG5.out)
  go_wp2_with fail
  refine C11.out.mono ?_
  rintro e w11 ⟨vy, rfl, hy11, hb11⟩
  have HA11 := Lib.hid (HA10.out.below hb11)
  have HB11 := Lib.hid (HB10.out.below hb11)
  have HX11 := Lib.hid (HX10.out.below hb11)
  have HY11 := Lib.hid (show BkB w2.heap.size D vy w11 from ⟨HB10.out.is, own_base hy11 HJ10.out.bB⟩)
  have HL11 := Lib.hid (show Below w.heap.size w w11 from bthen (bthen H1.out.2.2 HJ10.out.qs.base) hb11)
  obtain ⟨gy, cy, rfl, -⟩ := own_slice' hy11
  rw [hl8] at HY11
  clear hy11 hb11 d0 d1 d2 d3 d4
  rw [hl8]
  have S1 := Lib.hid (same_blocks (.slice gx 2 cx) (.slice gva 2 cva) A A w11 HX11.out.slk HA11.out.slk (by rw [hl5]; decide))
  rw [decide_eq_true rfl] at S1
  go_wp2_with fail
  refine S1.out.mono ?_
  rintro e w12 ⟨rfl, hb12⟩
  have S2 := Lib.hid (same_blocks (.slice gy 2 cy) (.slice gvb 2 cvb) D D w12 (HY11.out.below hb12).slk (HB11.out.below hb12).slk (by rw [hl8]; decide))
  rw [decide_eq_true rfl] at S2
  have HL12 := Lib.hid (bthen HL11.out hb12)
  clear hb12
  go_wp2_with fail
  refine S2.out.mono ?_
  rintro e w13 ⟨rfl, hb13⟩
  have HL13 := Lib.hid (bthen HL12.out hb13)
  clear hb13
  go_wp2_with fail
  go_ret
  exact bit rfl HL13.out
end Go.Proofs.YtidnmkghmaeniaaGreat
/-
  stavelaw11.StripeOlder: the walk (written by genolder.py).
-/
namespace Go.Proofs.YtidnmkghmaeniaaGreat
open Go.RowKit Go.Deep Dk Qk Go.Maps Hf
/-- One frame written and flushed where all works. -/
theorem Pl.frame {q : Rk} {c : Cf} (h : Pl q c) {d p : Nat} {l : List UInt8} (hd : d < q.n) (hal : (q.s d).dead = false) (hp : p < q.k) (hl : l.length = 128) :
    q.wcode (d : Int) (p : Int) l.length = 0 ∧ (q.write (d : Int) (p : Int) l).fcode (d : Int) = 0 ∧ Pl ((q.write (d : Int) (p : Int) l).flush (d : Int)) c ∧ ((q.write (d : Int) (p : Int) l).flush (d : Int)).n = q.n ∧
    (∀ d', (((q.write (d : Int) (p : Int) l).flush (d : Int)).s d').dead = (q.s d').dead) ∧ ∀ d' p', d' < q.n → (((q.write (d : Int) (p : Int) l).flush (d : Int)).s d').read p' = if d' = d ∧ p' = p then l else (q.s d').read p' := by
  have hrem : ¬ q.rem = 0 := by rw [h.rem]; decide
  obtain ⟨w1, w2⟩ := write_goes (q := q) (i := (d : Int)) (sec := (p : Int)) (l := l) (ready_ok hd h.off hal) ⟨by omega, by omega, hl⟩ hrem
  rw [spent_free h.rem, Int.toNat_natCast, Int.toNat_natCast] at w1
  rw [w1]
  have hn1 : (q.turn d ((q.s d).write p l)).n = q.n := rfl
  have hr1 : (q.turn d ((q.s d).write p l)).rem = -1 := h.rem
  obtain ⟨f1, f2⟩ := flush_goes (q := q.turn d ((q.s d).write p l)) (i := (d : Int)) (ready_ok (by rw [hn1]; exact hd) h.off (by rw [turn_at]; exact hal)) (by rw [hr1]; decide)
  rw [spent_free hr1, Int.toNat_natCast, turn_turn, turn_at] at f1
  rw [f1]
  have hfa := slotS_facts (F := [l]) (base := p) (h.sok d hd) (fun i hi => by
    have e0 : i = 0 := Nat.lt_one_iff.1 hi
    subst e0
    exact hl) (by rw [h.ok.k d hd]; exact hp)
  have hwr : wr (q.s d) p [l] [l].length = (q.s d).write p l := rfl
  rw [hwr] at hfa
  have hsd : ∀ d', ((q.turn d ((q.s d).write p l).flush).s d') = if d' = d then ((q.s d).write p l).flush else q.s d' := fun d' => rfl
  refine ⟨w2, f2, ⟨h.ok.turn (hfa.2.1.trans (h.ok.k d hd)), h.off, h.rem, ?_, fun d' hd' => ?_, fun d' p' hd' => ?_⟩, rfl, fun d' => ?_, fun d' p' hd' => ?_⟩
  · have := h.fits
    unfold Cf.fits at this ⊢
    exact this
  · rw [hsd]; split
    · exact hfa.2.2.1
    · exact h.sok d' hd'
  · rw [hsd]; split
    · exact hfa.2.2.2.1 p'
    · exact h.wt d' p' hd'
  · rw [hsd]; split
    · rename_i e; rw [e]; exact hfa.1
    · rfl
  · rw [hsd]
    by_cases e : d' = d
    · subst e
      rw [if_pos rfl, hfa.2.2.2.2.1]
      by_cases ep : p' = p
      · subst ep
        rw [if_pos ⟨Nat.le_refl _, by simp⟩, if_pos ⟨rfl, rfl⟩, Nat.sub_self]; rfl
      · rw [if_neg (fun hh => ep (by have := hh.1; have := hh.2; simp at this; omega)), if_neg (fun hh => ep hh.2)]
    · rw [if_neg e, if_neg (fun hh => e hh.1)]
/-- One disk alone has the newest frame. -/
theorem tl_one {q : Rk} {c : Cf} {s : Int} {f : Fr} {x : Nat} (hf : tfr q c s x = some f) (hlt : ∀ d, d ≠ x → ∀ f', tfr q c s d = some f' → f'.g < f.g) : ∀ m, (m ≤ x → tnewN q c s m < f.g) ∧ (x < m → tnewN q c s m = f.g ∧ tptsN q c s m = [((x : Int), f.d)])
  | 0 => ⟨fun _ => by show (0 : Int) < f.g; have := (tfr_some hf).2; omega, fun h => absurd h (by omega)⟩
  | m + 1 => by
    obtain ⟨i1, i2⟩ := tl_one hf hlt m
    refine ⟨fun h => ?_, fun h => ?_⟩
    · cases ht : tfr q c s m with
      | none => rw [tnewN_no ht]; exact i1 (by omega)
      | some f' => rw [tnewN_yes ht]; have := hlt m (by omega) f' ht; have := i1 (by omega); omega
    · by_cases e : m = x
      · subst e
        exact tptsN_more hf (i1 (Nat.le_refl _))
      · obtain ⟨j1, j2⟩ := i2 (by omega)
        cases ht : tfr q c s m with
        | none => rw [tnewN_no ht, tptsN_no ht]; exact ⟨j1, j2⟩
        | some f' =>
          have hl := hlt m e f' ht
          obtain ⟨a1, a2⟩ := tptsN_less ht (by rw [j1]; exact hl)
          rw [a1, a2]; exact ⟨j1, j2⟩
theorem CfL.pl {cf : Cf} {N K SC : Nat} {T Z : Int} (h : CfL cf N K SC T Z) : Pl (newRk N SC) cf := pl_new h.r.1 (by have := h.r.2.1; omega) h.r.2.2.1 h.r.2.2.2.1 (h.fits rfl rfl)
theorem CfL.stIn {cf : Cf} {N K SC : Nat} {T Z : Int} (h : CfL cf N K SC T Z) {s : Nat} {g : Int} (a : Int) (hs : (s : Int) < T) (h0 : 1 ≤ g) (h1 : g ≤ 1152921504606846976) : StIn cf s g (blks a K) :=
  ⟨by rw [h.t]; exact hs, h0, h1, by rw [blks_length, h.k]; rfl, blks_is a K⟩
theorem CfL.kn {cf : Cf} {N K SC : Nat} {T Z : Int} (h : CfL cf N K SC T Z) : cf.k.toNat = K := by rw [h.k]; rfl
/-- What the law has behind the odd frame. -/
theorem older_told {cf : Cf} {N K SC x : Nat} {a : Int} (h : CfL cf N K SC 1 1) (hx : x < N) :
    Rk.tputC (newRk N SC) cf 0 5 (blks a K) = 0 ∧ (Rk.tput (newRk N SC) cf 0 5 (blks a K)).n = N ∧
    (Rk.tput (newRk N SC) cf 0 5 (blks a K)).wcode (x : Int) (1 + cf.k) (put (frK 3 x 0 6 a)).length = 0 ∧ ((Rk.tput (newRk N SC) cf 0 5 (blks a K)).write (x : Int) (1 + cf.k) (put (frK 3 x 0 6 a))).fcode (x : Int) = 0 ∧
    (((Rk.tput (newRk N SC) cf 0 5 (blks a K)).write (x : Int) (1 + cf.k) (put (frK 3 x 0 6 a))).flush (x : Int)).n = N ∧
    tnew (((Rk.tput (newRk N SC) cf 0 5 (blks a K)).write (x : Int) (1 + cf.k) (put (frK 3 x 0 6 a))).flush (x : Int)) cf 0 = 6 ∧
    tpts (((Rk.tput (newRk N SC) cf 0 5 (blks a K)).write (x : Int) (1 + cf.k) (put (frK 3 x 0 6 a))).flush (x : Int)) cf 0 = [((x : Int), blkL a)] ∧
    (K = 1 → tcode (((Rk.tput (newRk N SC) cf 0 5 (blks a K)).write (x : Int) (1 + cf.k) (put (frK 3 x 0 6 a))).flush (x : Int)) cf 0 = 0) ∧
    (K ≠ 1 → tcode (((Rk.tput (newRk N SC) cf 0 5 (blks a K)).write (x : Int) (1 + cf.k) (put (frK 3 x 0 6 a))).flush (x : Int)) cf 0 = 6 ∧
      tgetV (((Rk.tput (newRk N SC) cf 0 5 (blks a K)).write (x : Int) (1 + cf.k) (put (frK 3 x 0 6 a))).flush (x : Int)) cf 0 = wrapV opTGet 0 (lossV 0 1 cf.k)) := by
  have hr := h.ok.right
  have hx5 := h.stIn (s := 0) (g := 5) a (by decide) (by decide) (by decide)
  have hP := h.pl.tput hx5
  rw [show ((0 : Nat) : Int) = 0 from rfl] at hP
  obtain ⟨p1, p2, p3, p4, _⟩ := hP
  have hN : (Rk.tput (newRk N SC) cf 0 5 (blks a K)).n = N := tput_n _ _ _ _ _
  have hK : (Rk.tput (newRk N SC) cf 0 5 (blks a K)).k = SC := tput_k _ _ _ _ _
  have hal : ∀ d, d < N → ((Rk.tput (newRk N SC) cf 0 5 (blks a K)).s d).dead = false := fun d hd => p3 d hd
  have hrd : ∀ d, d < N → ((Rk.tput (newRk N SC) cf 0 5 (blks a K)).s d).read (tsec cf 0) = put (tF cf.k.toNat 0 5 (blks a K) d) := fun d hd => (p4 d _ hd).trans (if_pos ⟨rfl, rfl⟩)
  have hsec : 1 + cf.k = ((tsec cf 0 : Nat) : Int) := by
    rw [← tsec_eq hr]
    unfold tbase Cf.secs
    rw [h.s]; omega
  have hlt := tsec_lt p2.fits hx5.s1
  have h8 : N ≤ 8 := by have := h.r.2.1; omega
  have hfi : (frK 3 x 0 6 a).is := frK_is _ _ _ _ _
  have hfr : rightB (frK 3 x 0 6 a) = true := decide_eq_true (show (1 : Int) ≤ 3 ∧ (3 : Int) ≤ 3 ∧ 0 ≤ (x : Int) ∧ (x : Int) < 8 ∧ (0 : Int) ≤ 0 ∧ (0 : Int) < 64 ∧ (0 : Int) ≤ 6 ∧ (6 : Int) ≤ 1152921504606846976 from ⟨by decide, by decide, by omega, by omega, by decide, by decide, by decide, by decide⟩)
  obtain ⟨a1, a2, a3, a4, a5, a6⟩ := p2.frame (d := x) (p := tsec cf 0) (l := put (frK 3 x 0 6 a)) (by rw [hN]; exact hx) (hal x hx) hlt (put_len hfi hfr)
  rw [← hsec] at a1 a2 a3 a4 a5 a6
  generalize Rk.tput (newRk N SC) cf 0 5 (blks a K) = Q1 at *
  generalize (Q1.write (x : Int) (1 + cf.k) (put (frK 3 x 0 6 a))).flush (x : Int) = Q3 at *
  have hN3 : Q3.n = N := a4.trans hN
  have hh : thas cf Q3 0 = true := thas_iff.2 ⟨a3.fits, by decide, by rw [h.t]; decide⟩
  have ht : tfr Q3 cf (0 : Nat) x = some (frK 3 x 0 6 a) := tfr_put a3.ok a3.fits hx5.s1 (by rw [hN3]; exact hx) a3.off ((a5 x).trans (hal x hx)) hfi hfr rfl rfl rfl (by show (1 : Int) ≤ 6; decide) ((a6 x _ (by rw [hN]; exact hx)).trans (if_pos ⟨rfl, rfl⟩))
  have ho : ∀ d, d ≠ x → ∀ f', tfr Q3 cf (0 : Nat) d = some f' → f'.g < (frK 3 x 0 6 a).g := fun d hne f' hf' => by
    by_cases hd : d < N
    · have e : tfr Q3 cf (0 : Nat) d = some (tF cf.k.toNat 0 5 (blks a K) d) := tfr_put a3.ok a3.fits hx5.s1 (by rw [hN3]; exact hd) a3.off ((a5 d).trans (hal d hd)) (tF_is _ _ _ _ _) (hx5.frame hr (by omega)) rfl rfl rfl (by show (1 : Int) ≤ 5; decide) ((a6 d _ (by rw [hN]; exact hd)).trans ((if_neg (fun hh => hne hh.1)).trans (hrd d hd)))
      rw [e] at hf'
      obtain rfl := Option.some.inj hf'
      show (5 : Int) < 6
      decide
    · have hno : ¬ Q3.has (d : Int) := fun hh => by have := hh.2; rw [hN3] at this; omega
      have : tfr Q3 cf (0 : Nat) d = none := by
        unfold tfr
        have : qfound Q3 (d : Int) (tbase cf (0 : Nat)) 3 d (0 : Nat) = false := by
          unfold qfound qrcode
          rw [if_neg hno]; rfl
        rw [this]; rfl
      rw [this] at hf'; cases hf'
  obtain ⟨_, h1⟩ := tl_one ht ho N
  obtain ⟨e1, e2⟩ := h1 hx
  have E1 : tnew Q3 cf 0 = 6 := by unfold tnew; rw [if_pos hh, hN3]; exact e1
  have E2 : tpts Q3 cf 0 = [((x : Int), blkL a)] := by unfold tpts; rw [if_pos hh, hN3]; exact e2
  have hup : (ups Q3).length = N := by
    unfold ups upsN
    rw [List.filter_eq_self.2 (fun d hd => by rw [a5 d, hal d (by rw [← hN3]; exact List.mem_range.1 hd)]; rfl), List.length_range, hN3]
  have hu : ¬ (Q3.off = true ∨ ((ups Q3).length : Int) < cf.k) := fun e => e.elim (fun e => by rw [a3.off] at e; cases e) (fun e => by rw [hup] at e; have := h.r.2.2.2.2.2.2; have := h.k; omega)
  refine ⟨p1, hN, a1, a2, hN3, E1, E2, fun hk => ?_, fun hk => ?_⟩
  · unfold tcode
    rw [if_pos hh, if_neg hu, E2, if_neg]
    show ¬ ((1 : Nat) : Int) < cf.k
    rw [h.k]; omega
  · have hlk : (([((x : Int), blkL a)] : List Pt).length : Int) < cf.k := by
      show ((1 : Nat) : Int) < cf.k
      rw [h.k]; have := h.r.2.2.2.2.1; omega
    unfold tcode tgetV
    rw [if_pos hh, if_neg hu, E2, if_pos hlk, if_pos hh, if_neg hu, if_pos hlk]
    exact ⟨rfl, rfl⟩
end Go.Proofs.YtidnmkghmaeniaaGreat
