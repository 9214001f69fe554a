/-
  stavelaw10.JournalUnion: the walk (written by genjunion.py).
-/
import Derived.Test.YtdcpgpgomnpefaaGreatDoorJLaw
import Derived.Test.YtdcpgpgomnpefaaGreatDoorOpenI
import Derived.Deep.RegionHeld3
import Derived.IntWalk
import Derived.Test.YtdcpgpgomnpefaaGreatDoorBase
import Derived.Test.YtdcpgpgomnpefaaGreatDoorLaw
namespace Go.Proofs.YtdcpgpgomnpefaaGreatDoor
open Go.RowKit Go.Deep Crc Dk Qk Go.Maps Hf
theorem JW.log' {w1 : World} {c : Lc} {cf : Cf} {b B n : Nat} {q : Rk} {w : World} (h : JW w1 c cf b B n q w) {x : Rc} {v : Value} (hx : x.is) (hv : SlK w.heap.size w v x.b) :
    Calls Tryz.prog 26 #[.pointer (some ⟨c.r, 0, none⟩), .agg (cfA cf), .agg (rcA x.q x.t v)] w (JN w1 c cf b B n (Rk.jlog q cf x) (Rk.jlogV q cf x) w) := h.step (h.qs.of (jlog_any w h.qs.rack cf x v hx hv)) (jlog_n _ _ _)
theorem JW.arm {w1 : World} {c : Lc} {cf : Cf} {b B n : Nat} {q : Rk} {w : World} (h : JW w1 c cf b B n q w) (k : Int) (h1 : -9223372036854775808 ≤ k) (h2 : k < 9223372036854775808) :
    Calls Tryz.prog 37 #[.pointer (some ⟨c.r, 0, none⟩), .int .i64 k] w (JN w1 c cf b B n (q.arm k) (.tuple #[]) w) := h.step (h.qs.arm k h1 h2) rfl
theorem JW.boot {w1 : World} {c : Lc} {cf : Cf} {b B n : Nat} {q : Rk} {w : World} (h : JW w1 c cf b B n q w) (v : Value) (l : List Nat) (hv : SlU w.heap.size w v l) (hl : ∀ x, x < l.length → l.getD x 0 < 18446744073709551616) :
    Calls Tryz.prog 38 #[.pointer (some ⟨c.r, 0, none⟩), v] w (JN w1 c cf b B n (q.boot fun i => l.getD i 0) (.tuple #[]) w) := h.step (h.qs.boot v l hv hl) rfl
theorem slu_one (w : World) : SlU (w.alloc (.cells #[.int .u64 1] 88)).heap.size (w.alloc (.cells #[.int .u64 1] 88)) (.slice (some ⟨w.heap.size, 0, none⟩) 1 1) [1] :=
  Or.inr ⟨w.heap.size, 0, 1, rfl, by simp, by decide, fun x hx => by
    obtain rfl : x = 0 := by simp at hx; omega
    exact new_cells w _ _ 0 _ rfl⟩
/-- Behind m places: each has its frame on some disk, and no other good one. -/
structure UnO (cf : Cf) (N SC : Nat) (x : Rc) (m : Nat) (q : Rk) : Prop where
  wl : Wl q cf
  nn : q.n = N
  kk : q.k = SC
  done : ∀ i : Nat, i < m → (i : Int) < cf.k → (∃ d, d < N ∧ (q.s d).read (jsec cf 0 i) = put (jF x i)) ∧ ∀ d, d < N → (q.s d).read (jsec cf 0 i) = put (jF x i) ∨ goodB ((q.s d).read (jsec cf 0 i)) = false
  todo : ∀ i d : Nat, m ≤ i → (i : Int) < cf.k → d < N → (q.s d).read (jsec cf 0 i) = put (jF x i) ∧ (q.s d).rot (jsec cf 0 i) = false
/-- Within place m, behind j disks. -/
structure UnI (cf : Cf) (N SC : Nat) (x : Rc) (m j kv : Nat) (q : Rk) : Prop where
  wl : Wl q cf
  nn : q.n = N
  kk : q.k = SC
  done : ∀ i : Nat, i < m → (i : Int) < cf.k → (∃ d, d < N ∧ (q.s d).read (jsec cf 0 i) = put (jF x i)) ∧ ∀ d, d < N → (q.s d).read (jsec cf 0 i) = put (jF x i) ∨ goodB ((q.s d).read (jsec cf 0 i)) = false
  todo : ∀ i d : Nat, m < i → (i : Int) < cf.k → d < N → (q.s d).read (jsec cf 0 i) = put (jF x i) ∧ (q.s d).rot (jsec cf 0 i) = false
  cur : ∀ d, d < N → (j ≤ d ∨ d = kv) → (q.s d).read (jsec cf 0 m) = put (jF x m)
  bad : ∀ d, d < j → d ≠ kv → d < N → goodB ((q.s d).read (jsec cf 0 m)) = false
  rot : ∀ d, j ≤ d → d < N → (q.s d).rot (jsec cf 0 m) = false
theorem UnO.start {cf : Cf} {N SC m kv : Nat} {x : Rc} {q : Rk} (h : UnO cf N SC x m q) (hm : (m : Int) < cf.k) (_hk : kv < N) : UnI cf N SC x m 0 kv q :=
  ⟨h.wl, h.nn, h.kk, h.done, fun i d hi => h.todo i d (by omega), fun d hd _ => (h.todo m d (Nat.le_refl _) hm hd).1, fun d hd => absurd hd (by omega), fun d _ hd => (h.todo m d (Nat.le_refl _) hm hd).2⟩
theorem UnI.skip {cf : Cf} {N SC m j kv : Nat} {x : Rc} {q : Rk} (h : UnI cf N SC x m j kv q) (hj : j = kv) : UnI cf N SC x m (j + 1) kv q :=
  ⟨h.wl, h.nn, h.kk, h.done, h.todo, fun d hd hc => h.cur d hd (by omega), fun d hd hk => h.bad d (by omega) hk, fun d hd => h.rot d (by omega)⟩
theorem UnI.next {cf : Cf} {N K SC m j kv : Nat} {x : Rc} {q : Rk} (h : UnI cf N SC x m j kv q) (hL : CfL cf N K SC 2 1) (hx : RcIn cf 0 x) (hm : (m : Int) < cf.k) (hj : j < N) (hk : j ≠ kv) : Rk.rots q j (jsec cf 0 m) 3 1 = true ∧ UnI cf N SC x m (j + 1) kv (Rk.rotten q j (jsec cf 0 m) 3 1) := by
  have hs : ((0 : Nat) : Int) < cf.s := by rw [hL.s]; decide
  have hpk : jsec cf 0 m < q.k := jsec_lt h.wl.fits hs hm
  obtain ⟨a1, a2, a3, a4, a5, a6⟩ := h.wl.rot (d := j) (p := jsec cf 0 m) (a := 3) (x := 1) (by rw [h.nn]; exact hj) hpk (h.rot j (Nat.le_refl _) hj) (by decide) (by decide)
  show Rk.rots q j (jsec cf 0 m) ((3 : Nat) : Int) 1 = true ∧ UnI cf N SC x m (j + 1) kv (Rk.rotten q j (jsec cf 0 m) ((3 : Nat) : Int) 1)
  generalize Rk.rotten q j (jsec cf 0 m) ((3 : Nat) : Int) 1 = R at *
  have oth : ∀ d i : Nat, (i : Int) < cf.k → (d ≠ j ∨ i ≠ m) → (R.s d).read (jsec cf 0 i) = (q.s d).read (jsec cf 0 i) ∧ (R.s d).rot (jsec cf 0 i) = (q.s d).rot (jsec cf 0 i) := fun d i hi hne =>
    a6 d (jsec cf 0 i) (hne.imp id fun e e2 => e (jsec_inj hi hm e2).2)
  refine ⟨a1, a2, a3.trans h.nn, a4.trans h.kk, fun i hi hik => ?_, fun i d hi hik hd => ?_, fun d hd hc => ?_, fun d hd hdk hdN => ?_, fun d hd hdN => ?_⟩
  · obtain ⟨⟨d0, e0, e1⟩, e2⟩ := h.done i hi hik
    exact ⟨⟨d0, e0, (oth d0 i hik (Or.inr (by omega))).1.trans e1⟩, fun d hd => by rw [(oth d i hik (Or.inr (by omega))).1]; exact e2 d hd⟩
  · obtain ⟨e1, e2⟩ := h.todo i d hi hik hd
    obtain ⟨o1, o2⟩ := oth d i hik (Or.inr (by omega))
    exact ⟨o1.trans e1, o2.trans e2⟩
  · rw [(oth d m hm (Or.inl (by omega))).1]; exact h.cur d hd (by omega)
  · by_cases e : d = j
    · subst e
      rw [a5, h.cur d hj (Or.inl (Nat.le_refl _))]
      exact rot_bad (jF_is hx.is m) (hx.frame h.wl.right hm) (by decide) (by decide) (by decide)
    · rw [(oth d m hm (Or.inl e)).1]; exact h.bad d (by omega) hdk hdN
  · rw [(oth d m hm (Or.inl (by omega))).2]; exact h.rot d (by omega) hdN
theorem UnI.ends {cf : Cf} {N SC m kv : Nat} {x : Rc} {q : Rk} (h : UnI cf N SC x m N kv q) (hk : kv < N) : UnO cf N SC x (m + 1) q :=
  ⟨h.wl, h.nn, h.kk, fun i hi hik => by
    by_cases e : i = m
    · subst e
      refine ⟨⟨kv, hk, h.cur kv hk (Or.inr rfl)⟩, fun d hd => ?_⟩
      by_cases e2 : d = kv
      · subst e2; exact Or.inl (h.cur d hd (Or.inr rfl))
      · exact Or.inr (h.bad d hd e2 hd)
    · exact h.done i (by omega) hik, fun i d hi hik hd => h.todo i d (by omega) hik hd⟩
theorem UnO.told {cf : Cf} {N K SC : Nat} {x : Rc} {q : Rk} (h : UnO cf N SC x K q) (hL : CfL cf N K SC 2 1) (hx : RcIn cf 0 x) : jcode q cf 0 = 0 ∧ jnewest q cf 0 = x.q ∧ jwhole q cf 0 = true ∧ jrecR q cf 0 = x := by
  have hr := h.wl.right
  have hs : ((0 : Nat) : Int) < cf.s := by rw [hL.s]; decide
  have hk0 : 0 ≤ cf.k := by have := hr.2.2.1; omega
  have hkK := hL.k
  have hj : ∀ i d : Nat, (i : Int) < cf.k → d < q.n → (q.s d).read (jsec cf 0 i) = put (jF x i) → jfr q cf ((0 : Nat) : Int) i d = some (jF x i) := fun i d hik hd hv =>
    jfr_put h.wl.ok h.wl.fits hs hik hd h.wl.off (h.wl.alive d hd) hx.is hx.q0 hx.q1 hx.t0 hx.t1 hx.slot hv
  refine slot_one (s := ((0 : Nat) : Int)) (has_slot h.wl.fits hs) hx.q0 hr.2.2.1 hx.len (fun i d hik hd _ => ?_) fun i hik => ?_
  · rcases (h.done i (by omega) hik).2 d (by rw [← h.nn]; exact hd) with e | e
    · exact Or.inr (hj i d hik hd e)
    · exact Or.inl (jfr_bad hk0 (Or.inr (Or.inr e)))
  · obtain ⟨⟨d, e0, e1⟩, _⟩ := h.done i (by omega) hik
    exact ⟨d, by rw [h.nn]; exact e0, h.wl.alive d (by rw [h.nn]; exact e0), hj i d hik (by rw [h.nn]; exact e0) e1⟩
theorem write_ks {s : St} (hs : s.Ok) (hw : ∀ p, s.wt p = none) {p : Nat} (hp : p < s.n) {b : List UInt8} (hb : b.length = 128) : (s.write p b).ks = [p] := by
  have ho := hs.write hp hb
  have hm : ∀ i, i ∈ (s.write p b).ks ↔ i = p := fun i => by
    rw [St.mem_ks ho]
    show ((Dk.upd s.wt p (some b)) i).isSome = true ↔ _
    by_cases e : i = p
    · subst e; rw [upd_same]; simp
    · rw [upd_other _ _ e, hw i]; simp [e]
  have hnd := St.ks_nodup (s.write p b)
  generalize (s.write p b).ks = l at *
  match l, hm, hnd with
  | [], hm, _ => have := (hm p).2 rfl; cases this
  | [a], hm, _ => rw [(hm a).1 (List.mem_cons_self ..)]
  | a :: a' :: l, hm, hnd =>
    have e1 := (hm a).1 (List.mem_cons_self ..)
    have e2 := (hm a').1 (List.mem_cons_of_mem _ (List.mem_cons_self ..))
    have := (List.nodup_cons.1 hnd).1
    exact absurd (by rw [e1, ← e2]; exact List.mem_cons_self ..) this
/-- The newer record's first frame alone, stored. -/
theorem un_torn {cf : Cf} {N K SC : Nat} {x y : Rc} {q : Rk} (h : UnO cf N SC x K q) (hL : CfL cf N K SC 2 1) (hx : RcIn cf 0 x) (hy : RcIn cf 0 y) (hxy : x.q < y.q) (h2 : 2 ≤ y.q) (hk2 : 2 ≤ K) (hqk : ((Rk.jlog (q.arm 1) cf y).boot fun i => ([1] : List Nat).getD i 0).Ok) :
    jcode ((Rk.jlog (q.arm 1) cf y).boot fun i => ([1] : List Nat).getD i 0) cf 0 = 0 ∧ jnewest ((Rk.jlog (q.arm 1) cf y).boot fun i => ([1] : List Nat).getD i 0) cf 0 = y.q ∧ jwhole ((Rk.jlog (q.arm 1) cf y).boot fun i => ([1] : List Nat).getD i 0) cf 0 = false := by
  have hr := h.wl.right
  have hs : ((0 : Nat) : Int) < cf.s := by rw [hL.s]; decide
  have hk0 : 0 ≤ cf.k := by have := hr.2.2.1; omega
  have hkK := hL.k
  have hn0 : 0 < q.n := h.wl.ok.n0
  have hFL : (jFs y).length = K := by rw [jFs_length, hy.len, hkK]; rfl
  have hF := jFs_128 hy hr
  have hbl : jsec cf 0 0 + (jFs y).length ≤ q.k := by rw [hFL]; have := jsec_last h.wl.fits hs; rw [hkK] at this; exact this
  have hb : (cf.fits (q.arm 1) && jright cf y) = true := by
    rw [show cf.fits (q.arm 1) = true from h.wl.fits, hy.jr h2 hk0]; rfl
  have hm : y.q % cf.s = ((0 : Nat) : Int) := by
    rcases hy.slot with e | e
    · omega
    · exact e.2
  have hU : ups (q.arm 1) = List.range q.n := by
    unfold ups upsN
    exact List.filter_eq_self.2 fun a ha => by
      have := h.wl.alive a (List.mem_range.1 ha)
      show (!(q.s a).dead) = true
      rw [this]; rfl
  have e0 : slotOps cf (y.q % cf.s) y (q.arm 1) = jops ((jsec cf 0 0 : Nat) : Int) (jFs y) (List.range q.n) := by unfold slotOps; rw [hm, base_nat hk0, hU]
  have eS : Rk.jlog (q.arm 1) cf y = runS (q.arm 1) (jops ((jsec cf 0 0 : Nat) : Int) (jFs y) (List.range q.n)) := by unfold Rk.jlog; rw [if_pos hb, e0]
  have hfit : ∀ o ∈ jops ((jsec cf 0 0 : Nat) : Int) (jFs y) (List.range q.n), o.fit (q.arm 1).n (q.arm 1).k fun j => ((q.arm 1).s j).dead := by
    have := jops_fit (q := q.arm 1) (base := jsec cf 0 0) (F := jFs y) hbl hF
    rwa [hU] at this
  have hlen : (jops ((jsec cf 0 0 : Nat) : Int) (jFs y) (List.range q.n)).length = q.n * K + q.n := by rw [jops_length, List.length_range, hFL]
  have hmul : 2 ≤ q.n * K := by
    have : 1 * 2 ≤ q.n * K := Nat.mul_le_mul hn0 hk2
    omega
  obtain ⟨_, _, r3⟩ := run_fit _ (q.arm 1) h.wl.off (show (-1 : Int) ≤ 1 by decide) hfit
  obtain ⟨_, c2⟩ := r3 (show (0 : Int) ≤ 1 by decide) (show (1 : Int) < _ by rw [hlen]; omega)
  have htk : (jops ((jsec cf 0 0 : Nat) : Int) (jFs y) (List.range q.n)).take 1 = [.w ((0 : Nat) : Int) ((jsec cf 0 0 : Nat) + ((0 : Nat) : Int)) ((jFs y).getD 0 [])] := by
    have h1 : 0 < (List.range q.n).length := by rw [List.length_range]; exact hn0
    unfold jops
    rw [wops_next h1, dops_next (m := 0) (by rw [hFL]; omega)]
    have hg : (List.range q.n).getD 0 0 = 0 := by simp [List.getD, hn0]
    rw [hg]; rfl
  have hp0 : jsec cf 0 0 < q.k := jsec_lt h.wl.fits hs (by omega)
  have hY : (jFs y).getD 0 [] = put (jF y 0) := jFs_getD (by rw [hy.len, hkK]; show 0 < K; omega)
  have hYl : (put (jF y 0)).length = 128 := put_len (jF_is hy.is 0) (hy.frame hr (by omega))
  have hs3 : ∀ d, (Rk.jlog (q.arm 1) cf y).s d = if d = 0 then (q.s 0).write (jsec cf 0 0) (put (jF y 0)) else q.s d := fun d => by
    rw [eS, c2]
    show ons q.s ((jops ((jsec cf 0 0 : Nat) : Int) (jFs y) (List.range q.n)).take 1) d = _
    rw [htk, ons_cons, ons_nil, hY]
    show Dk.upd q.s ((0 : Nat) : Int).toNat ((q.s ((0 : Nat) : Int).toNat).write (((jsec cf 0 0 : Nat) : Int) + ((0 : Nat) : Int)).toNat _) d = _
    rw [Int.toNat_natCast, show (((jsec cf 0 0 : Nat) : Int) + ((0 : Nat) : Int)).toNat = jsec cf 0 0 by omega]
    rfl
  have hn3 : (Rk.jlog (q.arm 1) cf y).n = q.n := jlog_n _ _ _
  have hk3 : (Rk.jlog (q.arm 1) cf y).k = q.k := jlog_k _ _ _
  have hb4 : ∀ d, d < q.n → ((Rk.jlog (q.arm 1) cf y).boot fun i => ([1] : List Nat).getD i 0).s d = ((Rk.jlog (q.arm 1) cf y).s d).crash (([1] : List Nat).getD d 0) := fun d hd => if_pos (by rw [hn3]; exact hd)
  have hrd0 : ∀ p, (((q.s 0).write (jsec cf 0 0) (put (jF y 0))).crash 1).read p = if p = jsec cf 0 0 then put (jF y 0) else (q.s 0).read p := fun p => by
    have hks := write_ks (h.wl.sok 0 hn0) (h.wl.wt 0 · hn0) (p := jsec cf 0 0) (by rw [h.wl.ok.k 0 hn0]; exact hp0) hYl
    have hpk : picks 1 [jsec cf 0 0] 1 = [jsec cf 0 0] := rfl
    unfold St.read
    rw [St.crash_wt, St.crash_st, hks]
    show Option.getD none (if p ∈ picks 1 [jsec cf 0 0] 1 then _ else _) = _
    rw [hpk]
    by_cases e : p = jsec cf 0 0
    · subst e
      rw [if_pos (List.mem_cons_self ..), if_pos rfl]
      show ((Dk.upd (q.s 0).wt (jsec cf 0 0) (some (put (jF y 0)))) (jsec cf 0 0)).getD zer = _
      rw [upd_same]; rfl
    · rw [if_neg (by simpa using e), if_neg e, h.wl.wt 0 p hn0]; rfl
  have hrd : ∀ d p, d < q.n → (((Rk.jlog (q.arm 1) cf y).boot fun i => ([1] : List Nat).getD i 0).s d).read p = if d = 0 ∧ p = jsec cf 0 0 then put (jF y 0) else (q.s d).read p := fun d p hd => by
    rw [hb4 d hd, hs3 d]
    by_cases e : d = 0
    · subst e
      rw [if_pos rfl]
      show (((q.s 0).write (jsec cf 0 0) (put (jF y 0))).crash 1).read p = _
      rw [hrd0]
      by_cases e2 : p = jsec cf 0 0
      · rw [if_pos e2, if_pos ⟨rfl, e2⟩]
      · rw [if_neg e2, if_neg fun hh => e2 hh.2]
    · rw [if_neg e, if_neg fun hh => e hh.1]
      have : ([1] : List Nat).getD d 0 = 0 := by
        match d, e with
        | d + 1, _ => rfl
      rw [this, St.crash_none]
      unfold St.read
      rw [h.wl.wt d p hd]; rfl
  have hal : ∀ d, d < q.n → (((Rk.jlog (q.arm 1) cf y).boot fun i => ([1] : List Nat).getD i 0).s d).dead = false := fun d hd => by
    rw [hb4 d hd, crashed_dead, hs3 d]
    split
    · exact h.wl.alive 0 hn0
    · exact h.wl.alive d hd
  have hf4 : cf.fits ((Rk.jlog (q.arm 1) cf y).boot fun i => ([1] : List Nat).getD i 0) = true := by
    have := h.wl.fits
    unfold Cf.fits at this ⊢
    show (cfRightB cf && (decide (cf.n = (Rk.jlog (q.arm 1) cf y).n) && decide (cf.secs ≤ (Rk.jlog (q.arm 1) cf y).k))) = true
    rw [hn3, hk3]; exact this
  have hn4 : ((Rk.jlog (q.arm 1) cf y).boot fun i => ([1] : List Nat).getD i 0).n = q.n := hn3
  have ho4 : ((Rk.jlog (q.arm 1) cf y).boot fun i => ([1] : List Nat).getD i 0).off = false := rfl
  generalize ((Rk.jlog (q.arm 1) cf y).boot fun i => ([1] : List Nat).getD i 0) = R at *
  have hjx : ∀ i d : Nat, (i : Int) < cf.k → d < q.n → ¬ (d = 0 ∧ i = 0) → (q.s d).read (jsec cf 0 i) = put (jF x i) → jfr R cf ((0 : Nat) : Int) i d = some (jF x i) := fun i d hik hd hne hv =>
    jfr_put hqk hf4 hs hik (by rw [hn4]; exact hd) ho4 (hal d hd) hx.is hx.q0 hx.q1 hx.t0 hx.t1 hx.slot (by
      rw [hrd d _ hd, if_neg]
      · exact hv
      · rintro ⟨g1, g2⟩
        exact hne ⟨g1, (jsec_inj hik (by omega) g2).2⟩)
  have hjb : ∀ i d : Nat, (i : Int) < cf.k → d < q.n → ¬ (d = 0 ∧ i = 0) → goodB ((q.s d).read (jsec cf 0 i)) = false → jfr R cf ((0 : Nat) : Int) i d = none := fun i d hik hd hne hv =>
    jfr_bad hk0 (Or.inr (Or.inr (by
      rw [hrd d _ hd, if_neg]
      · exact hv
      · rintro ⟨g1, g2⟩
        exact hne ⟨g1, (jsec_inj hik (by omega) g2).2⟩)))
  have hjy : jfr R cf ((0 : Nat) : Int) 0 0 = some (jF y 0) := jfr_put hqk hf4 hs (by omega) (by rw [hn4]; exact hn0) ho4 (hal 0 hn0) hy.is hy.q0 hy.q1 hy.t0 hy.t1 hy.slot (by rw [hrd 0 _ hn0, if_pos ⟨rfl, rfl⟩])
  have hall : ∀ i d : Nat, (i : Int) < cf.k → d < q.n → ∀ f, jfr R cf ((0 : Nat) : Int) i d = some f → f = jF x i ∨ (i = 0 ∧ f = jF y 0) := fun i d hik hd f hfr => by
    by_cases hne : d = 0 ∧ i = 0
    · obtain ⟨rfl, rfl⟩ := hne
      rw [hjy] at hfr; injection hfr with hfr
      exact Or.inr ⟨rfl, hfr.symm⟩
    · rcases (h.done i (by omega) hik).2 d (by rw [← h.nn]; exact hd) with e | e
      · rw [hjx i d hik hd hne e] at hfr; injection hfr with hfr; exact Or.inl hfr.symm
      · rw [hjb i d hik hd hne e] at hfr; cases hfr
  obtain ⟨hw, hc⟩ := slot_all (q := R) (c := cf) (s := ((0 : Nat) : Int)) (has_slot hf4 hs) fun i hik => by
    by_cases e : i = 0
    · subst e; exact ⟨0, _, by rw [hn4]; exact hn0, hal 0 hn0, hjy⟩
    · obtain ⟨⟨d, e0, e1⟩, _⟩ := h.done i (by omega) hik
      have hd : d < q.n := by rw [h.nn]; exact e0
      exact ⟨d, _, by rw [hn4]; exact hd, hal d hd, hjx i d hik hd (fun hh => e hh.2) e1⟩
  have hn : jnew (jl R cf ((0 : Nat) : Int)) cf.k.toNat = y.q := jnew_is (by omega) (fun i hi f hfm => by
    obtain ⟨d, hd, _, hfr⟩ := mem_jl.1 hfm
    rcases hall i d (by omega) (by rw [← hn4]; exact hd) f hfr with e | ⟨_, e⟩
    · rw [e]; show x.q ≤ y.q; omega
    · rw [e]; exact Int.le_refl _) ⟨0, by omega, _, mem_jl.2 ⟨0, by rw [hn4]; exact hn0, hal 0 hn0, hjy⟩, rfl⟩
  obtain ⟨t1, t2, _⟩ := slot_torn (i := 1) hw hn (by omega) fun f hfm e => by
    obtain ⟨d, hd, _, hfr⟩ := mem_jl.1 hfm
    rcases hall 1 d (by omega) (by rw [← hn4]; exact hd) f hfr with e' | ⟨e', _⟩
    · rw [e'] at e; exact absurd (show x.q = y.q from e) (by omega)
    · exact absurd e' (by decide)
  exact ⟨hc, t1, t2⟩
set_option maxHeartbeats 16000000 in
set_option maxRecDepth 100000 in
theorem union_any (w : World) (k_ n_ a_ : Int) (vh : Value) (lh : List Int) (hvh : SlI w.heap.size w vh lh) (hT : Typ w) : Calls Tryz.prog 10 #[.int .i64 k_, .int .i64 n_, .int .i64 a_, vh] w (Bit true w) := by
  have HT := Lib.hid hT
  have HVH := Lib.hid hvh
  obtain ⟨ah, ch, rfl⟩ := hvh.len
  clear hT hvh
  go_enter Tryz.func10, Tryz.ntmps10
  go_wp2_with fail
  refine (fixed_any k_ n_ 2 1 _ (by omega) (by omega)).mono ?_
  rintro e w1 ⟨cf, hcf, rfl, hb1⟩
  obtain ⟨N, K, SC, hL⟩ := cfL_of hcf
  have HL := Lib.hid hL
  have CS := Lib.hid (fun w => ksectors_any cf w hL.ok.right)
  have CN := Lib.hid (fun w => hL.new w)
  have H2 := Lib.hid (show JfS cf w1.heap.size w (w1.alloc (.cells (cfA cf) 24)) from ⟨cfB_new w1 cf, by simp, balloc hb1 _⟩)
  have HNR := Lib.hid hL.r
  clear hb1 hcf hL
  go_wp2_with fail
  have h2 := H2.out
  generalize w1.alloc (.cells (cfA cf) 24) = w2 at *
  generalize w1.heap.size = b at *
  have d0 : ∀ w', JfS cf b w w' → w'.cell? ⟨b, 0, none⟩ = some (.int .i64 cf.id) := fun w' h => h.1.cell 0
  have d1 : ∀ w', JfS cf b w w' → w'.cell? ⟨b, 1, none⟩ = some (.int .i64 cf.k) := fun w' h => h.1.cell 1
  have d2 : ∀ w', JfS cf b w w' → w'.cell? ⟨b, 2, none⟩ = some (.int .i64 cf.n) := fun w' h => h.1.cell 2
  have d3 : ∀ w', JfS cf b w w' → w'.cell? ⟨b, 3, none⟩ = some (.int .i64 cf.t) := fun w' h => h.1.cell 3
  have d4 : ∀ w', JfS cf b w w' → w'.cell? ⟨b, 4, none⟩ = some (.int .i64 cf.s) := fun w' h => h.1.cell 4
  refine wp_region_noPanic ?_
  refine wp_region_held_drew (S := (fun w' => JfS cf b w w')) (by kernel_rfl) h2.drew (fun hHeld => ?_)
  refine wpAnyH_take (i := 0) (oi := ⟨some 26, _, _, _, _, _⟩) (v := ?_) rfl (by kernel_rfl) (by kernel_rfl) (by kernel_rfl) (fun _ _ _ h => h) (Or.inl ⟨by rfl, ?_⟩) hHeld ?_
  rotate_left
  · intro w hSw; (go_simp; try with_reducible rfl)
  simp only [Act.put, List.setIfInBounds_toArray, List.set_cons_zero, List.set_cons_succ]
  refine wpAnyH_take (i := 1) (oi := ⟨some 27, _, _, _, _, _⟩) (v := ?_) rfl (by kernel_rfl) (by kernel_rfl) (by kernel_rfl) (fun _ _ _ h => h) (Or.inl ⟨by rfl, ?_⟩) hHeld ?_
  rotate_left
  · intro w hSw; (go_simp; try with_reducible rfl)
  simp only [Act.put, List.setIfInBounds_toArray, List.set_cons_zero, List.set_cons_succ]
  refine wpAnyH_take (i := 2) (oi := ⟨some 28, _, _, _, _, _⟩) (v := ?_) rfl (by kernel_rfl) (by kernel_rfl) (by kernel_rfl) (fun _ _ _ h => h) (Or.inl ⟨by rfl, ?_⟩) hHeld ?_
  rotate_left
  · intro w hSw; (go_simp; try with_reducible rfl)
  simp only [Act.put, List.setIfInBounds_toArray, List.set_cons_zero, List.set_cons_succ]
  refine wpAnyH_ready (rs := [3]) (by kernel_rfl) (by simp) (AllReadyH.cons rfl (fun K hK => ?_) AllReadyH.nil)
  go_simp
  refine (CS.out _).mono ?_
  rintro e w3 ⟨rfl, hb3⟩
  have h3 := JfS.then hHeld hb3
  clear hb3
  refine hK.out _ _ h3 (fun _ => ?_)
  clear hK K
  refine wpAnyH_ready (rs := [4]) (by kernel_rfl) (by simp) (AllReadyH.cons rfl (fun K hK => ?_) AllReadyH.nil)
  go_simp
  refine (CN.out _).mono ?_
  rintro e w4 ⟨c, rfl, h4⟩
  have H4 := Lib.hid h4
  have h5 := JfS.made h3 h4
  clear h4
  refine hK.out _ _ h5 (fun _ => ?_)
  clear hK K
  refine wpAnyH_take (i := 5) (oi := ⟨some 25, _, _, _, _, _⟩) (v := ?_) rfl (by kernel_rfl) (by kernel_rfl) (by kernel_rfl) (fun _ _ _ h => h) (Or.inl ⟨by rfl, ?_⟩) h5 ?_
  rotate_left
  · intro w hSw; (go_simp; try with_reducible rfl)
  simp only [Act.put, List.setIfInBounds_toArray, List.set_cons_zero, List.set_cons_succ]
  refine wpAnyH_take (i := 6) (oi := ⟨some 31, _, _, _, _, _⟩) (v := ?_) rfl (by kernel_rfl) (by kernel_rfl) (by kernel_rfl) (fun _ _ _ h => h) (Or.inl ⟨by rfl, ?_⟩) h5 ?_
  rotate_left
  · intro w hSw; (go_simp; try with_reducible rfl)
  simp only [Act.put, List.setIfInBounds_toArray, List.set_cons_zero, List.set_cons_succ]
  refine wpAnyH_take (i := 7) (oi := ⟨some 32, _, _, _, _, _⟩) (v := ?_) rfl (by kernel_rfl) (by kernel_rfl) (by kernel_rfl) (fun _ _ _ h => h) (Or.inl ⟨by rfl, ?_⟩) h5 ?_
  rotate_left
  · intro w hSw; (go_simp; try with_reducible rfl)
  simp only [Act.put, List.setIfInBounds_toArray, List.set_cons_zero, List.set_cons_succ]
  refine wpAnyH_take (i := 8) (oi := ⟨some 10, _, _, _, _, _⟩) (v := ?_) rfl (by kernel_rfl) (by kernel_rfl) (by kernel_rfl) (fun _ _ _ h => h) (Or.inl ⟨by rfl, ?_⟩) h5 ?_
  rotate_left
  · intro w hSw; (go_simp; try with_reducible rfl)
  simp only [Act.put, List.setIfInBounds_toArray, List.set_cons_zero, List.set_cons_succ]
  refine wpAnyH_take (i := 9) (oi := ⟨some 11, _, _, _, _, _⟩) (v := ?_) rfl (by kernel_rfl) (by kernel_rfl) (by kernel_rfl) (fun _ _ _ h => h) (Or.inl ⟨by rfl, ?_⟩) h5 ?_
  rotate_left
  · intro w hSw; (go_simp; try with_reducible rfl)
  simp only [Act.put, List.setIfInBounds_toArray, List.set_cons_zero, List.set_cons_succ]
  refine wpAnyH_done (by kernel_rfl) ?_ _
  refine NoPanic.normal ?_
  have HB3 := Lib.hid (show JfS cf b w w3 from h3)
  have HJ4 := Lib.hid (show JW w3 c cf b w4.heap.size N (newRk N SC) w4 from JW.made H4.out HB3.out.1 HB3.out.2.1 (Below.refl _ _))
  have HBW := Lib.hid (fun (q : Rk) (w' : World) (h : JW w3 c cf b w4.heap.size N q w') => show Below w.heap.size w w' from bthen HB3.out.2.2 h.qs.base)
  have HTY := Lib.hid (fun (q : Rk) (w' : World) (h : JW w3 c cf b w4.heap.size N q w') => show Typ w' from HT.out.below (HBW.out q w' h))
  clear d0 d1 d2 d3 d4 h2 hHeld h3 h5
  have hx1 : RcIn cf 0 (lawR 6 1 a_ K) := HL.out.rc (by decide) (by decide) (by decide) (by decide) (Or.inr ⟨by decide, by decide⟩)
  have HX := Lib.hid hx1
  have HLOG := Lib.hid (HL.out.wl.log (s := 0) (by rw [HL.out.s]; decide) hx1 (by show (2 : Int) ≤ 6; decide))
  have HBK := Lib.hid (fun w => HL.out.blocks a_ w)
  obtain ⟨d0, d1, d2, d3, d4⟩ := CfB.cells HJ4.out.cfg
  clear hx1
  go_wp2_with fail
  refine (HBK.out _).mono ?_
  rintro e w5 ⟨v, rfl, hv, hb5⟩
  have HX6 := Lib.hid (show RcB w4.heap.size (lawR 6 1 a_ K) v w5.heap.size (w5.alloc (.cells (rcA 6 1 v) 59)) from rcB_new (x := lawR 6 1 a_ K) (lawR_is _ _ _ _) hb5.size hv)
  have HJ6 := Lib.hid (HJ4.out.below (balloc hb5 (.cells (rcA 6 1 v) 59)))
  obtain ⟨gv, cv, rfl, -⟩ := own_slice' hv
  generalize (blks a_ K).length = lb at *
  clear hv hb5 d0 d1 d2 d3 d4
  obtain ⟨w6, hw6⟩ : ∃ w6, w6 = (w5.alloc (.cells (rcA 6 1 (.slice gv lb cv)) 59)) := ⟨_, rfl⟩
  rw [← hw6] at HX6 HJ6
  have hcR : (w5.alloc (.cells #[.int .i64 6, .int .i64 1, .slice gv lb cv] 59)) = w6 := hw6.symm
  clear hw6
  have HRX := Lib.hid (show ∀ w' : World, RcB w4.heap.size (lawR 6 1 a_ K) (.slice gv lb cv) w5.heap.size w' → w'.cell? ⟨w5.heap.size, 0, none⟩ = some (.int .i64 6) ∧ w'.cell? ⟨w5.heap.size, 1, none⟩ = some (.int .i64 1) ∧ w'.cell? ⟨w5.heap.size, 2, none⟩ = some (.slice gv lb cv) from fun w' h => h.cells)
  have CLG := Lib.hid (show Calls Tryz.prog 26 #[.pointer (some ⟨c.r, 0, none⟩), .agg (cfA cf), .agg #[.int .i64 6, .int .i64 1, .slice gv lb cv]] w6 (JN w3 c cf b w4.heap.size N (Rk.jlog (newRk N SC) cf (lawR 6 1 a_ K)) .nilIface w6) from by
    have := HJ6.out.log HX6.out
    rwa [jlog_nil HLOG.out.1] at this)
  obtain ⟨d0, d1, d2, d3, d4⟩ := CfB.cells HJ6.out.cfg
  obtain ⟨x0, x1, x2⟩ := HRX.out _ HX6.out
  go_wp2_with fail
  clear hcR
  refine CLG.out.mono ?_
  rintro e w7 ⟨rfl, hj7, hc7⟩
  have HJ7 := Lib.hid hj7
  have HX7 := Lib.hid (HX6.out.rc HJ7.out.far hc7)
  have HO7 := Lib.hid (show UnO cf N SC (lawR 6 1 a_ K) 0 (Rk.jlog (newRk N SC) cf (lawR 6 1 a_ K)) from ⟨HLOG.out.2.1, HLOG.out.2.2.1, (jlog_k _ _ _), fun i hi => absurd hi (by omega), fun i d _ hik hd => ⟨HLOG.out.2.2.2.1 d i (by rw [HLOG.out.2.2.1]; exact hd) hik, HLOG.out.2.2.2.2.2 (CfL.nr N SC) d _ (by rw [HLOG.out.2.2.1]; exact hd)⟩⟩)
  clear d0 d1 d2 d3 d4 x0 x1 x2 hj7 hc7
  generalize Rk.jlog (newRk N SC) cf (lawR 6 1 a_ K) = q1 at *
  obtain ⟨r1, r2, r3, r4, r5, r6, r7⟩ := HNR.out
  have HKC := Lib.hid (show cf.k = (K : Int) from HL.out.k)
  have HDC : Hid (∀ q w', JW w3 c cf b w4.heap.size N q w' → w'.cell? ⟨b, 0, none⟩ = some (.int .i64 cf.id) ∧ w'.cell? ⟨b, 1, none⟩ = some (.int .i64 (K : Int)) ∧ w'.cell? ⟨b, 2, none⟩ = some (.int .i64 (N : Int)) ∧ w'.cell? ⟨b, 3, none⟩ = some (.int .i64 cf.t) ∧ w'.cell? ⟨b, 4, none⟩ = some (.int .i64 cf.s)) := Lib.hid fun q w' h => by
    rw [← HL.out.n, ← HL.out.k]; exact CfB.cells h.cfg
  have HCFA := Lib.hid (show (#[.int .i64 cf.id, .int .i64 (K : Int), .int .i64 (N : Int), .int .i64 cf.t, .int .i64 cf.s] : Array Value) = cfA cf by rw [← HL.out.n, ← HL.out.k])
  go_wp2_with fail
  go_loopw [13] (fun i wr => ∃ (m : Nat) (q : Rk), m ≤ K ∧ i = .int .i64 m ∧ UnO cf N SC (lawR 6 1 a_ K) m q ∧ JW w3 c cf b w4.heap.size N q wr ∧ RcB w4.heap.size (lawR 6 1 a_ K) (.slice gv lb cv) w5.heap.size wr) (fun i _ => K - (intOf i).toNat)
  case atStart => exact ⟨0, q1, Nat.zero_le _, rfl, HO7.out, HJ7.out, HX7.out⟩
  case round =>
    obtain ⟨m, q, hm, rfl, hI, hJ, hR⟩ := hrel
    have HI := Lib.hid hI
    have HJ := Lib.hid hJ
    have HR := Lib.hid hR
    clear hI hJ hR
    obtain ⟨d0, d1, d2, d3, d4⟩ := HDC.out _ _ HJ.out
    by_cases hlt : m < K
    · have htm : Int.tmod (m : Int) (N : Int) = ((m % N : Nat) : Int) := by rw [Int.tmod_eq_emod_of_nonneg (by omega)]; rfl
      have hN0 : ¬ (N : Int) = 0 := by omega
      have hN0b : ((N : Int) == 0) = false := by simpa using hN0
      have hml : m % N < N := Nat.mod_lt _ (by omega)
      by_cases hle : m < lh.length
      · obtain ⟨bh, oh, ch', hsl, hch⟩ := HVH.out.num (Nat.le_refl _) (HBW.out q wr HJ.out) hle
        injection hsl with q1' q2' q3'
        subst q1' q3'
        clear q2'
        generalize lh.getD m 0 = vv at *
        go_wp2_with fail
        clear d0 d1 d2 d3 d4
        have d2 : ∀ w', CfB cf b w' ∧ w'.cell? ⟨bh, oh + m, none⟩ = some (.int .i64 vv) → w'.cell? ⟨b, 2, none⟩ = some (.int .i64 (N : Int)) := fun w' h => by rw [← HL.out.n]; exact h.1.cell 2
        have dh : ∀ w', CfB cf b w' ∧ w'.cell? ⟨bh, oh + m, none⟩ = some (.int .i64 vv) → w'.cell? ⟨bh, oh + m, none⟩ = some (.int .i64 vv) := fun w' h => h.2
        have hwN : IntKind.i64.wrap ((N : Int) - 1) = N - 1 := IntWalk.i64_in _ (by omega)
        refine wp_region_noPanic ?_
        refine wp_region_held_drew (S := (fun w' => CfB cf b w' ∧ w'.cell? ⟨bh, oh + m, none⟩ = some (.int .i64 vv))) (by kernel_rfl) (show CfB cf b wr.drew ∧ wr.drew.cell? ⟨bh, oh + m, none⟩ = some (.int .i64 vv) from ⟨HJ.out.cfg, hch⟩) (fun hHeld => ?_)
        refine wpAnyH_take (i := 0) (oi := ⟨some 65, _, _, _, _, _⟩) (v := ?_) rfl (by kernel_rfl) (by kernel_rfl) (by kernel_rfl) (fun _ _ _ h => h) (Or.inl ⟨by rfl, ?_⟩) hHeld ?_
        rotate_left
        · intro w hSw; (go_simp; try with_reducible rfl)
        simp only [Act.put, List.setIfInBounds_toArray, List.set_cons_zero, List.set_cons_succ]
        refine wpAnyH_take (i := 1) (oi := ⟨some 66, _, _, _, _, _⟩) (v := ?_) rfl (by kernel_rfl) (by kernel_rfl) (by kernel_rfl) (fun _ _ _ h => h) (Or.inl ⟨by rfl, ?_⟩) hHeld ?_
        rotate_left
        · intro w hSw; (go_simp; try with_reducible rfl)
        simp only [Act.put, List.setIfInBounds_toArray, List.set_cons_zero, List.set_cons_succ]
        refine wpAnyH_take (i := 2) (oi := ⟨some 67, _, _, _, _, _⟩) (v := ?_) rfl (by kernel_rfl) (by kernel_rfl) (by kernel_rfl) (fun _ _ _ h => h) (Or.inl ⟨by rfl, ?_⟩) hHeld ?_
        rotate_left
        · intro w hSw; (go_simp; try with_reducible rfl)
        simp only [Act.put, List.setIfInBounds_toArray, List.set_cons_zero, List.set_cons_succ]
        refine wpAnyH_take (i := 3) (oi := ⟨some 68, _, _, _, _, _⟩) (v := ?_) rfl (by kernel_rfl) (by kernel_rfl) (by kernel_rfl) (fun _ _ _ h => h) (Or.inl ⟨by rfl, ?_⟩) hHeld ?_
        rotate_left
        · intro w hSw; (go_simp; try with_reducible rfl)
        simp only [Act.put, List.setIfInBounds_toArray, List.set_cons_zero, List.set_cons_succ]
        refine wpAnyH_take (i := 4) (oi := ⟨some 69, _, _, _, _, _⟩) (v := ?_) rfl (by kernel_rfl) (by kernel_rfl) (by kernel_rfl) (fun _ _ _ h => h) (Or.inl ⟨by rfl, ?_⟩) hHeld ?_
        rotate_left
        · intro w hSw; (go_simp; try with_reducible rfl)
        simp only [Act.put, List.setIfInBounds_toArray, List.set_cons_zero, List.set_cons_succ]
        refine wpAnyH_take (i := 5) (oi := ⟨some 70, _, _, _, _, _⟩) (v := ?_) rfl (by kernel_rfl) (by kernel_rfl) (by kernel_rfl) (fun _ _ _ h => h) (Or.inl ⟨by rfl, ?_⟩) hHeld ?_
        rotate_left
        · intro w hSw; (go_simp; try with_reducible rfl)
        simp only [Act.put, List.setIfInBounds_toArray, List.set_cons_zero, List.set_cons_succ]
        refine wpAnyH_take (i := 6) (oi := ⟨some 71, _, _, _, _, _⟩) (v := ?_) rfl (by kernel_rfl) (by kernel_rfl) (by kernel_rfl) (fun _ _ _ h => h) (Or.inl ⟨by rfl, ?_⟩) hHeld ?_
        rotate_left
        · intro w hSw; (go_simp; try with_reducible rfl)
        simp only [Act.put, List.setIfInBounds_toArray, List.set_cons_zero, List.set_cons_succ]
        refine wpAnyH_ready (rs := [7]) (by kernel_rfl) (by simp) (AllReadyH.cons rfl (fun K hK => ?_) AllReadyH.nil)
        go_simp
        refine (within_int _ _ _ _ (by omega) (by omega) (by omega)).mono ?_
        rintro e w7 ⟨kk, hkk, rfl, hw7⟩
        subst hw7
        have HKK := Lib.hid hkk
        clear hkk
        refine hK.out _ _ hHeld (fun _ => ?_)
        clear hK K
        refine wpAnyH_take (i := 8) (oi := ⟨some 14, _, _, _, _, _⟩) (v := ?_) rfl (by kernel_rfl) (by kernel_rfl) (by kernel_rfl) (fun _ _ _ h => h) (Or.inl ⟨by rfl, ?_⟩) hHeld ?_
        rotate_left
        · intro w hSw; (go_simp; try with_reducible rfl)
        simp only [Act.put, List.setIfInBounds_toArray, List.set_cons_zero, List.set_cons_succ]
        refine wpAnyH_done (by kernel_rfl) ?_ _
        refine NoPanic.normal ?_
        obtain ⟨kv, rfl⟩ := Int.eq_ofNat_of_zero_le HKK.out.1
        have HKV := Lib.hid (show kv < N by have := HKK.out.2; omega)
        have HJS := Lib.hid (show JW w3 c cf b w4.heap.size N q wr.drew from HJ.out.drew)
        have HRS := Lib.hid (show RcB w4.heap.size (lawR 6 1 a_ K) (.slice gv lb cv) w5.heap.size wr.drew from HR.out.below (Below.refl _ _).drew)
        clear d2 dh hwN hch hHeld
        go_wp2_with fail
        go_loopw [15] (fun i wr => ∃ (d : Nat) (q : Rk), d ≤ N ∧ i = .int .i64 d ∧ UnI cf N SC (lawR 6 1 a_ K) m d kv q ∧ JW w3 c cf b w4.heap.size N q wr ∧ RcB w4.heap.size (lawR 6 1 a_ K) (.slice gv lb cv) w5.heap.size wr) (fun i _ => N - (intOf i).toNat)
        case atStart => exact ⟨0, q, Nat.zero_le _, rfl, HI.out.start (by rw [HKC.out]; omega) HKV.out, HJS.out, HRS.out⟩
        case round =>
          obtain ⟨d, q2, hd, rfl, hI2, hJ2, hR2⟩ := hrel
          have HI2 := Lib.hid hI2
          have HJ2 := Lib.hid hJ2
          have HR2 := Lib.hid hR2
          clear hI2 hJ2 hR2
          obtain ⟨d0, d1, d2, d3, d4⟩ := HDC.out _ _ HJ2.out
          by_cases hdl : d < N
          · by_cases hdk : d = kv
            · have hne : ((d : Int) != (kv : Int)) = false := by simpa using (by omega : (d : Int) = (kv : Int))
              have HN := Lib.hid (HI2.out.skip hdk)
              clear hdk
              go_wp2_with fail
              go_roundw
              case rel => exact ⟨d + 1, q2, hdl, by go_num, HN.out, HJ2.out, HR2.out⟩
              case measure => simp [intOf]; omega
            · have hne : ((d : Int) != (kv : Int)) = true := by simpa using (by omega : ¬ (d : Int) = (kv : Int))
              obtain ⟨n1, n2⟩ := HI2.out.next HL.out HX.out (by rw [HKC.out]; omega) hdl hdk
              have HN := Lib.hid n2
              have CRT := Lib.hid (show Calls Tryz.prog 28 #[.pointer (some ⟨c.r, 0, none⟩), .int .i64 (d : Int), .int .i64 ((1 : Int) + m), .int .i64 3, .int .u32 1] wr (JN w3 c cf b w4.heap.size N (Rk.rotten q2 d (jsec cf 0 m) 3 1) (.bool true) wr) from by
                rw [show (1 : Int) + m = ((jsec cf 0 m : Nat) : Int) by unfold jsec; simp]
                have := HJ2.out.rot (d : Int) (jsec cf 0 m) 3 1
                rwa [n1] at this)
              generalize Rk.rotten q2 d (jsec cf 0 m) 3 1 = q3 at *
              clear n1 n2 hdk
              go_wp2_with fail
              refine CRT.out.mono ?_
              rintro e w9 ⟨rfl, hj9, hc9⟩
              have HJ9 := Lib.hid hj9
              have HR9 := Lib.hid (HR2.out.rc HJ9.out.far hc9)
              clear hj9 hc9
              go_wp2_with fail
              go_roundw
              case rel => exact ⟨d + 1, q3, hdl, by go_num, HN.out, HJ9.out, HR9.out⟩
              case measure => simp [intOf]; omega
          · obtain rfl : d = N := by omega
            go_wp2_with fail
            go_roundw
            case rel => exact ⟨m + 1, q2, by omega, by go_num, HI2.out.ends HKV.out, HJ2.out, HR2.out⟩
            case measure => simp [intOf]; omega
      · have hle' : ¬ (m : Int) < lh.length := by omega
        obtain ⟨kv, hkv⟩ : ∃ kv, kv = m % N := ⟨_, rfl⟩
        rw [← hkv] at htm hml
        have HKV := Lib.hid hml
        have HJS := Lib.hid HJ.out
        have HRS := Lib.hid HR.out
        clear hkv
        go_wp2_with fail
        go_loopw [15] (fun i wr => ∃ (d : Nat) (q : Rk), d ≤ N ∧ i = .int .i64 d ∧ UnI cf N SC (lawR 6 1 a_ K) m d kv q ∧ JW w3 c cf b w4.heap.size N q wr ∧ RcB w4.heap.size (lawR 6 1 a_ K) (.slice gv lb cv) w5.heap.size wr) (fun i _ => N - (intOf i).toNat)
        case atStart => exact ⟨0, q, Nat.zero_le _, rfl, HI.out.start (by rw [HKC.out]; omega) HKV.out, HJS.out, HRS.out⟩
        case round =>
          obtain ⟨d, q2, hd, rfl, hI2, hJ2, hR2⟩ := hrel
          have HI2 := Lib.hid hI2
          have HJ2 := Lib.hid hJ2
          have HR2 := Lib.hid hR2
          clear hI2 hJ2 hR2
          obtain ⟨d0, d1, d2, d3, d4⟩ := HDC.out _ _ HJ2.out
          by_cases hdl : d < N
          · by_cases hdk : d = kv
            · have hne : ((d : Int) != (kv : Int)) = false := by simpa using (by omega : (d : Int) = (kv : Int))
              have HN := Lib.hid (HI2.out.skip hdk)
              clear hdk
              go_wp2_with fail
              go_roundw
              case rel => exact ⟨d + 1, q2, hdl, by go_num, HN.out, HJ2.out, HR2.out⟩
              case measure => simp [intOf]; omega
            · have hne : ((d : Int) != (kv : Int)) = true := by simpa using (by omega : ¬ (d : Int) = (kv : Int))
              obtain ⟨n1, n2⟩ := HI2.out.next HL.out HX.out (by rw [HKC.out]; omega) hdl hdk
              have HN := Lib.hid n2
              have CRT := Lib.hid (show Calls Tryz.prog 28 #[.pointer (some ⟨c.r, 0, none⟩), .int .i64 (d : Int), .int .i64 ((1 : Int) + m), .int .i64 3, .int .u32 1] wr (JN w3 c cf b w4.heap.size N (Rk.rotten q2 d (jsec cf 0 m) 3 1) (.bool true) wr) from by
                rw [show (1 : Int) + m = ((jsec cf 0 m : Nat) : Int) by unfold jsec; simp]
                have := HJ2.out.rot (d : Int) (jsec cf 0 m) 3 1
                rwa [n1] at this)
              generalize Rk.rotten q2 d (jsec cf 0 m) 3 1 = q3 at *
              clear n1 n2 hdk
              go_wp2_with fail
              refine CRT.out.mono ?_
              rintro e w9 ⟨rfl, hj9, hc9⟩
              have HJ9 := Lib.hid hj9
              have HR9 := Lib.hid (HR2.out.rc HJ9.out.far hc9)
              clear hj9 hc9
              go_wp2_with fail
              go_roundw
              case rel => exact ⟨d + 1, q3, hdl, by go_num, HN.out, HJ9.out, HR9.out⟩
              case measure => simp [intOf]; omega
          · obtain rfl : d = N := by omega
            go_wp2_with fail
            go_roundw
            case rel => exact ⟨m + 1, q2, by omega, by go_num, HI2.out.ends HKV.out, HJ2.out, HR2.out⟩
            case measure => simp [intOf]; omega
    · obtain rfl : m = K := by omega
      have HTD := Lib.hid (show jcode q cf 0 = 0 ∧ jnewest q cf 0 = 6 ∧ jwhole q cf 0 = true ∧ jrecR q cf 0 = lawR 6 1 a_ m from HI.out.told HL.out HX.out)
      have CSL := Lib.hid (HJ.out.slot 0)
      unfold SlotOut at CSL
      rw [HTD.out.2.2.2, HTD.out.2.2.1, HTD.out.2.1, jslot_nil HTD.out.1, ← HCFA.out] at CSL
      go_wp2_with fail
      refine CSL.out.mono ?_
      rintro e w8 ⟨vz, rfl, hvz, hb8⟩
      have HZ9 := Lib.hid (show RcB w4.heap.size (lawR 6 1 a_ m) vz w8.heap.size (w8.alloc (.cells (rcA 6 1 vz) 59)) from rcB_new (x := lawR 6 1 a_ m) (lawR_is _ _ _ _) (Nat.le_trans HJ.out.bB hb8.size) (own_base hvz HJ.out.bB))
      have HJ9 := Lib.hid (HJ.out.below (balloc hb8 (.cells (rcA 6 1 vz) 59)))
      have HX9 := Lib.hid (HR.out.below (balloc hb8 (.cells (rcA 6 1 vz) 59)))
      obtain ⟨gz, cz, rfl, -⟩ := own_slice' hvz
      have hq3 : (Value.agg (rcA (lawR 6 1 a_ m).q (lawR 6 1 a_ m).t (.slice gz (lawR 6 1 a_ m).b.length cz))) = .agg #[.int .i64 6, .int .i64 1, .slice gz (lawR 6 1 a_ m).b.length cz] := rfl
      rw [hq3]
      clear hvz hb8 hq3 d0 d1 d2 d3 d4
      have HLB := Lib.hid (show (lawR 6 1 a_ m).b.length ≤ 8 from by show (blks a_ m).length ≤ 8; rw [blks_length]; omega)
      have HKR := Lib.hid (fun (w' : World) (va vb : Value) (h1 : SlK w'.heap.size w' va (lawR 6 1 a_ m).b) (h2 : SlK w'.heap.size w' vb (lawR 6 1 a_ m).b) => show Calls Tryz.prog 30 #[.agg #[.int .i64 6, .int .i64 1, va], .agg #[.int .i64 6, .int .i64 1, vb]] w' (Bit true w') from by
        have := krecord_any (lawR 6 1 a_ m) (lawR 6 1 a_ m) va vb w' h1 h2 HLB.out
        rwa [rcB_refl] at this)
      have HZC := Lib.hid (show ∀ w' : World, RcB w4.heap.size (lawR 6 1 a_ m) (.slice gz (lawR 6 1 a_ m).b.length cz) w8.heap.size w' → w'.cell? ⟨w8.heap.size, 0, none⟩ = some (.int .i64 6) ∧ w'.cell? ⟨w8.heap.size, 1, none⟩ = some (.int .i64 1) ∧ w'.cell? ⟨w8.heap.size, 2, none⟩ = some (.slice gz (lawR 6 1 a_ m).b.length cz) from fun w' h => h.cells)
      generalize (lawR 6 1 a_ m).b.length = lz at *
      obtain ⟨w9, hw9⟩ : ∃ w9, w9 = (w8.alloc (.cells (rcA 6 1 (.slice gz lz cz)) 59)) := ⟨_, rfl⟩
      rw [← hw9] at HZ9 HJ9 HX9
      have hcR : (w8.alloc (.cells #[.int .i64 6, .int .i64 1, .slice gz lz cz] 59)) = w9 := hw9.symm
      clear hw9
      have CRC := Lib.hid (HKR.out w9 _ _ HZ9.out.slk HX9.out.slk)
      obtain ⟨x0, x1, x2⟩ := HRX.out _ HX9.out
      obtain ⟨y0, y1, y2⟩ := HZC.out _ HZ9.out
      go_wp2_with fail
      clear hcR
      refine CRC.out.mono ?_
      rintro e w10 ⟨rfl, hb10⟩
      have HJ10 := Lib.hid (HJ9.out.below hb10)
      clear hb10 x0 x1 x2 y0 y1 y2
      obtain ⟨d0, d1, d2, d3, d4⟩ := HDC.out _ _ HJ10.out
      by_cases hm2 : m < 2
      · have hm2' : (m : Int) < 2 := by omega
        have HRR := Lib.hid (journal_runs w10 (HTY.out _ _ HJ10.out))
        go_wp2_with fail
        refine HRR.out.mono ?_
        rintro e w11 ⟨rfl, hb11⟩
        go_wp2_with fail
        go_ret
        exact bit rfl (bthen (HBW.out _ _ HJ10.out) hb11)
      · have hm2' : ¬ (m : Int) < 2 := by omega
        have CAR := Lib.hid (HJ10.out.arm 1 (by decide) (by decide))
        go_wp2_with fail
        refine CAR.out.mono ?_
        rintro e w14 ⟨rfl, hj14, _⟩
        have HJ14 := Lib.hid hj14
        clear hj14 d0 d1 d2 d3 d4
        go_wp2_with fail
        have HBK2 := Lib.hid (fun w => HL.out.blocks (IntKind.i64.wrap (a_ + 1)) w)
        have hy1 : RcIn cf 0 (lawR 7 0 (IntKind.i64.wrap (a_ + 1)) m) := HL.out.rc (by decide) (by decide) (by decide) (by decide) (Or.inr ⟨by decide, by decide⟩)
        have HY := Lib.hid hy1
        have HLG2 := Lib.hid (fun (w : World) (v : Value) (h : JW w3 c cf b w4.heap.size N (q.arm 1) w) (hv : SlK w.heap.size w v (lawR 7 0 (IntKind.i64.wrap (a_ + 1)) m).b) => show Calls Tryz.prog 26 #[.pointer (some ⟨c.r, 0, none⟩), .agg (cfA cf), .agg #[.int .i64 7, .int .i64 0, v]] w (JN w3 c cf b w4.heap.size N (Rk.jlog (q.arm 1) cf (lawR 7 0 (IntKind.i64.wrap (a_ + 1)) m)) (Rk.jlogV (q.arm 1) cf (lawR 7 0 (IntKind.i64.wrap (a_ + 1)) m)) w) from h.log' (lawR_is _ _ _ _) hv)
        clear hy1
        have d0 : ∀ w', CfB cf b w' → w'.cell? ⟨b, 0, none⟩ = some (.int .i64 cf.id) := fun w' h => h.cell 0
        have d1 : ∀ w', CfB cf b w' → w'.cell? ⟨b, 1, none⟩ = some (.int .i64 cf.k) := fun w' h => h.cell 1
        have d2 : ∀ w', CfB cf b w' → w'.cell? ⟨b, 2, none⟩ = some (.int .i64 cf.n) := fun w' h => h.cell 2
        have d3 : ∀ w', CfB cf b w' → w'.cell? ⟨b, 3, none⟩ = some (.int .i64 cf.t) := fun w' h => h.cell 3
        have d4 : ∀ w', CfB cf b w' → w'.cell? ⟨b, 4, none⟩ = some (.int .i64 cf.s) := fun w' h => h.cell 4
        refine wp_region_noPanic ?_
        refine wp_region_held_drew (S := (fun w' => CfB cf b w')) (by kernel_rfl) (show CfB cf b w14.drew from HJ14.out.cfg) (fun hHeld => ?_)
        refine wpAnyH_take (i := 0) (oi := ⟨some 120, _, _, _, _, _⟩) (v := ?_) rfl (by kernel_rfl) (by kernel_rfl) (by kernel_rfl) (fun _ _ _ h => h) (Or.inl ⟨by rfl, ?_⟩) hHeld ?_
        rotate_left
        · intro w hSw; (go_simp; try with_reducible rfl)
        simp only [Act.put, List.setIfInBounds_toArray, List.set_cons_zero, List.set_cons_succ]
        refine wpAnyH_take (i := 1) (oi := ⟨some 121, _, _, _, _, _⟩) (v := ?_) rfl (by kernel_rfl) (by kernel_rfl) (by kernel_rfl) (fun _ _ _ h => h) (Or.inl ⟨by rfl, ?_⟩) hHeld ?_
        rotate_left
        · intro w hSw; (go_simp; try with_reducible rfl)
        simp only [Act.put, List.setIfInBounds_toArray, List.set_cons_zero, List.set_cons_succ]
        refine wpAnyH_take (i := 2) (oi := ⟨some 122, _, _, _, _, _⟩) (v := ?_) rfl (by kernel_rfl) (by kernel_rfl) (by kernel_rfl) (fun _ _ _ h => h) (Or.inl ⟨by rfl, ?_⟩) hHeld ?_
        rotate_left
        · intro w hSw; (go_simp; try with_reducible rfl)
        simp only [Act.put, List.setIfInBounds_toArray, List.set_cons_zero, List.set_cons_succ]
        refine wpAnyH_take (i := 3) (oi := ⟨some 123, _, _, _, _, _⟩) (v := ?_) rfl (by kernel_rfl) (by kernel_rfl) (by kernel_rfl) (fun _ _ _ h => h) (Or.inl ⟨by rfl, ?_⟩) hHeld ?_
        rotate_left
        · intro w hSw; (go_simp; try with_reducible rfl)
        simp only [Act.put, List.setIfInBounds_toArray, List.set_cons_zero, List.set_cons_succ]
        refine wpAnyH_take (i := 4) (oi := ⟨some 124, _, _, _, _, _⟩) (v := ?_) rfl (by kernel_rfl) (by kernel_rfl) (by kernel_rfl) (fun _ _ _ h => h) (Or.inl ⟨by rfl, ?_⟩) hHeld ?_
        rotate_left
        · intro w hSw; (go_simp; try with_reducible rfl)
        simp only [Act.put, List.setIfInBounds_toArray, List.set_cons_zero, List.set_cons_succ]
        refine wpAnyH_take (i := 5) (oi := ⟨some 125, _, _, _, _, _⟩) (v := ?_) rfl (by kernel_rfl) (by kernel_rfl) (by kernel_rfl) (fun _ _ _ h => h) (Or.inl ⟨by rfl, ?_⟩) hHeld ?_
        rotate_left
        · intro w hSw; (go_simp; try with_reducible rfl)
        simp only [Act.put, List.setIfInBounds_toArray, List.set_cons_zero, List.set_cons_succ]
        refine wpAnyH_ready (rs := [6]) (by kernel_rfl) (by simp) (AllReadyH.cons rfl (fun K hK => ?_) AllReadyH.nil)
        go_simp
        refine (HBK2.out _).mono ?_
        rintro e w15 ⟨v, rfl, hv, hb15⟩
        have HV15 := Lib.hid (slK_own hv (blks_is _ _) rfl)
        have HJ15 := Lib.hid (HJ14.out.drew.below hb15)
        have h15 : CfB cf b w15 := HJ15.out.cfg
        obtain ⟨gv2, cv2, rfl, -⟩ := own_slice' hv
        clear hv hb15
        refine hK.out _ _ h15 (fun _ => ?_)
        clear hK K
        refine wpAnyH_take (i := 7) (oi := ⟨some 127, _, _, _, _, _⟩) (v := ?_) rfl (by kernel_rfl) (by kernel_rfl) (by kernel_rfl) (fun _ _ _ h => h) (Or.inl ⟨by rfl, ?_⟩) h15 ?_
        rotate_left
        · intro w hSw; (go_simp; try with_reducible rfl)
        simp only [Act.put, List.setIfInBounds_toArray, List.set_cons_zero, List.set_cons_succ]
        refine wpAnyH_ready (rs := [8]) (by kernel_rfl) (by simp) (AllReadyH.cons rfl (fun K hK => ?_) AllReadyH.nil)
        go_simp
        refine (HLG2.out w15 _ HJ15.out HV15.out).mono ?_
        rintro e w16 ⟨rfl, hj16, _⟩
        have HJ16 := Lib.hid hj16
        have h16 : CfB cf b w16 := hj16.cfg
        clear hj16
        refine hK.out _ _ h16 (fun _ => ?_)
        clear hK K
        refine wpAnyH_done (by kernel_rfl) ?_ _
        refine NoPanic.normal ?_
        have HSU := Lib.hid (slu_one w16)
        have HJ17 := Lib.hid (show JW w3 c cf b w4.heap.size N _ (w16.alloc (.cells #[.int .u64 1] 88)) from HJ16.out.below (one_below w16 _))
        have CBT := Lib.hid (HJ17.out.boot _ [1] HSU.out (fun x hx => by obtain rfl : x = 0 := by simp at hx; omega
                                                                         decide))
        clear d0 d1 d2 d3 d4
        go_wp2_with fail
        refine CBT.out.mono ?_
        rintro e w18 ⟨rfl, hj18, _⟩
        have HTD2 := Lib.hid (show _ ∧ jnewest _ cf 0 = 7 ∧ _ from un_torn HI.out HL.out HX.out HY.out (show (6 : Int) < 7 by decide) (show (2 : Int) ≤ 7 by decide) (by omega) hj18.qs.rack.ok)
        have HJ18 := Lib.hid hj18
        clear hj18 CBT HJ17 HSU HJ16
        generalize ((Rk.jlog (q.arm 1) cf (lawR 7 0 (IntKind.i64.wrap (a_ + 1)) m)).boot fun i => ([1] : List Nat).getD i 0) = q9 at *
        have CSL2 := Lib.hid (HJ18.out.slot 0)
        unfold SlotOut at CSL2
        rw [HTD2.out.2.2, HTD2.out.2.1, jslot_nil HTD2.out.1, ← HCFA.out] at CSL2
        obtain ⟨e0, e1, e2, e3, e4⟩ := HDC.out _ _ HJ18.out
        go_wp2_with fail
        refine CSL2.out.mono ?_
        rintro e w19 ⟨vy, rfl, hvy, hb19⟩
        have HJ19 := Lib.hid (HJ18.out.below hb19)
        have HRR := Lib.hid (journal_runs w19 (HTY.out _ _ HJ19.out))
        clear hvy hb19 e0 e1 e2 e3 e4
        go_wp2_with fail
        refine HRR.out.mono ?_
        rintro e w20 ⟨rfl, hb20⟩
        go_wp2_with fail
        go_ret
        exact bit rfl (bthen (HBW.out _ _ HJ19.out) hb20)
end Go.Proofs.YtdcpgpgomnpefaaGreatDoor
/-
  The law stavelaw10.JournalUnion (each of a slot's frames may be left on another disk; a torn newer record hides the elder) returns true for all numbers, and leaves all memory that was there as it was.
  Conditions: none but the row's own; the one package-level variable that it reads, errors.errorType, is tied to the program's text by the card. The card speaks of the pruned copy of the project that the seat names.
-/
namespace Go.Proofs.YtdcpgpgomnpefaaGreatDoor.journalUnion
open Go.ChangeShapes Go.WideShapes Go.ChangeAt Go.RowKit

set_option maxRecDepth 100000 in
theorem contract (H : Type) (enc : TypeId × Value → H) (W : World) (base : Nat) (args : Array Value) (ds gs : List (DataW H)) (before : List MemPlace)
    (hval : ∀ (j : Nat) t v, Tryz.f10.params[j]? = some t → args[j]? = some v → Value.okWide Tryz.prog W .any base t v)
    (hW : DataW.Whole enc Tryz.prog Tryz.f10.params.toList Rows.journalUnionSpec.vars false W args.toList ds gs before) (hL : laidMetH Tryz.prog Rows.journalUnionRow.laid W) :
    Calls Tryz.prog 10 args W fun e W' => ∃ v, e = .returned v ∧ Rows.journalUnionSpec.post enc Tryz.prog Tryz.f10 false true false false W args v W' := by
  have hW' := hW
  obtain ⟨p, q, hA0, hV, rfl, hfz, hnd⟩ := hW
  have hA : DataW.TrodAll enc Tryz.prog W 0 (fun _ => true) true Tryz.f10.params.toList args.toList ds p := hA0
  rw [Tryz.params10] at hA hval
  obtain ⟨v0, vs0, d0, ds0, p0, q0, hargs, rfl, rfl, h0, r0⟩ := trodAll_cons hA
  obtain ⟨v1, vs1, d1, ds1, p1, q1, rfl, rfl, rfl, h1, r1⟩ := trodAll_cons r0
  obtain ⟨v2, vs2, d2, ds2, p2, q2, rfl, rfl, rfl, h2, r2⟩ := trodAll_cons r1
  obtain ⟨v3, vs3, d3, ds3, p3, q3, rfl, rfl, rfl, h3, r3⟩ := trodAll_cons r2
  obtain ⟨rfl, rfl, rfl⟩ := trodAll_nil r3
  obtain rfl : args = #[v0, v1, v2, v3] := Array.ext' hargs
  obtain ⟨k_, rfl, rfl, rfl, _⟩ := open_int Tryz.underlying3 (hval 0 3 v0 (by simp) (by simp)) h0
  obtain ⟨n_, rfl, rfl, rfl, _⟩ := open_int Tryz.underlying3 (hval 1 3 v1 (by simp) (by simp)) h1
  obtain ⟨a_, rfl, rfl, rfl, _⟩ := open_int Tryz.underlying3 (hval 2 3 v2 (by simp) (by simp)) h2
  have hv3 := (hval 3 81 v3 (by simp) (by simp))
  obtain ⟨l, hsl, hll⟩ := open_nums hv3 h3
  obtain ⟨rfl, rfl⟩ := trodVars_none hV
  clear hA0
  have hw : Calls Tryz.prog 10 #[.int .i64 k_, .int .i64 n_, .int .i64 a_, v3] W (Bit true W) := union_any W k_ n_ a_ v3 l hsl (handle_of_laid hL)
  refine hw.mono fun e W' ⟨he, hg⟩ => ?_
  subst he
  exact ⟨_, rfl, law_post Tryz.laidOut (by kernel_rfl) (by kernel_rfl) (by kernel_rfl) Tryz.underlying4 hW' hg rfl rfl rfl⟩

theorem reads (os : Os) {H : Type} (enc : TypeId × Value → H) : ∃ places, DataW.whole enc Tryz.prog ((laidWorld os).forCall (fun _ _ => 0) ⟨#[], #[.int .i64 0, .int .i64 0, .int .i64 0, .slice none 0 0], []⟩).memory Tryz.f10.params.toList Rows.journalUnionSpec.vars false (#[.int .i64 0, .int .i64 0, .int .i64 0, .slice none 0 0] : Array Value).toList 8 = some ([.lit (.int .i64 0), .lit (.int .i64 0), .lit (.int .i64 0), .nil], [], places) :=
  ⟨[], by kernel_rfl⟩

set_option maxRecDepth 100000 in
theorem lifted (os : Os) (started : os.Started) (H : Type) (enc : TypeId × Value → H) (F : Stop.Interp) :
    ReturnsInHanded {} Tryz.checked os 10 .any ((OpenSpec.ofChange Rows.journalUnionSpec).preRow enc Tryz.prog Tryz.f10 Rows.journalUnionRow.domain false Rows.journalUnionRow.laid) (((OpenSpec.ofChange Rows.journalUnionSpec).at F).post enc Tryz.prog Tryz.f10 false true false false) := by
  obtain ⟨places, hx⟩ := reads os enc
  refine returnsInHanded_of_row (C := Tryz.checked) (s := OpenSpec.ofChange Rows.journalUnionSpec) Tryz.own started (by kernel_rfl) Tryz.func10
    (witness_row_at (enc := enc) (C := Tryz.checked) false (laidWorld os) #[.int .i64 0, .int .i64 0, .int .i64 0, .slice none 0 0] rfl (by kernel_rfl) (by kernel_rfl) (by kernel_rfl)
      (OpenSpec.preRow_of_cond 8 hx (by kernel_rfl) (fun k hk => by cases hk) (by kernel_rfl) (laidWorld_met os _))) ?_
  intro W base args ds gs before hval hW _ _ _ hL _ _
  exact contract H enc W base args ds gs before hval hW hL

theorem said : Rows.JournalUnionSaid :=
  OpenClaim.holds_of_cond 10 Tryz.f10 rfl rfl rfl rfl rfl rfl rfl ⟨rfl, rfl, rfl, rfl, rfl⟩ rfl rfl rfl rfl rfl (by kernel_rfl) Tryz.func10 (by kernel_rfl)
    (of_decide_eq_true (by kernel_rfl)) (by unfold Func.isWrapper; first | (rw [if_pos (by decide +kernel)]; kernel_rfl) | (rw [if_neg (by decide +kernel)]; exact ⟨rfl, rfl⟩))
    (fun os started H enc _ F => by rw [OpenClaim.pre_eq_preRow]; exact lifted os started H enc F)

theorem plain (f : FuncId) (fn : Func) (hf : Tryz.pinned.checked.prog.funcNamed "stave/stavelaw10.JournalUnion" = some f) (hfn : Tryz.pinned.checked.prog.funcs[f]? = some fn) :
    true = Tryz.pinned.checked.prog.looks [] ∧ ∀ (j : Nat) t, fn.params[j]? = some t → Tryz.pinned.checked.prog.wantsStandIn t = false := by
  obtain rfl : f = 10 := Option.some.inj ((show Tryz.prog.funcNamed "stave/stavelaw10.JournalUnion" = some 10 by kernel_rfl).symm.trans hf) |>.symm
  obtain rfl : fn = Tryz.f10 := (Option.some.inj (Tryz.func10.symm.trans hfn)).symm
  have hall : (Tryz.f10.params.toList.all fun t => !Tryz.prog.wantsStandIn t) = true := by kernel_rfl
  refine ⟨by kernel_rfl, fun j t ht => ?_⟩
  have := List.all_eq_true.1 hall t (by simpa using Array.mem_of_getElem? ht)
  have h2 : Tryz.prog.wantsStandIn t = false := by simpa using this
  exact h2

end Go.Proofs.YtdcpgpgomnpefaaGreatDoor.journalUnion
namespace Go.Proofs.YtdcpgpgomnpefaaGreatDoor
theorem JournalUnion_card : Rows.JournalUnionCardSaid :=
  Claim7.holds_tied_plain_at .later [] _ _ _ _ journalUnion.said (fun _ h => by cases h) (by kernel_rfl) (fun _ h => by cases h) journalUnion_row_tie rfl ⟨rfl, rfl⟩ (by kernel_rfl) rfl journalUnion.plain (by kernel_rfl)
#print axioms JournalUnion_card
end Go.Proofs.YtdcpgpgomnpefaaGreatDoor
