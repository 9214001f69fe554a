/-
  stavelaw11.StripeBudget: what the disks that are left have.
-/
import Derived.Test.YtidnmkghmaeniaaGreatDoorTLaw
namespace Go.Proofs.YtidnmkghmaeniaaGreatDoor
open Go.RowKit Go.Deep Dk Qk Go.Maps Hf
theorem upsN_die {q q' : Rk} {d : Nat} (ha : (q.s d).dead = false) (hd : (q'.s d).dead = true) (ho : ∀ j, j ≠ d → (q'.s j).dead = (q.s j).dead) : ∀ m, (m ≤ d → (upsN q' m).length = (upsN q m).length) ∧ (d < m → (upsN q' m).length + 1 = (upsN q m).length)
  | 0 => ⟨fun _ => rfl, fun h => absurd h (by omega)⟩
  | m + 1 => by
    obtain ⟨i1, i2⟩ := upsN_die ha hd ho m
    by_cases e : m = d
    · subst e
      rw [upsN_no hd, upsN_yes ha]
      exact ⟨fun h => absurd h (by omega), fun _ => by rw [List.length_append, i1 (Nat.le_refl _)]; rfl⟩
    · have hm := ho m e
      cases hq : (q.s m).dead with
      | true =>
        rw [upsN_no hq, upsN_no (hm.trans hq)]
        exact ⟨fun h => i1 (by omega), fun h => i2 (by omega)⟩
      | false =>
        rw [upsN_yes hq, upsN_yes (hm.trans hq), List.length_append, List.length_append]
        exact ⟨fun h => by rw [i1 (by omega)], fun h => by have := i2 (by omega); show (upsN q' m).length + 1 + 1 = (upsN q m).length + 1; omega⟩
/-- The disks of left have the newest stripe, the others have none; dead ones are so many. -/
structure BudI (cf : Cf) (K N SC : Nat) (a : Int) (left : List Nat) (gone : Nat) (q : Rk) : Prop where
  pl : Pl q cf
  nn : q.n = N
  kk : q.k = SC
  nd : left.Nodup
  lt : ∀ d ∈ left, d < N
  is : ∀ d ∈ left, (q.s d).dead = false ∧ (q.s d).read (tsec cf 1) = put (tF cf.k.toNat (1 : Nat) 4 (blks a K) d) ∧ (q.s d).rot (tsec cf 1) = false
  no : ∀ d, d < N → d ∉ left → (q.s d).dead = true ∨ goodB ((q.s d).read (tsec cf 1)) = false
  on : (ups q).length + gone = N
theorem bud_start {cf : Cf} {N K SC : Nat} (x a : Int) (h : CfL cf N K SC 2 1) :
    Rk.tputC (newRk N SC) cf 1 3 (blks x K) = 0 ∧ Rk.tputC (Rk.tput (newRk N SC) cf 1 3 (blks x K)) cf 1 4 (blks a K) = 0 ∧
    BudI cf K N SC a (List.range N) 0 (Rk.tput (Rk.tput (newRk N SC) cf 1 3 (blks x K)) cf 1 4 (blks a K)) := by
  have hx3 := h.stIn (s := 1) (g := 3) x (by decide) (by decide) (by decide)
  have hx4 := h.stIn (s := 1) (g := 4) a (by decide) (by decide) (by decide)
  obtain ⟨p1, p2, p3, p4, p5⟩ := h.pl.tput hx3
  have hN : (Rk.tput (newRk N SC) cf (1 : Nat) 3 (blks x K)).n = N := tput_n _ _ _ _ _
  have hK : (Rk.tput (newRk N SC) cf (1 : Nat) 3 (blks x K)).k = SC := tput_k _ _ _ _ _
  have hal : ∀ d, d < N → ((Rk.tput (newRk N SC) cf (1 : Nat) 3 (blks x K)).s d).dead = false := fun d hd => p3 d hd
  refine ⟨p1, ?_⟩
  show Rk.tputC (Rk.tput (newRk N SC) cf (1 : Nat) 3 (blks x K)) cf (1 : Nat) 4 (blks a K) = 0 ∧ BudI cf K N SC a (List.range N) 0 (Rk.tput (Rk.tput (newRk N SC) cf (1 : Nat) 3 (blks x K)) cf (1 : Nat) 4 (blks a K))
  generalize Rk.tput (newRk N SC) cf (1 : Nat) 3 (blks x K) = Q1 at *
  obtain ⟨r1, r2, r3, r4, r5⟩ := p2.tput hx4
  have hN2 : (Rk.tput Q1 cf (1 : Nat) 4 (blks a K)).n = N := (tput_n _ _ _ _ _).trans hN
  have hK2 : (Rk.tput Q1 cf (1 : Nat) 4 (blks a K)).k = SC := (tput_k _ _ _ _ _).trans hK
  have hal2 : ∀ d, d < N → ((Rk.tput Q1 cf (1 : Nat) 4 (blks a K)).s d).dead = false := fun d hd => (r3 d (by rw [hN]; exact hd)).trans (hal d hd)
  refine ⟨r1, r2, hN2, hK2, List.nodup_range, fun d hd => List.mem_range.1 hd, fun d hd => ?_, fun d hd hn => absurd (List.mem_range.2 hd) hn, ?_⟩
  · have hd := List.mem_range.1 hd
    exact ⟨hal2 d hd, (r4 d _ (by rw [hN]; exact hd)).trans (if_pos ⟨rfl, hal d hd⟩), r5 d _ (by rw [hN]; exact hd) (Or.inr ⟨rfl, hal d hd⟩)⟩
  · unfold ups upsN
    rw [List.filter_eq_self.2 (fun d hd => by rw [hal2 d (by rw [← hN2]; exact List.mem_range.1 hd)]; rfl), List.length_range, hN2]; rfl
theorem erase_mem {l : List Nat} (hn : l.Nodup) {x : Nat} (hx : x < l.length) : ∀ d, d ∈ l.eraseIdx x ↔ d ∈ l ∧ d ≠ l.getD x 0 := fun d => by
  have e : l.getD x 0 = l[x] := by simp [List.getD, hx]
  rw [e, List.mem_eraseIdx_iff_getElem]
  constructor
  · rintro ⟨i, hi, hne, rfl⟩
    exact ⟨List.getElem_mem hi, fun hq => hne ((List.getElem_inj hn).1 hq)⟩
  · rintro ⟨hm, hne⟩
    obtain ⟨i, hi, rfl⟩ := List.getElem_of_mem hm
    exact ⟨i, hi, fun hq => hne (by subst hq; rfl), rfl⟩
theorem BudI.other {cf : Cf} {K N SC : Nat} {a : Int} {left : List Nat} {gone gone' : Nat} {q q' : Rk} (h : BudI cf K N SC a left gone q) {x : Nat} (hx : x < left.length) (hp : Pl q' cf) (hn : q'.n = q.n) (hk : q'.k = q.k)
    (ho : ∀ d, d ≠ left.getD x 0 → q'.s d = q.s d) (hb : (q'.s (left.getD x 0)).dead = true ∨ goodB ((q'.s (left.getD x 0)).read (tsec cf 1)) = false) (hu : (ups q').length + gone' = N) : BudI cf K N SC a (left.eraseIdx x) gone' q' := by
  have hm := erase_mem h.nd hx
  refine ⟨hp, hn.trans h.nn, hk.trans h.kk, h.nd.sublist (List.eraseIdx_sublist _ _), fun d hd => h.lt d ((hm d).1 hd).1, fun d hd => ?_, fun d hd hno => ?_, hu⟩
  · obtain ⟨h1, h2⟩ := (hm d).1 hd
    rw [ho d h2]; exact h.is d h1
  · by_cases e : d = left.getD x 0
    · subst e; exact hb
    · rw [ho d e]
      exact h.no d hd fun hdl => hno ((hm d).2 ⟨hdl, e⟩)
theorem getD_memN {l : List Nat} {x : Nat} (hx : x < l.length) : l.getD x 0 ∈ l := by simp only [List.getD, List.getElem?_eq_getElem hx, Option.getD_some]; exact List.getElem_mem hx
theorem BudI.die {cf : Cf} {K N SC : Nat} {a : Int} {left : List Nat} {gone : Nat} {q : Rk} (h : BudI cf K N SC a left gone q) {x : Nat} (hx : x < left.length) : BudI cf K N SC a (left.eraseIdx x) (gone + 1) (Rk.dying q (left.getD x 0 : Nat) true) := by
  have hm := getD_memN hx
  have hdN := h.lt _ hm
  obtain ⟨d1, d2, d3⟩ := h.pl.dying (i := left.getD x 0) (by rw [h.nn]; exact hdN) true
  have hk : (Rk.dying q (left.getD x 0 : Nat) true).k = q.k := by unfold Rk.dying; split <;> rfl
  refine h.other hx d1 d2 hk (fun d hne => by rw [d3, if_neg hne]) (Or.inl (by rw [d3, if_pos rfl]; rfl)) ?_
  have := (upsN_die (q := q) (q' := Rk.dying q (left.getD x 0 : Nat) true) (d := left.getD x 0) (h.is _ hm).1 (by rw [d3, if_pos rfl]; rfl) (fun j hne => by rw [d3, if_neg hne]) q.n).2 (by rw [h.nn]; exact hdN)
  have e1 : (ups (Rk.dying q (left.getD x 0 : Nat) true)).length = (upsN (Rk.dying q (left.getD x 0 : Nat) true) q.n).length := by unfold ups; rw [d2]
  have e2 : (ups q).length = (upsN q q.n).length := rfl
  have := h.on
  omega
theorem BudI.replace {cf : Cf} {K N SC : Nat} {a : Int} {left : List Nat} {gone : Nat} {q : Rk} (h : BudI cf K N SC a left gone q) {x : Nat} (hx : x < left.length) : BudI cf K N SC a (left.eraseIdx x) gone (Rk.dying q (left.getD x 0 : Nat) false) := by
  have hm := getD_memN hx
  have hdN := h.lt _ hm
  obtain ⟨d1, d2, d3⟩ := h.pl.dying (i := left.getD x 0) (by rw [h.nn]; exact hdN) false
  have hk : (Rk.dying q (left.getD x 0 : Nat) false).k = q.k := by unfold Rk.dying; split <;> rfl
  refine h.other hx d1 d2 hk (fun d hne => by rw [d3, if_neg hne]) (Or.inr (by rw [d3, if_pos rfl]; exact zer_bad)) ?_
  rw [ups_congr d2 fun j => ?_]
  · exact h.on
  · rw [d3]
    split
    · rename_i e; rw [e]; exact (h.is _ hm).1.symm
    · rfl
theorem rotten_k (q : Rk) (i sec a : Int) (x : Nat) : (Rk.rotten q i sec a x).k = q.k := by unfold Rk.rotten; split <;> rfl
theorem BudI.rot {cf : Cf} {K N SC : Nat} {a : Int} {left : List Nat} {gone : Nat} {q : Rk} (h : BudI cf K N SC a left gone q) (hL : CfL cf N K SC 2 1) {x : Nat} (hx : x < left.length) (hx8 : x < 8) : BudI cf K N SC a (left.eraseIdx x) gone (Rk.rotten q (left.getD x 0 : Nat) (1 + cf.k + 1) x 5) := by
  have hm := getD_memN hx
  have hdN := h.lt _ hm
  have hr := h.pl.right
  have hx4 := hL.stIn (s := 1) (g := 4) a (by decide) (by decide) (by decide)
  have hsec : 1 + cf.k + 1 = ((tsec cf 1 : Nat) : Int) := by
    rw [← tsec_eq hr]
    unfold tbase Cf.secs
    rw [hL.s]; omega
  obtain ⟨i1, i2, i3⟩ := h.is _ hm
  obtain ⟨r1, r2, r3, r4, r5, r6, r7⟩ := h.pl.rot (d := left.getD x 0) (p := tsec cf 1) (a := x) (x := 5) (by rw [h.nn]; exact hdN) i1 (tsec_lt h.pl.fits hx4.s1) i3 (by omega) (by decide)
  rw [hsec]
  refine h.other hx r2 r3 (rotten_k _ _ _ _ _) r6 (Or.inr ?_) ?_
  · rw [r5, i2]
    exact rot_bad (tF_is _ _ _ _ _) (hx4.frame hr (by have := hL.r.2.1; omega)) (by omega) (by decide) (by decide)
  · rw [ups_congr r3 r4]; exact h.on
theorem BudI.told {cf : Cf} {K N SC : Nat} {a : Int} {left : List Nat} {gone : Nat} {q : Rk} (h : BudI cf K N SC a left gone q) (hL : CfL cf N K SC 2 1) :
    (left.length = K → tcode q cf 1 = 0 ∧ tnew q cf 1 = 4 ∧ ∀ bs', BlocksOf cf.k.toNat 108 (chosen cf.k.toNat (tpts q cf 1)) bs' → bs' = blks a K) ∧
    (left.length + 1 = K → (N < gone + K → tcode q cf 1 = 7 ∧ tgetV q cf 1 = wrapV opTGet 1 (errV 7)) ∧ (¬ N < gone + K → tcode q cf 1 = 6 ∧ tgetV q cf 1 = wrapV opTGet 1 (lossV 1 (cf.k - 1) cf.k))) := by
  have hx4 := hL.stIn (s := 1) (g := 4) a (by decide) (by decide) (by decide)
  have hT : TIs q cf 1 4 (blks a K) (fun d => decide (d ∈ left)) := fun d hd => ⟨fun hP => ⟨(h.is d (of_decide_eq_true hP)).1, (h.is d (of_decide_eq_true hP)).2.1⟩, fun hP => h.no d (by rw [← h.nn]; exact hd) (of_decide_eq_false hP)⟩
  have hlen : (tL q (fun d => decide (d ∈ left))).length = left.length := by
    refine Nat.le_antisymm (nodup_bound _ _ (tL_nodup _ _) fun d hd => of_decide_eq_true (List.mem_filter.1 hd).2) (nodup_bound _ _ h.nd fun d hd => List.mem_filter.2 ⟨List.mem_range.2 (by rw [h.nn]; exact h.lt d hd), decide_eq_true hd⟩)
  have hkn := hL.kn
  have hon := h.on
  have hk := hL.k
  refine ⟨fun e => got_told h.pl hx4 hT (by rw [hlen, hkn]; omega), fun e => ⟨fun hg => off_told h.pl hx4.s1 (by rw [hkn]; omega), fun hg => ?_⟩⟩
  have := lost_told h.pl hx4 hT (by rw [hkn]; omega) (by rw [hlen, hkn]; omega)
  rw [hlen, show ((left.length : Nat) : Int) = cf.k - 1 by rw [hk]; omega] at this
  exact this
/-- A row of ints grows: the rack's blocks, the configuration's stay. -/
theorem JW.grew {w1 : World} {c : Lc} {cf : Cf} {b B n : Nat} {q : Rk} {w w' : World} (h : JW w1 c cf b B n q w) {e s m : Nat} {v : Value} {xs : List Value} {r' : Option Nat} (ho : w.ownsRow B e s v m xs) (he : 169 ≠ e) (hg : Grew w v.ownBlock w' r') : JW w1 c cf b B n q w' := by
  have hb : Below B w w' := hg.below h.bB fun k hk => (own_block' ho hk).1
  have hl : w1.heap.size ≤ B := by have := h.qs.rack.lr; have := h.far.1; omega
  obtain ⟨cs, hr, _⟩ := h.qs.rack.row
  refine ⟨⟨h.qs.rack.keep (hb.block _ (by have := h.far.1; omega)) (hg.by_.block _ h.qs.rack.lt.2.1 fun e => own_kind_ne ho hr he e.symm) fun i hi => ?_, h.qs.base.trans (hb.mono hl)⟩, h.nn, h.cfg.below (B := B) (by have := h.bl; omega) hb, h.bl, h.far, Nat.le_trans h.bB hg.size⟩
  have := h.far.2 i (by rw [← h.nn]; exact hi)
  exact ⟨hb.block _ (by omega), hb.block _ (by omega), hb.block _ (by omega)⟩
theorem BkB.grew {B B2 : Nat} {bs : List (List UInt8)} {v u : Value} {w w' : World} (h : BkB B bs v w) {m : Nat} {xs : List Value} {r' : Option Nat} (ho : w.ownsRow B2 3 1 u m xs) (hg : Grew w u.ownBlock w' r') : BkB B bs v w' := by
  refine ⟨h.is, World.ownsRow.kept h.row hg.by_ ?_⟩
  rcases h.row.2 with ⟨rfl, _⟩ | ⟨g, cap, cur, rfl, _, hgg, _⟩
  · exact Or.inl rfl
  · exact Or.inr fun e => own_kind_ne ho hgg (by decide) (e.symm.trans rfl)
theorem src_nums {B n cap m c lo g : Nat} {w : World} {l : List Nat} (h : w.ownsRow B 3 1 (.slice (some ⟨g, 0, none⟩) n cap) n (numsV l)) (hl : l.length = n) (hlo : lo + m ≤ n) :
    Src Tryz.prog 1 92 (.slice (some ⟨g, lo, none⟩) m c) m (numsV ((l.drop lo).take m)) w :=
  Src.ofSlice _ Tryz.underlying92 ⟨g, lo, none⟩ m c _ (by unfold numsV; rw [List.length_map, List.length_take, List.length_drop, Nat.mul_one]; omega) (fun j u hu => by
    have hj : j < (numsV ((l.drop lo).take m)).length := (List.getElem?_eq_some_iff.1 hu).1
    have hj2 : j < m ∧ lo + j < l.length := by unfold numsV at hj; rw [List.length_map, List.length_take, List.length_drop] at hj; omega
    have e : (numsV l)[lo + j]? = some u := by
      unfold numsV at hu ⊢
      rw [List.getElem?_map, List.getElem?_take_of_lt hj2.1, List.getElem?_drop] at hu
      rw [List.getElem?_map]; exact hu
    have h3 := holds_own h _ u e
    have hadd : (⟨g, lo, none⟩ : Addr).add j = ⟨g, lo + j, none⟩ := by unfold Addr.add; split <;> simp_all
    rw [hadd]; exact h3) (fun u hu => by
    obtain ⟨c, _, rfl⟩ := List.mem_map.1 hu
    rfl)
theorem src_nonum {w : World} (a : Option Addr) (c : Nat) : Src Tryz.prog 1 92 (.slice a 0 c) 0 [] w := by
  cases a with
  | none => exact Src.ofNil _ Tryz.underlying92 _
  | some a => exact Src.ofSlice _ Tryz.underlying92 a 0 c [] rfl (by simp) (by simp)
theorem step_append_nums (w : World) {ops : Array Oper} {o : Oper} {a : Act} {K : Act → World → Prop} {Q : Exit → Act → World → Prop} {E : Prop} (hgd : o.guard = none) (s x : Operand)
    (ho : o.op = .call { callee := .builtin .append, args := #[s, x], argTypes := #[92, 92] })
    (base : Nat) (v : Value) (n : Nat) (xs : List Value) (hsv : a.eval s = v) (hown : w.ownsRow base 3 1 v n xs)
    (y : Value) (m : Nat) (news : List Value) (hx : a.eval x = y) (hs : Src Tryz.prog 1 92 y m news w) (h63 : n + m ≤ 100000) (hbase : base ≤ w.heap.size)
    (h : ∀ v' w', w'.ownsRow base 3 1 v' (n + m) (xs ++ news) → Grew w v.ownBlock w' v'.ownBlock → K (a.put o.dst v') w') : if Region.wanted o (yielded ops a.tmps) = true then Oper.wp Tryz.prog o a w K Q else E := by
  have hw : Region.wanted o (yielded ops a.tmps) = true := by simp [Region.wanted, hgd]
  rw [if_pos hw]
  obtain ⟨i0, hi0, hz⟩ := Option.map_eq_some_iff.1 info_int
  simp only [Prod.mk.injEq] at hz
  obtain ⟨hz0, hz1, hz2⟩ := hz
  exact wp_append_src w s x 92 92 ho base 3 i0 (.int .i64 0) 1 8 Tryz.underlying92 hi0 hz0 hz1 hz2 rfl v n xs hsv hown y m news hx hs (by unfold maxLen; omega) (by omega) hbase fun v' w' h1 h2 _ => h v' w' h1 h2
theorem two_nums {w5 w6 w7 : World} {o : Obj} {v6 : Value} {r7 : Option Nat} (hg6 : Grew (w5.alloc o).drew (some w5.heap.size) w6 v6.ownBlock) (hg7 : Grew w6 v6.ownBlock w7 r7) : Below w5.heap.size w5 w7 := by
  have h0 : Below w5.heap.size w5 (w5.alloc o).drew := (one_below w5 o).drew
  have k6 : ∀ k, v6.ownBlock = some k → w5.heap.size ≤ k := fun k hk => by
    rcases hg6.own with e | e
    · rw [e] at hk; injection hk with hk; omega
    · exact Nat.le_trans h0.size (e k hk)
  have h6 : Below w5.heap.size w5 w6 := h0.trans (hg6.below h0.size fun k hk => by injection hk with hk; omega)
  exact h6.trans (hg7.below h6.size k6)
theorem nums_erase (l : List Nat) (x : Nat) : numsV (l.take x) ++ numsV (l.drop (x + 1)) = numsV (l.eraseIdx x) := by
  unfold numsV
  rw [← List.map_append, List.eraseIdx_eq_take_drop_succ]
end Go.Proofs.YtidnmkghmaeniaaGreatDoor
