/-
  stavelaw2.GramJoins: the walk.
-/
import Derived.Test.YtfmelofeedgaiaaDoorGBackM
import Derived.Test.YtfmelofeedgaiaaDoorGJoinM
import Derived.Test.YtfmelofeedgaiaaDoorGOnly
namespace Go.Proofs.YtfmelofeedgaiaaDoor
open Go.RowKit
/-- A row of the call's own as a source of an append. -/
theorem own_src {w : World} {B e size n : Nat} {t : TypeId} {v : Value} {xs : List Value} (h : w.ownsRow B e size v n xs) (ht : Tryd.prog.underlying t = some (.slice e)) (h1 : ∀ u ∈ xs, u.oneCell' = true) : Src Tryd.prog size t v n xs w := by
  rcases h.2 with ⟨rfl, rfl⟩ | ⟨g, cap, cur, rfl, _⟩
  · have hx : xs = [] := List.eq_nil_of_length_eq_zero (by simpa using h.1)
    subst hx
    exact Src.ofNil _ ht _
  · exact Src.ofSlice _ ht ⟨g, 0, none⟩ n cap xs h.1 (fun j u hu => h.cells (g := g) rfl j u hu) h1
theorem one_f (fs : List Fl) : ∀ u ∈ fs.flatMap cellsF, u.oneCell' = true := by
  intro u hu
  obtain ⟨f, _, hf⟩ := List.mem_flatMap.1 hu
  simp [cellsF] at hf
  rcases hf with rfl | rfl | rfl | rfl | rfl <;> rfl
theorem one_p {B : Nat} {w : World} (ps : List (Vl × Value)) (h : ∀ p ∈ ps, TextsV B w p.1.l p.2) : ∀ u ∈ ps.flatMap cellsP, u.oneCell' = true := by
  intro u hu
  obtain ⟨p, hp, hf⟩ := List.mem_flatMap.1 hu
  simp [cellsP] at hf
  rcases hf with rfl | rfl | rfl
  · rfl
  · rfl
  · rcases (h p hp).2 with ⟨e, _⟩ | ⟨_, _, _, e, _⟩ <;> rw [e] <;> rfl
theorem info_f : ∃ i, Tryd.prog.info? 27 = some i ∧ i.zero = some (.agg #[.int .i64 0, .int .i64 0, .int .i64 0, .int .i64 0, .int .i64 0]) ∧ i.size = 5 ∧ i.bytes = 40 := by
  obtain ⟨i, h⟩ := info_parts Tryd.info27
  exact ⟨i, h⟩
theorem info_v : ∃ i, Tryd.prog.info? 58 = some i ∧ i.zero = some (.agg #[.int .i64 0, .string ⟨#[]⟩, .slice none 0 0]) ∧ i.size = 3 ∧ i.bytes = 48 := by
  obtain ⟨i, h⟩ := info_parts Tryd.info58
  exact ⟨i, h⟩
theorem wpList_of_step {P : Program} {ops : Array Oper} {rest : List Oper} {o : Oper} {a : Act} {w : World} {Q : Exit → Act → World → Prop} (hw : Region.wanted o (yielded ops a.tmps) = true) (h : ∀ K : Act → World → Prop, (∀ a w, wpList P ops Q rest a w → K a w) → o.wp P a w K Q) : wpList P ops Q (o :: rest) a w :=
  wpList_step fun K hK => by rw [if_pos hw]; exact h K hK
theorem wpList_append_b (w : World) {ops : Array Oper} {rest : List Oper} {o : Oper} {a : Act} {Q : Exit → Act → World → Prop} (hw : Region.wanted o (yielded ops a.tmps) = true) (s x : Operand)
    (ho : o.op = .call { callee := .builtin .append, args := #[s, x], argTypes := #[29, 29] })
    (base : Nat) (v : Value) (n : Nat) (xs : List Value) (hsv : a.eval s = v) (hown : w.ownsRow base 5 1 v n xs)
    (B : Nat) (y : Value) (l : List UInt8) (hx : a.eval x = y) (hs : SlB B w y l) (h63 : n + l.length ≤ 10000000) (hbase : base ≤ w.heap.size)
    (h : ∀ v' w', w'.ownsRow base 5 1 v' (n + l.length) (xs ++ bytesV l) → Grew w v.ownBlock w' v'.ownBlock → wpList Tryd.prog ops Q rest (a.put o.dst v') w') : wpList Tryd.prog ops Q (o :: rest) a w := by
  obtain ⟨i0, hi0, hz0, hz1, hz2⟩ := info_u8
  exact wpList_of_step hw fun K hK => wp_append_src w s x _ _ ho base _ i0 _ 1 1 Tryd.underlying29 hi0 hz0 hz1 hz2 rfl v n xs hsv hown y l.length _ hx hs.src (by unfold maxLen; omega) (by omega) hbase fun v' w' h2 h3 _ => hK _ _ (h v' w' h2 h3)
theorem wpList_append_f (w : World) {ops : Array Oper} {rest : List Oper} {o : Oper} {a : Act} {Q : Exit → Act → World → Prop} (hw : Region.wanted o (yielded ops a.tmps) = true) (s x : Operand)
    (ho : o.op = .call { callee := .builtin .append, args := #[s, x], argTypes := #[22, 22] })
    (base : Nat) (v : Value) (n : Nat) (xs : List Value) (hsv : a.eval s = v) (hown : w.ownsRow base 27 5 v n xs)
    (B : Nat) (y : Value) (fs : List Fl) (hx : a.eval x = y) (hs : w.ownsRow B 27 5 y fs.length (fs.flatMap cellsF)) (h63 : n + fs.length ≤ 10000000) (hbase : base ≤ w.heap.size)
    (h : ∀ v' w', w'.ownsRow base 27 5 v' (n + fs.length) (xs ++ fs.flatMap cellsF) → Grew w v.ownBlock w' v'.ownBlock → wpList Tryd.prog ops Q rest (a.put o.dst v') w') : wpList Tryd.prog ops Q (o :: rest) a w := by
  obtain ⟨i0, hi0, hz0, hz1, hz2⟩ := info_f
  exact wpList_of_step hw fun K hK => wp_append_src w s x _ _ ho base _ i0 _ 5 40 Tryd.underlying22 hi0 hz0 hz1 hz2 rfl v n xs hsv hown y fs.length _ hx (own_src hs Tryd.underlying22 (one_f fs)) (by unfold maxLen; omega) (by omega) hbase fun v' w' h1 h2 _ => hK _ _ (h v' w' h1 h2)
theorem wpList_append_v (w : World) {ops : Array Oper} {rest : List Oper} {o : Oper} {a : Act} {Q : Exit → Act → World → Prop} (hw : Region.wanted o (yielded ops a.tmps) = true) (s x : Operand)
    (ho : o.op = .call { callee := .builtin .append, args := #[s, x], argTypes := #[23, 23] })
    (base : Nat) (v : Value) (n : Nat) (xs : List Value) (hsv : a.eval s = v) (hown : w.ownsRow base 58 3 v n xs)
    (B : Nat) (y : Value) (ps : List (Vl × Value)) (hx : a.eval x = y) (hs : w.ownsRow B 58 3 y ps.length (ps.flatMap cellsP)) (h1 : ∀ u ∈ ps.flatMap cellsP, u.oneCell' = true) (h63 : n + ps.length ≤ 1000000) (hbase : base ≤ w.heap.size)
    (h : ∀ v' w', w'.ownsRow base 58 3 v' (n + ps.length) (xs ++ ps.flatMap cellsP) → Grew w v.ownBlock w' v'.ownBlock → wpList Tryd.prog ops Q rest (a.put o.dst v') w') : wpList Tryd.prog ops Q (o :: rest) a w := by
  obtain ⟨i0, hi0, hz0, hz1, hz2⟩ := info_v
  exact wpList_of_step hw fun K hK => wp_append_src w s x _ _ ho base _ i0 _ 3 48 Tryd.underlying23 hi0 hz0 hz1 hz2 rfl v n xs hsv hown y ps.length _ hx (own_src hs Tryd.underlying23 h1) (by unfold maxLen; omega) (by omega) hbase fun v' w' h2 h3 _ => hK _ _ (h v' w' h2 h3)
/-- Both rows of values behind each other, in a new row. -/
theorem vals_join {B B' : Nat} {w w2 : World} {xs ys : List Vl} {v : Value} {ps qs : List (Vl × Value)} (hp1 : ps.map (·.1) = xs) (hq1 : qs.map (·.1) = ys) (hp : ∀ p ∈ ps, TextsV B w p.1.l p.2) (hq : ∀ p ∈ qs, TextsV B w p.1.l p.2)
    (hb : Below w.heap.size w w2) (hB : w.heap.size ≤ B') (hBB : B ≤ B') (hown : w2.ownsRow B' 58 3 v (ps.length + qs.length) (ps.flatMap cellsP ++ qs.flatMap cellsP)) : ValsV B w2 (xs ++ ys) v := by
  refine ⟨ps ++ qs, by rw [List.map_append, hp1, hq1], by rw [List.length_append, List.flatMap_append]; exact own_base hown hBB, fun p hpq => ?_⟩
  have hT : TextsV B w p.1.l p.2 := by
    rcases List.mem_append.1 hpq with h | h
    · exact hp p h
    · exact hq p h
  refine ⟨own_below hT hb, ?_⟩
  cases hb2 : p.2.ownBlock with
  | none => exact Or.inl rfl
  | some k =>
    refine Or.inr fun e => ?_
    have h1 := (World.ownsRow.lt hT k hb2).2
    have h2 := (World.ownsRow.lt hown k e.symm).1
    omega
theorem own_newN (w : World) (T size : Nat) : (w.alloc (.cells #[] T)).ownsRow w.heap.size T size (.slice (some ⟨w.heap.size, 0, none⟩) 0 0) 0 [] := by
  have := own_new w w.heap.size #[] T size 0 (Nat.le_refl _) (by simp) (by decide)
  simpa using this
theorem app_below1 {w1 w2 : World} {o : Obj} {r : Option Nat} (hg : Grew (w1.alloc o) (some w1.heap.size) w2 r) : Below w1.heap.size w1 w2 ∧ ∀ k, r = some k → w1.heap.size ≤ k :=
  ⟨Below.trans (b := w1.alloc o) (one_below w1 o) (hg.below (by simp) (fun k hk => by injection hk with hk; omega)), fun k hk => by
    rcases hg.own with e | e
    · rw [e] at hk; injection hk with hk; omega
    · have := e k hk; simp at this; omega⟩
/-- Two appends behind each other, from nothing. -/
theorem app_below2 {w1 w2 w3 : World} {o : Obj} {r r' : Option Nat} (hg : Grew (w1.alloc o) (some w1.heap.size) w2 r) (hg2 : Grew w2 r w3 r') : Below w1.heap.size w1 w3 := by
  obtain ⟨h1, h2⟩ := app_below1 hg
  exact h1.trans (hg2.below h1.size h2)
/-! ### the walks -/
structure Four (w0 w : World) (vl vx vm vy : Value) (la lb : List Fl) (xa yb : List Vl) : Prop where
  l : w.ownsRow w0.heap.size 27 5 vl la.length (la.flatMap cellsF)
  x : ValsV w0.heap.size w xa vx
  m : w.ownsRow w0.heap.size 27 5 vm lb.length (lb.flatMap cellsF)
  y : ValsV w0.heap.size w yb vy
  b : Below w0.heap.size w0 w
theorem Four.below {w0 w w' : World} {vl vx vm vy : Value} {la lb : List Fl} {xa yb : List Vl} (h : Four w0 w vl vx vm vy la lb xa yb) (hb : Below w.heap.size w w') : Four w0 w' vl vx vm vy la lb xa yb :=
  ⟨own_below h.l hb, h.x.below hb, own_below h.m hb, h.y.below hb, h.b.trans (hb.mono h.b.size)⟩
theorem least_bound (fs : List Fl) (hl : fs.length ≤ 6) (hr : ¬ 0 ≤ firstAt wrongF fs 0) : 0 ≤ leastM fs ∧ leastM fs ≤ 1000000 := by
  have h := sum_bound fs (right_all fs hr)
  unfold leastM
  rw [if_neg hr]
  exact ⟨h.1, by omega⟩
theorem valsV_base {B B' : Nat} {w : World} {xs : List Vl} {v : Value} (h : ValsV B w xs v) (hB : B' ≤ B) : ValsV B' w xs v := h.base hB
set_option maxHeartbeats 4000000 in
set_option maxRecDepth 100000 in
/-- The walk of one case. -/
theorem joins_sss (fv1 fv2 xv1 xv2 : Value) (la lb : List Fl) (xa yb : List Vl) (w : World) (hT : Typ w) (hla : la.length ≤ 6) (hlb : lb.length ≤ 6) (hxa : xa.length ≤ 6) (hyb : yb.length ≤ 6) (hh1 : ∀ f ∈ la, f.hi ≤ 9223372036854775807) (hh2 : ∀ f ∈ lb, f.hi ≤ 9223372036854775807)
    (hfa : ∀ x ∈ xa, x.few) (hfb : ∀ x ∈ yb, x.few) (hfew1 : Calls Tryd.prog 9 #[fv1, xv1] w (FewPost2 la xa w)) (hfew2 : ∀ w1, Below w.heap.size w w1 → Calls Tryd.prog 9 #[fv2, xv2] w1 (FewPost2 lb yb w1))
    (q1 : Int × Int) (h1 : putErr la xa = some q1) (q2 : Int × Int) (h2 : putErr lb yb = some q2) (q3 : Int × Int) (h3 : putErr (la ++ lb) (xa ++ yb) = some q3) :
    Calls Tryd.prog 7 #[fv1, fv2, xv1, xv2] w (Bit true w) := by
  have HT := Lib.hid hT
  have HF1 := Lib.hid hfew1
  have HF2 := Lib.hid hfew2
  have HH1 := Lib.hid hh1
  have HH2 := Lib.hid hh2
  have HFA := Lib.hid hfa
  have HFB := Lib.hid hfb
  have E1 := Lib.hid h1
  have E2 := Lib.hid h2
  have E3 := Lib.hid h3
  have HHJ := Lib.hid (show ∀ f ∈ la ++ lb, f.hi ≤ 9223372036854775807 from fun f hf => by rcases List.mem_append.1 hf with h | h; exact hh1 f h; exact hh2 f h)
  have HFJ := Lib.hid (show ∀ x ∈ xa ++ yb, x.few from fun x hx => by rcases List.mem_append.1 hx with h | h; exact hfa x h; exact hfb x h)
  clear hT hfew1 hfew2 hh1 hh2 hfa hfb h1 h2 h3
  go_enter Tryd.func7, Tryd.ntmps7
  go_wp2_with fail
  refine HF1.out.mono ?_
  rintro e w1 ⟨v1, u1, rfl, hl1, hx1, hb1⟩
  have B1 := Lib.hid hb1
  have L1 := Lib.hid hl1
  have X1 := Lib.hid hx1
  clear hb1 hl1 hx1
  go_wp2_with fail
  refine (HF2.out w1 B1.out).mono ?_
  rintro e w2 ⟨v2, u2, rfl, hl2, hx2, hb2⟩
  have F2 := Lib.hid (show Four w w2 v1 u1 v2 u2 la lb xa yb from ⟨own_below L1.out hb2, X1.out.below hb2, own_base hl2 B1.out.size, hx2.base B1.out.size, bthen B1.out hb2⟩)
  obtain ⟨al, cl, rfl⟩ := slf_len (slf_own F2.out.l)
  obtain ⟨ax, cx, rfl⟩ := slv_len (slv_own F2.out.x)
  obtain ⟨am, cm, rfl⟩ := slf_len (slf_own F2.out.m)
  obtain ⟨ay, cy, rfl⟩ := slv_len (slv_own F2.out.y)
  clear hb2 hl2 hx2 L1 X1
  go_wp2_with fail
  refine (put_few _ _ la xa w2 (slf_own F2.out.l) (slv_own F2.out.x) (by omega) HH1.out HFA.out).mono ?_
  rw [E1.out]
  rintro e w3 ⟨rfl, hb3⟩
  have F3 := Lib.hid (F2.out.below hb3)
  clear hb3
  unfold wrapV errV
  go_wp2_with fail
  refine (put_few _ _ lb yb w3 (slf_own F3.out.m) (slv_own F3.out.y) (by omega) HH2.out HFB.out).mono ?_
  rw [E2.out]
  rintro e w4 ⟨rfl, hb4⟩
  have F4 := Lib.hid (F3.out.below hb4)
  clear hb4
  unfold wrapV errV
  obtain ⟨ps, p1, p2, p3⟩ := F4.out.x
  obtain ⟨qs, q1', q2', q3'⟩ := F4.out.y
  have PS := Lib.hid (And.intro p1 (And.intro p2 p3))
  have QS := Lib.hid (And.intro q1' (And.intro q2' q3'))
  have hpn : ps.length ≤ 6 := by have := congrArg List.length p1; simp at this; omega
  have hqn : qs.length ≤ 6 := by have := congrArg List.length q1'; simp at this; omega
  clear p1 p2 p3 q1' q2' q3'
  go_wp2_with (first
    | (at_builtin; refine wpList_append_f _ (by rfl) (.tmp 44) (.tmp 45) rfl w4.heap.size _ _ _ rfl (own_newN w4 _ _) w.heap.size _ la rfl (own_below F4.out.l (one_below _ _)) (by omega) (by simp) ?_; intro v5 w5 hown hg; have O5 := Lib.hid hown; have G5 := Lib.hid hg; have B5 := Lib.hid (app_below1 hg); have F5 := Lib.hid (F4.out.below B5.out.1); clear hown hg)
    | (at_builtin; refine wpList_append_f _ (by rfl) (.tmp 46) (.tmp 47) rfl w4.heap.size _ _ _ rfl O5.out w.heap.size _ lb rfl F5.out.m (by omega) B5.out.1.size ?_; intro v6 w6 hown hg; have O6 := Lib.hid hown; have B6 := Lib.hid (app_below2 G5.out hg); have F6 := Lib.hid (F4.out.below B6.out); have PS6 := Lib.hid (own_below PS.out.2.1 B6.out); have QS6 := Lib.hid (own_below QS.out.2.1 B6.out); clear hown hg)
    | (at_builtin; refine wpList_append_v _ (by rfl) (.tmp 49) (.tmp 50) rfl w6.heap.size _ _ _ rfl (own_newN w6 _ _) w.heap.size _ ps rfl (own_below PS6.out (one_below _ _)) (one_p ps fun p hp => (PS.out.2.2 p hp).1) (by omega) (by simp) ?_; intro v7 w7 hown hg; have O7 := Lib.hid hown; have G7 := Lib.hid hg; have B7 := Lib.hid (app_below1 hg); have QS7 := Lib.hid (own_below QS6.out B7.out.1); clear hown hg)
    | (at_builtin; refine wpList_append_v _ (by rfl) (.tmp 51) (.tmp 52) rfl w6.heap.size _ _ _ rfl O7.out w.heap.size _ qs rfl QS7.out (one_p qs fun p hp => (QS.out.2.2 p hp).1) (by omega) B7.out.1.size ?_; intro v8 w8 hown hg; have O8 := Lib.hid hown; have B8 := Lib.hid (app_below2 G7.out hg); clear hown hg))
  have F8 := Lib.hid (F6.out.below B8.out)
  have SF8 := Lib.hid (show SlF w8.heap.size w8 v6 (la ++ lb) from slf_own (B := w4.heap.size) (by have := own_below O6.out B8.out; rw [List.length_append, List.flatMap_append]; simpa using this))
  have SV8 := Lib.hid (show SlV w8.heap.size w8 v8 (xa ++ yb) from slv_own (vals_join (B := w.heap.size) (B' := w6.heap.size) (w := w6) PS.out.1 QS.out.1 (fun p hp => own_below (PS.out.2.2 p hp).1 B6.out) (fun p hp => own_below (QS.out.2.2 p hp).1 B6.out) B8.out (Nat.le_refl _) F6.out.b.size (by have := O8.out; simpa using this)))
  refine (put_few _ _ (la ++ lb) (xa ++ yb) w8 SF8.out SV8.out (by rw [List.length_append]; omega) HHJ.out HFJ.out).mono ?_
  rw [E3.out]
  rintro e w9 ⟨rfl, hb9⟩
  have F9 := Lib.hid (F8.out.below hb9)
  clear hb9
  unfold wrapV errV
  go_wp2_with fail
  refine (runs _ (HT.out.below F9.out.b)).mono ?_
  rintro e w10 ⟨rfl, hb10⟩
  go_wp2_with fail
  go_ret
  exact ⟨rfl, bthen F9.out.b hb10⟩
set_option maxHeartbeats 4000000 in
set_option maxRecDepth 100000 in
/-- The walk of one case. -/
theorem joins_ssn (fv1 fv2 xv1 xv2 : Value) (la lb : List Fl) (xa yb : List Vl) (w : World) (hT : Typ w) (hla : la.length ≤ 6) (hlb : lb.length ≤ 6) (hxa : xa.length ≤ 6) (hyb : yb.length ≤ 6) (hh1 : ∀ f ∈ la, f.hi ≤ 9223372036854775807) (hh2 : ∀ f ∈ lb, f.hi ≤ 9223372036854775807)
    (hfa : ∀ x ∈ xa, x.few) (hfb : ∀ x ∈ yb, x.few) (hfew1 : Calls Tryd.prog 9 #[fv1, xv1] w (FewPost2 la xa w)) (hfew2 : ∀ w1, Below w.heap.size w w1 → Calls Tryd.prog 9 #[fv2, xv2] w1 (FewPost2 lb yb w1))
    (q1 : Int × Int) (h1 : putErr la xa = some q1) (q2 : Int × Int) (h2 : putErr lb yb = some q2) (h3 : putErr (la ++ lb) (xa ++ yb) = none) (hne : xa.length ≠ la.length) :
    Calls Tryd.prog 7 #[fv1, fv2, xv1, xv2] w (Bit true w) := by
  have HT := Lib.hid hT
  have HF1 := Lib.hid hfew1
  have HF2 := Lib.hid hfew2
  have HH1 := Lib.hid hh1
  have HH2 := Lib.hid hh2
  have HFA := Lib.hid hfa
  have HFB := Lib.hid hfb
  have E1 := Lib.hid h1
  have E2 := Lib.hid h2
  have E3 := Lib.hid h3
  have HHJ := Lib.hid (show ∀ f ∈ la ++ lb, f.hi ≤ 9223372036854775807 from fun f hf => by rcases List.mem_append.1 hf with h | h; exact hh1 f h; exact hh2 f h)
  have HFJ := Lib.hid (show ∀ x ∈ xa ++ yb, x.few from fun x hx => by rcases List.mem_append.1 hx with h | h; exact hfa x h; exact hfb x h)
  have hne1 : ((xa.length : Int) != (la.length : Int)) = true := by simp; omega
  clear hne
  clear hT hfew1 hfew2 hh1 hh2 hfa hfb h1 h2 h3
  go_enter Tryd.func7, Tryd.ntmps7
  go_wp2_with fail
  refine HF1.out.mono ?_
  rintro e w1 ⟨v1, u1, rfl, hl1, hx1, hb1⟩
  have B1 := Lib.hid hb1
  have L1 := Lib.hid hl1
  have X1 := Lib.hid hx1
  clear hb1 hl1 hx1
  go_wp2_with fail
  refine (HF2.out w1 B1.out).mono ?_
  rintro e w2 ⟨v2, u2, rfl, hl2, hx2, hb2⟩
  have F2 := Lib.hid (show Four w w2 v1 u1 v2 u2 la lb xa yb from ⟨own_below L1.out hb2, X1.out.below hb2, own_base hl2 B1.out.size, hx2.base B1.out.size, bthen B1.out hb2⟩)
  obtain ⟨al, cl, rfl⟩ := slf_len (slf_own F2.out.l)
  obtain ⟨ax, cx, rfl⟩ := slv_len (slv_own F2.out.x)
  obtain ⟨am, cm, rfl⟩ := slf_len (slf_own F2.out.m)
  obtain ⟨ay, cy, rfl⟩ := slv_len (slv_own F2.out.y)
  clear hb2 hl2 hx2 L1 X1
  go_wp2_with fail
  refine (put_few _ _ la xa w2 (slf_own F2.out.l) (slv_own F2.out.x) (by omega) HH1.out HFA.out).mono ?_
  rw [E1.out]
  rintro e w3 ⟨rfl, hb3⟩
  have F3 := Lib.hid (F2.out.below hb3)
  clear hb3
  unfold wrapV errV
  go_wp2_with fail
  refine (put_few _ _ lb yb w3 (slf_own F3.out.m) (slv_own F3.out.y) (by omega) HH2.out HFB.out).mono ?_
  rw [E2.out]
  rintro e w4 ⟨rfl, hb4⟩
  have F4 := Lib.hid (F3.out.below hb4)
  clear hb4
  unfold wrapV errV
  obtain ⟨ps, p1, p2, p3⟩ := F4.out.x
  obtain ⟨qs, q1', q2', q3'⟩ := F4.out.y
  have PS := Lib.hid (And.intro p1 (And.intro p2 p3))
  have QS := Lib.hid (And.intro q1' (And.intro q2' q3'))
  have hpn : ps.length ≤ 6 := by have := congrArg List.length p1; simp at this; omega
  have hqn : qs.length ≤ 6 := by have := congrArg List.length q1'; simp at this; omega
  clear p1 p2 p3 q1' q2' q3'
  go_wp2_with (first
    | (at_builtin; refine wpList_append_f _ (by rfl) (.tmp 44) (.tmp 45) rfl w4.heap.size _ _ _ rfl (own_newN w4 _ _) w.heap.size _ la rfl (own_below F4.out.l (one_below _ _)) (by omega) (by simp) ?_; intro v5 w5 hown hg; have O5 := Lib.hid hown; have G5 := Lib.hid hg; have B5 := Lib.hid (app_below1 hg); have F5 := Lib.hid (F4.out.below B5.out.1); clear hown hg)
    | (at_builtin; refine wpList_append_f _ (by rfl) (.tmp 46) (.tmp 47) rfl w4.heap.size _ _ _ rfl O5.out w.heap.size _ lb rfl F5.out.m (by omega) B5.out.1.size ?_; intro v6 w6 hown hg; have O6 := Lib.hid hown; have B6 := Lib.hid (app_below2 G5.out hg); have F6 := Lib.hid (F4.out.below B6.out); have PS6 := Lib.hid (own_below PS.out.2.1 B6.out); have QS6 := Lib.hid (own_below QS.out.2.1 B6.out); clear hown hg)
    | (at_builtin; refine wpList_append_v _ (by rfl) (.tmp 49) (.tmp 50) rfl w6.heap.size _ _ _ rfl (own_newN w6 _ _) w.heap.size _ ps rfl (own_below PS6.out (one_below _ _)) (one_p ps fun p hp => (PS.out.2.2 p hp).1) (by omega) (by simp) ?_; intro v7 w7 hown hg; have O7 := Lib.hid hown; have G7 := Lib.hid hg; have B7 := Lib.hid (app_below1 hg); have QS7 := Lib.hid (own_below QS6.out B7.out.1); clear hown hg)
    | (at_builtin; refine wpList_append_v _ (by rfl) (.tmp 51) (.tmp 52) rfl w6.heap.size _ _ _ rfl O7.out w.heap.size _ qs rfl QS7.out (one_p qs fun p hp => (QS.out.2.2 p hp).1) (by omega) B7.out.1.size ?_; intro v8 w8 hown hg; have O8 := Lib.hid hown; have B8 := Lib.hid (app_below2 G7.out hg); clear hown hg))
  have F8 := Lib.hid (F6.out.below B8.out)
  have SF8 := Lib.hid (show SlF w8.heap.size w8 v6 (la ++ lb) from slf_own (B := w4.heap.size) (by have := own_below O6.out B8.out; rw [List.length_append, List.flatMap_append]; simpa using this))
  have SV8 := Lib.hid (show SlV w8.heap.size w8 v8 (xa ++ yb) from slv_own (vals_join (B := w.heap.size) (B' := w6.heap.size) (w := w6) PS.out.1 QS.out.1 (fun p hp => own_below (PS.out.2.2 p hp).1 B6.out) (fun p hp => own_below (QS.out.2.2 p hp).1 B6.out) B8.out (Nat.le_refl _) F6.out.b.size (by have := O8.out; simpa using this)))
  refine (put_few _ _ (la ++ lb) (xa ++ yb) w8 SF8.out SV8.out (by rw [List.length_append]; omega) HHJ.out HFJ.out).mono ?_
  rw [E3.out]
  rintro e w9 ⟨v9, rfl, hp9, hb9⟩
  have P9 := Lib.hid hp9
  obtain ⟨ar, cr, rfl, hcr⟩ := own_slice hp9
  have F9 := Lib.hid (F8.out.below hb9)
  clear hb9 hp9
  go_wp2_with fail
  refine (runs _ (HT.out.below F9.out.b)).mono ?_
  rintro e w10 ⟨rfl, hb10⟩
  go_wp2_with fail
  go_ret
  exact ⟨rfl, bthen F9.out.b hb10⟩
set_option maxHeartbeats 4000000 in
set_option maxRecDepth 100000 in
/-- The walk of one case. -/
theorem joins_sns (fv1 fv2 xv1 xv2 : Value) (la lb : List Fl) (xa yb : List Vl) (w : World) (hT : Typ w) (hla : la.length ≤ 6) (hlb : lb.length ≤ 6) (hxa : xa.length ≤ 6) (hyb : yb.length ≤ 6) (hh1 : ∀ f ∈ la, f.hi ≤ 9223372036854775807) (hh2 : ∀ f ∈ lb, f.hi ≤ 9223372036854775807)
    (hfa : ∀ x ∈ xa, x.few) (hfb : ∀ x ∈ yb, x.few) (hfew1 : Calls Tryd.prog 9 #[fv1, xv1] w (FewPost2 la xa w)) (hfew2 : ∀ w1, Below w.heap.size w w1 → Calls Tryd.prog 9 #[fv2, xv2] w1 (FewPost2 lb yb w1))
    (q1 : Int × Int) (h1 : putErr la xa = some q1) (h2 : putErr lb yb = none) (q3 : Int × Int) (h3 : putErr (la ++ lb) (xa ++ yb) = some q3) :
    Calls Tryd.prog 7 #[fv1, fv2, xv1, xv2] w (Bit true w) := by
  have HT := Lib.hid hT
  have HF1 := Lib.hid hfew1
  have HF2 := Lib.hid hfew2
  have HH1 := Lib.hid hh1
  have HH2 := Lib.hid hh2
  have HFA := Lib.hid hfa
  have HFB := Lib.hid hfb
  have E1 := Lib.hid h1
  have E2 := Lib.hid h2
  have E3 := Lib.hid h3
  have HHJ := Lib.hid (show ∀ f ∈ la ++ lb, f.hi ≤ 9223372036854775807 from fun f hf => by rcases List.mem_append.1 hf with h | h; exact hh1 f h; exact hh2 f h)
  have HFJ := Lib.hid (show ∀ x ∈ xa ++ yb, x.few from fun x hx => by rcases List.mem_append.1 hx with h | h; exact hfa x h; exact hfb x h)
  clear hT hfew1 hfew2 hh1 hh2 hfa hfb h1 h2 h3
  go_enter Tryd.func7, Tryd.ntmps7
  go_wp2_with fail
  refine HF1.out.mono ?_
  rintro e w1 ⟨v1, u1, rfl, hl1, hx1, hb1⟩
  have B1 := Lib.hid hb1
  have L1 := Lib.hid hl1
  have X1 := Lib.hid hx1
  clear hb1 hl1 hx1
  go_wp2_with fail
  refine (HF2.out w1 B1.out).mono ?_
  rintro e w2 ⟨v2, u2, rfl, hl2, hx2, hb2⟩
  have F2 := Lib.hid (show Four w w2 v1 u1 v2 u2 la lb xa yb from ⟨own_below L1.out hb2, X1.out.below hb2, own_base hl2 B1.out.size, hx2.base B1.out.size, bthen B1.out hb2⟩)
  obtain ⟨al, cl, rfl⟩ := slf_len (slf_own F2.out.l)
  obtain ⟨ax, cx, rfl⟩ := slv_len (slv_own F2.out.x)
  obtain ⟨am, cm, rfl⟩ := slf_len (slf_own F2.out.m)
  obtain ⟨ay, cy, rfl⟩ := slv_len (slv_own F2.out.y)
  clear hb2 hl2 hx2 L1 X1
  go_wp2_with fail
  refine (put_few _ _ la xa w2 (slf_own F2.out.l) (slv_own F2.out.x) (by omega) HH1.out HFA.out).mono ?_
  rw [E1.out]
  rintro e w3 ⟨rfl, hb3⟩
  have F3 := Lib.hid (F2.out.below hb3)
  clear hb3
  unfold wrapV errV
  go_wp2_with fail
  refine (put_few _ _ lb yb w3 (slf_own F3.out.m) (slv_own F3.out.y) (by omega) HH2.out HFB.out).mono ?_
  rw [E2.out]
  rintro e w4 ⟨v4, rfl, hp4, hb4⟩
  have P4 := Lib.hid hp4
  obtain ⟨aq, cq, rfl, hcq⟩ := own_slice hp4
  clear hp4
  have F4 := Lib.hid (F3.out.below hb4)
  clear hb4
  obtain ⟨ps, p1, p2, p3⟩ := F4.out.x
  obtain ⟨qs, q1', q2', q3'⟩ := F4.out.y
  have PS := Lib.hid (And.intro p1 (And.intro p2 p3))
  have QS := Lib.hid (And.intro q1' (And.intro q2' q3'))
  have hpn : ps.length ≤ 6 := by have := congrArg List.length p1; simp at this; omega
  have hqn : qs.length ≤ 6 := by have := congrArg List.length q1'; simp at this; omega
  clear p1 p2 p3 q1' q2' q3'
  go_wp2_with (first
    | (at_builtin; refine wpList_append_f _ (by rfl) (.tmp 44) (.tmp 45) rfl w4.heap.size _ _ _ rfl (own_newN w4 _ _) w.heap.size _ la rfl (own_below F4.out.l (one_below _ _)) (by omega) (by simp) ?_; intro v5 w5 hown hg; have O5 := Lib.hid hown; have G5 := Lib.hid hg; have B5 := Lib.hid (app_below1 hg); have F5 := Lib.hid (F4.out.below B5.out.1); clear hown hg)
    | (at_builtin; refine wpList_append_f _ (by rfl) (.tmp 46) (.tmp 47) rfl w4.heap.size _ _ _ rfl O5.out w.heap.size _ lb rfl F5.out.m (by omega) B5.out.1.size ?_; intro v6 w6 hown hg; have O6 := Lib.hid hown; have B6 := Lib.hid (app_below2 G5.out hg); have F6 := Lib.hid (F4.out.below B6.out); have PS6 := Lib.hid (own_below PS.out.2.1 B6.out); have QS6 := Lib.hid (own_below QS.out.2.1 B6.out); clear hown hg)
    | (at_builtin; refine wpList_append_v _ (by rfl) (.tmp 49) (.tmp 50) rfl w6.heap.size _ _ _ rfl (own_newN w6 _ _) w.heap.size _ ps rfl (own_below PS6.out (one_below _ _)) (one_p ps fun p hp => (PS.out.2.2 p hp).1) (by omega) (by simp) ?_; intro v7 w7 hown hg; have O7 := Lib.hid hown; have G7 := Lib.hid hg; have B7 := Lib.hid (app_below1 hg); have QS7 := Lib.hid (own_below QS6.out B7.out.1); clear hown hg)
    | (at_builtin; refine wpList_append_v _ (by rfl) (.tmp 51) (.tmp 52) rfl w6.heap.size _ _ _ rfl O7.out w.heap.size _ qs rfl QS7.out (one_p qs fun p hp => (QS.out.2.2 p hp).1) (by omega) B7.out.1.size ?_; intro v8 w8 hown hg; have O8 := Lib.hid hown; have B8 := Lib.hid (app_below2 G7.out hg); clear hown hg))
  have F8 := Lib.hid (F6.out.below B8.out)
  have SF8 := Lib.hid (show SlF w8.heap.size w8 v6 (la ++ lb) from slf_own (B := w4.heap.size) (by have := own_below O6.out B8.out; rw [List.length_append, List.flatMap_append]; simpa using this))
  have SV8 := Lib.hid (show SlV w8.heap.size w8 v8 (xa ++ yb) from slv_own (vals_join (B := w.heap.size) (B' := w6.heap.size) (w := w6) PS.out.1 QS.out.1 (fun p hp => own_below (PS.out.2.2 p hp).1 B6.out) (fun p hp => own_below (QS.out.2.2 p hp).1 B6.out) B8.out (Nat.le_refl _) F6.out.b.size (by have := O8.out; simpa using this)))
  refine (put_few _ _ (la ++ lb) (xa ++ yb) w8 SF8.out SV8.out (by rw [List.length_append]; omega) HHJ.out HFJ.out).mono ?_
  rw [E3.out]
  rintro e w9 ⟨rfl, hb9⟩
  have F9 := Lib.hid (F8.out.below hb9)
  clear hb9
  unfold wrapV errV
  go_wp2_with fail
  refine (runs _ (HT.out.below F9.out.b)).mono ?_
  rintro e w10 ⟨rfl, hb10⟩
  go_wp2_with fail
  go_ret
  exact ⟨rfl, bthen F9.out.b hb10⟩
set_option maxHeartbeats 4000000 in
set_option maxRecDepth 100000 in
/-- The walk of one case. -/
theorem joins_snn (fv1 fv2 xv1 xv2 : Value) (la lb : List Fl) (xa yb : List Vl) (w : World) (hT : Typ w) (hla : la.length ≤ 6) (hlb : lb.length ≤ 6) (hxa : xa.length ≤ 6) (hyb : yb.length ≤ 6) (hh1 : ∀ f ∈ la, f.hi ≤ 9223372036854775807) (hh2 : ∀ f ∈ lb, f.hi ≤ 9223372036854775807)
    (hfa : ∀ x ∈ xa, x.few) (hfb : ∀ x ∈ yb, x.few) (hfew1 : Calls Tryd.prog 9 #[fv1, xv1] w (FewPost2 la xa w)) (hfew2 : ∀ w1, Below w.heap.size w w1 → Calls Tryd.prog 9 #[fv2, xv2] w1 (FewPost2 lb yb w1))
    (q1 : Int × Int) (h1 : putErr la xa = some q1) (h2 : putErr lb yb = none) (h3 : putErr (la ++ lb) (xa ++ yb) = none) (hne : xa.length ≠ la.length) :
    Calls Tryd.prog 7 #[fv1, fv2, xv1, xv2] w (Bit true w) := by
  have HT := Lib.hid hT
  have HF1 := Lib.hid hfew1
  have HF2 := Lib.hid hfew2
  have HH1 := Lib.hid hh1
  have HH2 := Lib.hid hh2
  have HFA := Lib.hid hfa
  have HFB := Lib.hid hfb
  have E1 := Lib.hid h1
  have E2 := Lib.hid h2
  have E3 := Lib.hid h3
  have HHJ := Lib.hid (show ∀ f ∈ la ++ lb, f.hi ≤ 9223372036854775807 from fun f hf => by rcases List.mem_append.1 hf with h | h; exact hh1 f h; exact hh2 f h)
  have HFJ := Lib.hid (show ∀ x ∈ xa ++ yb, x.few from fun x hx => by rcases List.mem_append.1 hx with h | h; exact hfa x h; exact hfb x h)
  have hne1 : ((xa.length : Int) != (la.length : Int)) = true := by simp; omega
  clear hne
  clear hT hfew1 hfew2 hh1 hh2 hfa hfb h1 h2 h3
  go_enter Tryd.func7, Tryd.ntmps7
  go_wp2_with fail
  refine HF1.out.mono ?_
  rintro e w1 ⟨v1, u1, rfl, hl1, hx1, hb1⟩
  have B1 := Lib.hid hb1
  have L1 := Lib.hid hl1
  have X1 := Lib.hid hx1
  clear hb1 hl1 hx1
  go_wp2_with fail
  refine (HF2.out w1 B1.out).mono ?_
  rintro e w2 ⟨v2, u2, rfl, hl2, hx2, hb2⟩
  have F2 := Lib.hid (show Four w w2 v1 u1 v2 u2 la lb xa yb from ⟨own_below L1.out hb2, X1.out.below hb2, own_base hl2 B1.out.size, hx2.base B1.out.size, bthen B1.out hb2⟩)
  obtain ⟨al, cl, rfl⟩ := slf_len (slf_own F2.out.l)
  obtain ⟨ax, cx, rfl⟩ := slv_len (slv_own F2.out.x)
  obtain ⟨am, cm, rfl⟩ := slf_len (slf_own F2.out.m)
  obtain ⟨ay, cy, rfl⟩ := slv_len (slv_own F2.out.y)
  clear hb2 hl2 hx2 L1 X1
  go_wp2_with fail
  refine (put_few _ _ la xa w2 (slf_own F2.out.l) (slv_own F2.out.x) (by omega) HH1.out HFA.out).mono ?_
  rw [E1.out]
  rintro e w3 ⟨rfl, hb3⟩
  have F3 := Lib.hid (F2.out.below hb3)
  clear hb3
  unfold wrapV errV
  go_wp2_with fail
  refine (put_few _ _ lb yb w3 (slf_own F3.out.m) (slv_own F3.out.y) (by omega) HH2.out HFB.out).mono ?_
  rw [E2.out]
  rintro e w4 ⟨v4, rfl, hp4, hb4⟩
  have P4 := Lib.hid hp4
  obtain ⟨aq, cq, rfl, hcq⟩ := own_slice hp4
  clear hp4
  have F4 := Lib.hid (F3.out.below hb4)
  clear hb4
  obtain ⟨ps, p1, p2, p3⟩ := F4.out.x
  obtain ⟨qs, q1', q2', q3'⟩ := F4.out.y
  have PS := Lib.hid (And.intro p1 (And.intro p2 p3))
  have QS := Lib.hid (And.intro q1' (And.intro q2' q3'))
  have hpn : ps.length ≤ 6 := by have := congrArg List.length p1; simp at this; omega
  have hqn : qs.length ≤ 6 := by have := congrArg List.length q1'; simp at this; omega
  clear p1 p2 p3 q1' q2' q3'
  go_wp2_with (first
    | (at_builtin; refine wpList_append_f _ (by rfl) (.tmp 44) (.tmp 45) rfl w4.heap.size _ _ _ rfl (own_newN w4 _ _) w.heap.size _ la rfl (own_below F4.out.l (one_below _ _)) (by omega) (by simp) ?_; intro v5 w5 hown hg; have O5 := Lib.hid hown; have G5 := Lib.hid hg; have B5 := Lib.hid (app_below1 hg); have F5 := Lib.hid (F4.out.below B5.out.1); clear hown hg)
    | (at_builtin; refine wpList_append_f _ (by rfl) (.tmp 46) (.tmp 47) rfl w4.heap.size _ _ _ rfl O5.out w.heap.size _ lb rfl F5.out.m (by omega) B5.out.1.size ?_; intro v6 w6 hown hg; have O6 := Lib.hid hown; have B6 := Lib.hid (app_below2 G5.out hg); have F6 := Lib.hid (F4.out.below B6.out); have PS6 := Lib.hid (own_below PS.out.2.1 B6.out); have QS6 := Lib.hid (own_below QS.out.2.1 B6.out); clear hown hg)
    | (at_builtin; refine wpList_append_v _ (by rfl) (.tmp 49) (.tmp 50) rfl w6.heap.size _ _ _ rfl (own_newN w6 _ _) w.heap.size _ ps rfl (own_below PS6.out (one_below _ _)) (one_p ps fun p hp => (PS.out.2.2 p hp).1) (by omega) (by simp) ?_; intro v7 w7 hown hg; have O7 := Lib.hid hown; have G7 := Lib.hid hg; have B7 := Lib.hid (app_below1 hg); have QS7 := Lib.hid (own_below QS6.out B7.out.1); clear hown hg)
    | (at_builtin; refine wpList_append_v _ (by rfl) (.tmp 51) (.tmp 52) rfl w6.heap.size _ _ _ rfl O7.out w.heap.size _ qs rfl QS7.out (one_p qs fun p hp => (QS.out.2.2 p hp).1) (by omega) B7.out.1.size ?_; intro v8 w8 hown hg; have O8 := Lib.hid hown; have B8 := Lib.hid (app_below2 G7.out hg); clear hown hg))
  have F8 := Lib.hid (F6.out.below B8.out)
  have SF8 := Lib.hid (show SlF w8.heap.size w8 v6 (la ++ lb) from slf_own (B := w4.heap.size) (by have := own_below O6.out B8.out; rw [List.length_append, List.flatMap_append]; simpa using this))
  have SV8 := Lib.hid (show SlV w8.heap.size w8 v8 (xa ++ yb) from slv_own (vals_join (B := w.heap.size) (B' := w6.heap.size) (w := w6) PS.out.1 QS.out.1 (fun p hp => own_below (PS.out.2.2 p hp).1 B6.out) (fun p hp => own_below (QS.out.2.2 p hp).1 B6.out) B8.out (Nat.le_refl _) F6.out.b.size (by have := O8.out; simpa using this)))
  refine (put_few _ _ (la ++ lb) (xa ++ yb) w8 SF8.out SV8.out (by rw [List.length_append]; omega) HHJ.out HFJ.out).mono ?_
  rw [E3.out]
  rintro e w9 ⟨v9, rfl, hp9, hb9⟩
  have P9 := Lib.hid hp9
  obtain ⟨ar, cr, rfl, hcr⟩ := own_slice hp9
  have F9 := Lib.hid (F8.out.below hb9)
  clear hb9 hp9
  go_wp2_with fail
  refine (runs _ (HT.out.below F9.out.b)).mono ?_
  rintro e w10 ⟨rfl, hb10⟩
  go_wp2_with fail
  go_ret
  exact ⟨rfl, bthen F9.out.b hb10⟩
set_option maxHeartbeats 4000000 in
set_option maxRecDepth 100000 in
/-- The walk of one case. -/
theorem joins_nss (fv1 fv2 xv1 xv2 : Value) (la lb : List Fl) (xa yb : List Vl) (w : World) (hT : Typ w) (hla : la.length ≤ 6) (hlb : lb.length ≤ 6) (hxa : xa.length ≤ 6) (hyb : yb.length ≤ 6) (hh1 : ∀ f ∈ la, f.hi ≤ 9223372036854775807) (hh2 : ∀ f ∈ lb, f.hi ≤ 9223372036854775807)
    (hfa : ∀ x ∈ xa, x.few) (hfb : ∀ x ∈ yb, x.few) (hfew1 : Calls Tryd.prog 9 #[fv1, xv1] w (FewPost2 la xa w)) (hfew2 : ∀ w1, Below w.heap.size w w1 → Calls Tryd.prog 9 #[fv2, xv2] w1 (FewPost2 lb yb w1))
    (h1 : putErr la xa = none) (q2 : Int × Int) (h2 : putErr lb yb = some q2) (q3 : Int × Int) (h3 : putErr (la ++ lb) (xa ++ yb) = some q3) :
    Calls Tryd.prog 7 #[fv1, fv2, xv1, xv2] w (Bit true w) := by
  have HT := Lib.hid hT
  have HF1 := Lib.hid hfew1
  have HF2 := Lib.hid hfew2
  have HH1 := Lib.hid hh1
  have HH2 := Lib.hid hh2
  have HFA := Lib.hid hfa
  have HFB := Lib.hid hfb
  have E1 := Lib.hid h1
  have E2 := Lib.hid h2
  have E3 := Lib.hid h3
  have HHJ := Lib.hid (show ∀ f ∈ la ++ lb, f.hi ≤ 9223372036854775807 from fun f hf => by rcases List.mem_append.1 hf with h | h; exact hh1 f h; exact hh2 f h)
  have HFJ := Lib.hid (show ∀ x ∈ xa ++ yb, x.few from fun x hx => by rcases List.mem_append.1 hx with h | h; exact hfa x h; exact hfb x h)
  clear hT hfew1 hfew2 hh1 hh2 hfa hfb h1 h2 h3
  go_enter Tryd.func7, Tryd.ntmps7
  go_wp2_with fail
  refine HF1.out.mono ?_
  rintro e w1 ⟨v1, u1, rfl, hl1, hx1, hb1⟩
  have B1 := Lib.hid hb1
  have L1 := Lib.hid hl1
  have X1 := Lib.hid hx1
  clear hb1 hl1 hx1
  go_wp2_with fail
  refine (HF2.out w1 B1.out).mono ?_
  rintro e w2 ⟨v2, u2, rfl, hl2, hx2, hb2⟩
  have F2 := Lib.hid (show Four w w2 v1 u1 v2 u2 la lb xa yb from ⟨own_below L1.out hb2, X1.out.below hb2, own_base hl2 B1.out.size, hx2.base B1.out.size, bthen B1.out hb2⟩)
  obtain ⟨al, cl, rfl⟩ := slf_len (slf_own F2.out.l)
  obtain ⟨ax, cx, rfl⟩ := slv_len (slv_own F2.out.x)
  obtain ⟨am, cm, rfl⟩ := slf_len (slf_own F2.out.m)
  obtain ⟨ay, cy, rfl⟩ := slv_len (slv_own F2.out.y)
  clear hb2 hl2 hx2 L1 X1
  go_wp2_with fail
  refine (put_few _ _ la xa w2 (slf_own F2.out.l) (slv_own F2.out.x) (by omega) HH1.out HFA.out).mono ?_
  rw [E1.out]
  rintro e w3 ⟨v3, rfl, hp3, hb3⟩
  have P3 := Lib.hid hp3
  obtain ⟨ap, cp, rfl, hcp⟩ := own_slice hp3
  clear hp3
  have F3 := Lib.hid (F2.out.below hb3)
  clear hb3
  go_wp2_with fail
  refine (put_few _ _ lb yb w3 (slf_own F3.out.m) (slv_own F3.out.y) (by omega) HH2.out HFB.out).mono ?_
  rw [E2.out]
  rintro e w4 ⟨rfl, hb4⟩
  have F4 := Lib.hid (F3.out.below hb4)
  have P34 := Lib.hid (own_below P3.out hb4)
  clear hb4
  unfold wrapV errV
  obtain ⟨ps, p1, p2, p3⟩ := F4.out.x
  obtain ⟨qs, q1', q2', q3'⟩ := F4.out.y
  have PS := Lib.hid (And.intro p1 (And.intro p2 p3))
  have QS := Lib.hid (And.intro q1' (And.intro q2' q3'))
  have hpn : ps.length ≤ 6 := by have := congrArg List.length p1; simp at this; omega
  have hqn : qs.length ≤ 6 := by have := congrArg List.length q1'; simp at this; omega
  clear p1 p2 p3 q1' q2' q3'
  go_wp2_with (first
    | (at_builtin; refine wpList_append_f _ (by rfl) (.tmp 44) (.tmp 45) rfl w4.heap.size _ _ _ rfl (own_newN w4 _ _) w.heap.size _ la rfl (own_below F4.out.l (one_below _ _)) (by omega) (by simp) ?_; intro v5 w5 hown hg; have O5 := Lib.hid hown; have G5 := Lib.hid hg; have B5 := Lib.hid (app_below1 hg); have F5 := Lib.hid (F4.out.below B5.out.1); clear hown hg)
    | (at_builtin; refine wpList_append_f _ (by rfl) (.tmp 46) (.tmp 47) rfl w4.heap.size _ _ _ rfl O5.out w.heap.size _ lb rfl F5.out.m (by omega) B5.out.1.size ?_; intro v6 w6 hown hg; have O6 := Lib.hid hown; have B6 := Lib.hid (app_below2 G5.out hg); have F6 := Lib.hid (F4.out.below B6.out); have PS6 := Lib.hid (own_below PS.out.2.1 B6.out); have QS6 := Lib.hid (own_below QS.out.2.1 B6.out); clear hown hg)
    | (at_builtin; refine wpList_append_v _ (by rfl) (.tmp 49) (.tmp 50) rfl w6.heap.size _ _ _ rfl (own_newN w6 _ _) w.heap.size _ ps rfl (own_below PS6.out (one_below _ _)) (one_p ps fun p hp => (PS.out.2.2 p hp).1) (by omega) (by simp) ?_; intro v7 w7 hown hg; have O7 := Lib.hid hown; have G7 := Lib.hid hg; have B7 := Lib.hid (app_below1 hg); have QS7 := Lib.hid (own_below QS6.out B7.out.1); clear hown hg)
    | (at_builtin; refine wpList_append_v _ (by rfl) (.tmp 51) (.tmp 52) rfl w6.heap.size _ _ _ rfl O7.out w.heap.size _ qs rfl QS7.out (one_p qs fun p hp => (QS.out.2.2 p hp).1) (by omega) B7.out.1.size ?_; intro v8 w8 hown hg; have O8 := Lib.hid hown; have B8 := Lib.hid (app_below2 G7.out hg); clear hown hg))
  have F8 := Lib.hid (F6.out.below B8.out)
  have SF8 := Lib.hid (show SlF w8.heap.size w8 v6 (la ++ lb) from slf_own (B := w4.heap.size) (by have := own_below O6.out B8.out; rw [List.length_append, List.flatMap_append]; simpa using this))
  have SV8 := Lib.hid (show SlV w8.heap.size w8 v8 (xa ++ yb) from slv_own (vals_join (B := w.heap.size) (B' := w6.heap.size) (w := w6) PS.out.1 QS.out.1 (fun p hp => own_below (PS.out.2.2 p hp).1 B6.out) (fun p hp => own_below (QS.out.2.2 p hp).1 B6.out) B8.out (Nat.le_refl _) F6.out.b.size (by have := O8.out; simpa using this)))
  refine (put_few _ _ (la ++ lb) (xa ++ yb) w8 SF8.out SV8.out (by rw [List.length_append]; omega) HHJ.out HFJ.out).mono ?_
  rw [E3.out]
  rintro e w9 ⟨rfl, hb9⟩
  have F9 := Lib.hid (F8.out.below hb9)
  clear hb9
  unfold wrapV errV
  go_wp2_with fail
  refine (runs _ (HT.out.below F9.out.b)).mono ?_
  rintro e w10 ⟨rfl, hb10⟩
  go_wp2_with fail
  go_ret
  exact ⟨rfl, bthen F9.out.b hb10⟩
set_option maxHeartbeats 4000000 in
set_option maxRecDepth 100000 in
/-- The walk of one case. -/
theorem joins_nsn (fv1 fv2 xv1 xv2 : Value) (la lb : List Fl) (xa yb : List Vl) (w : World) (hT : Typ w) (hla : la.length ≤ 6) (hlb : lb.length ≤ 6) (hxa : xa.length ≤ 6) (hyb : yb.length ≤ 6) (hh1 : ∀ f ∈ la, f.hi ≤ 9223372036854775807) (hh2 : ∀ f ∈ lb, f.hi ≤ 9223372036854775807)
    (hfa : ∀ x ∈ xa, x.few) (hfb : ∀ x ∈ yb, x.few) (hfew1 : Calls Tryd.prog 9 #[fv1, xv1] w (FewPost2 la xa w)) (hfew2 : ∀ w1, Below w.heap.size w w1 → Calls Tryd.prog 9 #[fv2, xv2] w1 (FewPost2 lb yb w1))
    (h1 : putErr la xa = none) (q2 : Int × Int) (h2 : putErr lb yb = some q2) (h3 : putErr (la ++ lb) (xa ++ yb) = none) (hne : xa.length ≠ la.length) :
    Calls Tryd.prog 7 #[fv1, fv2, xv1, xv2] w (Bit true w) := by
  have HT := Lib.hid hT
  have HF1 := Lib.hid hfew1
  have HF2 := Lib.hid hfew2
  have HH1 := Lib.hid hh1
  have HH2 := Lib.hid hh2
  have HFA := Lib.hid hfa
  have HFB := Lib.hid hfb
  have E1 := Lib.hid h1
  have E2 := Lib.hid h2
  have E3 := Lib.hid h3
  have HHJ := Lib.hid (show ∀ f ∈ la ++ lb, f.hi ≤ 9223372036854775807 from fun f hf => by rcases List.mem_append.1 hf with h | h; exact hh1 f h; exact hh2 f h)
  have HFJ := Lib.hid (show ∀ x ∈ xa ++ yb, x.few from fun x hx => by rcases List.mem_append.1 hx with h | h; exact hfa x h; exact hfb x h)
  have hne1 : ((xa.length : Int) != (la.length : Int)) = true := by simp; omega
  clear hne
  clear hT hfew1 hfew2 hh1 hh2 hfa hfb h1 h2 h3
  go_enter Tryd.func7, Tryd.ntmps7
  go_wp2_with fail
  refine HF1.out.mono ?_
  rintro e w1 ⟨v1, u1, rfl, hl1, hx1, hb1⟩
  have B1 := Lib.hid hb1
  have L1 := Lib.hid hl1
  have X1 := Lib.hid hx1
  clear hb1 hl1 hx1
  go_wp2_with fail
  refine (HF2.out w1 B1.out).mono ?_
  rintro e w2 ⟨v2, u2, rfl, hl2, hx2, hb2⟩
  have F2 := Lib.hid (show Four w w2 v1 u1 v2 u2 la lb xa yb from ⟨own_below L1.out hb2, X1.out.below hb2, own_base hl2 B1.out.size, hx2.base B1.out.size, bthen B1.out hb2⟩)
  obtain ⟨al, cl, rfl⟩ := slf_len (slf_own F2.out.l)
  obtain ⟨ax, cx, rfl⟩ := slv_len (slv_own F2.out.x)
  obtain ⟨am, cm, rfl⟩ := slf_len (slf_own F2.out.m)
  obtain ⟨ay, cy, rfl⟩ := slv_len (slv_own F2.out.y)
  clear hb2 hl2 hx2 L1 X1
  go_wp2_with fail
  refine (put_few _ _ la xa w2 (slf_own F2.out.l) (slv_own F2.out.x) (by omega) HH1.out HFA.out).mono ?_
  rw [E1.out]
  rintro e w3 ⟨v3, rfl, hp3, hb3⟩
  have P3 := Lib.hid hp3
  obtain ⟨ap, cp, rfl, hcp⟩ := own_slice hp3
  clear hp3
  have F3 := Lib.hid (F2.out.below hb3)
  clear hb3
  go_wp2_with fail
  refine (put_few _ _ lb yb w3 (slf_own F3.out.m) (slv_own F3.out.y) (by omega) HH2.out HFB.out).mono ?_
  rw [E2.out]
  rintro e w4 ⟨rfl, hb4⟩
  have F4 := Lib.hid (F3.out.below hb4)
  have P34 := Lib.hid (own_below P3.out hb4)
  clear hb4
  unfold wrapV errV
  obtain ⟨ps, p1, p2, p3⟩ := F4.out.x
  obtain ⟨qs, q1', q2', q3'⟩ := F4.out.y
  have PS := Lib.hid (And.intro p1 (And.intro p2 p3))
  have QS := Lib.hid (And.intro q1' (And.intro q2' q3'))
  have hpn : ps.length ≤ 6 := by have := congrArg List.length p1; simp at this; omega
  have hqn : qs.length ≤ 6 := by have := congrArg List.length q1'; simp at this; omega
  clear p1 p2 p3 q1' q2' q3'
  go_wp2_with (first
    | (at_builtin; refine wpList_append_f _ (by rfl) (.tmp 44) (.tmp 45) rfl w4.heap.size _ _ _ rfl (own_newN w4 _ _) w.heap.size _ la rfl (own_below F4.out.l (one_below _ _)) (by omega) (by simp) ?_; intro v5 w5 hown hg; have O5 := Lib.hid hown; have G5 := Lib.hid hg; have B5 := Lib.hid (app_below1 hg); have F5 := Lib.hid (F4.out.below B5.out.1); clear hown hg)
    | (at_builtin; refine wpList_append_f _ (by rfl) (.tmp 46) (.tmp 47) rfl w4.heap.size _ _ _ rfl O5.out w.heap.size _ lb rfl F5.out.m (by omega) B5.out.1.size ?_; intro v6 w6 hown hg; have O6 := Lib.hid hown; have B6 := Lib.hid (app_below2 G5.out hg); have F6 := Lib.hid (F4.out.below B6.out); have PS6 := Lib.hid (own_below PS.out.2.1 B6.out); have QS6 := Lib.hid (own_below QS.out.2.1 B6.out); clear hown hg)
    | (at_builtin; refine wpList_append_v _ (by rfl) (.tmp 49) (.tmp 50) rfl w6.heap.size _ _ _ rfl (own_newN w6 _ _) w.heap.size _ ps rfl (own_below PS6.out (one_below _ _)) (one_p ps fun p hp => (PS.out.2.2 p hp).1) (by omega) (by simp) ?_; intro v7 w7 hown hg; have O7 := Lib.hid hown; have G7 := Lib.hid hg; have B7 := Lib.hid (app_below1 hg); have QS7 := Lib.hid (own_below QS6.out B7.out.1); clear hown hg)
    | (at_builtin; refine wpList_append_v _ (by rfl) (.tmp 51) (.tmp 52) rfl w6.heap.size _ _ _ rfl O7.out w.heap.size _ qs rfl QS7.out (one_p qs fun p hp => (QS.out.2.2 p hp).1) (by omega) B7.out.1.size ?_; intro v8 w8 hown hg; have O8 := Lib.hid hown; have B8 := Lib.hid (app_below2 G7.out hg); clear hown hg))
  have F8 := Lib.hid (F6.out.below B8.out)
  have SF8 := Lib.hid (show SlF w8.heap.size w8 v6 (la ++ lb) from slf_own (B := w4.heap.size) (by have := own_below O6.out B8.out; rw [List.length_append, List.flatMap_append]; simpa using this))
  have SV8 := Lib.hid (show SlV w8.heap.size w8 v8 (xa ++ yb) from slv_own (vals_join (B := w.heap.size) (B' := w6.heap.size) (w := w6) PS.out.1 QS.out.1 (fun p hp => own_below (PS.out.2.2 p hp).1 B6.out) (fun p hp => own_below (QS.out.2.2 p hp).1 B6.out) B8.out (Nat.le_refl _) F6.out.b.size (by have := O8.out; simpa using this)))
  refine (put_few _ _ (la ++ lb) (xa ++ yb) w8 SF8.out SV8.out (by rw [List.length_append]; omega) HHJ.out HFJ.out).mono ?_
  rw [E3.out]
  rintro e w9 ⟨v9, rfl, hp9, hb9⟩
  have P9 := Lib.hid hp9
  obtain ⟨ar, cr, rfl, hcr⟩ := own_slice hp9
  have F9 := Lib.hid (F8.out.below hb9)
  clear hb9 hp9
  go_wp2_with fail
  refine (runs _ (HT.out.below F9.out.b)).mono ?_
  rintro e w10 ⟨rfl, hb10⟩
  go_wp2_with fail
  go_ret
  exact ⟨rfl, bthen F9.out.b hb10⟩
set_option maxHeartbeats 4000000 in
set_option maxRecDepth 100000 in
/-- The walk of one case. -/
theorem joins_nnn (fv1 fv2 xv1 xv2 : Value) (la lb : List Fl) (xa yb : List Vl) (w : World) (hT : Typ w) (hla : la.length ≤ 6) (hlb : lb.length ≤ 6) (hxa : xa.length ≤ 6) (hyb : yb.length ≤ 6) (hh1 : ∀ f ∈ la, f.hi ≤ 9223372036854775807) (hh2 : ∀ f ∈ lb, f.hi ≤ 9223372036854775807)
    (hfa : ∀ x ∈ xa, x.few) (hfb : ∀ x ∈ yb, x.few) (hfew1 : Calls Tryd.prog 9 #[fv1, xv1] w (FewPost2 la xa w)) (hfew2 : ∀ w1, Below w.heap.size w w1 → Calls Tryd.prog 9 #[fv2, xv2] w1 (FewPost2 lb yb w1))
    (h1 : putErr la xa = none) (h2 : putErr lb yb = none) (h3 : putErr (la ++ lb) (xa ++ yb) = none) (hpb : putB (la ++ lb) (xa ++ yb) = putB la xa ++ putB lb yb) (hlm : leastM (la ++ lb) = leastM la + leastM lb) :
    Calls Tryd.prog 7 #[fv1, fv2, xv1, xv2] w (Bit true w) := by
  have HT := Lib.hid hT
  have HF1 := Lib.hid hfew1
  have HF2 := Lib.hid hfew2
  have HH1 := Lib.hid hh1
  have HH2 := Lib.hid hh2
  have HFA := Lib.hid hfa
  have HFB := Lib.hid hfb
  have E1 := Lib.hid h1
  have E2 := Lib.hid h2
  have E3 := Lib.hid h3
  have HHJ := Lib.hid (show ∀ f ∈ la ++ lb, f.hi ≤ 9223372036854775807 from fun f hf => by rcases List.mem_append.1 hf with h | h; exact hh1 f h; exact hh2 f h)
  have HFJ := Lib.hid (show ∀ x ∈ xa ++ yb, x.few from fun x hx => by rcases List.mem_append.1 hx with h | h; exact hfa x h; exact hfb x h)
  have HPB := Lib.hid hpb
  have hpl : (putB la xa).length ≤ 600 := putB_few (putErr_none h1).1 hfa 6 hla
  have hql : (putB lb yb).length ≤ 600 := putB_few (putErr_none h2).1 hfb 6 hlb
  have HLM := Lib.hid hlm
  have b1 := least_bound la hla (putErr_none h1).1
  have b2 := least_bound lb hlb (putErr_none h2).1
  have HBD := Lib.hid (And.intro b1 b2)
  clear hpb hlm b1 b2
  clear hT hfew1 hfew2 hh1 hh2 hfa hfb h1 h2 h3
  go_enter Tryd.func7, Tryd.ntmps7
  go_wp2_with fail
  refine HF1.out.mono ?_
  rintro e w1 ⟨v1, u1, rfl, hl1, hx1, hb1⟩
  have B1 := Lib.hid hb1
  have L1 := Lib.hid hl1
  have X1 := Lib.hid hx1
  clear hb1 hl1 hx1
  go_wp2_with fail
  refine (HF2.out w1 B1.out).mono ?_
  rintro e w2 ⟨v2, u2, rfl, hl2, hx2, hb2⟩
  have F2 := Lib.hid (show Four w w2 v1 u1 v2 u2 la lb xa yb from ⟨own_below L1.out hb2, X1.out.below hb2, own_base hl2 B1.out.size, hx2.base B1.out.size, bthen B1.out hb2⟩)
  obtain ⟨al, cl, rfl⟩ := slf_len (slf_own F2.out.l)
  obtain ⟨ax, cx, rfl⟩ := slv_len (slv_own F2.out.x)
  obtain ⟨am, cm, rfl⟩ := slf_len (slf_own F2.out.m)
  obtain ⟨ay, cy, rfl⟩ := slv_len (slv_own F2.out.y)
  clear hb2 hl2 hx2 L1 X1
  go_wp2_with fail
  refine (put_few _ _ la xa w2 (slf_own F2.out.l) (slv_own F2.out.x) (by omega) HH1.out HFA.out).mono ?_
  rw [E1.out]
  rintro e w3 ⟨v3, rfl, hp3, hb3⟩
  have P3 := Lib.hid hp3
  obtain ⟨ap, cp, rfl, hcp⟩ := own_slice hp3
  clear hp3
  have F3 := Lib.hid (F2.out.below hb3)
  clear hb3
  go_wp2_with fail
  refine (put_few _ _ lb yb w3 (slf_own F3.out.m) (slv_own F3.out.y) (by omega) HH2.out HFB.out).mono ?_
  rw [E2.out]
  rintro e w4 ⟨v4, rfl, hp4, hb4⟩
  have P4 := Lib.hid hp4
  obtain ⟨aq, cq, rfl, hcq⟩ := own_slice hp4
  clear hp4
  have F4 := Lib.hid (F3.out.below hb4)
  have P34 := Lib.hid (own_below P3.out hb4)
  clear hb4
  obtain ⟨ps, p1, p2, p3⟩ := F4.out.x
  obtain ⟨qs, q1', q2', q3'⟩ := F4.out.y
  have PS := Lib.hid (And.intro p1 (And.intro p2 p3))
  have QS := Lib.hid (And.intro q1' (And.intro q2' q3'))
  have hpn : ps.length ≤ 6 := by have := congrArg List.length p1; simp at this; omega
  have hqn : qs.length ≤ 6 := by have := congrArg List.length q1'; simp at this; omega
  clear p1 p2 p3 q1' q2' q3'
  go_wp2_with (first
    | (at_builtin; refine wpList_append_f _ (by rfl) (.tmp 44) (.tmp 45) rfl w4.heap.size _ _ _ rfl (own_newN w4 _ _) w.heap.size _ la rfl (own_below F4.out.l (one_below _ _)) (by omega) (by simp) ?_; intro v5 w5 hown hg; have O5 := Lib.hid hown; have G5 := Lib.hid hg; have B5 := Lib.hid (app_below1 hg); have F5 := Lib.hid (F4.out.below B5.out.1); clear hown hg)
    | (at_builtin; refine wpList_append_f _ (by rfl) (.tmp 46) (.tmp 47) rfl w4.heap.size _ _ _ rfl O5.out w.heap.size _ lb rfl F5.out.m (by omega) B5.out.1.size ?_; intro v6 w6 hown hg; have O6 := Lib.hid hown; have B6 := Lib.hid (app_below2 G5.out hg); have F6 := Lib.hid (F4.out.below B6.out); have PS6 := Lib.hid (own_below PS.out.2.1 B6.out); have QS6 := Lib.hid (own_below QS.out.2.1 B6.out); clear hown hg)
    | (at_builtin; refine wpList_append_v _ (by rfl) (.tmp 49) (.tmp 50) rfl w6.heap.size _ _ _ rfl (own_newN w6 _ _) w.heap.size _ ps rfl (own_below PS6.out (one_below _ _)) (one_p ps fun p hp => (PS.out.2.2 p hp).1) (by omega) (by simp) ?_; intro v7 w7 hown hg; have O7 := Lib.hid hown; have G7 := Lib.hid hg; have B7 := Lib.hid (app_below1 hg); have QS7 := Lib.hid (own_below QS6.out B7.out.1); clear hown hg)
    | (at_builtin; refine wpList_append_v _ (by rfl) (.tmp 51) (.tmp 52) rfl w6.heap.size _ _ _ rfl O7.out w.heap.size _ qs rfl QS7.out (one_p qs fun p hp => (QS.out.2.2 p hp).1) (by omega) B7.out.1.size ?_; intro v8 w8 hown hg; have O8 := Lib.hid hown; have B8 := Lib.hid (app_below2 G7.out hg); clear hown hg))
  have F8 := Lib.hid (F6.out.below B8.out)
  have SF8 := Lib.hid (show SlF w8.heap.size w8 v6 (la ++ lb) from slf_own (B := w4.heap.size) (by have := own_below O6.out B8.out; rw [List.length_append, List.flatMap_append]; simpa using this))
  have SV8 := Lib.hid (show SlV w8.heap.size w8 v8 (xa ++ yb) from slv_own (vals_join (B := w.heap.size) (B' := w6.heap.size) (w := w6) PS.out.1 QS.out.1 (fun p hp => own_below (PS.out.2.2 p hp).1 B6.out) (fun p hp => own_below (QS.out.2.2 p hp).1 B6.out) B8.out (Nat.le_refl _) F6.out.b.size (by have := O8.out; simpa using this)))
  refine (put_few _ _ (la ++ lb) (xa ++ yb) w8 SF8.out SV8.out (by rw [List.length_append]; omega) HHJ.out HFJ.out).mono ?_
  rw [E3.out]
  rintro e w9 ⟨v9, rfl, hp9, hb9⟩
  have P9 := Lib.hid hp9
  obtain ⟨ar, cr, rfl, hcr⟩ := own_slice hp9
  have F9 := Lib.hid (F8.out.below hb9)
  have P39 := Lib.hid (own_below (own_below (own_below P34.out B6.out) B8.out) hb9)
  have P49 := Lib.hid (own_below (own_below (own_below P4.out B6.out) B8.out) hb9)
  clear hb9 hp9
  go_wp2_with (first
    | (at_builtin; refine wpList_append_b _ (by rfl) (.tmp 79) (.tmp 80) rfl w9.heap.size _ _ _ rfl (own_newN w9 _ _) w9.heap.size _ (putB la xa) rfl ((slb_own P39.out).below (one_below _ _)) (by omega) (by simp) ?_; intro v10 w10 hown hg; have O10 := Lib.hid hown; have G10 := Lib.hid hg; have B10 := Lib.hid (app_below1 hg); have Q10 := Lib.hid (own_below P49.out B10.out.1); clear hown hg)
    | (at_builtin; refine wpList_append_b _ (by rfl) (.tmp 81) (.tmp 82) rfl w9.heap.size _ _ _ rfl O10.out w10.heap.size _ (putB lb yb) rfl (slb_own Q10.out) (by omega) B10.out.1.size ?_; intro v11 w11 hown hg; have O11 := Lib.hid hown; have B11 := Lib.hid (app_below2 G10.out hg); clear hown hg))
  have F11 := Lib.hid (F9.out.below B11.out)
  have P911 := Lib.hid (own_below P9.out B11.out)
  have S11 := Lib.hid (show SlB w11.heap.size w11 v11 (putB (la ++ lb) (xa ++ yb)) from slb_own (B := w9.heap.size) (by have := O11.out; rw [HPB.out, bytesV_append, List.length_append]; simpa using this))
  refine (same_bytes w11.heap.size _ _ (putB (la ++ lb) (xa ++ yb)) (putB (la ++ lb) (xa ++ yb)) w11 (slb_own P911.out) S11.out (Nat.le_refl _) (by rw [HPB.out, List.length_append]; omega)).mono ?_
  rw [decide_eq_true rfl]
  rintro e w12 ⟨rfl, hb12⟩
  have F12 := Lib.hid (F11.out.below hb12)
  clear hb12
  go_wp2_with (first
    | (at_builtin; refine wpList_append_f _ (by rfl) (.tmp 87) (.tmp 88) rfl w12.heap.size _ _ _ rfl (own_newN w12 _ _) w.heap.size _ la rfl (own_below F12.out.l (one_below _ _)) (by omega) (by simp) ?_; intro v13 w13 hown hg; have O13 := Lib.hid hown; have G13 := Lib.hid hg; have B13 := Lib.hid (app_below1 hg); have F13 := Lib.hid (F12.out.below B13.out.1); clear hown hg)
    | (at_builtin; refine wpList_append_f _ (by rfl) (.tmp 89) (.tmp 90) rfl w12.heap.size _ _ _ rfl O13.out w.heap.size _ lb rfl F13.out.m (by omega) B13.out.1.size ?_; intro v14 w14 hown hg; have O14 := Lib.hid hown; have B14 := Lib.hid (app_below2 G13.out hg); clear hown hg))
  have F14 := Lib.hid (F12.out.below B14.out)
  have SF14 := Lib.hid (show SlF w14.heap.size w14 v14 (la ++ lb) from slf_own (B := w12.heap.size) (by have := O14.out; rw [List.length_append, List.flatMap_append]; simpa using this))
  refine (least_any _ (la ++ lb) w14 SF14.out (by rw [List.length_append]; omega) HHJ.out).mono ?_
  rw [HLM.out]
  rintro e w15 ⟨rfl, hb15⟩
  have F15 := Lib.hid (F14.out.below hb15)
  clear hb15
  go_wp2_with fail
  refine (least_any _ la w15 (slf_own F15.out.l) (by omega) HH1.out).mono ?_
  rintro e w16 ⟨rfl, hb16⟩
  have F16 := Lib.hid (F15.out.below hb16)
  clear hb16
  go_wp2_with fail
  refine (least_any _ lb w16 (slf_own F16.out.m) (by omega) HH2.out).mono ?_
  rintro e w17 ⟨rfl, hb17⟩
  have F17 := Lib.hid (F16.out.below hb17)
  clear hb17
  obtain ⟨⟨i1, i2⟩, ⟨i3, i4⟩⟩ := HBD.out
  generalize leastM la = A at *
  generalize leastM lb = B at *
  go_wp2_with fail
  refine (runs _ (HT.out.below F17.out.b)).mono ?_
  rintro e w18 ⟨rfl, hb18⟩
  go_wp2_with fail
  go_ret
  exact ⟨rfl, bthen F17.out.b hb18⟩
/-- stavelaw2.GramJoins. -/
theorem joins_any (fv1 fv2 xv1 xv2 : Value) (fs1 fs2 : List Fl) (xs1 xs2 : List Vl) (w : World) (hT : Typ w) (hf1 : SlF w.heap.size w fv1 fs1) (hl1 : fs1.length ≤ 9223372036854775807) (hh1 : ∀ f ∈ fs1, f.hi ≤ 9223372036854775807)
    (hf2 : SlF w.heap.size w fv2 fs2) (hl2 : fs2.length ≤ 9223372036854775807) (hh2 : ∀ f ∈ fs2, f.hi ≤ 9223372036854775807) (hx1 : SlV w.heap.size w xv1 xs1) (hxl1 : xs1.length ≤ 9223372036854775807) (hb1 : ∀ x ∈ xs1, x.big)
    (hx2 : SlV w.heap.size w xv2 xs2) (hxl2 : xs2.length ≤ 9223372036854775807) (hb2 : ∀ x ∈ xs2, x.big) : Calls Tryd.prog 7 #[fv1, fv2, xv1, xv2] w (Bit true w) := by
  have e1 := few_any fv1 xv1 fs1 xs1 w hf1 hx1 hl1 hxl1 hb1
  have e2 : ∀ w1, Below w.heap.size w w1 → Calls Tryd.prog 9 #[fv2, xv2] w1 (FewPost2 (fs2.take 6) ((xs2.take 6).map fewV) w1) := fun w1 hb => few_any fv2 xv2 fs2 xs2 w1 ((hf2.below hb).wider hb.size) ((hx2.below hb).wider hb.size) hl2 hxl2 hb2
  have a1 : (fs1.take 6).length ≤ 6 := by rw [List.length_take]; omega
  have a2 : (fs2.take 6).length ≤ 6 := by rw [List.length_take]; omega
  have a3 : ((xs1.take 6).map fewV).length ≤ 6 := by rw [List.length_map, List.length_take]; omega
  have a4 : ((xs2.take 6).map fewV).length ≤ 6 := by rw [List.length_map, List.length_take]; omega
  have b1 : ∀ f ∈ fs1.take 6, f.hi ≤ 9223372036854775807 := fun f hf => hh1 f (List.mem_of_mem_take hf)
  have b2 : ∀ f ∈ fs2.take 6, f.hi ≤ 9223372036854775807 := fun f hf => hh2 f (List.mem_of_mem_take hf)
  have c1 := few_all xs1
  have c2 := few_all xs2
  clear hf1 hf2 hx1 hx2 hl1 hl2 hxl1 hxl2 hb1 hb2 hh1 hh2
  generalize fs1.take 6 = la at *
  generalize fs2.take 6 = lb at *
  generalize (xs1.take 6).map fewV = xa at *
  generalize (xs2.take 6).map fewV = yb at *
  have key : (putErr la xa ≠ none ∨ putErr lb yb ≠ none) → putErr (la ++ lb) (xa ++ yb) = none → xa.length ≠ la.length := fun h h3 e => join_some h e h3
  cases h1 : putErr la xa with
  | some q1 =>
    cases h3 : putErr (la ++ lb) (xa ++ yb) with
    | some q3 =>
      cases h2 : putErr lb yb with
      | some q2 => exact joins_sss fv1 fv2 xv1 xv2 la lb xa yb w hT a1 a2 a3 a4 b1 b2 c1 c2 e1 e2 q1 h1 q2 h2 q3 h3
      | none => exact joins_sns fv1 fv2 xv1 xv2 la lb xa yb w hT a1 a2 a3 a4 b1 b2 c1 c2 e1 e2 q1 h1 h2 q3 h3
    | none =>
      have hne := key (Or.inl (by rw [h1]; simp)) h3
      cases h2 : putErr lb yb with
      | some q2 => exact joins_ssn fv1 fv2 xv1 xv2 la lb xa yb w hT a1 a2 a3 a4 b1 b2 c1 c2 e1 e2 q1 h1 q2 h2 h3 hne
      | none => exact joins_snn fv1 fv2 xv1 xv2 la lb xa yb w hT a1 a2 a3 a4 b1 b2 c1 c2 e1 e2 q1 h1 h2 h3 hne
  | none =>
    cases h2 : putErr lb yb with
    | some q2 =>
      cases h3 : putErr (la ++ lb) (xa ++ yb) with
      | some q3 => exact joins_nss fv1 fv2 xv1 xv2 la lb xa yb w hT a1 a2 a3 a4 b1 b2 c1 c2 e1 e2 h1 q2 h2 q3 h3
      | none => exact joins_nsn fv1 fv2 xv1 xv2 la lb xa yb w hT a1 a2 a3 a4 b1 b2 c1 c2 e1 e2 h1 q2 h2 h3 (key (Or.inr (by rw [h2]; simp)) h3)
    | none =>
      obtain ⟨h3, h4, h5⟩ := join_none h1 h2
      exact joins_nnn fv1 fv2 xv1 xv2 la lb xa yb w hT a1 a2 a3 a4 b1 b2 c1 c2 e1 e2 h1 h2 h3 h4 h5
end Go.Proofs.YtfmelofeedgaiaaDoor
