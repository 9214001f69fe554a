/-
  code.different: the first part of each number, in their order.
-/
import Derived.Test.YtoklknjnegpaaaaDoorCWrong
namespace Go.Proofs.YtoklknjnegpaaaaDoor
open Go.RowKit Gf Cd
theorem rev_ind {α : Type} {motive : List α → Prop} (nil : motive []) (append_singleton : ∀ l a, motive l → motive (l ++ [a])) (l : List α) : motive l := by
  rw [← List.reverse_reverse l]
  induction l.reverse with
  | nil => exact nil
  | cons a m ih => rw [List.reverse_cons]; exact append_singleton _ _ ih
def hasP (l : List Pt) (a : Int) : Bool := l.any fun q => q.1 == a
def diffP (ps : List Pt) : List Pt := ps.foldl (fun acc p => if hasP acc p.1 then acc else acc ++ [p]) []
theorem diffP_snoc (l : List Pt) (p : Pt) : diffP (l ++ [p]) = if hasP (diffP l) p.1 then diffP l else diffP l ++ [p] := by
  unfold diffP; rw [List.foldl_append]; rfl
theorem hasP_snoc (l : List Pt) (p : Pt) (a : Int) : hasP (l ++ [p]) a = (hasP l a || p.1 == a) := by simp [hasP]
/-- Of the parts of a row the same numbers are there. -/
theorem diffP_has (a : Int) : ∀ l : List Pt, hasP (diffP l) a = hasP l a := by
  intro l
  induction l using rev_ind with
  | nil => rfl
  | append_singleton l p ih =>
    rw [diffP_snoc, hasP_snoc]
    split
    · rename_i h
      by_cases e : p.1 = a
      · subst e; rw [h, ← ih, h]; rfl
      · rw [ih, show (p.1 == a) = false by simpa using e, Bool.or_false]
    · rw [hasP_snoc, ih]
theorem diffP_sub : ∀ l : List Pt, ∀ p ∈ diffP l, p ∈ l := by
  intro l
  induction l using rev_ind with
  | nil => intro p hp; cases hp
  | append_singleton l q ih =>
    intro p hp
    rw [diffP_snoc] at hp
    split at hp
    · exact List.mem_append_left _ (ih p hp)
    · rcases List.mem_append.1 hp with h | h
      · exact List.mem_append_left _ (ih p h)
      · exact List.mem_append_right _ h
theorem hasP_mem {l : List Pt} {a : Int} : hasP l a = true ↔ a ∈ l.map (·.1) := by
  simp [hasP]
theorem diffP_nodup : ∀ l : List Pt, ((diffP l).map (·.1)).Nodup := by
  intro l
  induction l using rev_ind with
  | nil => exact List.nodup_nil
  | append_singleton l p ih =>
    rw [diffP_snoc]
    split
    · exact ih
    · rename_i h
      rw [List.map_append, List.nodup_append]
      refine ⟨ih, by simp, fun a ha b hb => ?_⟩
      rw [List.map_cons, List.map_nil, List.mem_singleton] at hb
      subst hb
      intro e
      subst e
      exact h (hasP_mem.2 ha)
theorem diffP_length_le (l : List Pt) : (diffP l).length ≤ l.length := by
  induction l using rev_ind with
  | nil => exact Nat.le_refl _
  | append_singleton l p ih =>
    rw [diffP_snoc]
    split
    · simp; omega
    · simp; omega
def cellsPt (q : Pt × Value) : List Value := [.int .i64 q.1.1, q.2]
theorem flat2_len (qs : List (Pt × Value)) : (qs.flatMap cellsPt).length = qs.length * 2 := by
  induction qs with
  | nil => rfl
  | cons q qs ih => rw [List.flatMap_cons, List.length_append, ih]; simp [cellsPt]; omega
theorem flat2_at : ∀ (qs : List (Pt × Value)) (i : Nat) (h : i < qs.length), (qs.flatMap cellsPt)[i * 2]? = some (.int .i64 qs[i].1.1) ∧ (qs.flatMap cellsPt)[i * 2 + 1]? = some qs[i].2
  | [], i, h => by simp at h
  | q :: qs, 0, _ => by simp [cellsPt]
  | q :: qs, i + 1, h => by
    have := flat2_at qs i (by simpa using h)
    rw [List.flatMap_cons]
    have e1 : (i + 1) * 2 = (cellsPt q).length + i * 2 := by simp [cellsPt]; omega
    have e2 : (i + 1) * 2 + 1 = (cellsPt q).length + (i * 2 + 1) := by simp [cellsPt]; omega
    rw [e2, e1, List.getElem?_append_right (by omega), List.getElem?_append_right (by omega), Nat.add_sub_cancel_left, Nat.add_sub_cancel_left]
    simpa using this
/-- A row of parts of the call's own. -/
theorem slp_own {B Bd : Nat} {w : World} {v : Value} {qs : List (Pt × Value)} (h : w.ownsRow B 65 2 v qs.length (qs.flatMap cellsPt)) (hd : ∀ q ∈ qs, SlB Bd w q.2 q.1.2) (hB : Bd ≤ w.heap.size) : SlP w.heap.size w v (qs.map (·.1)) := by
  have hh := h
  rcases hh.2 with ⟨rfl, h0⟩ | ⟨g, cap, cur, rfl, _, hg, hle, _⟩
  · have : qs = [] := List.eq_nil_of_length_eq_zero h0
    subst this
    exact Or.inl ⟨rfl, _, _, rfl⟩
  · rcases Nat.eq_zero_or_pos qs.length with h0 | h0
    · have : qs = [] := List.eq_nil_of_length_eq_zero h0
      subst this
      exact Or.inl ⟨rfl, _, _, rfl⟩
    · refine Or.inr ⟨g, 0, cap, by rw [List.length_map], (Array.getElem?_eq_some_iff.1 hg).1, fun i hi => ?_, by rw [List.length_map]; exact h0, by rw [List.length_map]; exact hle⟩
      have hi' : i < qs.length := by simpa using hi
      obtain ⟨e1, e2⟩ := flat2_at qs i hi'
      have hc := holds_own h
      have hq : (qs.map (·.1)).getD i pt0 = qs[i].1 := by simp [List.getD, hi']
      rw [hq, Nat.zero_add]
      exact ⟨hc _ _ e1, qs[i].2, hc _ _ e2, (hd _ (List.getElem_mem hi')).wider hB⟩
theorem Tryd.info65 : (Tryd.prog.info? 65).map (fun i => (i.zero, i.size, i.bytes)) = some (some (.agg #[.int .i64 0, .slice none 0 0]), 2, 32) := by kernel_rfl
set_option maxRecDepth 100000 in
theorem part_src {w : World} {b : Nat} {c0 c1 : Value} (hb0 : w.cell? ⟨b, 0, none⟩ = some c0) (hb1 : w.cell? ⟨b, 1, none⟩ = some c1) (h0 : c0.oneCell' = true) (h1 : c1.oneCell' = true) :
    Src Tryd.prog 2 63 (.slice (some ⟨b, 0, none⟩) 1 1) 1 [c0, c1] w :=
  Src.ofSlice _ Tryd.underlying63 ⟨b, 0, none⟩ 1 1 [c0, c1] rfl (fun j y hy => by
    match j, hy with
    | 0, hy => injection hy with hy; subst hy; simpa [Addr.add] using hb0
    | 1, hy => injection hy with hy; subst hy; simpa [Addr.add] using hb1
    | j + 2, hy => simp at hy) (fun y hy => by
    rcases List.mem_cons.1 hy with rfl | hy
    · exact h0
    · rw [List.mem_singleton.1 hy]; exact h1)
theorem wpList_append_part (w : World) {ops : Array Oper} {rest : List Oper} {o : Oper} {a : Act} {Q : Exit → Act → World → Prop} (hgd : o.guard = none) (s x : Operand)
    (ho : o.op = .call { callee := .builtin .append, args := #[s, x], argTypes := #[63, 63] })
    (base : Nat) (v : Value) (n : Nat) (xs : List Value) (hsv : a.eval s = v) (hown : w.ownsRow base 65 2 v n xs)
    (b : Nat) (c0 c1 : Value) (hx : a.eval x = .slice (some ⟨b, 0, none⟩) 1 1) (hb0 : w.cell? ⟨b, 0, none⟩ = some c0) (hb1 : w.cell? ⟨b, 1, none⟩ = some c1) (h0 : c0.oneCell' = true) (h1 : c1.oneCell' = true) (h63 : n + 1 ≤ 100000) (hbase : base ≤ w.heap.size)
    (h : ∀ v' w', w'.ownsRow base 65 2 v' (n + 1) (xs ++ [c0, c1]) → Grew w v.ownBlock w' v'.ownBlock → wpList Tryd.prog ops Q rest (a.put o.dst v') w') : wpList Tryd.prog ops Q (o :: rest) a w := by
  obtain ⟨i0, hi0, hz⟩ := Option.map_eq_some_iff.1 Tryd.info65
  simp only [Prod.mk.injEq] at hz
  obtain ⟨hz0, hz1, hz2⟩ := hz
  exact wpList_append_src w hgd s x 63 63 ho base 65 i0 (.agg #[.int .i64 0, .slice none 0 0]) 2 32 Tryd.underlying63 hi0 hz0 hz1 hz2 rfl v n xs hsv hown (.slice (some ⟨b, 0, none⟩) 1 1) 1 [c0, c1] hx (part_src hb0 hb1 h0 h1) (by unfold maxLen; omega) (by omega) hbase fun v' w' h1 h2 _ => h v' w' h1 h2
/-- Which numbers were seen. -/
def Seen (w : World) (g : Nat) (l : List Pt) : Prop := ∃ cs T, w.heap[g]? = some (.cells cs T (0, 0)) ∧ cs.size = 8 ∧ ∀ a : Nat, a < 8 → cs[a]? = some (.bool (hasP l a))
theorem Seen.cell {w : World} {g a : Nat} {l : List Pt} (h : Seen w g l) (ha : a < 8) : w.cell? ⟨g, a, none⟩ = some (.bool (hasP l a)) ∧ w.frozen? ⟨g, a, none⟩ = false ∧ g < w.heap.size := by
  obtain ⟨cs, T, h1, h2, h3⟩ := h
  refine ⟨?_, ?_, (Array.getElem?_eq_some_iff.1 h1).1⟩
  · rw [cell_of_row _ g a cs T (0, 0) h1]; exact h3 a ha
  · unfold World.frozen?; rw [h1]; simp
theorem Seen.below {w w' : World} {g : Nat} {l : List Pt} (h : Seen w g l) (hb : Below w.heap.size w w') : Seen w' g l := by
  obtain ⟨cs, T, h1, h2⟩ := h
  exact ⟨cs, T, by rw [hb.block g (Array.getElem?_eq_some_iff.1 h1).1]; exact h1, h2⟩
theorem Seen.grew {w w' : World} {g : Nat} {l : List Pt} {r r' : Option Nat} (h : Seen w g l) (hg : Grew w r w' r') (hr : r ≠ some g) : Seen w' g l := by
  obtain ⟨cs, T, h1, h2⟩ := h
  exact ⟨cs, T, by rw [hg.by_.block g (Array.getElem?_eq_some_iff.1 h1).1 (fun e => hr e.symm)]; exact h1, h2⟩
theorem Seen.set {w : World} {g a : Nat} {l : List Pt} {p : Pt} (h : Seen w g l) (ha : a < 8) (hp : p.1 = a) : Seen (w.setCell ⟨g, a, none⟩ (.bool true)) g (l ++ [p]) := by
  obtain ⟨cs, T, h1, h2, h3⟩ := h
  refine ⟨cs.setIfInBounds a (.bool true), T, ?_, by simpa using h2, fun b hb => ?_⟩
  · show (w.heap.modify g _)[g]? = _
    rw [Array.getElem?_modify, if_pos rfl, h1]; rfl
  · rw [hasP_snoc]
    by_cases e : b = a
    · subst e
      rw [Array.getElem?_setIfInBounds_self_of_lt (by omega), hp]
      simp
    · rw [Array.getElem?_setIfInBounds_ne (fun q => e q.symm), h3 b hb, hp, show ((a : Int) == (b : Int)) = false by simpa using fun q : (a : Int) = b => e (by omega), Bool.or_false]
theorem Seen.same {w : World} {g : Nat} {l l' : List Pt} (h : Seen w g l) (he : ∀ a : Nat, hasP l a = hasP l' a) : Seen w g l' := by
  obtain ⟨cs, T, h1, h2, h3⟩ := h
  exact ⟨cs, T, h1, h2, fun a ha => by rw [h3 a ha, he a]⟩
/-- New parts. -/
def PartsR (Bd : Nat) (ps : List Pt) (w : World) (e : Ending) (w' : World) : Prop := ∃ (v : Value) (qs : List (Pt × Value)), e = .returned v ∧ qs.map (·.1) = ps ∧ w'.ownsRow w.heap.size 65 2 v qs.length (qs.flatMap cellsPt) ∧ (∀ q ∈ qs, SlB Bd w' q.2 q.1.2) ∧ Below w.heap.size w w'
def RelDi (Bd : Nat) (ps : List Pt) (w : World) (v i : Value) (wr : World) : Prop :=
  ∃ (k : Nat) (qs : List (Pt × Value)), k ≤ ps.length ∧ i = .int .i64 k ∧ qs.map (·.1) = diffP (ps.take k) ∧ wr.ownsRow (w.heap.size + 1) 65 2 v qs.length (qs.flatMap cellsPt) ∧ (∀ q ∈ qs, SlB Bd wr q.2 q.1.2) ∧ Seen wr w.heap.size (ps.take k) ∧ Below w.heap.size w wr
theorem relDi_skip {Bd k : Nat} {ps : List Pt} {w wr w2 : World} {v : Value} {qs : List (Pt × Value)} (hBd : Bd ≤ w.heap.size) (hk : k < ps.length) (h1 : qs.map (·.1) = diffP (ps.take k)) (hown : wr.ownsRow (w.heap.size + 1) 65 2 v qs.length (qs.flatMap cellsPt)) (hd : ∀ q ∈ qs, SlB Bd wr q.2 q.1.2)
    (hs : Seen wr w.heap.size (ps.take k)) (hb : Below w.heap.size w wr) (hb2 : Below wr.heap.size wr w2) (hp : hasP (ps.take k) (ps.getD k pt0).1 = true) : RelDi Bd ps w v (.int .i64 ((k : Int) + 1)) w2 := by
  have ht := take_next ps k pt0 hk
  refine ⟨k + 1, qs, by omega, by go_num, ?_, own_below hown hb2, fun q hq => (hd q hq).below (Below.mono hb2 (Nat.le_trans hBd hb.size)), ?_, bthen hb hb2⟩
  · rw [ht, diffP_snoc, diffP_has, hp, if_pos rfl]; exact h1
  · rw [ht]
    refine (hs.below hb2).same fun a => ?_
    rw [hasP_snoc]
    by_cases e : (ps.getD k pt0).1 = a
    · rw [← e, hp]; rfl
    · rw [show ((ps.getD k pt0).1 == (a : Int)) = false by simpa using e, Bool.or_false]
theorem own_rebase' {B B' e s n : Nat} {w : World} {v : Value} {xs : List Value} (h : w.ownsRow B e s v n xs) (hB : B' ≤ B) : w.ownsRow B' e s v n xs := by
  refine ⟨h.1, ?_⟩
  rcases h.2 with h1 | ⟨g', cap, cur, h1, h2, h3⟩
  · exact Or.inl h1
  · exact Or.inr ⟨g', cap, cur, h1, by omega, h3⟩
theorem relDi_take {Bd k a : Nat} {ps : List Pt} {w wr wx wy w2 : World} {v v' u : Value} {qs : List (Pt × Value)} {d : List UInt8} (hBd : Bd ≤ w.heap.size) (hk : k < ps.length) (h1 : qs.map (·.1) = diffP (ps.take k)) (hown : wr.ownsRow (w.heap.size + 1) 65 2 v qs.length (qs.flatMap cellsPt)) (hd : ∀ q ∈ qs, SlB Bd wr q.2 q.1.2)
    (hs : Seen wr w.heap.size (ps.take k)) (hb : Below w.heap.size w wr) (hp : hasP (ps.take k) (ps.getD k pt0).1 = false) (hpa : ps.getD k pt0 = ((a : Int), d)) (ha : a < 8) (hu : SlB Bd wr u d) (hx : Below wr.heap.size wr wx) (hy : Below (wx.setCell ⟨w.heap.size, a, none⟩ (.bool true)).heap.size (wx.setCell ⟨w.heap.size, a, none⟩ (.bool true)) wy)
    (hown2 : w2.ownsRow (w.heap.size + 1) 65 2 v' (qs.length + 1) (qs.flatMap cellsPt ++ [.int .i64 a, u])) (hg : Grew wy v.ownBlock w2 v'.ownBlock) : RelDi Bd ps w v' (.int .i64 ((k : Int) + 1)) w2 := by
  have ht := take_next ps k pt0 hk
  have hvb : ∀ q, v.ownBlock = some q → w.heap.size + 1 ≤ q := fun q hq => (hown.lt q hq).1
  have hsb := (hs.cell (a := 0) (by omega)).2.2
  have hbx : Below w.heap.size w wx := bthen hb hx
  have hbs : Below w.heap.size w (wx.setCell ⟨w.heap.size, a, none⟩ (.bool true)) := hbx.setCell (Nat.le_refl _) _
  have hby : Below w.heap.size w wy := bthen hbs hy
  have hb2 : Below w.heap.size w w2 := hby.trans (hg.below hby.size fun q hq => by have := hvb q hq; omega)
  have hdat : ∀ (x : Value) (l : List UInt8), SlB Bd wr x l → SlB Bd w2 x l := fun x l h => by
    refine h.mono fun b o hl => ?_
    have e1 := hb2.cell (p := ⟨b, o, none⟩) (show b < w.heap.size by omega)
    have e2 := hb.cell (p := ⟨b, o, none⟩) (show b < w.heap.size by omega)
    rw [e1, e2]
  refine ⟨k + 1, qs ++ [(((a : Int), d), u)], by omega, by go_num, ?_, ?_, ?_, ?_, hb2⟩
  · rw [List.map_append, h1, ht, diffP_snoc, diffP_has, hp, if_neg (by decide), hpa]; rfl
  · rw [List.length_append, List.flatMap_append]; exact hown2
  · intro q hq
    rcases List.mem_append.1 hq with h | h
    · exact hdat _ _ (hd q h)
    · rw [List.mem_singleton.1 h]; exact hdat _ _ hu
  · rw [ht]
    refine Seen.grew ((Seen.set (hs.below hx) ha (by rw [hpa])).below hy) hg fun e => ?_
    have := hvb _ e; omega
set_option maxHeartbeats 2000000 in
set_option maxRecDepth 100000 in
theorem different_any (Bd : Nat) (v : Value) (ps : List Pt) (w : World) (hv : SlP Bd w v ps) (hBd : Bd ≤ w.heap.size) (hl : ps.length ≤ 1000) (hat : ∀ p ∈ ps, 0 ≤ p.1 ∧ p.1 < 8) : Calls Tryd.prog 56 #[v] w (PartsR Bd (diffP ps) w) := by
  have HV := Lib.hid hv
  obtain ⟨a1, cap1, rfl, hcap⟩ := hv.len
  have HA := Lib.hid hat
  clear hv hat
  go_enter Tryd.func56, Tryd.ntmps56
  go_wp2_with fail
  go_loopw [4, 9] (fun v i wr => RelDi Bd ps w v i wr) (fun _ i _ => ps.length - (intOf i).toNat)
  case atStart =>
    refine ⟨0, [], Nat.zero_le _, rfl, rfl, World.ownsRow_nil _ _ _ _, (by intro q hq; cases hq), ?_, one_below _ _⟩
    refine ⟨_, _, heap_alloc_new w _, by rfl, fun a ha => ?_⟩
    match a, ha with
    | 0, _ => rfl
    | 1, _ => rfl
    | 2, _ => rfl
    | 3, _ => rfl
    | 4, _ => rfl
    | 5, _ => rfl
    | 6, _ => rfl
    | 7, _ => rfl
    | a + 8, ha => omega
  case round =>
    obtain ⟨k, qs, hk, rfl, hq1, hown, hd, hs, hb⟩ := hrel
    by_cases hlt : k < ps.length
    · obtain ⟨b, o, cap, e1, hcap', hbB, hq, u, hu1, hu2⟩ := (HV.out.below (Below.mono hb hBd)).part hlt
      injection e1 with e1 _ e2
      subst e1 e2
      have hr := HA.out _ (show ps.getD k pt0 ∈ ps by simp [List.getD, hlt])
      obtain ⟨a, ha⟩ : ∃ a : Nat, (ps.getD k pt0).1 = (a : Int) := ⟨(ps.getD k pt0).1.toNat, by omega⟩
      rw [ha] at hr hq
      have ha8 : a < 8 := by omega
      obtain ⟨s1, s2, s3⟩ := hs.cell ha8
      have HPA := Lib.hid (show ps.getD k pt0 = ((a : Int), (ps.getD k pt0).2) by rw [← ha])
      obtain ⟨au, cu, rfl, _⟩ := hu2.len
      have HU := Lib.hid hu2
      have HQ := Lib.hid hq1
      have HO := Lib.hid hown
      have HD := Lib.hid hd
      have HSE := Lib.hid hs
      have HB := Lib.hid hb
      have hbl : b < wr.heap.size := Nat.lt_of_lt_of_le (Nat.lt_of_lt_of_le hbB hBd) hb.size
      have hne : w.heap.size ≠ wr.heap.size := by omega
      have HP := Lib.hid (show hasP (ps.take k) (ps.getD k pt0).1 = hasP (ps.take k) (a : Int) by rw [ha])
      clear hu2 hq1 hown hd hs hb ha hbB
      generalize (ps.getD k pt0).2 = dat at *
      have hal : (a : Int) < 8 := by omega
      cases hh : hasP (ps.take k) (a : Int)
      · rw [hh] at s1 HP
        clear hh
        have hql : qs.length ≤ 1000 := by
          have e1 := congrArg List.length HQ.out
          rw [List.length_map] at e1
          have e2 := diffP_length_le (ps.take k)
          rw [List.length_take] at e2
          omega
        have HO2 := Lib.hid (fun o1 o2 => ((World.ownsRow.kept HO.out (grownBy_set wr w.heap.size a (.bool true)) (Or.inr fun e => by have := (HO.out.lt _ e).1; omega)).alloc o1).alloc o2)
        have HC3 := Lib.hid (show qs.length + 1 ≤ 100000 by omega)
        have HC4 := Lib.hid (fun o1 o2 => show w.heap.size + 1 ≤ (((wr.setCell ⟨w.heap.size, a, none⟩ (.bool true)).alloc o1).alloc o2).heap.size from Nat.le_trans (Nat.le_trans (by omega) ((Below.refl 0 wr).setCell (p := ⟨w.heap.size, a, none⟩) (Nat.zero_le _) (.bool true)).size) (balloc (one_below _ o1) o2).size)
        clear hql
        go_wp2_with (at_builtin; refine wpList_append_part _ rfl (.tmp 21) (.tmp 23) rfl (w.heap.size + 1) _ _ _ rfl (HO2.out _ _) (wr.heap.size + 1) (.int .i64 a) (.slice au dat.length cu) rfl ?_ ?_ rfl rfl HC3.out (HC4.out _ _) ?_; rotate_right; intro v2 w2 hown2 hg2; have HOW := Lib.hid hown2; have HG := Lib.hid hg2; clear hown2 hg2)
        go_roundw
        case rel => exact relDi_take hBd hlt HQ.out HO.out HD.out HSE.out HB.out HP.out HPA.out ha8 HU.out (Below.refl _ _) (balloc (one_below _ _) _) HOW.out HG.out
        case measure => simp [intOf]; omega
      · rw [hh] at s1 HP
        clear hh
        go_wp2_with fail
        go_roundw
        case rel => exact relDi_skip hBd hlt HQ.out HO.out HD.out HSE.out HB.out (one_below _ _) HP.out
        case measure => simp [intOf]; omega
    · obtain rfl : k = ps.length := by omega
      have HQ := Lib.hid hq1
      have HO := Lib.hid hown
      have HD := Lib.hid hd
      have HB := Lib.hid hb
      clear hq1 hown hd hb hs
      go_wp2_with fail
      go_ret
      exact ⟨_, qs, rfl, by rw [HQ.out, List.take_length], own_rebase' HO.out (by omega), HD.out, HB.out⟩
end Go.Proofs.YtoklknjnegpaaaaDoor
