/-
  code.New: a new code, its rows; or the error.
-/
import Derived.Test.YtoklknjnegpaaaaDoorCRow
import Derived.Test.YtoklknjnegpaaaaDoorKind
import Derived.Test.YtoklknjnegpaaaaDoorFAdd
import Derived.Deep.RegionLaw
import Derived.Deep.RegionHeld3
import Derived.Deep.DrawnRows
namespace Go.Proofs.YtoklknjnegpaaaaDoor
open Go.RowKit Gf Cd Go.Deep
attribute [local go_sem ↓] Go.wp_at_zero Go.wp_at_succ
def rowsL (k n : Nat) : List (List UInt8) := (List.range n).map (rowB k)
theorem rowsL_length (k n : Nat) : (rowsL k n).length = n := by simp [rowsL]
theorem rowsL_getD {k n i : Nat} (h : i < n) : (rowsL k n).getD i [] = rowB k i := by simp [rowsL, List.getD, h]
theorem rowB_length (k a : Nat) : (rowB k a).length = k := tab_length ..
theorem rowB_nat {k a j : Nat} (h : j < k) : ((rowB k a).getD j 0).toNat = cf k a j := tab_nat _ h (cf_lt ..)
/-- A code lies in block c. -/
structure CodeIn (B : Nat) (w : World) (c k n : Nat) : Prop where
  k_ : w.cell? ⟨c, 0, none⟩ = some (.int .i64 k)
  rows : ∃ rv, w.cell? ⟨c, 1, none⟩ = some rv ∧ SlBs B w rv (rowsL k n)
  field : ∃ fb, w.cell? ⟨c, 2, none⟩ = some (.pointer (some ⟨fb, 0, none⟩)) ∧ FieldIn w fb ∧ fb < B
  lt : c < B
  small : 1 ≤ k ∧ k ≤ n ∧ n ≤ 8
theorem CodeIn.below {B c k n : Nat} {w w' : World} (h : CodeIn B w c k n) (hb : Below B w w') : CodeIn B w' c k n := by
  obtain ⟨h1, ⟨rv, h2, h3⟩, ⟨fb, h4, h5, h6⟩, h7, h8⟩ := h
  refine ⟨by rw [hb.cell (by exact h7)]; exact h1, ⟨rv, by rw [hb.cell (by exact h7)]; exact h2, h3.below hb⟩, ⟨fb, by rw [hb.cell (by exact h7)]; exact h4, ⟨fun i hi => ?_, ?_, fun a ha h0 => ?_⟩, h6⟩, h7, h8⟩
  · rw [hb.cell (by exact h6)]; exact h5.exp i hi
  · rw [hb.cell (by exact h6)]; exact h5.none_
  · rw [hb.cell (by exact h6)]; exact h5.log a ha h0
theorem CodeIn.wider {B B' c k n : Nat} {w : World} (h : CodeIn B w c k n) (hB : B ≤ B') : CodeIn B' w c k n := by
  obtain ⟨h1, ⟨rv, h2, h3⟩, ⟨fb, h4, h5, h6⟩, h7, h8⟩ := h
  exact ⟨h1, ⟨rv, h2, h3.wider hB⟩, ⟨fb, h4, h5, by omega⟩, by omega, h8⟩
set_option maxRecDepth 100000 in
theorem step_append_row (w : World) {ops : Array Oper} {o : Oper} {a : Act} {K : Act → World → Prop} {Q : Exit → Act → World → Prop} {E : Prop} (hgd : o.guard = none) (s x : Operand)
    (ho : o.op = .call { callee := .builtin .append, args := #[s, x], argTypes := #[53, 53] })
    (base : Nat) (v : Value) (n : Nat) (xs : List Value) (hsv : a.eval s = v) (hown : w.ownsRow base 24 1 v n xs)
    (b : Nat) (u : Value) (hx : a.eval x = .slice (some ⟨b, 0, none⟩) 1 1) (hb : w.cell? ⟨b, 0, none⟩ = some u) (hu : u.oneCell' = true) (h63 : n + 1 ≤ 100000) (hbase : base ≤ w.heap.size)
    (h : ∀ v' w', w'.ownsRow base 24 1 v' (n + 1) (xs ++ [u]) → Grew w v.ownBlock w' v'.ownBlock → K (a.put o.dst v') w') : if Region.wanted o (yielded ops a.tmps) = true then Oper.wp Tryd.prog o a w K Q else E := by
  have hw : Region.wanted o (yielded ops a.tmps) = true := by simp [Region.wanted, hgd]
  rw [if_pos hw]
  obtain ⟨i0, hi0, hz⟩ := Option.map_eq_some_iff.1 Tryd.info24
  simp only [Prod.mk.injEq] at hz
  obtain ⟨hz0, hz1, hz2⟩ := hz
  have hsrc : Src Tryd.prog 1 53 (.slice (some ⟨b, 0, none⟩) 1 1) 1 [u] w := Src.ofSlice _ Tryd.underlying53 ⟨b, 0, none⟩ 1 1 [u] rfl (fun j y hy => by
    match j, hy with
    | 0, hy => injection hy with hy; subst hy; simpa [Addr.add] using hb
    | j + 1, hy => simp at hy) (fun y hy => by rw [List.mem_singleton.1 hy]; exact hu)
  exact wp_append_src w s x 53 53 ho base 24 i0 (.slice none 0 0) 1 24 Tryd.underlying53 hi0 hz0 hz1 hz2 rfl v n xs hsv hown (.slice (some ⟨b, 0, none⟩) 1 1) 1 [u] hx hsrc (by unfold maxLen; omega) (by omega) hbase fun v' w' h1 h2 _ => h v' w' h1 h2
theorem own_one {w : World} {B e n : Nat} {v : Value} {xs : List Value} (h : w.ownsRow B e 1 v n xs) : v.oneCell' = true := by
  obtain ⟨g, c, rfl, _⟩ := own_slice h
  rfl
theorem cell_after {w2 wx w3 : World} {r r' : Option Nat} {c i : Nat} {x : Value} (hb : Below w2.heap.size w2 wx) (hg : Grew wx r w3 r') (hl : c < w2.heap.size) (hr : r ≠ some c) (h : w2.cell? ⟨c, i, none⟩ = some x) : w3.cell? ⟨c, i, none⟩ = some x := by
  rw [hg.cell (a := ⟨c, i, none⟩) (Nat.lt_of_lt_of_le hl hb.size) (fun e => hr e.symm), hb.cell (p := ⟨c, i, none⟩) hl]; exact h
theorem frozen_after {w2 wx w3 : World} {r r' : Option Nat} {c i : Nat} (hb : Below w2.heap.size w2 wx) (hg : Grew wx r w3 r') (hl : c < w2.heap.size) (hr : r ≠ some c) (h : w2.frozen? ⟨c, i, none⟩ = false) : w3.frozen? ⟨c, i, none⟩ = false := by
  rw [hg.frozen (a := ⟨c, i, none⟩) (Nat.lt_of_lt_of_le hl hb.size) (fun e => hr e.symm), hb.frozen (p := ⟨c, i, none⟩) hl]; exact h
/-- The three cells of a code. -/
def Row3 (w : World) (c k fb : Nat) (v : Value) : Prop := w.heap[c]? = some (.cells #[.int .i64 k, v, .pointer (some ⟨fb, 0, none⟩)] 100 (0, 0))
theorem Row3.set {w : World} {c k fb : Nat} {v : Value} (h : Row3 w c k fb v) (u : Value) : Row3 (w.setCell ⟨c, 1, none⟩ u) c k fb u := by
  unfold Row3 at *
  show (w.heap.modify c _)[c]? = _
  rw [Array.getElem?_modify, if_pos rfl, h]; rfl
theorem Row3.grew {w w' : World} {c k fb : Nat} {v : Value} {r r' : Option Nat} (h : Row3 w c k fb v) (hg : Grew w r w' r') (hr : r ≠ some c) : Row3 w' c k fb v := by
  unfold Row3 at *
  rw [hg.by_.block c (Array.getElem?_eq_some_iff.1 h).1 (fun e => hr e.symm)]; exact h
theorem Row3.lt {w : World} {c k fb : Nat} {v : Value} (h : Row3 w c k fb v) : c < w.heap.size := (Array.getElem?_eq_some_iff.1 h).1
theorem Row3.cells {w : World} {c k fb : Nat} {v : Value} (h : Row3 w c k fb v) : w.cell? ⟨c, 0, none⟩ = some (.int .i64 k) ∧ w.cell? ⟨c, 1, none⟩ = some v ∧ w.cell? ⟨c, 2, none⟩ = some (.pointer (some ⟨fb, 0, none⟩)) ∧ w.frozen? ⟨c, 1, none⟩ = false := by
  unfold Row3 at h
  refine ⟨?_, ?_, ?_, ?_⟩
  · rw [cell_of_row _ c 0 _ _ (0, 0) h]; rfl
  · rw [cell_of_row _ c 1 _ _ (0, 0) h]; rfl
  · rw [cell_of_row _ c 2 _ _ (0, 0) h]; rfl
  · unfold World.frozen?; rw [h]; simp
/-- A new code, or the error. -/
def NewCode (k n : Nat) (w : World) (e : Ending) (w' : World) : Prop := ∃ c, e = .returned (.tuple #[.pointer (some ⟨c, 0, none⟩), .nilIface]) ∧ CodeIn w'.heap.size w' c k n ∧ Below w.heap.size w w'
def RelNew (k n c fb : Nat) (w : World) (i : Value) (wr : World) : Prop :=
  ∃ (j : Nat) (v : Value) (us : List Value), j ≤ n ∧ i = .int .i64 j ∧ Row3 wr c k fb v ∧ OwnLs (c + 1) wr v us ((rowsL k n).take j) ∧ FieldIn wr fb ∧ Below w.heap.size w wr
theorem OwnLs.set_off {B g i : Nat} {w : World} {v x : Value} {us : List Value} {ls : List (List UInt8)} (h : OwnLs B w v us ls) (hg : g < B) : OwnLs B (w.setCell ⟨g, i, none⟩ x) v us ls :=
  h.grew (r := some g) (r' := some g) ⟨grownBy_set _ _ _ _, Or.inl rfl⟩ (fun k hk => by injection hk with hk; omega)
theorem own_rebase {B B' e n : Nat} {w : World} {v : Value} {xs : List Value} (h : w.ownsRow B e 1 v n xs) (hB : B' ≤ B) : w.ownsRow B' e 1 v n xs := by
  refine ⟨h.1, ?_⟩
  rcases h.2 with h1 | ⟨g', cap, cur, h1, h2, h3⟩
  · exact Or.inl h1
  · exact Or.inr ⟨g', cap, cur, h1, by omega, h3⟩
theorem take_next {α : Type} (l : List α) (k : Nat) (d : α) (hk : k < l.length) : l.take (k + 1) = l.take k ++ [l.getD k d] := by
  rw [List.take_succ_eq_append_getElem hk]; simp [List.getD, hk]
/-- A row that was made behind a slice of rows lies apart from it. -/
theorem OwnLs.snoc_new {B : Nat} {w wa wx w' : World} {v v' : Value} {us : List Value} {ls : List (List UInt8)} {u : Value} {l : List UInt8} (h : OwnLs B w v us ls) (hB : B ≤ w.heap.size) (hb : Below w.heap.size w wa)
    (hu : wa.ownsRow w.heap.size 5 1 u l.length (bytesV l)) (hx : Below wa.heap.size wa wx) (htop : w'.ownsRow B 24 1 v' (ls.length + 1) (us ++ [u])) (hg : Grew wx v.ownBlock w' v'.ownBlock) : OwnLs B w' v' (us ++ [u]) (ls ++ [l]) := by
  have hnew : ∀ k, u.ownBlock = some k → w.heap.size ≤ k := fun k hk => (own_block hu hk).1
  have ne : ∀ {x : Value} {e n : Nat} {xs : List Value}, w.ownsRow B e 1 x n xs → x.ownBlock = none ∨ x.ownBlock ≠ u.ownBlock := fun {x e n xs} hx => by
    cases hxb : x.ownBlock with
    | none => exact Or.inl rfl
    | some k => exact Or.inr fun q => by have := (own_block hx hxb).2; have := hnew k q.symm; omega
  refine ((h.below hb).below hx).snoc htop hg (own_rebase (own_below hu hx) hB) (fun j hj => ne (h.each j hj)) ?_
  rcases ne h.top with h1 | h1
  · rw [h1]
    cases u.ownBlock with
    | none => exact Or.inl rfl
    | some k => exact Or.inr (by simp)
  · exact Or.inr fun e => h1 e.symm
theorem relNew_next {k n c fb j : Nat} {w wr w2 w3 : World} {v v' u : Value} {us : List Value} {o : Obj} {T : List (List UInt8)} (hT : T = (rowsL k n).take j) (hr3 : Row3 wr c k fb v) (hO : OwnLs (c + 1) wr v us T) (hF : FieldIn wr fb) (hfb : fb < c) (hB : Below w.heap.size w wr) (hc : w.heap.size ≤ c)
    (hb : Below wr.drew.heap.size wr.drew w2) (hu : w2.ownsRow wr.drew.heap.size 5 1 u (rowB k j).length (bytesV (rowB k j))) (htop : w3.ownsRow (c + 1) 24 1 v' (T.length + 1) (us ++ [u])) (hg : Grew (w2.alloc o) v.ownBlock w3 v'.ownBlock) (hj : j < n) :
    RelNew k n c fb w (.int .i64 ((j : Int) + 1)) (w3.setCell ⟨c, 1, none⟩ v') := by
  subst hT
  have hcl := hr3.lt
  have hbw : Below wr.heap.size wr w2 := (Below.refl _ wr).drew.trans hb
  have hbx : Below wr.heap.size wr (w2.alloc o) := balloc hbw o
  have hvb : v.ownBlock ≠ some c := fun e => by have := (own_block hO.top e).1; omega
  have hvf : v.ownBlock ≠ some fb := fun e => by have := (own_block hO.top e).1; omega
  have hO3 := hO.snoc_new (by omega) hbw hu (one_below w2 o) htop hg
  have hlt3 : c < w3.heap.size := Nat.lt_of_lt_of_le (Nat.lt_of_lt_of_le hcl hbx.size) hg.size
  have hr3x : Row3 (w2.alloc o) c k fb v := by unfold Row3 at *; rw [hbx.block c hcl]; exact hr3
  refine ⟨j + 1, v', us ++ [u], by omega, by go_num, (hr3x.grew hg hvb).set v', ?_, ?_, ?_⟩
  · rw [take_next _ _ [] (by rw [rowsL_length]; exact hj), rowsL_getD hj]
    exact hO3.set_off (by omega)
  · refine FieldIn.grew (r := some c) (r' := some c) ((hF.below (by omega) hbx).grew hg hvf) ⟨grownBy_set _ _ _ _, Or.inl rfl⟩ (fun e => by injection e; omega)
  · refine Below.setCell ?_ hc _
    exact (hB.trans (hbx.mono hB.size)).trans (hg.below (Nat.le_trans hB.size hbx.size) fun k hk => by have := (own_block hO.top hk).1; omega)
theorem codeIn_of {k n c fb : Nat} {w wr : World} {v : Value} {us : List Value} (hr3 : Row3 wr c k fb v) (hO : OwnLs (c + 1) wr v us ((rowsL k n).take n)) (hF : FieldIn wr fb) (hfb : fb < c) (hB : Below w.heap.size w wr) (h : 1 ≤ k ∧ k ≤ n ∧ n ≤ 8) : NewCode k n w (.returned (.tuple #[.pointer (some ⟨c, 0, none⟩), .nilIface])) wr := by
  obtain ⟨c0, c1, c2, _⟩ := hr3.cells
  have := hr3.lt
  rw [List.take_of_length_le (by rw [rowsL_length]; omega)] at hO
  exact ⟨c, rfl, ⟨c0, ⟨v, c1, hO.slbs⟩, ⟨fb, c2, hF, by omega⟩, by omega, h⟩, hB⟩
set_option maxHeartbeats 2000000 in
set_option maxRecDepth 100000 in
theorem new_yes (k n : Nat) (w : World) (h1 : 1 ≤ k) (h2 : k ≤ n) (h3 : n ≤ 8) : Calls Tryd.prog 22 #[.int .i64 k, .int .i64 n] w (NewCode k n w) := by
  go_enter Tryd.func22, Tryd.ntmps22
  go_wp2_with (go_at_call 48; refine (make_any _).mono ?_; rintro e w1 ⟨rfl, hF, hz, hbl⟩; have HF := Lib.hid hF; have HZ := Lib.hid hz; have HB := Lib.hid hbl; clear hF hz hbl)
  have hw1 : w.heap.size < w1.heap.size := by have := HZ.out; omega
  go_loopw [26] (fun c wr => RelNew k n w1.heap.size w.heap.size w c wr) (fun c _ => n - (intOf c).toNat)
  case atStart =>
    refine ⟨0, nilB, [], Nat.zero_le _, rfl, ?_, ?_, ?_, ?_⟩
    · unfold Row3 nilB; exact heap_alloc_new w1 _
    · rw [List.take_zero]; exact ownLs_nil _ _
    · exact HF.out.below hw1 (one_below _ _)
    · exact bthen HB.out (one_below _ _)
  case round =>
    obtain ⟨j, v, us, hj, rfl, hr3, hown, hF, hb⟩ := hrel
    by_cases hlt : j < n
    · obtain ⟨c0, c1, c2, c3⟩ := hr3.cells
      have HR3 := Lib.hid hr3
      have HO := Lib.hid hown
      have HF2 := Lib.hid hF
      have HB2 := Lib.hid hb
      clear hr3 hown hF hb
      have hfl : w.heap.size < wr.heap.size := Nat.lt_of_lt_of_le hw1 (Nat.le_of_lt HR3.out.lt)
      have hcl : w1.heap.size < wr.heap.size := HR3.out.lt
      have hlj : ((rowsL k n).take j).length = j := by rw [List.length_take, rowsL_length]; omega
      have HLJ := Lib.hid hlj
      clear hlj
      obtain ⟨T, hT⟩ : ∃ T, T = (rowsL k n).take j := ⟨_, rfl⟩
      rw [← hT] at HO HLJ
      have HT := Lib.hid hT
      clear hT
      have HNE := Lib.hid (show v.ownBlock ≠ some w1.heap.size from fun e => by have := (own_block HO.out.top e).1; omega)
      go_wp2_with fail
      go_region_law (first | (refine step_append_row _ rfl (.tmp 33) (.tmp 41) (by rfl) (w1.heap.size + 1) _ _ us (by rfl) (own_below HO.out.top (by repeat (first | exact Below.refl _ _ | assumption | apply Below.drew | apply below_drewN | refine balloc ?_ _ | refine bthen ?_ HB3.out))) _ _ (by rfl) (by simp) (own_one HU.out) (by have := HLJ.out; omega) (by have := HB3.out.size; simp at *; omega) ?_; intro v' w3 hown3 hg3; have c1d := cell_after (by repeat (first | exact Below.refl _ _ | assumption | apply Below.drew | apply below_drewN | refine balloc ?_ _)) hg3 hcl2 HNE.out c1b; have c3d := frozen_after (by repeat (first | exact Below.refl _ _ | assumption | apply Below.drew | apply below_drewN | refine balloc ?_ _)) hg3 hcl2 HNE.out c3b; have HO3 := Lib.hid hown3; have HG3 := Lib.hid hg3; obtain ⟨gv, cv, rfl, _⟩ := own_slice hown3; clear hown3 hg3) | (go_simp; go_at_call 49; (with_reducible refine (row_any k j w.heap.size _ (by repeat (first | exact HF2.out | apply FieldIn.drewN | apply FieldIn.drew)) (by omega) (by omega)).mono ?_); rintro e w2 ⟨u, rfl, hu, hb2⟩; have c1b := (hb2.cell (p := ⟨w1.heap.size, 1, none⟩) hcl).trans c1; have c3b := (hb2.frozen (p := ⟨w1.heap.size, 1, none⟩) hcl).trans c3; have hcl2 := Nat.lt_of_lt_of_le hcl hb2.size; have HU := Lib.hid hu; obtain ⟨gu, cu, rfl, _⟩ := own_slice hu; have HB3 := Lib.hid hb2; clear hu hb2))
      all_goals
        go_wp2_with fail
        go_roundw
        case rel => exact relNew_next HT.out HR3.out HO.out HF2.out hw1 HB2.out (by omega) HB3.out HU.out HO3.out HG3.out hlt
        case measure => simp [intOf]; omega
    · obtain rfl : j = n := by omega
      have HR3 := Lib.hid hr3
      have HO := Lib.hid hown
      have HF2 := Lib.hid hF
      have HB2 := Lib.hid hb
      clear hr3 hown hF hb
      go_wp2_with fail
      exact bodyPost_ret (v := .tuple #[.pointer (some ⟨w1.heap.size, 0, none⟩), .nilIface]) (by simp [results, Tryd.results22, go_sem]) rfl (codeIn_of HR3.out HO.out HF2.out hw1 HB2.out ⟨h1, h2, h3⟩)
end Go.Proofs.YtoklknjnegpaaaaDoor
