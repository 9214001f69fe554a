/-
  stavelaw2.few: fields and values that aren't many, nor great.
-/
import Derived.Test.YtoflfbcjlddjaaaDoorGFewNil
import Derived.BigRegion
import Derived.Deep.RegionHeld3
namespace Go.Proofs.YtoflfbcjlddjaaaDoor
open Go.RowKit

def cutT (n : Nat) (s : ByteArray) : ByteArray := s.extract 0 (min s.size n)
def fewV (x : Vl) : Vl := ⟨x.n, cutT 40 x.s, (x.l.take 4).map (cutT 20)⟩
/-- A value that came in: no machine holds more. -/
structure Vl.big (x : Vl) : Prop where
  s : x.s.size ≤ 9223372036854775807
  l : x.l.length ≤ 9223372036854775807
  t : ∀ s ∈ x.l, s.size ≤ 9223372036854775807

theorem step_append_src {P : Program} (w : World) {ops : Array Oper} {o : Oper} {a : Act} {K : Act → World → Prop} {Q : Exit → Act → World → Prop} {E : Prop} (hgd : o.guard = none) (s x : Operand) (t tx : TypeId)
    (ho : o.op = .call { callee := .builtin .append, args := #[s, x], argTypes := #[t, tx] })
    (base : Nat) (e : TypeId) (i : TypeInfo) (z : Value) (size bytes : Nat) (ht : P.underlying t = some (.slice e)) (hi : P.info? e = some i) (hz : i.zero = some z)
    (hsize : i.size = size) (hby : i.bytes = bytes) (hzs : z.cells.size = size)
    (v : Value) (n : Nat) (xs : List Value) (hsv : a.eval s = v) (hown : w.ownsRow base e size v n xs)
    (y : Value) (m : Nat) (news : List Value) (hx : a.eval x = y) (hs : Src P size tx y m news w)
    (h63 : n + m ≤ maxLen) (hbytes : (n + m) * bytes ≤ 140737488355328) (hbase : base ≤ w.heap.size)
    (h : ∀ v' w', w'.ownsRow base e size v' (n + m) (xs ++ news) → Grew w v.ownBlock w' v'.ownBlock → (v' = .slice none 0 0 ↔ v = .slice none 0 0 ∧ m = 0) → K (a.put o.dst v') w') :
    if Region.wanted o (yielded ops a.tmps) = true then Oper.wp P o a w K Q else E := by
  have hw : Region.wanted o (yielded ops a.tmps) = true := by simp [Region.wanted, hgd]
  rw [if_pos hw]
  exact wp_append_src w s x t tx ho base e i z size bytes ht hi hz hsize hby hzs v n xs hsv hown y m news hx hs h63 hbytes hbase h

theorem cutT_eq (n : Nat) (s : ByteArray) : s.extract 0 (if ((n : Int) < s.size) then (n : Int) else s.size).toNat = cutT n s := by
  unfold cutT
  congr 1
  split <;> omega

theorem cut40 (s : ByteArray) : s.extract 0 (if ((40 : Int) < s.size) then (40 : Int) else s.size).toNat = cutT 40 s := cutT_eq 40 s
theorem cut20 (s : ByteArray) : s.extract 0 (if ((20 : Int) < s.size) then (20 : Int) else s.size).toNat = cutT 20 s := cutT_eq 20 s

/-- The value that is being made, at block tb. -/
structure XAt (tb B : Nat) (n : Int) (s : ByteArray) (l : List ByteArray) (w : World) : Prop where
  c0 : w.cell? ⟨tb, 0, none⟩ = some (.int .i64 n)
  c1 : w.cell? ⟨tb, 1, none⟩ = some (.string s)
  c2 : ∃ lv, w.cell? ⟨tb, 2, none⟩ = some lv ∧ TextsV B w l lv
  f2 : w.frozen? ⟨tb, 2, none⟩ = false
def RelIn (tb : Nat) (x : Vl) (s : ByteArray) (w : World) (c : Value) (wr : World) : Prop :=
  ∃ j : Nat, j ≤ x.l.length ∧ j ≤ 4 ∧ c = .int .i64 j ∧ XAt tb (tb + 1) x.n s ((x.l.take j).map (cutT 20)) wr ∧ Grew w (some tb) wr (some tb)

theorem relIn_next {tb : Nat} {x : Vl} {s t u : ByteArray} {W1 wr w' : World} {va : Option Addr} {vcap j : Nat} {v' : Value} (hX : XAt tb (tb + 1) x.n s ((x.l.take j).map (cutT 20)) wr)
    (hx2 : wr.cell? ⟨tb, 2, none⟩ = some (.slice va j vcap)) (hx3 : wr.ownsRow (tb + 1) 9 1 (.slice va j vcap) j (((x.l.take j).map (cutT 20)).map Value.string)) (hg : Grew W1 (some tb) wr (some tb)) (hW1 : W1.heap.size = tb + 1)
    (hj : j < x.l.length) (h4 : j < 4) (ht : x.l.getD j ByteArray.empty = t) (hu : u = cutT 20 t) (hg3 : Grew ((wr.alloc (.cells #[.string u] 9)).drew) (Value.slice va j vcap).ownBlock w' v'.ownBlock)
    (hown : w'.ownsRow (tb + 1) 9 1 v' (j + 1) (((x.l.take j).map (cutT 20)).map Value.string ++ [.string u])) : RelIn tb x s W1 (.int .i64 ((j : Int) + 1)) (w'.setCell ⟨tb, 2, none⟩ v') := by
  have hlo : ∀ k, (Value.slice va j vcap).ownBlock = some k → tb + 1 ≤ k := fun k hk => (hx3.lt k hk).1
  have hlt : tb < wr.heap.size := World.block_lt_of_cell? wr ⟨tb, 2, none⟩ hx2
  have hlt2 : tb < ((wr.alloc (.cells #[.string u] 9)).drew).heap.size := by simp; omega
  have hne : some tb ≠ (Value.slice va j vcap).ownBlock := fun e => by have := hlo tb e.symm; omega
  have old : ∀ i, w'.cell? ⟨tb, i, none⟩ = wr.cell? ⟨tb, i, none⟩ := fun i => (hg3.cell (a := ⟨tb, i, none⟩) hlt2 hne).trans (World.cell?_alloc_lt wr _ ⟨tb, i, none⟩ hlt)
  have n0 : (⟨tb, 2, none⟩ : Addr) ≠ ⟨tb, 0, none⟩ := by simp
  have n1 : (⟨tb, 2, none⟩ : Addr) ≠ ⟨tb, 1, none⟩ := by simp
  refine ⟨j + 1, by omega, by omega, by simp, ⟨?_, ?_, ⟨v', World.cell?_setCell_same _ _ _ ((old 2).trans hx2), ?_⟩, ?_⟩, ?_⟩
  · rw [World.cell?_setCell_other (h := n0), old]; exact hX.c0
  · rw [World.cell?_setCell_other (h := n1), old]; exact hX.c1
  · have hl : ((x.l.take (j + 1)).map (cutT 20)).length = j + 1 := by rw [List.length_map, List.length_take]; omega
    unfold TextsV
    rw [hl, take_snoc x.l j ByteArray.empty hj, ht]
    refine own_setCell ?_ (Nat.lt_succ_self tb) v'
    rw [List.map_append, List.map_append]
    rw [hu] at hown
    exact hown
  · rw [World.frozen?_setCell]
    exact (hg3.frozen (a := ⟨tb, 2, none⟩) hlt2 hne).trans ((World.frozen?_alloc_old _ _ ⟨tb, 2, none⟩ (Nat.ne_of_lt hlt)).trans hX.f2)
  · exact (((hg.alloc _).drew).fresh hg3 (fun k hk => by rw [hW1]; exact hlo k hk)).setAt rfl v'

def RelFe (B : Nat) (xs : List Vl) (w : World) (v c : Value) (wr : World) : Prop := ∃ k : Nat, k ≤ xs.length ∧ k ≤ 6 ∧ c = .int .i64 k ∧ ValsV B wr ((xs.take k).map fewV) v ∧ Below w.heap.size w wr

/-- The row of values, one more behind it. -/
theorem relFe_next {w wo wr w2 : World} {xs : List Vl} {x : Vl} {S : ByteArray} {tb k j : Nat} {u6 v2 lv : Value} {ps : List (Vl × Value)} (hB : Below w.heap.size w wo) (htb : wo.heap.size = tb)
    (hp1 : ps.map (·.1) = (xs.take k).map fewV) (hp2 : wo.ownsRow w.heap.size 51 3 u6 ps.length (ps.flatMap cellsP)) (hp3 : ∀ p ∈ ps, TextsV w.heap.size wo p.1.l p.2 ∧ (p.2.ownBlock = none ∨ p.2.ownBlock ≠ u6.ownBlock))
    (hbel : Below tb wo wr) (hts : xs.take (k + 1) = xs.take k ++ [x]) (hk : k < xs.length) (h6 : k < 6) (hS : cutT 40 x.s = S) (hj : j = x.l.length ∧ j ≤ 4 ∨ j = 4)
    (hx3 : TextsV (tb + 1) wr ((x.l.take j).map (cutT 20)) lv) {o : Obj}
    (hown : w2.ownsRow w.heap.size 51 3 v2 (ps.length + 1) (ps.flatMap cellsP ++ [.int .i64 x.n, .string S, lv])) (hg : Grew (wr.alloc o) u6.ownBlock w2 v2.ownBlock) :
    RelFe w.heap.size xs w v2 (.int .i64 ((k : Int) + 1)) w2 := by
  have hwz : w.heap.size ≤ tb := by have := hB.size; omega
  have hbel' : Below wo.heap.size wo (wr.alloc o) := by rw [htb]; exact hbel.alloc (by have := hbel.size; omega) o
  have hl4 : (x.l.take 4) = x.l.take j := by
    rcases hj with ⟨h, h4⟩ | h
    · rw [List.take_of_length_le (by omega), List.take_of_length_le (by omega)]
    · rw [h]
  have hv : fewV x = ⟨x.n, S, (x.l.take j).map (cutT 20)⟩ := by unfold fewV; rw [hS, hl4]
  have hT : TextsV w.heap.size (wr.alloc o) ((x.l.take j).map (cutT 20)) lv := own_base (own_below hx3 (one_below wr o)) (by omega)
  have hne : lv.ownBlock = none ∨ lv.ownBlock ≠ u6.ownBlock := by
    cases hb : lv.ownBlock with
    | none => exact Or.inl rfl
    | some q =>
      refine Or.inr fun e => ?_
      have h1 := (World.ownsRow.lt hx3 q hb).1
      have h2 := (World.ownsRow.lt hp2 q e.symm).2
      omega
  have hvs : ValsV w.heap.size w2 ((xs.take k).map fewV ++ [⟨x.n, S, (x.l.take j).map (cutT 20)⟩]) v2 :=
    ValsV.snoc (w := wr.alloc o) hp1 (fun p hp => ⟨own_below (hp3 p hp).1 hbel', (hp3 p hp).2⟩) hT hne hg hown
  refine ⟨k + 1, by omega, by omega, by simp, ?_, ?_⟩
  · rw [hts, List.map_append]; show ValsV _ _ (_ ++ [fewV x]) _; rw [hv]; exact hvs
  · exact (hB.trans ((hbel'.mono (by omega)))).trans (hg.below (by have := hbel'.size; omega) fun q hq => (World.ownsRow.lt hp2 q hq).1)

theorem slf_take {B m cap : Nat} {w : World} {a : Option Addr} {fs : List Fl} (h : SlF B w (.slice a fs.length cap) fs) (hm : m ≤ fs.length) : SlF B w (.slice a m cap) (fs.take m) := by
  have hl : (fs.take m).length = m := by rw [List.length_take]; omega
  rcases Nat.eq_zero_or_pos m with rfl | h0
  · exact Or.inl ⟨rfl, _, _, rfl⟩
  rcases h with ⟨rfl, _⟩ | ⟨b, o, cap', h1, h2, h3, _, h5⟩
  · simp at hm; omega
  · injection h1 with h1 _ h1'
    subst h1 h1'
    refine Or.inr ⟨b, o, cap, by rw [hl], h2, fun y hy => ?_, by omega, by omega⟩
    rw [hl] at hy
    have := h3 y (by omega)
    rwa [show (fs.take m).getD y f0 = fs.getD y f0 by simp [List.getD, hy]]
theorem SlF.src {B : Nat} {w : World} {v : Value} {fs : List Fl} (h : SlF B w v fs) : Src Tryd.prog 5 22 v fs.length (fs.flatMap cellsF) w := by
  rcases h with ⟨rfl, a, cap, rfl⟩ | ⟨b, o, cap, rfl, _, h3, _, _⟩
  · cases a with
    | none => exact Src.ofNil _ Tryd.underlying22 _
    | some a => exact Src.ofSlice _ Tryd.underlying22 a 0 cap _ rfl (by simp) (by simp)
  · have := src_fields (c := cap) h3 (Nat.le_refl _)
    rwa [List.take_length] at this
def FewPost2 (fa : List Fl) (xa : List Vl) (w : World) (e : Ending) (w' : World) : Prop :=
  ∃ v u, e = .returned (.tuple #[v, u]) ∧ w'.ownsRow w.heap.size 46 5 v fa.length (fa.flatMap cellsF) ∧ ValsV w.heap.size w' xa u ∧ Below w.heap.size w w'
theorem few_out {w wr w2 : World} {v2 u : Value} {fa : List Fl} {xs : List Vl} {k : Nat} {o : Obj} (hB : Below w.heap.size w wr) (hk : k = xs.length ∧ k ≤ 6 ∨ k = 6) (hvs : ValsV w.heap.size wr ((xs.take k).map fewV) u)
    (hown : w2.ownsRow wr.heap.size 46 5 v2 (0 + fa.length) ([] ++ fa.flatMap cellsF)) (hg : Grew (wr.alloc o) (some wr.heap.size) w2 v2.ownBlock) : FewPost2 fa ((xs.take 6).map fewV) w (.returned (.tuple #[v2, u])) w2 := by
  have hb2 : Below wr.heap.size wr w2 := Below.trans (b := wr.alloc o) (one_below wr o) (hg.below (by simp) (fun q hq => by injection hq with hq; omega))
  have ht : xs.take 6 = xs.take k := by
    rcases hk with ⟨h, h6⟩ | h
    · rw [List.take_of_length_le (by omega), List.take_of_length_le (by omega)]
    · rw [h]
  rw [Nat.zero_add, List.nil_append] at hown
  refine ⟨v2, u, rfl, own_base hown hB.size, by rw [ht]; exact hvs.below hb2, hB.trans (hb2.mono hB.size)⟩
set_option maxHeartbeats 2000000 in
set_option maxRecDepth 100000 in
theorem few_any (fv xv : Value) (fs : List Fl) (xs : List Vl) (w : World) (hf : SlF w.heap.size w fv fs) (hx : SlV w.heap.size w xv xs) (hl : fs.length ≤ 9223372036854775807) (_hl2 : xs.length ≤ 9223372036854775807) (hbig : ∀ x ∈ xs, x.big) :
    Calls Tryd.prog 6 #[fv, xv] w (FewPost2 (fs.take 6) ((xs.take 6).map fewV) w) := by
  generalize hfa0 : fs.take 6 = fa
  generalize hxa0 : (xs.take 6).map fewV = xa
  have HFA := Lib.hid hfa0
  have HXA6 := Lib.hid hxa0
  clear hfa0 hxa0
  have HF := Lib.hid hf
  have HX := Lib.hid hx
  have Hbig := Lib.hid hbig
  obtain ⟨a, cap, rfl⟩ := hf.len
  obtain ⟨a2, cap2, rfl⟩ := hx.len
  clear hf hx hbig
  go_enter Tryd.func6, Tryd.ntmps6
  go_wp2_with fail
  go_loopw [6, 7] (fun v c wr => RelFe w.heap.size xs w v c wr) (fun _ c _ => xs.length - (intOf c).toNat)
  case atStart => exact ⟨0, Nat.zero_le _, by omega, rfl, ValsV.nil _ _, Below.refl _ _⟩
  case round =>
    obtain ⟨k, hk, hk6, rfl, hvs, hB⟩ := hrel
    have HB := Lib.hid hB
    by_cases hlt : k < xs.length ∧ k < 6
    · obtain ⟨hlt, h6⟩ := hlt
      rcases HX.out.below hB with ⟨h0, _⟩ | ⟨b, o, cap', h1, h2, h3, h4⟩
      · simp [h0] at hlt
      injection h1 with h1 h1' h1''
      subst h1 h1''
      obtain ⟨e0, e1, lv, e2, e3⟩ := h3 k hlt
      have hbx := Hbig.out _ (getD_mem xs k v0 hlt)
      have Hts := Lib.hid (take_snoc xs k v0 hlt)
      generalize xs.getD k v0 = x at *
      have hsb := hbx.s
      have hlti : (k : Int) < xs.length := by omega
      have Hvs := Lib.hid hvs
      have hbl : b < wr.heap.size := Nat.lt_of_lt_of_le h2 hB.size
      have g0 := (World.cell?_alloc_lt wr (.cells #[.int .i64 0, .string ⟨#[]⟩, .slice none 0 0] 51) ⟨b, o + k * 3, none⟩ hbl).trans e0
      have g1 := (World.cell?_alloc_lt wr (.cells #[.int .i64 0, .string ⟨#[]⟩, .slice none 0 0] 51) ⟨b, o + k * 3 + 1, none⟩ hbl).trans e1
      clear h3 hvs hB h1'
      go_wp2_with fail
      go_region
      rw [cut40]
      generalize (if (40 : Int) < (x.s.size : Int) then (40 : Int) else x.s.size) = mn
      have hS : Hid (cutT 40 x.s = cutT 40 x.s) := Lib.hid rfl
      generalize hSS : cutT 40 x.s = S at hS ⊢
      have HSS := Lib.hid hSS
      have hX1 : XAt wr.heap.size (wr.heap.size + 1) x.n S [] ((wr.alloc (.cells #[.int .i64 x.n, .string S, .slice none 0 0] 51)).drew) := ⟨by simp, by simp, ⟨.slice none 0 0, by simp, textsV_nil _ _⟩, by simp⟩
      have hb1 : Below wr.heap.size wr ((wr.alloc (.cells #[.int .i64 x.n, .string S, .slice none 0 0] 51)).drew) := (one_below _ _).drew
      have hz1 : ((wr.alloc (.cells #[.int .i64 x.n, .string S, .slice none 0 0] 51)).drew).heap.size = wr.heap.size + 1 := by simp
      have hwz : w.heap.size ≤ wr.heap.size := HB.out.size
      have H1 := Lib.hid (And.intro hX1 (And.intro hb1 hz1))
      have E2 := Lib.hid (And.intro e2 e3)
      obtain ⟨i0, hi0, hz0, hz1', hz2⟩ := info_parts Tryd.info9
      obtain ⟨j0, hj0, hy0, hy1, hy2⟩ := info_parts Tryd.info51
      clear hX1 hb1 hz1 g0 g1 e0 e1 e2 e3 hSS hS
      generalize (wr.alloc (.cells #[.int .i64 x.n, .string S, .slice none 0 0] 51)).drew = W1 at *
      obtain ⟨wo, rfl⟩ : ∃ wo : World, wo = wr := ⟨_, rfl⟩
      generalize htb : wo.heap.size = tb at *
      have Htb := Lib.hid htb; clear htb
      have hll := hbx.l
      have Hbt := Lib.hid hbx.t
      clear hbx
      go_wp2_with fail
      go_loopw [9] (fun c wi => RelIn tb x S W1 c wi) (fun c _ => 4 - (intOf c).toNat)
      case atStart => exact ⟨0, Nat.zero_le _, by omega, rfl, H1.out.1, Grew.refl _ _⟩
      case round =>
        obtain ⟨j, hj, hj4, rfl, hXA, hg⟩ := hrel
        have hbel : Below tb wo wr := H1.out.2.1.trans (hg.below (by have := H1.out.2.2; omega) (fun k e => by injection e with e; omega))
        have Hbel := Lib.hid hbel
        have Hg := Lib.hid hg
        have HXA := Lib.hid hXA
        obtain ⟨x0, x1, ⟨lvv, x2, x3⟩, xf⟩ := hXA
        have e2' := (hbel.cell (p := ⟨b, o + k * 3 + 2, none⟩) hbl).trans E2.out.1
        obtain ⟨la, lcap, hlv⟩ := E2.out.2.len
        obtain ⟨va, vcap, hvv⟩ := own_sl x3
        subst hvv
        have hlj : ((x.l.take j).map (cutT 20)).length = j := by rw [List.length_map, List.length_take]; omega
        unfold TextsV at x3
        rw [hlj] at x2 x3
        rw [hlv] at e2'
        have hj4' : (j : Int) ≤ 4 := by omega
        clear hg hbel
        by_cases hlt2 : j < x.l.length ∧ j < 4
        · obtain ⟨hlt2, hjl⟩ := hlt2
          have hjl' : (j : Int) < 4 := by omega
          have hlt2' : (j : Int) < x.l.length := by omega
          rcases (E2.out.2.mono fun b o hl => Hbel.out.cell (p := ⟨b, o, none⟩) (by show b < tb; omega)) with ⟨h0, _⟩ | ⟨b2, o2, cap3, h1, h2b, h3, _⟩
          · simp [h0] at hlt2
          rw [hlv] at h1
          injection h1 with h1 h1' h1''
          subst h1 h1''
          have ht := h3 j hlt2
          have htb := Hbt.out _ (getD_mem x.l j ByteArray.empty hlt2)
          generalize htt : x.l.getD j ByteArray.empty = t at *
          have Htt := Lib.hid htt; clear htt
          have hb2l : b2 < wr.heap.size := by have := Hbel.out.size; have := Htb.out; omega
          have hbl' : b < wr.heap.size := by have := Hbel.out.size; have := Htb.out; omega
          have htbl : tb < wr.heap.size := by have := Hg.out.size; have := H1.out.2.2; omega
          have Hx3 := Lib.hid x3
          have Hsrc := Lib.hid (fun u : ByteArray => (show Src Tryd.prog 1 49 (.slice (some ⟨wr.heap.size, 0, none⟩) 1 1) 1 [.string u] ((wr.alloc (.cells #[.string u] 9)).drew) from
            Src.ofSlice _ Tryd.underlying49 ⟨wr.heap.size, 0, none⟩ 1 1 [.string u] rfl (cell_one_new wr (.string u) 9) (fun y hy => by simp at hy; subst hy; rfl)))
          have HL := Lib.hid (show j + 1 ≤ maxLen ∧ (j + 1) * 16 ≤ 140737488355328 ∧ ∀ ob : Obj, tb + 1 ≤ ((wr.alloc ob).drew).heap.size from ⟨by unfold maxLen; omega, by omega, fun ob => by simp; omega⟩)
          have HS := Lib.hid (fun (u : ByteArray) (v' : Value) (w' : World) (hg3 : Grew ((wr.alloc (.cells #[.string u] 9)).drew) (Value.slice va j vcap).ownBlock w' v'.ownBlock) =>
            (show w'.cell? ⟨tb, 2, none⟩ = some (.slice va j vcap) ∧ w'.frozen? ⟨tb, 2, none⟩ = false ∧ w'.cell? ⟨b, o + k * 3 + 2, none⟩ = some (.slice (some ⟨b2, o2, none⟩) x.l.length lcap) ∧ w'.cell? ⟨b2, o2 + j, none⟩ = some (.string t) from
              ⟨(hg3.cell (a := ⟨tb, 2, none⟩) (by simp; omega) (fun e => by have := (x3.lt tb e.symm).1; omega)).trans ((World.cell?_alloc_lt wr _ ⟨tb, 2, none⟩ htbl).trans x2),
               (hg3.frozen (a := ⟨tb, 2, none⟩) (by simp; omega) (fun e => by have := (x3.lt tb e.symm).1; omega)).trans ((World.frozen?_alloc_old _ _ ⟨tb, 2, none⟩ (Nat.ne_of_lt htbl)).trans xf),
               (hg3.cell (a := ⟨b, o + k * 3 + 2, none⟩) (by simp; omega) (fun e => by have := (x3.lt b e.symm).1; omega)).trans ((World.cell?_alloc_lt wr _ ⟨b, o + k * 3 + 2, none⟩ hbl').trans e2'),
               (hg3.cell (a := ⟨b2, o2 + j, none⟩) (by simp; omega) (fun e => by have := (x3.lt b2 e.symm).1; omega)).trans ((World.cell?_alloc_lt wr _ ⟨b2, o2 + j, none⟩ hb2l).trans ht)⟩))
          have N1 : (⟨tb, 2, none⟩ : Addr) ≠ ⟨b, o + k * 3 + 2, none⟩ := fun e => by injection e with e _ _; omega
          have N2 : (⟨tb, 2, none⟩ : Addr) ≠ ⟨b2, o2 + j, none⟩ := fun e => by injection e with e _ _; omega
          have g1 := fun (ob : Obj) => (World.cell?_alloc_lt wr ob ⟨b, o + k * 3 + 2, none⟩ hbl').trans e2'
          have g2 := fun (ob : Obj) => (World.cell?_alloc_lt wr ob ⟨b2, o2 + j, none⟩ hb2l).trans ht
          have g3 := fun (ob : Obj) => (World.cell?_alloc_lt wr ob ⟨tb, 2, none⟩ htbl).trans x2
          have hltk : (k : Int) < xs.length := by omega
          clear h3 h1' x3 hlv x0 x1
          obtain ⟨mn2, hmin, hm0, hm1, hmc⟩ : ∃ mn2 : Int, (if (20 : Int) < (t.size : Int) then (20 : Int) else t.size) = mn2 ∧ 0 ≤ mn2 ∧ mn2 ≤ t.size ∧ t.extract 0 mn2.toNat = cutT 20 t := ⟨_, rfl, by split <;> omega, by split <;> omega, cut20 t⟩
          have HT := Lib.hid (fun (v' : Value) (w' : World) => relIn_next (v' := v') (w' := w') HXA.out x2 Hx3.out Hg.out (by have := H1.out.2.2; have := Htb.out; omega) hlt2 hjl Htt.out hmc)
          have HK6 := Lib.hid (decide_eq_true (show (k : Int) < 6 by omega))
          clear hmc hlt2 hjl hlt h6 hk hj hj4 hk6 hsb hll
          go_wp2_with fail
          refine wp_region_held_drew (S := (fun w' => w'.cell? ⟨b, o + k * 3 + 2, none⟩ = some (.slice (some ⟨b2, o2, none⟩) x.l.length lcap) ∧ w'.cell? ⟨b2, o2 + j, none⟩ = some (.string t))) (by kernel_rfl) (show _ ∧ _ from ⟨e2', ht⟩) (fun hHeld => ?_)
          refine wpAnyH_take (i := 0) (oi := _) (v := ?_) rfl (by kernel_rfl) (by kernel_rfl) (by kernel_rfl) (fun _ _ _ h => h) (Or.inl ⟨by rfl, ?_⟩) (by assumption) ?_
          rotate_left
          · intro w hSw; (try dsimp only at hSw); go_split_ands; first | (go_simp; done) | (go_simp; with_reducible rfl)
          try simp only [Act.put, List.setIfInBounds_toArray]
          refine wpAnyH_take (i := 2) (oi := _) (v := ?_) rfl (by kernel_rfl) (by kernel_rfl) (by kernel_rfl) (fun _ _ _ h => h) (Or.inl ⟨by rfl, ?_⟩) (by assumption) ?_
          rotate_left
          · intro w hSw; (try dsimp only at hSw); go_split_ands; first | (go_simp; done) | (go_simp; with_reducible rfl)
          try simp only [Act.put]
          refine wpAnyH_take (i := 3) (oi := _) (v := ?_) rfl (by kernel_rfl) (by kernel_rfl) (by kernel_rfl) (fun _ _ _ h => h) (Or.inl ⟨by rfl, ?_⟩) (by assumption) ?_
          rotate_left
          · intro w hSw; (try dsimp only at hSw); go_split_ands; first | (go_simp; done) | (go_simp; with_reducible rfl)
          try simp only [Act.put]
          refine wpAnyH_take (i := 4) (oi := _) (v := ?_) rfl (by kernel_rfl) (by kernel_rfl) (by kernel_rfl) (fun _ _ _ h => h) (Or.inl ⟨by rfl, ?_⟩) (by assumption) ?_
          rotate_left
          · intro w hSw; (try dsimp only at hSw); go_split_ands; first | (go_simp; done) | (go_simp; with_reducible rfl)
          try simp only [Act.put]
          refine wpAnyH_take (i := 5) (oi := _) (v := ?_) rfl (by kernel_rfl) (by kernel_rfl) (by kernel_rfl) (fun _ _ _ h => h) (Or.inl ⟨by rfl, ?_⟩) (by assumption) ?_
          rotate_left
          · intro w hSw; (try dsimp only at hSw); go_split_ands; first | (go_simp; done) | (go_simp; with_reducible rfl)
          try simp only [Act.put]
          refine wpAnyH_take (i := 6) (oi := _) (v := ?_) rfl (by kernel_rfl) (by kernel_rfl) (by kernel_rfl) (fun _ _ _ h => h) (Or.inl ⟨by rfl, ?_⟩) (by assumption) ?_
          rotate_left
          · intro w hSw; (try dsimp only at hSw); go_split_ands; first | (go_simp; done) | (go_simp; with_reducible rfl)
          try simp only [Act.put]
          refine wpAnyH_take (i := 7) (oi := _) (v := ?_) rfl (by kernel_rfl) (by kernel_rfl) (by kernel_rfl) (fun _ _ _ h => h) (Or.inl ⟨by rfl, ?_⟩) (by assumption) ?_
          rotate_left
          · intro w hSw; (try dsimp only at hSw); go_split_ands; first | (go_simp; done) | (go_simp; with_reducible rfl)
          try simp only [Act.put]
          refine wpAnyH_take (i := 8) (oi := _) (v := ?_) rfl (by kernel_rfl) (by kernel_rfl) (by kernel_rfl) (fun _ _ _ h => h) (Or.inl ⟨by rfl, ?_⟩) (by assumption) ?_
          rotate_left
          · intro w hSw; (try dsimp only at hSw); go_split_ands; first | (go_simp; done) | (go_simp; with_reducible rfl)
          try simp only [Act.put]
          refine wpAnyH_take (i := 9) (oi := _) (v := ?_) rfl (by kernel_rfl) (by kernel_rfl) (by kernel_rfl) (fun _ _ _ h => h) (Or.inl ⟨by rfl, ?_⟩) (by assumption) ?_
          rotate_left
          · intro w hSw; (try dsimp only at hSw); go_split_ands; first | (go_simp; done) | (go_simp; with_reducible rfl)
          try simp only [Act.put]
          refine wpAnyH_take (i := 10) (oi := _) (v := ?_) rfl (by kernel_rfl) (by kernel_rfl) (by kernel_rfl) (fun _ _ _ h => h) (Or.inl ⟨by rfl, ?_⟩) (by assumption) ?_
          rotate_left
          · intro w hSw; (try dsimp only at hSw); go_split_ands; first | (go_simp; done) | (go_simp; with_reducible rfl)
          try simp only [Act.put]
          refine wpAnyH_take (i := 11) (oi := _) (v := ?_) rfl (by kernel_rfl) (by kernel_rfl) (by kernel_rfl) (fun _ _ _ h => h) (Or.inl ⟨by rfl, ?_⟩) (by assumption) ?_
          rotate_left
          · intro w hSw; (try dsimp only at hSw); go_split_ands; first | (go_simp; done) | (go_simp; with_reducible rfl)
          try simp only [Act.put]
          refine wpAnyH_take (i := 12) (oi := _) (v := ?_) rfl (by kernel_rfl) (by kernel_rfl) (by kernel_rfl) (fun _ _ _ h => h) (Or.inl ⟨by rfl, ?_⟩) (by assumption) ?_
          rotate_left
          · intro w hSw; (try dsimp only at hSw); go_split_ands; first | (go_simp; done) | (go_simp; with_reducible rfl)
          try simp only [Act.put]
          refine wpAnyH_take (i := 13) (oi := _) (v := ?_) rfl (by kernel_rfl) (by kernel_rfl) (by kernel_rfl) (fun _ _ _ h => h) (Or.inl ⟨by rfl, ?_⟩) (by assumption) ?_
          rotate_left
          · intro w hSw; (try dsimp only at hSw); go_split_ands; first | (go_simp; done) | (go_simp; with_reducible rfl)
          try simp only [Act.put]
          refine wpAnyH_take (i := 14) (oi := _) (v := ?_) rfl (by kernel_rfl) (by kernel_rfl) (by kernel_rfl) (fun _ _ _ h => h) (Or.inl ⟨by rfl, ?_⟩) (by assumption) ?_
          rotate_left
          · intro w hSw; (try dsimp only at hSw); go_split_ands; first | (go_simp; done) | (go_simp; with_reducible rfl)
          try simp only [Act.put]
          refine wpAnyH_take (i := 15) (oi := _) (v := ?_) rfl (by kernel_rfl) (by kernel_rfl) (by kernel_rfl) (fun _ _ _ h => h) (Or.inl ⟨by rfl, ?_⟩) (by assumption) ?_
          rotate_left
          · intro w hSw; (try dsimp only at hSw); go_split_ands; first | (go_simp; done) | (go_simp; with_reducible rfl)
          try simp only [Act.put]
          refine wpAnyH_take (i := 16) (oi := _) (v := ?_) rfl (by kernel_rfl) (by kernel_rfl) (by kernel_rfl) (fun _ _ _ h => h) (Or.inl ⟨by rfl, ?_⟩) (by assumption) ?_
          rotate_left
          · intro w hSw; (try dsimp only at hSw); go_split_ands; first | (go_simp; done) | (go_simp; with_reducible rfl)
          try simp only [Act.put]
          refine wpAnyH_take (i := 17) (oi := _) (v := ?_) rfl (by kernel_rfl) (by kernel_rfl) (by kernel_rfl) (fun _ _ _ h => h) (Or.inl ⟨by rfl, ?_⟩) (by assumption) ?_
          rotate_left
          · intro w hSw; (try dsimp only at hSw); go_split_ands; first | (go_simp; done) | (go_simp; with_reducible rfl)
          try simp only [Act.put]
          refine wpAnyH_take (i := 18) (oi := _) (v := ?_) rfl (by kernel_rfl) (by kernel_rfl) (by kernel_rfl) (fun _ _ _ h => h) (Or.inl ⟨by rfl, ?_⟩) (by assumption) ?_
          rotate_left
          · intro w hSw; (try dsimp only at hSw); go_split_ands; first | (go_simp; done) | (go_simp; with_reducible rfl)
          try simp only [Act.put]
          refine wpAnyH_ready (rs := [1, 19]) (by kernel_rfl) (by simp) ?_
          refine AllReadyH.cons (o := _) rfl (fun K hK => ?_) ?_
          · go_simp
            refine hK.out _ _ ?_ (fun hHeld => ?_)
            · (try dsimp only); (first | exact ⟨e2', ht⟩ | exact ⟨g1 _, g2 _⟩ | exact ⟨s3, s4⟩ | exact ⟨by rw [World.cell?_setCell_other (h := N1)]; exact s3, by rw [World.cell?_setCell_other (h := N2)]; exact s4⟩)
            clear hK K
            try simp only [Act.put, List.setIfInBounds_toArray, List.set_cons_zero, List.set_cons_succ]
            refine wpAnyH_ready (rs := [19]) (by kernel_rfl) (by simp) ?_
            refine AllReadyH.cons (o := _) rfl (fun K hK => ?_) ?_
            · go_simp
              refine hK.out _ _ ?_ (fun hHeld => ?_)
              · (try dsimp only); (first | exact ⟨e2', ht⟩ | exact ⟨g1 _, g2 _⟩ | exact ⟨s3, s4⟩ | exact ⟨by rw [World.cell?_setCell_other (h := N1)]; exact s3, by rw [World.cell?_setCell_other (h := N2)]; exact s4⟩)
              clear hK K
              try simp only [Act.put, List.setIfInBounds_toArray, List.set_cons_zero, List.set_cons_succ]
              refine wpAnyH_ready (rs := [20]) (by kernel_rfl) (by simp) ?_
              refine AllReadyH.cons (o := _) rfl (fun K hK => ?_) ?_
              · go_simp
                refine hK.out _ _ ?_ (fun hHeld => ?_)
                · (try dsimp only); (first | exact ⟨e2', ht⟩ | exact ⟨g1 _, g2 _⟩ | exact ⟨s3, s4⟩ | exact ⟨by rw [World.cell?_setCell_other (h := N1)]; exact s3, by rw [World.cell?_setCell_other (h := N2)]; exact s4⟩)
                clear hK K
                try simp only [Act.put, List.setIfInBounds_toArray, List.set_cons_zero, List.set_cons_succ]
                refine wpAnyH_ready (rs := [21]) (by kernel_rfl) (by simp) ?_
                refine AllReadyH.cons (o := _) rfl (fun K hK => ?_) ?_
                · go_simp
                  refine hK.out _ _ ?_ (fun hHeld => ?_)
                  · (try dsimp only); (first | exact ⟨e2', ht⟩ | exact ⟨g1 _, g2 _⟩ | exact ⟨s3, s4⟩ | exact ⟨by rw [World.cell?_setCell_other (h := N1)]; exact s3, by rw [World.cell?_setCell_other (h := N2)]; exact s4⟩)
                  clear hK K
                  try simp only [Act.put, List.setIfInBounds_toArray, List.set_cons_zero, List.set_cons_succ]
                  refine wpAnyH_ready (rs := [22]) (by kernel_rfl) (by simp) ?_
                  refine AllReadyH.cons (o := _) rfl (fun K hK => ?_) ?_
                  · refine step_append_src _ rfl _ _ 49 49 rfl (tb + 1) 9 i0 (.string ⟨#[]⟩) 1 16 Tryd.underlying49 hi0 hz0 hz1' hz2 rfl _ _ _ rfl ((Hx3.out.alloc _).drew) _ 1 _ rfl (Hsrc.out _) HL.out.1 HL.out.2.1 (HL.out.2.2 _) ?_; intro v3 w3 hown3 hg3 hnil; obtain ⟨v3a, v3c, rfl⟩ := own_sl hown3; obtain ⟨s1, s2, s3, s4⟩ := HS.out _ _ _ hg3; have Hend := Lib.hid (HT.out _ _ hg3 hown3); clear hown3 hg3 hnil
                    refine hK.out _ _ ?_ (fun hHeld => ?_)
                    · (try dsimp only); (first | exact ⟨e2', ht⟩ | exact ⟨g1 _, g2 _⟩ | exact ⟨s3, s4⟩ | exact ⟨by rw [World.cell?_setCell_other (h := N1)]; exact s3, by rw [World.cell?_setCell_other (h := N2)]; exact s4⟩)
                    clear hK K
                    try simp only [Act.put, List.setIfInBounds_toArray]
                    refine wpAnyH_ready (rs := [23]) (by kernel_rfl) (by simp) ?_
                    refine AllReadyH.cons (o := _) rfl (fun K hK => ?_) ?_
                    · go_simp
                      refine hK.out _ _ ?_ (fun hHeld => ?_)
                      · (try dsimp only); (first | exact ⟨e2', ht⟩ | exact ⟨g1 _, g2 _⟩ | exact ⟨s3, s4⟩ | exact ⟨by rw [World.cell?_setCell_other (h := N1)]; exact s3, by rw [World.cell?_setCell_other (h := N2)]; exact s4⟩)
                      clear hK K
                      try simp only [Act.put, List.setIfInBounds_toArray, List.set_cons_zero, List.set_cons_succ]
                      refine wpAnyH_ready (rs := [24]) (by kernel_rfl) (by simp) ?_
                      refine AllReadyH.cons (o := _) rfl (fun K hK => ?_) ?_
                      · go_simp
                        refine hK.out _ _ ?_ (fun hHeld => ?_)
                        · (try dsimp only); (first | exact ⟨e2', ht⟩ | exact ⟨g1 _, g2 _⟩ | exact ⟨s3, s4⟩ | exact ⟨by rw [World.cell?_setCell_other (h := N1)]; exact s3, by rw [World.cell?_setCell_other (h := N2)]; exact s4⟩)
                        clear hK K
                        try simp only [Act.put, List.setIfInBounds_toArray, List.set_cons_zero, List.set_cons_succ]
                        refine wpAnyH_done (by kernel_rfl) ?_ _
                        go_wp2_with fail
                        go_roundw
                        case rel => ((try simp only [HK6.out]); (repeat apply Exists.intro); exact ⟨Hend.out, rfl⟩)
                        case measure => simp [intOf]; omega
                      exact AllReadyH.nil
                    exact AllReadyH.nil
                  exact AllReadyH.nil
                exact AllReadyH.nil
              exact AllReadyH.nil
            exact AllReadyH.nil
          refine AllReadyH.cons (o := _) rfl (fun K hK => ?_) ?_
          · go_simp
            refine hK.out _ _ ?_ (fun hHeld => ?_)
            · (try dsimp only); (first | exact ⟨e2', ht⟩ | exact ⟨g1 _, g2 _⟩ | exact ⟨s3, s4⟩ | exact ⟨by rw [World.cell?_setCell_other (h := N1)]; exact s3, by rw [World.cell?_setCell_other (h := N2)]; exact s4⟩)
            clear hK K
            try simp only [Act.put, List.setIfInBounds_toArray, List.set_cons_zero, List.set_cons_succ]
            refine wpAnyH_ready (rs := [1, 20]) (by kernel_rfl) (by simp) ?_
            refine AllReadyH.cons (o := _) rfl (fun K hK => ?_) ?_
            · go_simp
              refine hK.out _ _ ?_ (fun hHeld => ?_)
              · (try dsimp only); (first | exact ⟨e2', ht⟩ | exact ⟨g1 _, g2 _⟩ | exact ⟨s3, s4⟩ | exact ⟨by rw [World.cell?_setCell_other (h := N1)]; exact s3, by rw [World.cell?_setCell_other (h := N2)]; exact s4⟩)
              clear hK K
              try simp only [Act.put, List.setIfInBounds_toArray, List.set_cons_zero, List.set_cons_succ]
              refine wpAnyH_ready (rs := [20]) (by kernel_rfl) (by simp) ?_
              refine AllReadyH.cons (o := _) rfl (fun K hK => ?_) ?_
              · go_simp
                refine hK.out _ _ ?_ (fun hHeld => ?_)
                · (try dsimp only); (first | exact ⟨e2', ht⟩ | exact ⟨g1 _, g2 _⟩ | exact ⟨s3, s4⟩ | exact ⟨by rw [World.cell?_setCell_other (h := N1)]; exact s3, by rw [World.cell?_setCell_other (h := N2)]; exact s4⟩)
                clear hK K
                try simp only [Act.put, List.setIfInBounds_toArray, List.set_cons_zero, List.set_cons_succ]
                refine wpAnyH_ready (rs := [21]) (by kernel_rfl) (by simp) ?_
                refine AllReadyH.cons (o := _) rfl (fun K hK => ?_) ?_
                · go_simp
                  refine hK.out _ _ ?_ (fun hHeld => ?_)
                  · (try dsimp only); (first | exact ⟨e2', ht⟩ | exact ⟨g1 _, g2 _⟩ | exact ⟨s3, s4⟩ | exact ⟨by rw [World.cell?_setCell_other (h := N1)]; exact s3, by rw [World.cell?_setCell_other (h := N2)]; exact s4⟩)
                  clear hK K
                  try simp only [Act.put, List.setIfInBounds_toArray, List.set_cons_zero, List.set_cons_succ]
                  refine wpAnyH_ready (rs := [22]) (by kernel_rfl) (by simp) ?_
                  refine AllReadyH.cons (o := _) rfl (fun K hK => ?_) ?_
                  · refine step_append_src _ rfl _ _ 49 49 rfl (tb + 1) 9 i0 (.string ⟨#[]⟩) 1 16 Tryd.underlying49 hi0 hz0 hz1' hz2 rfl _ _ _ rfl ((Hx3.out.alloc _).drew) _ 1 _ rfl (Hsrc.out _) HL.out.1 HL.out.2.1 (HL.out.2.2 _) ?_; intro v3 w3 hown3 hg3 hnil; obtain ⟨v3a, v3c, rfl⟩ := own_sl hown3; obtain ⟨s1, s2, s3, s4⟩ := HS.out _ _ _ hg3; have Hend := Lib.hid (HT.out _ _ hg3 hown3); clear hown3 hg3 hnil
                    refine hK.out _ _ ?_ (fun hHeld => ?_)
                    · (try dsimp only); (first | exact ⟨e2', ht⟩ | exact ⟨g1 _, g2 _⟩ | exact ⟨s3, s4⟩ | exact ⟨by rw [World.cell?_setCell_other (h := N1)]; exact s3, by rw [World.cell?_setCell_other (h := N2)]; exact s4⟩)
                    clear hK K
                    try simp only [Act.put, List.setIfInBounds_toArray]
                    refine wpAnyH_ready (rs := [23]) (by kernel_rfl) (by simp) ?_
                    refine AllReadyH.cons (o := _) rfl (fun K hK => ?_) ?_
                    · go_simp
                      refine hK.out _ _ ?_ (fun hHeld => ?_)
                      · (try dsimp only); (first | exact ⟨e2', ht⟩ | exact ⟨g1 _, g2 _⟩ | exact ⟨s3, s4⟩ | exact ⟨by rw [World.cell?_setCell_other (h := N1)]; exact s3, by rw [World.cell?_setCell_other (h := N2)]; exact s4⟩)
                      clear hK K
                      try simp only [Act.put, List.setIfInBounds_toArray, List.set_cons_zero, List.set_cons_succ]
                      refine wpAnyH_ready (rs := [24]) (by kernel_rfl) (by simp) ?_
                      refine AllReadyH.cons (o := _) rfl (fun K hK => ?_) ?_
                      · go_simp
                        refine hK.out _ _ ?_ (fun hHeld => ?_)
                        · (try dsimp only); (first | exact ⟨e2', ht⟩ | exact ⟨g1 _, g2 _⟩ | exact ⟨s3, s4⟩ | exact ⟨by rw [World.cell?_setCell_other (h := N1)]; exact s3, by rw [World.cell?_setCell_other (h := N2)]; exact s4⟩)
                        clear hK K
                        try simp only [Act.put, List.setIfInBounds_toArray, List.set_cons_zero, List.set_cons_succ]
                        refine wpAnyH_done (by kernel_rfl) ?_ _
                        go_wp2_with fail
                        go_roundw
                        case rel => ((try simp only [HK6.out]); (repeat apply Exists.intro); exact ⟨Hend.out, rfl⟩)
                        case measure => simp [intOf]; omega
                      exact AllReadyH.nil
                    exact AllReadyH.nil
                  exact AllReadyH.nil
                exact AllReadyH.nil
              exact AllReadyH.nil
            refine AllReadyH.cons (o := _) rfl (fun K hK => ?_) ?_
            · go_simp
              refine hK.out _ _ ?_ (fun hHeld => ?_)
              · (try dsimp only); (first | exact ⟨e2', ht⟩ | exact ⟨g1 _, g2 _⟩ | exact ⟨s3, s4⟩ | exact ⟨by rw [World.cell?_setCell_other (h := N1)]; exact s3, by rw [World.cell?_setCell_other (h := N2)]; exact s4⟩)
              clear hK K
              try simp only [Act.put, List.setIfInBounds_toArray, List.set_cons_zero, List.set_cons_succ]
              refine wpAnyH_ready (rs := [1, 21]) (by kernel_rfl) (by simp) ?_
              refine AllReadyH.cons (o := _) rfl (fun K hK => ?_) ?_
              · go_simp
                refine hK.out _ _ ?_ (fun hHeld => ?_)
                · (try dsimp only); (first | exact ⟨e2', ht⟩ | exact ⟨g1 _, g2 _⟩ | exact ⟨s3, s4⟩ | exact ⟨by rw [World.cell?_setCell_other (h := N1)]; exact s3, by rw [World.cell?_setCell_other (h := N2)]; exact s4⟩)
                clear hK K
                try simp only [Act.put, List.setIfInBounds_toArray, List.set_cons_zero, List.set_cons_succ]
                refine wpAnyH_ready (rs := [21]) (by kernel_rfl) (by simp) ?_
                refine AllReadyH.cons (o := _) rfl (fun K hK => ?_) ?_
                · go_simp
                  refine hK.out _ _ ?_ (fun hHeld => ?_)
                  · (try dsimp only); (first | exact ⟨e2', ht⟩ | exact ⟨g1 _, g2 _⟩ | exact ⟨s3, s4⟩ | exact ⟨by rw [World.cell?_setCell_other (h := N1)]; exact s3, by rw [World.cell?_setCell_other (h := N2)]; exact s4⟩)
                  clear hK K
                  try simp only [Act.put, List.setIfInBounds_toArray, List.set_cons_zero, List.set_cons_succ]
                  refine wpAnyH_ready (rs := [22]) (by kernel_rfl) (by simp) ?_
                  refine AllReadyH.cons (o := _) rfl (fun K hK => ?_) ?_
                  · refine step_append_src _ rfl _ _ 49 49 rfl (tb + 1) 9 i0 (.string ⟨#[]⟩) 1 16 Tryd.underlying49 hi0 hz0 hz1' hz2 rfl _ _ _ rfl ((Hx3.out.alloc _).drew) _ 1 _ rfl (Hsrc.out _) HL.out.1 HL.out.2.1 (HL.out.2.2 _) ?_; intro v3 w3 hown3 hg3 hnil; obtain ⟨v3a, v3c, rfl⟩ := own_sl hown3; obtain ⟨s1, s2, s3, s4⟩ := HS.out _ _ _ hg3; have Hend := Lib.hid (HT.out _ _ hg3 hown3); clear hown3 hg3 hnil
                    refine hK.out _ _ ?_ (fun hHeld => ?_)
                    · (try dsimp only); (first | exact ⟨e2', ht⟩ | exact ⟨g1 _, g2 _⟩ | exact ⟨s3, s4⟩ | exact ⟨by rw [World.cell?_setCell_other (h := N1)]; exact s3, by rw [World.cell?_setCell_other (h := N2)]; exact s4⟩)
                    clear hK K
                    try simp only [Act.put, List.setIfInBounds_toArray]
                    refine wpAnyH_ready (rs := [23]) (by kernel_rfl) (by simp) ?_
                    refine AllReadyH.cons (o := _) rfl (fun K hK => ?_) ?_
                    · go_simp
                      refine hK.out _ _ ?_ (fun hHeld => ?_)
                      · (try dsimp only); (first | exact ⟨e2', ht⟩ | exact ⟨g1 _, g2 _⟩ | exact ⟨s3, s4⟩ | exact ⟨by rw [World.cell?_setCell_other (h := N1)]; exact s3, by rw [World.cell?_setCell_other (h := N2)]; exact s4⟩)
                      clear hK K
                      try simp only [Act.put, List.setIfInBounds_toArray, List.set_cons_zero, List.set_cons_succ]
                      refine wpAnyH_ready (rs := [24]) (by kernel_rfl) (by simp) ?_
                      refine AllReadyH.cons (o := _) rfl (fun K hK => ?_) ?_
                      · go_simp
                        refine hK.out _ _ ?_ (fun hHeld => ?_)
                        · (try dsimp only); (first | exact ⟨e2', ht⟩ | exact ⟨g1 _, g2 _⟩ | exact ⟨s3, s4⟩ | exact ⟨by rw [World.cell?_setCell_other (h := N1)]; exact s3, by rw [World.cell?_setCell_other (h := N2)]; exact s4⟩)
                        clear hK K
                        try simp only [Act.put, List.setIfInBounds_toArray, List.set_cons_zero, List.set_cons_succ]
                        refine wpAnyH_done (by kernel_rfl) ?_ _
                        go_wp2_with fail
                        go_roundw
                        case rel => ((try simp only [HK6.out]); (repeat apply Exists.intro); exact ⟨Hend.out, rfl⟩)
                        case measure => simp [intOf]; omega
                      exact AllReadyH.nil
                    exact AllReadyH.nil
                  exact AllReadyH.nil
                exact AllReadyH.nil
              refine AllReadyH.cons (o := _) rfl (fun K hK => ?_) ?_
              · go_simp
                refine hK.out _ _ ?_ (fun hHeld => ?_)
                · (try dsimp only); (first | exact ⟨e2', ht⟩ | exact ⟨g1 _, g2 _⟩ | exact ⟨s3, s4⟩ | exact ⟨by rw [World.cell?_setCell_other (h := N1)]; exact s3, by rw [World.cell?_setCell_other (h := N2)]; exact s4⟩)
                clear hK K
                try simp only [Act.put, List.setIfInBounds_toArray, List.set_cons_zero, List.set_cons_succ]
                refine wpAnyH_ready (rs := [1]) (by kernel_rfl) (by simp) ?_
                refine AllReadyH.cons (o := _) rfl (fun K hK => ?_) ?_
                · go_simp
                  refine hK.out _ _ ?_ (fun hHeld => ?_)
                  · (try dsimp only); (first | exact ⟨e2', ht⟩ | exact ⟨g1 _, g2 _⟩ | exact ⟨s3, s4⟩ | exact ⟨by rw [World.cell?_setCell_other (h := N1)]; exact s3, by rw [World.cell?_setCell_other (h := N2)]; exact s4⟩)
                  clear hK K
                  try simp only [Act.put, List.setIfInBounds_toArray, List.set_cons_zero, List.set_cons_succ]
                  refine wpAnyH_ready (rs := [22]) (by kernel_rfl) (by simp) ?_
                  refine AllReadyH.cons (o := _) rfl (fun K hK => ?_) ?_
                  · refine step_append_src _ rfl _ _ 49 49 rfl (tb + 1) 9 i0 (.string ⟨#[]⟩) 1 16 Tryd.underlying49 hi0 hz0 hz1' hz2 rfl _ _ _ rfl ((Hx3.out.alloc _).drew) _ 1 _ rfl (Hsrc.out _) HL.out.1 HL.out.2.1 (HL.out.2.2 _) ?_; intro v3 w3 hown3 hg3 hnil; obtain ⟨v3a, v3c, rfl⟩ := own_sl hown3; obtain ⟨s1, s2, s3, s4⟩ := HS.out _ _ _ hg3; have Hend := Lib.hid (HT.out _ _ hg3 hown3); clear hown3 hg3 hnil
                    refine hK.out _ _ ?_ (fun hHeld => ?_)
                    · (try dsimp only); (first | exact ⟨e2', ht⟩ | exact ⟨g1 _, g2 _⟩ | exact ⟨s3, s4⟩ | exact ⟨by rw [World.cell?_setCell_other (h := N1)]; exact s3, by rw [World.cell?_setCell_other (h := N2)]; exact s4⟩)
                    clear hK K
                    try simp only [Act.put, List.setIfInBounds_toArray]
                    refine wpAnyH_ready (rs := [23]) (by kernel_rfl) (by simp) ?_
                    refine AllReadyH.cons (o := _) rfl (fun K hK => ?_) ?_
                    · go_simp
                      refine hK.out _ _ ?_ (fun hHeld => ?_)
                      · (try dsimp only); (first | exact ⟨e2', ht⟩ | exact ⟨g1 _, g2 _⟩ | exact ⟨s3, s4⟩ | exact ⟨by rw [World.cell?_setCell_other (h := N1)]; exact s3, by rw [World.cell?_setCell_other (h := N2)]; exact s4⟩)
                      clear hK K
                      try simp only [Act.put, List.setIfInBounds_toArray, List.set_cons_zero, List.set_cons_succ]
                      refine wpAnyH_ready (rs := [24]) (by kernel_rfl) (by simp) ?_
                      refine AllReadyH.cons (o := _) rfl (fun K hK => ?_) ?_
                      · go_simp
                        refine hK.out _ _ ?_ (fun hHeld => ?_)
                        · (try dsimp only); (first | exact ⟨e2', ht⟩ | exact ⟨g1 _, g2 _⟩ | exact ⟨s3, s4⟩ | exact ⟨by rw [World.cell?_setCell_other (h := N1)]; exact s3, by rw [World.cell?_setCell_other (h := N2)]; exact s4⟩)
                        clear hK K
                        try simp only [Act.put, List.setIfInBounds_toArray, List.set_cons_zero, List.set_cons_succ]
                        refine wpAnyH_done (by kernel_rfl) ?_ _
                        go_wp2_with fail
                        go_roundw
                        case rel => ((try simp only [HK6.out]); (repeat apply Exists.intro); exact ⟨Hend.out, rfl⟩)
                        case measure => simp [intOf]; omega
                      exact AllReadyH.nil
                    exact AllReadyH.nil
                  exact AllReadyH.nil
                exact AllReadyH.nil
              exact AllReadyH.nil
            exact AllReadyH.nil
          exact AllReadyH.nil
        · obtain ⟨ps, hp1, hp2, hp3⟩ := Hvs.out
          have HP := Lib.hid (And.intro hp1 (And.intro hp2 hp3))
          have HR := Lib.hid (own_below hp2 (by rw [Htb.out]; exact Hbel.out))
          have hpl : ps.length = k := by have := congrArg List.length hp1; simpa using this.trans (by simp; omega)
          have HPL := Lib.hid hpl
          have HX3 := Lib.hid x3
          have HLJ := Lib.hid hlj
          have hwr : w.heap.size ≤ wr.heap.size := by have := Hbel.out.size; have := Htb.out; omega
          have HWR := Lib.hid hwr
          have hsrc : Src Tryd.prog 3 23 (.slice (some ⟨wr.heap.size, 0, none⟩) 1 1) 1 [.int .i64 x.n, .string S, .slice va j vcap] (wr.alloc (.cells #[.int .i64 x.n, .string S, .slice va j vcap] 51)) :=
            Src.ofSlice _ Tryd.underlying23 ⟨wr.heap.size, 0, none⟩ 1 1 _ rfl (fun i v hv => by
              have h := holds_new wr #[.int .i64 x.n, .string S, .slice va j vcap] 51 [.int .i64 x.n, .string S, .slice va j vcap] rfl i v hv
              have e : (⟨wr.heap.size, 0, none⟩ : Addr).add i = ⟨wr.heap.size, i, none⟩ := by unfold Addr.add; split <;> simp_all
              rw [e]; exact h) (fun y hy => by simp at hy; rcases hy with rfl | rfl | rfl <;> rfl)
          have HSRC := Lib.hid hsrc
          have hjj : j = x.l.length ∧ j ≤ 4 ∨ j = 4 := by omega
          have HJ := Lib.hid hjj
          have HK6 := Lib.hid (decide_eq_true (show (k : Int) < 6 by omega))
          have HRest := Lib.hid (And.intro hlt h6)
          clear hp1 hp2 hp3 hpl hwr hsrc hjj x3 hlj hlt h6 hk hk6 hsb hll
          by_cases hjl : j < x.l.length
          · have hj4x : ¬ (j : Int) < 4 := by omega
            have hjl' : (j : Int) < x.l.length := by omega
            clear hlt2 hj hj4 hjl
            go_wp2_with (at_builtin; refine wpList_append_src _ rfl _ _ 23 23 rfl w.heap.size 51 j0 (.agg #[.int .i64 0, .string ⟨#[]⟩, .slice none 0 0]) 3 48 Tryd.underlying23 hj0 hy0 hy1 hy2 rfl _ ps.length _ rfl (own_below HR.out (one_below _ _)) _ 1 _ rfl HSRC.out (by unfold maxLen; have := HPL.out; omega) (by have := HPL.out; omega) (by simp; have := HWR.out; omega) ?_; intro v2 w2 hown2 hg2 hnil; have Hown2 := Lib.hid hown2; have Hg2 := Lib.hid hg2; clear hown2 hg2 hnil)
            have HEND := Lib.hid (relFe_next HB.out Htb.out HP.out.1 HP.out.2.1 HP.out.2.2 Hbel.out Hts.out HRest.out.1 HRest.out.2 HSS.out HJ.out (by unfold TextsV; rw [HLJ.out]; exact HX3.out) Hown2.out Hg2.out)
            go_roundw
            case rel => ((try simp only [HK6.out]); first | exact HEND.out | ((repeat apply Exists.intro); exact ⟨HEND.out, rfl⟩))
            case measure => simp [intOf]; have := HRest.out; omega
          · have hjl' : ¬ (j : Int) < x.l.length := by omega
            clear hlt2 hj hj4 hjl
            go_wp2_with (at_builtin; refine wpList_append_src _ rfl _ _ 23 23 rfl w.heap.size 51 j0 (.agg #[.int .i64 0, .string ⟨#[]⟩, .slice none 0 0]) 3 48 Tryd.underlying23 hj0 hy0 hy1 hy2 rfl _ ps.length _ rfl (own_below HR.out (one_below _ _)) _ 1 _ rfl HSRC.out (by unfold maxLen; have := HPL.out; omega) (by have := HPL.out; omega) (by simp; have := HWR.out; omega) ?_; intro v2 w2 hown2 hg2 hnil; have Hown2 := Lib.hid hown2; have Hg2 := Lib.hid hg2; clear hown2 hg2 hnil)
            have HEND := Lib.hid (relFe_next HB.out Htb.out HP.out.1 HP.out.2.1 HP.out.2.2 Hbel.out Hts.out HRest.out.1 HRest.out.2 HSS.out HJ.out (by unfold TextsV; rw [HLJ.out]; exact HX3.out) Hown2.out Hg2.out)
            go_roundw
            case rel => ((try simp only [HK6.out]); first | exact HEND.out | ((repeat apply Exists.intro); exact ⟨HEND.out, rfl⟩))
            case measure => simp [intOf]; have := HRest.out; omega
    · have Hvs := Lib.hid hvs
      have hkk : k = xs.length ∧ k ≤ 6 ∨ k = 6 := by omega
      have HKK := Lib.hid hkk
      obtain ⟨i0, hi0, hz0, hz1, hz2⟩ := info_parts Tryd.info46
      have hm1 : (if (6 : Int) < fs.length then (6 : Int) else fs.length) = ((min fs.length 6 : Nat) : Int) := by split <;> omega
      have b1 : min fs.length 6 ≤ fs.length ∧ min fs.length 6 ≤ 6 := by omega
      have hfa : fs.take 6 = fs.take (min fs.length 6) := by
        rcases Nat.le_total fs.length 6 with h | h
        · rw [Nat.min_eq_left h, List.take_length, List.take_of_length_le h]
        · rw [Nat.min_eq_right h]
      have hcap : ∀ m, m ≤ fs.length → m ≤ cap := by
        intro m hm
        rcases HF.out with ⟨h0, _⟩ | ⟨_, _, cc, h1, _, _, _, h2⟩
        · rw [h0] at hm; simp at hm; omega
        · injection h1 with _ _ h1; omega
      generalize min fs.length 6 = n1 at *
      obtain ⟨b11, b12⟩ := b1
      have b13 := hcap n1 b11
      have i1 : (n1 : Int) ≤ cap := by omega
      have i0' : (0 : Int) ≤ n1 := by omega
      have hsl := slf_take HF.out b11
      have hln : (fs.take n1).length = n1 := by rw [List.length_take]; omega
      have HSRC := Lib.hid (fun ob : Obj => (show Src Tryd.prog 5 22 (.slice a n1 cap) (fs.take n1).length ((fs.take n1).flatMap cellsF) (wr.alloc ob) from ((hsl.below (HB.out.alloc HB.out.size ob)).src)))
      have HLN := Lib.hid hln
      have HF6 := Lib.hid hfa
      clear hfa hcap hvs hsl hln hkk hB
      by_cases hk1 : k < xs.length
      · have hk1' : (k : Int) < xs.length := by omega
        have hk2' : ¬ (k : Int) < 6 := by omega
        clear hlt hk hk6 hk1
        go_wp2_with (at_builtin; refine wpList_append_src _ rfl _ _ 22 22 rfl wr.heap.size 46 i0 (.agg #[.int .i64 0, .int .i64 0, .int .i64 0, .int .i64 0, .int .i64 0]) 5 40 Tryd.underlying22 hi0 hz0 hz1 hz2 rfl _ _ _ rfl (own_new wr wr.heap.size #[] 46 5 0 (Nat.le_refl _) rfl (by decide)) _ (fs.take n1).length _ rfl (HSRC.out _) (by unfold maxLen; have := HLN.out; omega) (by have := HLN.out; omega) (by simp) ?_; intro v2 w2 hown2 hg2 hnil; have Hown2 := Lib.hid hown2; have Hg2 := Lib.hid hg2; clear hown2 hg2 hnil)
        go_ret2
        rw [← HFA.out, ← HXA6.out, HF6.out]
        exact few_out HB.out HKK.out Hvs.out Hown2.out Hg2.out
      · have hk1' : ¬ (k : Int) < xs.length := by omega
        clear hlt hk hk6 hk1
        go_wp2_with (at_builtin; refine wpList_append_src _ rfl _ _ 22 22 rfl wr.heap.size 46 i0 (.agg #[.int .i64 0, .int .i64 0, .int .i64 0, .int .i64 0, .int .i64 0]) 5 40 Tryd.underlying22 hi0 hz0 hz1 hz2 rfl _ _ _ rfl (own_new wr wr.heap.size #[] 46 5 0 (Nat.le_refl _) rfl (by decide)) _ (fs.take n1).length _ rfl (HSRC.out _) (by unfold maxLen; have := HLN.out; omega) (by have := HLN.out; omega) (by simp) ?_; intro v2 w2 hown2 hg2 hnil; have Hown2 := Lib.hid hown2; have Hg2 := Lib.hid hg2; clear hown2 hg2 hnil)
        go_ret2
        rw [← HFA.out, ← HXA6.out, HF6.out]
        exact few_out HB.out HKK.out Hvs.out Hown2.out Hg2.out
end Go.Proofs.YtoflfbcjlddjaaaDoor
