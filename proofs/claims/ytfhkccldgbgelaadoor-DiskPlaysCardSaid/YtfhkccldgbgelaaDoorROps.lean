/-
  The reference's disk: has, Write, Read.
-/
import Derived.Test.YtfhkccldgbgelaaDoorRKit
import Derived.Test.YtfhkccldgbgelaaDoorTwoApp
import Derived.Deep.RegionHeld3
namespace Go.Proofs.YtfhkccldgbgelaaDoor
open Go.RowKit Go.Deep Dk Go.Maps
/-- The reference answers a number, and its disk is in its next state. -/
def RNext (r A C E : Nat) (s' : St) (v : Value) (w : World) (e : Ending) (w' : World) : Prop := e = .returned v ∧ RefIn w' r A C E s' ∧ RChg r A C E w w'
def IntSame (n : Int) (w : World) (e : Ending) (w' : World) : Prop := e = .returned (.int .i64 n) ∧ w = w'
set_option maxHeartbeats 1000000 in
set_option maxRecDepth 100000 in
theorem rhas_any {r A C E : Nat} {s : St} (w : World) (h : RefIn w r A C E s) (i : Int) : Calls Tryd.prog 43 #[.pointer (some ⟨r, 0, none⟩), .int .i64 i] w (BitSame (decide (0 ≤ i ∧ i < s.n)) w) := by
  obtain ⟨capA, _, c0, _⟩ := h.cells
  clear h
  by_cases h0 : 0 ≤ i
  · by_cases h1 : i < s.n
    · have hd : decide (0 ≤ i ∧ i < s.n) = true := by simp; omega
      have HD := Lib.hid hd; clear hd
      go_enter Tryd.func43, Tryd.ntmps43
      go_wp2
      go_ret
      exact bitSame HD.out.symm
    · go_enter Tryd.func43, Tryd.ntmps43
      go_wp2
      go_ret
      exact bitSame (by simp; omega)
  · go_enter Tryd.func43, Tryd.ntmps43
    go_wp2
    go_ret
    exact bitSame (by simp; omega)
theorem CacheIn.put {w w' : World} {C n m i : Nat} {D d : DataW Unit} {f : Nat → Option Sec} {v : Value} {l : Sec} (h : CacheIn w C n D f) (hi : i < n) (hv : slR v = some (d, [])) (hr : ByteRow w' v l)
    (hk : ∀ (g : Nat) (cur : Array Value), w.heap[g]? = some (.cells cur 5 (0, 0)) → w'.heap[g]? = w.heap[g]?) (hw : w'.ownsMap Tryd.prog 3 slR C m (D.put (kI i) d)) : CacheIn w' C n (D.put (kI i) d) (upd f i (some l)) := by
  have hm := h.own.isMap
  refine ⟨own_tight hw, fun kl hk => ?_, fun j hj hn => ?_, fun j c hj hc => ?_⟩
  · by_cases e : kl = kI i
    · exact ⟨i, hi, e⟩
    · rw [Maps.has_put_other e] at hk; exact h.key kl hk
  · by_cases e : j = i
    · subst e; rw [upd_same] at hn; cases hn
    · rw [upd_other _ _ e] at hn; rw [Maps.has_put_other (fun q => e (kI_inj q))]; exact h.miss j hj hn
  · by_cases e : j = i
    · subst e; rw [upd_same] at hc; cases hc
      exact ⟨v, d, hv, fun z => Maps.atKey_put_same hm (kI_key j) _ z, Maps.has_put_same hm (kI_key j) d, hr⟩
    · rw [upd_other _ _ e] at hc
      obtain ⟨v', d', a1, a2, a3, a4⟩ := h.hit j c hj hc
      exact ⟨v', d', a1, fun z => by rw [Maps.atKey_put_other (fun q => e (kI_inj q))]; exact a2 z, by rw [Maps.has_put_other (fun q => e (kI_inj q))]; exact a3, a4.keep hk⟩
theorem RefIn.write {w w1 w2 : World} {r A C E m i : Nat} {s : St} {D d : DataW Unit} {v : Value} {l : Sec} (h : RefIn w r A C E s) (hC : CacheIn w C s.n D s.wt) (hb : Below w.heap.size w w1) (hi : i < s.n) (hv : slR v = some (d, [])) (hr : ByteRow w1 v l)
    (hw : w2.ownsMap Tryd.prog 3 slR C m (D.put (kI i) d)) (hg : w1.grownBy w2 (some C)) : RefIn w2 r A C E (s.write i l) ∧ RChg r A C E w w2 := by
  obtain ⟨b1, b2, b3, b4⟩ := h.lt
  obtain ⟨a1, a2, a3, a4, a5⟩ := h.apart
  have hs := hb.size
  have h1 := h.below hb
  have key : ∀ (g : Nat) (cur : Array Value), w1.heap[g]? = some (.cells cur 5 (0, 0)) → w2.heap[g]? = w1.heap[g]? := fun g cur hgc => hg.block g (Array.getElem?_eq_some_iff.1 hgc).1 (by have := (h1.off hgc).2.2.1; simpa using this)
  have key0 : ∀ (g : Nat) (cur : Array Value), w.heap[g]? = some (.cells cur 5 (0, 0)) → w2.heap[g]? = w.heap[g]? := fun g cur hgc => by
    have hl := (Array.getElem?_eq_some_iff.1 hgc).1
    have e1 := hb.block g hl
    rw [key g cur (e1.trans hgc)]; exact e1
  have put := hC.put hi hv (hr.keep key) key0 hw
  obtain ⟨capA, t1, t2⟩ := h1.top
  obtain ⟨cur, r1, r2, r3⟩ := h1.rows
  obtain ⟨D', hB⟩ := h1.bad
  refine ⟨⟨h.ok.write hi hr.1, h.pos, h.ne, ⟨capA, t1, (hg.block r (by omega) (by simpa using a2)).trans t2⟩, ⟨cur, (hg.block A (by omega) (by simpa using a4)).trans r1, r2, fun j hj => ?_⟩, ⟨_, put⟩, ⟨D', hB.keep (hg.block E (by omega) (by have := h.ne; simpa using fun e => this e.symm))⟩⟩, (RChg.of_below hb).trans (RChg.of_grown hg (by simp))⟩
  obtain ⟨u, e1, e2⟩ := r3 j hj
  exact ⟨u, e1, e2.keep key⟩
theorem CacheIn.size {w : World} {C n : Nat} {D : DataW Unit} {f : Nat → Option Sec} (h : CacheIn w C n D f) : Maps.size D ≤ n := by
  obtain ⟨es, hD, hp, hk⟩ := h.own.entries keyed
  subst hD
  show es.length ≤ n
  have hmem : ∀ p ∈ es, ∃ i : Nat, i < n ∧ p.1 = kI i := fun p hpm => h.key p.1 (by
    rw [Maps.has_eq, List.any_eq_true]
    exact ⟨p, hpm, WideAt.sameKey_self (hk p hpm)⟩)
  have hn : (es.map fun p => Go.intOf p.1).Nodup := by
    rw [List.nodup_iff_pairwise_ne, List.pairwise_map]
    refine hp.imp_of_mem fun {p q} hpm hqm hne e => hne ?_
    obtain ⟨i, _, e1⟩ := hmem p hpm
    obtain ⟨j, _, e2⟩ := hmem q hqm
    rw [e1, e2] at e ⊢
    have e : (i : Int) = (j : Int) := e
    show Lit.int .i64 (i : Int) = Lit.int .i64 (j : Int)
    rw [e]
  have := nodup_bound _ ((List.range n).map Int.ofNat) hn fun a ha => by
    obtain ⟨p, hpm, rfl⟩ := List.mem_map.1 ha
    obtain ⟨i, hi, e⟩ := hmem p hpm
    exact List.mem_map.2 ⟨i, List.mem_range.2 hi, by rw [e]; rfl⟩
  simpa using this
theorem step_mapUpdate_own {P : Program} (w : World) {ops : Array Oper} {o : Oper} {a : Act} {K : Act → World → Prop} {Q : Exit → Act → World → Prop} {Z : Prop}
    (hg : o.guard = none) (m x v : Operand) (t : TypeId) (hop : o.op = Op.mapUpdate t m x v)
    (k e : TypeId) (Ky : Keyed P k) (ht : P.underlying t = some (.map k e)) (R : Value → Option (DataW Unit × List MemPlace)) (b n : Nat) (D : DataW Unit)
    (hm : a.eval m = .map (some b)) (hown : w.ownsMap P k R b n D) (hn : n < maxLen) (key val : Value) (kl : Lit) (hx : a.eval x = key) (hv : a.eval v = val) (hkey : keyOf P k key = some kl)
    (d : DataW Unit) (ps : List MemPlace) (hval : R val = some (d, ps))
    (h : ∀ w', w'.ownsMap P k R b (n + 1) (D.put kl d) → w.grownBy w' (some b) → K (a.put o.dst undef) w') : if Region.wanted o (yielded ops a.tmps) = true then Oper.wp P o a w K Q else Z := by
  rw [if_pos (by simp [Region.wanted, hg])]
  obtain ⟨w', hrun, r1, r2⟩ := hown.update Ky ht hn hkey hval
  unfold Oper.wp
  simp [execOp, hop, hm, hx, hv, hrun, Result.andThen]
  exact h w' r1 r2
def KB (w w' : World) : Prop := Below w.heap.size w w'
theorem KB.refl (w : World) : KB w w := Below.refl _ _
theorem KB.drew {w w' : World} (h : KB w w') : KB w w'.drew := Below.drew h
theorem KB.alloc {w w' : World} (h : KB w w') (o : Obj) : KB w (w'.alloc o) := balloc h o
set_option maxHeartbeats 1000000 in
set_option maxRecDepth 100000 in
theorem rwrite_dead {r A C E : Nat} {s : St} (w : World) (h : RefIn w r A C E s) (hd : s.dead = true) (i : Int) (v : Value) : Calls Tryd.prog 21 #[.pointer (some ⟨r, 0, none⟩), .int .i64 i, v] w (IntSame 5 w) := by
  obtain ⟨capA, _, _, _, _, c3⟩ := h.cells
  rw [hd] at c3
  clear h hd
  go_enter Tryd.func21, Tryd.ntmps21
  go_wp2
  go_ret
  exact ⟨rfl, rfl⟩
set_option maxHeartbeats 1000000 in
set_option maxRecDepth 100000 in
theorem rwrite_no {r A C E : Nat} {s : St} (w : World) (h : RefIn w r A C E s) (hd : s.dead = false) (i : Int) (a : Option Addr) (len cap : Nat) (hno : ¬ (0 ≤ i ∧ i < s.n ∧ len = 128)) :
    Calls Tryd.prog 21 #[.pointer (some ⟨r, 0, none⟩), .int .i64 i, .slice a len cap] w (IntSame 1 w) := by
  obtain ⟨capA, _, _, _, _, c3⟩ := h.cells
  rw [hd] at c3
  have HH := Lib.hid (rhas_any w h i)
  by_cases hi : 0 ≤ i ∧ i < s.n
  · rw [decide_eq_true hi] at HH
    have hl : ¬ (len : Int) = 128 := by omega
    have hl2 : ((len : Int) == 128) = false := by simpa using hl
    clear h hd hno hi
    go_enter Tryd.func21, Tryd.ntmps21
    go_wp2_with (go_at_call 43; refine HH.out.mono ?_; rintro e w' ⟨rfl, rfl⟩)
    go_ret
    exact ⟨rfl, rfl⟩
  · rw [decide_eq_false hi] at HH
    clear h hd hno hi
    go_enter Tryd.func21, Tryd.ntmps21
    go_wp2_with (go_at_call 43; refine HH.out.mono ?_; rintro e w' ⟨rfl, rfl⟩)
    go_ret
    exact ⟨rfl, rfl⟩
theorem byteRow_slR {w : World} {v : Value} {l : Sec} (h : ByteRow w v l) : ∃ d, slR v = some (d, []) := by
  obtain ⟨_, g, cap, cur, rfl, _⟩ := h
  exact ⟨_, slR_some g 128 cap⟩
theorem wrote_row {w wx w2 : World} {v2 : Value} {l : Sec} (hl : l.length = 128) (hk : KB w wx) (hown : w2.ownsRow w.heap.size 5 1 v2 (0 + l.length) ([] ++ bytesV l)) (hg : Grew wx (some w.heap.size) w2 v2.ownBlock) : ByteRow w2 v2 l ∧ KB w w2 := by
  rw [Nat.zero_add, List.nil_append, hl] at hown
  exact ⟨ByteRow.of_own hown hl, Below.trans hk (hg.below hk.size fun k hk => by injection hk with hk; omega)⟩
set_option maxHeartbeats 2000000 in
set_option maxRecDepth 100000 in
theorem rwrite_yes {r A C E B : Nat} {s : St} (w : World) (h : RefIn w r A C E s) (hd : s.dead = false) (i : Nat) (v : Value) (l : Sec) (hi : i < s.n) (hv : SlB B w v l) (hB : B ≤ w.heap.size) (hl : l.length = 128) :
    Calls Tryd.prog 21 #[.pointer (some ⟨r, 0, none⟩), .int .i64 (i : Int), v] w (RNext r A C E (s.write i l) (.int .i64 0) w) := by
  obtain ⟨capA, _, _, c1, _, c3⟩ := h.cells
  rw [hd] at c3
  have HH := Lib.hid (rhas_any w h i)
  rw [decide_eq_true (by omega)] at HH
  obtain ⟨D, hC⟩ := h.cache
  have hn := h.ok.n
  have hsz := hC.size
  have H0 := Lib.hid h
  have HC := Lib.hid hC
  have HV := Lib.hid (show ∀ w', KB w w' → SlB w.heap.size w' v l from fun w' hk => (hv.wider hB).below hk)
  obtain ⟨a, cap, rfl, _⟩ := hv.len
  rw [hl] at HV ⊢
  have HL := Lib.hid hl
  have hrl : r < w.heap.size := h.lt.1
  have hrC : r ≠ C := h.apart.2.1
  have HMEM := Lib.hid (fun w' (hk : KB w w') => show w'.cell? ⟨r, 1, none⟩ = some (.map (some C)) from (Below.cell hk (p := ⟨r, 1, none⟩) hrl).trans c1)
  have HOW := Lib.hid (fun w' (hk : KB w w') => show World.ownsMap w' Tryd.prog 3 slR C (Maps.size D) D from (hC.keep (w' := w') (Below.block hk C h.lt.2.2.1) fun g cur hg => Below.block hk g (Array.getElem?_eq_some_iff.1 hg).1).own)
  have hk0 := KB.refl w
  clear h hd hC hv hl
  go_enter Tryd.func21, Tryd.ntmps21
  go_wp2_with (go_at_call 43; refine HH.out.mono ?_; rintro e w' ⟨rfl, rfl⟩)
  go_region_held3 (fun w' => w'.cell? ⟨r, 1, none⟩ = some (.map (some C))) (first | assumption | exact HMEM.out _ (by repeat (first | assumption | refine KB.drew ?_ | refine KB.alloc ?_ _)))
    (first
      | (refine step_append_bytes (o := ⟨some 27, _, _, _, _, _⟩) _ rfl (.tmp 25) (.tmp 26) (by rfl) w.heap.size _ 0 [] (by rfl) ?_ w.heap.size _ l (by rfl) ?_ ?_ ?_ ?_; exact empty_new w.heap.size w _ (Nat.le_refl _) (by rfl); exact HV.out _ (by repeat (first | assumption | refine KB.drew ?_ | refine KB.alloc ?_ _)); (rw [HL.out]; omega); exact Below.size (B := w.heap.size) (w := w) (by repeat (first | assumption | refine KB.drew ?_ | refine KB.alloc ?_ _)); intro v2 w2 hown2 hg2; have HR2 := Lib.hid (wrote_row HL.out (KB.drew (KB.alloc hk0 _)) hown2 hg2); clear hown2 hg2; have hk2 : KB w w2 := HR2.out.2; obtain ⟨dd, hdd⟩ := byteRow_slR HR2.out.1; obtain ⟨w3, hrun3, hown3, hg3⟩ := World.ownsMap.update (HOW.out _ hk2) keyed Tryd.underlying53 (by unfold maxLen; omega) (key := .int .i64 (i : Int)) (key_kI (by omega)) hdd; have HZ := Lib.hid (H0.out.write HC.out hk2 hi hdd HR2.out.1 hown3 hg3); have hS3 : w3.cell? ⟨r, 1, none⟩ = some (.map (some C)) := (World.cell?_of_block (a := ⟨r, 1, none⟩) (hg3.block r (Nat.lt_of_lt_of_le hrl (Below.size hk2)) (by simpa using hrC))).trans (HMEM.out _ hk2); clear hown3 hg3))
  all_goals
    go_wp2
    go_ret
    exact ⟨rfl, HZ.out.1, HZ.out.2⟩
end Go.Proofs.YtfhkccldgbgelaaDoor
