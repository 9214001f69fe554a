/-
  The reference's disk: Flush, Crash.
-/
import Derived.Test.YtfhkccldgbgelaaDoorRKeep
namespace Go.Proofs.YtfhkccldgbgelaaDoor
open Go.RowKit Go.Deep Dk Go.Maps
/-- Only the sectors that are there count. -/
structure Alike (s t : St) : Prop where
  n : s.n = t.n
  dead : s.dead = t.dead
  st : ∀ i, i < s.n → s.st i = t.st i
  rot : ∀ i, i < s.n → s.rot i = t.rot i
  wt : ∀ i, i < s.n → s.wt i = t.wt i
theorem RefIn.alike {w : World} {r A C E : Nat} {s t : St} (h : RefIn w r A C E s) (ht : t.Ok) (e : Alike s t) : RefIn w r A C E t := by
  obtain ⟨capA, t1, t2⟩ := h.top
  obtain ⟨cur, r1, r2, r3⟩ := h.rows
  obtain ⟨D, hC⟩ := h.cache
  obtain ⟨D', hB⟩ := h.bad
  refine ⟨ht, by rw [← e.n]; exact h.pos, h.ne, ⟨capA, by rw [← e.n]; exact t1, by rw [← e.n, ← e.dead]; exact t2⟩, ⟨cur, r1, by rw [← e.n]; exact r2, fun i hi => ?_⟩, ⟨D, ?_⟩, ⟨D', ?_⟩⟩
  · rw [← e.n] at hi
    rw [← e.st i hi]; exact r3 i hi
  · rw [← e.n]
    exact ⟨hC.own, hC.key, fun i hi hn => hC.miss i hi (by rw [e.wt i hi]; exact hn), fun i l hi hl => hC.hit i l hi (by rw [e.wt i hi]; exact hl)⟩
  · rw [← e.n]
    exact ⟨hB.own, hB.key, fun i hi => by rw [← e.rot i hi]; exact hB.at_ i hi⟩
def keepsR (s : St) (m : Nat) : St := (List.range m).foldl keepR s
theorem keepsR_succ (s : St) (m : Nat) : keepsR s (m + 1) = keepR (keepsR s m) m := by simp [keepsR, List.range_succ]
theorem keepR_wt (s : St) (i : Nat) : (keepR s i).wt = s.wt := by unfold keepR; split <;> rfl
theorem keepR_n (s : St) (i : Nat) : (keepR s i).n = s.n := by unfold keepR; split <;> rfl
theorem keepR_dead (s : St) (i : Nat) : (keepR s i).dead = s.dead := by unfold keepR; split <;> rfl
theorem keepR_st (s : St) (i j : Nat) : (keepR s i).st j = if j = i then s.read i else s.st j := by
  unfold keepR St.read
  split
  · rename_i l hl; rw [hl]; show upd s.st i l j = _; unfold upd; split <;> rfl
  · rename_i hl; rw [hl]
    by_cases e : j = i
    · subst e; rw [if_pos rfl]; rfl
    · rw [if_neg e]
theorem keepR_rot (s : St) (i j : Nat) : (keepR s i).rot j = if j = i ∧ (s.wt i).isSome = true then false else s.rot j := by
  unfold keepR
  split
  · rename_i l hl; rw [hl]; show upd s.rot i false j = _; unfold upd
    by_cases e : j = i
    · rw [if_pos e, if_pos ⟨e, rfl⟩]
    · rw [if_neg e, if_neg (fun h => e h.1)]
  · rename_i hl; rw [hl, if_neg (fun h => by cases h.2)]
theorem keepsR_wt (s : St) : ∀ m, (keepsR s m).wt = s.wt
  | 0 => rfl
  | m + 1 => by rw [keepsR_succ, keepR_wt, keepsR_wt s m]
theorem keepsR_n (s : St) : ∀ m, (keepsR s m).n = s.n
  | 0 => rfl
  | m + 1 => by rw [keepsR_succ, keepR_n, keepsR_n s m]
theorem keepsR_dead (s : St) : ∀ m, (keepsR s m).dead = s.dead
  | 0 => rfl
  | m + 1 => by rw [keepsR_succ, keepR_dead, keepsR_dead s m]
theorem keepsR_st (s : St) (j : Nat) : ∀ m, (keepsR s m).st j = if j < m then s.read j else s.st j
  | 0 => rfl
  | m + 1 => by
    rw [keepsR_succ, keepR_st]
    by_cases e : j = m
    · subst e
      rw [if_pos rfl, if_pos (by omega)]
      unfold St.read
      rw [keepsR_wt, keepsR_st s j j, if_neg (by omega)]
    · rw [if_neg e, keepsR_st s j m]
      by_cases h : j < m
      · rw [if_pos h, if_pos (by omega)]
      · rw [if_neg h, if_neg (by omega)]
theorem keepsR_rot (s : St) (j : Nat) : ∀ m, (keepsR s m).rot j = if j < m ∧ (s.wt j).isSome = true then false else s.rot j
  | 0 => by rw [if_neg (fun h => by omega)]; rfl
  | m + 1 => by
    rw [keepsR_succ, keepR_rot, keepsR_wt, keepsR_rot s j m]
    by_cases e : j = m
    · subst e
      by_cases h : (s.wt j).isSome = true
      · rw [if_pos ⟨rfl, h⟩, if_pos ⟨by omega, h⟩]
      · rw [if_neg (fun x => h x.2), if_neg (fun x => h x.2), if_neg (fun x => h x.2)]
    · rw [if_neg (fun x => e x.1)]
      by_cases h : j < m ∧ (s.wt j).isSome = true
      · rw [if_pos h, if_pos ⟨by omega, h.2⟩]
      · rw [if_neg h, if_neg (fun x => h ⟨by omega, x.2⟩)]
theorem flush_alike {s : St} (h : s.Ok) : Alike (keepsR s s.n).lose s.flush := by
  refine ⟨(keepsR_n s s.n).trans (flushed_n s).symm, (keepsR_dead s s.n).trans (flushed_dead s).symm, fun i hi => ?_, fun i hi => ?_, fun i _ => (St.flush_wt h i).symm⟩
  · have hi : i < s.n := by have : (keepsR s s.n).n = s.n := keepsR_n s s.n; exact this ▸ hi
    show (keepsR s s.n).st i = _
    rw [keepsR_st, if_pos hi, St.flush_st h]
  · have hi : i < s.n := by have : (keepsR s s.n).n = s.n := keepsR_n s s.n; exact this ▸ hi
    show (keepsR s s.n).rot i = _
    rw [keepsR_rot]
    unfold St.flush
    rw [St.stores_rot]
    by_cases e : (s.wt i).isSome = true
    · rw [if_pos ⟨hi, e⟩, if_pos ((St.mem_ks h).2 e)]
    · rw [if_neg (fun x => e x.2), if_neg (fun x => e ((St.mem_ks h).1 x))]
/-- The reference answers, its disk is in its next state; its maps may be new ones. -/
def RNew (r A C E : Nat) (s' : St) (v : Value) (w : World) (e : Ending) (w' : World) : Prop :=
  e = .returned v ∧ ∃ C' E', RefIn w' r A C' E' s' ∧ RChg r A C E w w' ∧ (C' = C ∨ w.heap.size ≤ C') ∧ (E' = E ∨ w.heap.size ≤ E')
theorem RefIn.newCache {w : World} {r A C E : Nat} {s : St} (h : RefIn w r A C E s) : RefIn ((w.alloc (.map #[] 0)).setCell ⟨r, 1, none⟩ (.map (some w.heap.size))) r A w.heap.size E s.lose ∧ RChg r A C E w ((w.alloc (.map #[] 0)).setCell ⟨r, 1, none⟩ (.map (some w.heap.size))) := by
  obtain ⟨b1, b2, b3, b4⟩ := h.lt
  obtain ⟨a1, a2, a3, a4, a5⟩ := h.apart
  have h1 := h.below (one_below w (.map #[] 0))
  obtain ⟨capA, t1, t2⟩ := h1.top
  obtain ⟨cur, r1, r2, r3⟩ := h1.rows
  obtain ⟨D', hB⟩ := h1.bad
  have oth : ∀ k, k ≠ r → ((w.alloc (.map #[] 0)).setCell ⟨r, 1, none⟩ (.map (some w.heap.size))).heap[k]? = (w.alloc (.map #[] 0)).heap[k]? := fun k hk => heap_setCell_other _ ⟨r, 1, none⟩ k _ hk
  refine ⟨⟨h.ok.lose, h.pos, fun e => by omega, ⟨capA, t1, ?_⟩, ⟨cur, (oth A (fun e => a1 e.symm)).trans r1, r2, fun i hi => ?_⟩, ⟨.map [], ?_⟩, ⟨D', hB.keep (oth E (fun e => a3 e.symm))⟩⟩, ?_⟩
  · exact heap_setCell_same _ r 1 _ _ _ t2
  · obtain ⟨v, e1, e2⟩ := r3 i hi
    exact ⟨v, e1, e2.keep fun g cur hg => oth g (h1.off hg).1⟩
  · have hm := World.ownsMap_made w Tryd.prog 3 slR
    obtain ⟨es, ck, m1, m2⟩ := hm
    refine ⟨⟨es, ck, (oth _ (fun e => by omega)).trans m1, m2⟩, fun _ h => (by cases h), fun _ _ _ => rfl, fun i l _ hl => (by cases hl)⟩
  · exact (RChg.of_below (one_below w _)).trans (RChg.of_grown (grown_cell _ r 1 _) (by simp))
theorem RefIn.newCache' {w : World} {r A C E : Nat} {s : St} (h : RefIn w r A C E s) : RefIn ((w.setCell ⟨r, 1, none⟩ (.map (some w.heap.size))).alloc (.map #[] 0)) r A w.heap.size E s.lose ∧ RChg r A C E w ((w.setCell ⟨r, 1, none⟩ (.map (some w.heap.size))).alloc (.map #[] 0)) := by
  have := h.newCache
  rwa [World.setCell_alloc_past _ _ _ _ h.lt.1] at this
def RelRF (r A C E : Nat) (s : St) (w0 : World) (c : Value) (wr : World) : Prop := ∃ m : Nat, m ≤ s.n ∧ c = .int .i64 m ∧ RefIn wr r A C E (keepsR s m) ∧ RChg r A C E w0 wr
set_option maxHeartbeats 2000000 in
set_option maxRecDepth 100000 in
theorem rflush_dead {r A C E : Nat} {s : St} (w : World) (h : RefIn w r A C E s) (hd : s.dead = true) : Calls Tryd.prog 24 #[.pointer (some ⟨r, 0, none⟩)] w (IntSame 5 w) := by
  obtain ⟨capA, _, _, _, _, c3⟩ := h.cells
  rw [hd] at c3
  clear h hd
  go_enter Tryd.func24, Tryd.ntmps24
  go_wp2
  go_ret
  exact ⟨rfl, rfl⟩
set_option maxHeartbeats 2000000 in
set_option maxRecDepth 100000 in
theorem rflush_yes {r A C E : Nat} {s : St} (w : World) (h : RefIn w r A C E s) (hd : s.dead = false) : Calls Tryd.prog 24 #[.pointer (some ⟨r, 0, none⟩)] w (RNew r A C E s.flush (.int .i64 0) w) := by
  obtain ⟨capA, hcap, c0, c1, c2, c3⟩ := h.cells
  rw [hd] at c3
  have hmm := @run_makeMap Tryd.prog
  have H0 := Lib.hid h
  have hn := h.ok.n
  have HF := Lib.hid (flush_alike h.ok)
  have HFO := Lib.hid (show s.flush.Ok from h.ok.stores)
  generalize s.flush = sf at HF HFO ⊢
  clear h hd
  go_enter Tryd.func24, Tryd.ntmps24
  go_wp2_with fail
  clear c0 c1 c2 c3
  go_loopw [13] (fun c wr => RelRF r A C E s w c wr) (fun c _ => s.n - (RowKit.intOf c).toNat)
  case atStart => exact ⟨0, Nat.zero_le _, rfl, H0.out, RChg.refl _ _ _ _ _⟩
  case round =>
    obtain ⟨m, hm, rfl, hR, hG⟩ := hrel
    by_cases hlt : m < s.n
    · have HK := Lib.hid (rkeep_any wr hR m (by rw [keepsR_n]; exact hlt))
      have HG := Lib.hid hG
      clear hR hG
      go_wp2_with fail
      refine HK.out.mono ?_
      rintro e w2 ⟨rfl, hR2, hG2⟩
      have HR2 := Lib.hid hR2
      have HG2 := Lib.hid (HG.out.trans hG2)
      clear hR2 hG2
      go_wp2_with fail
      go_roundw
      case rel => exact ⟨m + 1, by omega, by go_num, by rw [keepsR_succ]; exact HR2.out, HG2.out⟩
      case measure => simp [RowKit.intOf]; omega
    · obtain rfl : m = s.n := by omega
      obtain ⟨capB, _, d0, d1, d2, d3⟩ := hR.cells
      obtain ⟨capC, _, t2⟩ := hR.top
      have f1 := frozen_of_row wr r 1 _ _ t2
      have HN := Lib.hid hR.newCache'
      have HG := Lib.hid hG
      have hsz := hG.size
      have hlr := hR.lt.1
      clear hR hG t2
      go_wp2
      go_ret
      exact ⟨rfl, wr.heap.size, E, HN.out.1.alike HFO.out HF.out, HG.out.trans HN.out.2, Or.inr hsz, Or.inl rfl⟩
/-! ### Crash -/
/-- How many wait ahead of sector i. -/
def rank (s : St) (i : Nat) : Nat := ((List.range i).filter fun j => (s.wt j).isSome).length
theorem rank_succ (s : St) (i : Nat) : rank s (i + 1) = rank s i + if (s.wt i).isSome then 1 else 0 := by
  unfold rank
  rw [List.range_succ, List.filter_append, List.length_append]
  congr 1
  by_cases h : (s.wt i).isSome = true <;> simp [h]
theorem rank_le (s : St) (i : Nat) : rank s i ≤ i := by
  have := List.length_filter_le (fun j => (s.wt j).isSome) (List.range i)
  simpa [rank] using this
theorem ks_rank {s : St} {i : Nat} (hi : i < s.n) (h : (s.wt i).isSome = true) : rank s i < s.ks.length ∧ s.ks.getD (rank s i) 0 = i := by
  have e : s.ks = (List.range i).filter (fun j => (s.wt j).isSome) ++ (i :: ((List.range (s.n - (i + 1))).map (fun x => i + 1 + x)).filter fun j => (s.wt j).isSome) := by
    have e1 : List.range s.n = List.range (i + 1) ++ (List.range (s.n - (i + 1))).map (fun x => i + 1 + x) := by
      rw [← List.range_add]; congr 1; omega
    unfold St.ks
    rw [e1, List.filter_append, List.range_succ, List.filter_append]
    simp [h]
  rw [e]
  refine ⟨by rw [List.length_append]; simp [rank], ?_⟩
  unfold rank
  simp [List.getD]
theorem picks_iff {s : St} {bits i : Nat} (hi : i < s.n) : i ∈ picks bits s.ks s.ks.length ↔ (s.wt i).isSome = true ∧ bitOf bits (rank s i) = true := by
  unfold picks
  rw [List.mem_map]
  constructor
  · rintro ⟨j, hj, e⟩
    obtain ⟨h1, h2⟩ := List.mem_filter.1 hj
    rw [List.mem_range] at h1
    have hm : i ∈ s.ks := by rw [← e]; simp [List.getD, h1]
    have hw : (s.wt i).isSome = true := (List.mem_filter.1 hm).2
    obtain ⟨k1, k2⟩ := ks_rank hi hw
    have : j = rank s i := by
      have e2 : s.ks[j] = s.ks[rank s i] := by
        have a1 : s.ks.getD j 0 = s.ks[j] := by simp [List.getD, h1]
        have a2 : s.ks.getD (rank s i) 0 = s.ks[rank s i] := by simp [List.getD, k1]
        rw [← a1, ← a2, e, k2]
      exact (List.getElem_inj s.ks_nodup).1 e2
    rw [← this]; exact ⟨hw, h2⟩
  · rintro ⟨hw, hb⟩
    obtain ⟨k1, k2⟩ := ks_rank hi hw
    exact ⟨rank s i, List.mem_filter.2 ⟨List.mem_range.2 k1, hb⟩, k2⟩
def crashR (s : St) (bits i : Nat) : St := if (s.wt i).isSome = true ∧ bitOf bits (rank s i) = true then keepR s i else s
def crashesR (s : St) (bits : Nat) : Nat → St
  | 0 => s
  | m + 1 => if (s.wt m).isSome = true ∧ bitOf bits (rank s m) = true then keepR (crashesR s bits m) m else crashesR s bits m
theorem crashesR_wt (s : St) (bits : Nat) : ∀ m, (crashesR s bits m).wt = s.wt
  | 0 => rfl
  | m + 1 => by unfold crashesR; split; rw [keepR_wt]; exact crashesR_wt s bits m; exact crashesR_wt s bits m
theorem crashesR_n (s : St) (bits : Nat) : ∀ m, (crashesR s bits m).n = s.n
  | 0 => rfl
  | m + 1 => by unfold crashesR; split; rw [keepR_n]; exact crashesR_n s bits m; exact crashesR_n s bits m
theorem crashesR_dead (s : St) (bits : Nat) : ∀ m, (crashesR s bits m).dead = s.dead
  | 0 => rfl
  | m + 1 => by unfold crashesR; split; rw [keepR_dead]; exact crashesR_dead s bits m; exact crashesR_dead s bits m
theorem crashesR_st (s : St) (bits j : Nat) : ∀ m, (crashesR s bits m).st j = if j < m ∧ (s.wt j).isSome = true ∧ bitOf bits (rank s j) = true then s.read j else s.st j
  | 0 => by rw [if_neg (fun h => by omega)]; rfl
  | m + 1 => by
    have ih := crashesR_st s bits j m
    unfold crashesR
    split
    · rename_i hc
      rw [keepR_st]
      by_cases e : j = m
      · subst e
        rw [if_pos rfl, if_pos ⟨by omega, hc⟩]
        unfold St.read
        rw [crashesR_wt]
        obtain ⟨b, hb⟩ := Option.isSome_iff_exists.1 hc.1
        rw [hb]; rfl
      · rw [if_neg e, ih]
        by_cases h : j < m ∧ (s.wt j).isSome = true ∧ bitOf bits (rank s j) = true
        · rw [if_pos h, if_pos ⟨by omega, h.2⟩]
        · rw [if_neg h, if_neg (fun x => h ⟨by omega, x.2⟩)]
    · rename_i hc
      rw [ih]
      by_cases h : j < m ∧ (s.wt j).isSome = true ∧ bitOf bits (rank s j) = true
      · rw [if_pos h, if_pos ⟨by omega, h.2⟩]
      · rw [if_neg h, if_neg (fun x => by
          by_cases e : j = m
          · subst e; exact hc x.2
          · exact h ⟨by omega, x.2⟩)]
theorem crashesR_rot (s : St) (bits j : Nat) : ∀ m, (crashesR s bits m).rot j = if j < m ∧ (s.wt j).isSome = true ∧ bitOf bits (rank s j) = true then false else s.rot j
  | 0 => by rw [if_neg (fun h => by omega)]; rfl
  | m + 1 => by
    have ih := crashesR_rot s bits j m
    unfold crashesR
    split
    · rename_i hc
      rw [keepR_rot, crashesR_wt]
      by_cases e : j = m
      · subst e
        rw [if_pos ⟨rfl, hc.1⟩, if_pos ⟨by omega, hc⟩]
      · rw [if_neg (fun x => e x.1), ih]
        by_cases h : j < m ∧ (s.wt j).isSome = true ∧ bitOf bits (rank s j) = true
        · rw [if_pos h, if_pos ⟨by omega, h.2⟩]
        · rw [if_neg h, if_neg (fun x => h ⟨by omega, x.2⟩)]
    · rename_i hc
      rw [ih]
      by_cases h : j < m ∧ (s.wt j).isSome = true ∧ bitOf bits (rank s j) = true
      · rw [if_pos h, if_pos ⟨by omega, h.2⟩]
      · rw [if_neg h, if_neg (fun x => by
          by_cases e : j = m
          · subst e; exact hc x.2
          · exact h ⟨by omega, x.2⟩)]
theorem crash_alike (s : St) (bits : Nat) : Alike (crashesR s bits s.n).lose (s.crash bits) := by
  have hn : (crashesR s bits s.n).n = s.n := crashesR_n s bits s.n
  refine ⟨hn.trans (crashed_n s bits).symm, (crashesR_dead s bits s.n).trans (crashed_dead s bits).symm, fun i hi => ?_, fun i hi => ?_, fun i _ => rfl⟩
  · have hi : i < s.n := hn ▸ hi
    show (crashesR s bits s.n).st i = _
    rw [crashesR_st, St.crash_st]
    by_cases e : (s.wt i).isSome = true ∧ bitOf bits (rank s i) = true
    · rw [if_pos ⟨hi, e⟩, if_pos ((picks_iff hi).2 e)]
      obtain ⟨b, hb⟩ := Option.isSome_iff_exists.1 e.1
      unfold St.read; rw [hb]; rfl
    · rw [if_neg (fun x => e x.2), if_neg (fun x => e ((picks_iff hi).1 x))]
  · have hi : i < s.n := hn ▸ hi
    show (crashesR s bits s.n).rot i = (s.stores (picks bits s.ks s.ks.length)).rot i
    rw [crashesR_rot, St.stores_rot]
    by_cases e : (s.wt i).isSome = true ∧ bitOf bits (rank s i) = true
    · rw [if_pos ⟨hi, e⟩, if_pos ((picks_iff hi).2 e)]
    · rw [if_neg (fun x => e x.2), if_neg (fun x => e ((picks_iff hi).1 x))]
def RelRC (r A C E : Nat) (s : St) (bits : Nat) (w0 : World) (mv c : Value) (wr : World) : Prop := ∃ m : Nat, m ≤ s.n ∧ mv = .int .i64 (rank s m) ∧ c = .int .i64 m ∧ RefIn wr r A C E (crashesR s bits m) ∧ RChg r A C E w0 wr
set_option maxHeartbeats 4000000 in
set_option maxRecDepth 100000 in
theorem rcrash_any {r A C E : Nat} {s : St} (w : World) (h : RefIn w r A C E s) (bits : Nat) (hbits : bits < 18446744073709551616) : Calls Tryd.prog 25 #[.pointer (some ⟨r, 0, none⟩), .int .u64 (bits : Int)] w (RNew r A C E (s.crash bits) (.tuple #[]) w) := by
  obtain ⟨capA, hcap, c0, c1, c2, c3⟩ := h.cells
  have hmm := @run_makeMap Tryd.prog
  have H0 := Lib.hid h
  have hn := h.ok.n
  have HF := Lib.hid (crash_alike s bits)
  have HFO := Lib.hid (show (s.crash bits).Ok from h.ok.crash bits)
  generalize s.crash bits = sf at HF HFO ⊢
  clear h
  go_enter Tryd.func25, Tryd.ntmps25
  go_wp2_with fail
  clear c0 c1 c2 c3
  go_loopw [4, 13] (fun mv c wr => RelRC r A C E s bits w mv c wr) (fun _ c _ => s.n - (RowKit.intOf c).toNat)
  case atStart => exact ⟨0, Nat.zero_le _, rfl, rfl, H0.out, RChg.refl _ _ _ _ _⟩
  case round =>
    obtain ⟨m, hm, rfl, rfl, hR, hG⟩ := hrel
    have hrk := rank_le s m
    by_cases hlt : m < s.n
    · obtain ⟨capB, _, d0, d1, d2, d3⟩ := hR.cells
      obtain ⟨D, hC⟩ := hR.cache
      rw [crashesR_n, crashesR_wt] at hC
      have HC := Lib.hid hC
      have HR := Lib.hid hR
      have HG := Lib.hid hG
      have HRS := Lib.hid (rank_succ s m)
      clear hR hG hC
      cases hw : s.wt m with
      | none =>
        have HW := Lib.hid hw
        have HN := Lib.hid (show crashesR s bits (m + 1) = crashesR s bits m from if_neg (fun x => by rw [hw] at x; cases x.1))
        have HRS := Lib.hid (show rank s (m + 1) = rank s m by rw [HRS.out, hw]; rfl)
        clear hw
        go_wp2_with (at_lookup; refine wpList_lookup_cache _ rfl _ _ rfl rfl rfl HC.out hlt (by omega) ?_; rw [HW.out]; intro v hv; have hv := (hv.resolve_right (by rintro ⟨_, h, _⟩; cases h)).2; subst hv)
        go_roundw
        case rel => exact ⟨m + 1, by omega, by rw [HRS.out], by go_num, by rw [HN.out]; exact HR.out, HG.out⟩
        case measure => simp [RowKit.intOf]; omega
      | some l =>
        have HW := Lib.hid hw
        have HRS := Lib.hid (show rank s (m + 1) = rank s m + 1 by rw [HRS.out, hw]; rfl)
        have hbt := bit_test bits (rank s m) hbits
        cases hb : bitOf bits (rank s m) with
        | true =>
          rw [hb] at hbt
          have HN := Lib.hid (show crashesR s bits (m + 1) = keepR (crashesR s bits m) m from if_pos ⟨by rw [hw]; rfl, hb⟩)
          have HK := Lib.hid (rkeep_any wr HR.out m (by rw [crashesR_n]; exact hlt))
          clear hw hb
          go_wp2_with (first
            | (go_at_call 44; refine HK.out.mono ?_; rintro e w2 ⟨rfl, hR2, hG2⟩; have HR2 := Lib.hid hR2; have HG2 := Lib.hid (HG.out.trans hG2); clear hR2 hG2)
            | (at_lookup; refine wpList_lookup_cache _ rfl _ _ rfl rfl rfl HC.out hlt (by omega) ?_; rw [HW.out]; intro v hv; have HV := Lib.hid (show ByteRow wr v l by obtain ⟨l', h1, h2⟩ := hv.resolve_left (by rintro ⟨h, _⟩; cases h); cases h1; exact h2); clear hv; obtain ⟨gv, cpv, rfl⟩ := HV.out.shape))
          go_roundw
          case rel => exact ⟨m + 1, by omega, by rw [HRS.out]; rfl, by go_num, by rw [HN.out]; exact HR2.out, HG2.out⟩
          case measure => simp [RowKit.intOf]; omega
        | false =>
          rw [hb] at hbt
          have HN := Lib.hid (show crashesR s bits (m + 1) = crashesR s bits m from if_neg (fun x => by rw [hb] at x; cases x.2))
          clear hw hb
          go_wp2_with (at_lookup; refine wpList_lookup_cache _ rfl _ _ rfl rfl rfl HC.out hlt (by omega) ?_; rw [HW.out]; intro v hv; have HV := Lib.hid (show ByteRow wr v l by obtain ⟨l', h1, h2⟩ := hv.resolve_left (by rintro ⟨h, _⟩; cases h); cases h1; exact h2); clear hv; obtain ⟨gv, cpv, rfl⟩ := HV.out.shape)
          go_roundw
          case rel => exact ⟨m + 1, by omega, by rw [HRS.out]; rfl, by go_num, by rw [HN.out]; exact HR.out, HG.out⟩
          case measure => simp [RowKit.intOf]; omega
    · obtain rfl : m = s.n := by omega
      obtain ⟨capB, _, d0, d1, d2, d3⟩ := hR.cells
      obtain ⟨capC, _, t2⟩ := hR.top
      have f1 := frozen_of_row wr r 1 _ _ t2
      have HN := Lib.hid hR.newCache'
      have HG := Lib.hid hG
      have hsz := hG.size
      have hlr := hR.lt.1
      clear hR hG t2
      go_wp2
      go_end0
      exact ⟨rfl, wr.heap.size, E, HN.out.1.alike HFO.out HF.out, HG.out.trans HN.out.2, Or.inr hsz, Or.inl rfl⟩
end Go.Proofs.YtfhkccldgbgelaaDoor
