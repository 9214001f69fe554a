/-
  The reference's disk: blank, Die, Replace.
-/
import Derived.Test.YtfhkccldgbgelaaDoorRFlush
namespace Go.Proofs.YtfhkccldgbgelaaDoor
open Go.RowKit Go.Deep Dk Go.Maps
def blanks (s : St) (m : Nat) : St := { s with st := fun i => if i < m then zer else s.st i }
theorem blanks_ok {s : St} (h : s.Ok) (m : Nat) : (blanks s m).Ok := ⟨h.n, fun i => by show (if i < m then zer else s.st i).length = 128; split; exact zer_length; exact h.st i, h.wt⟩
theorem wipe_alike (s : St) : Alike { (blanks s s.n) with wt := fun _ => none, rot := fun _ => false } (s.wipe s.dead) :=
  ⟨rfl, rfl, fun _ hi => if_pos hi, fun _ _ => rfl, fun _ _ => rfl⟩
/-- One row is laid anew. -/
theorem RefIn.setRow {w : World} {r A C E i : Nat} {s s' : St} {v : Value} (h : RefIn w r A C E s) (hi : i < s.n) (hok : s'.Ok) (hn : s'.n = s.n) (hd : s'.dead = s.dead) (hw : s'.wt = s.wt) (hrot : s'.rot = s.rot)
    (hst : ∀ j, j < s.n → j ≠ i → s'.st j = s.st j) (hr : ByteRow w v (s'.st i)) : RefIn (w.setCell ⟨A, i, none⟩ v) r A C E s' ∧ RChg r A C E w (w.setCell ⟨A, i, none⟩ v) := by
  obtain ⟨a1, a2, a3, a4, a5⟩ := h.apart
  obtain ⟨capA, t1, t2⟩ := h.top
  obtain ⟨cur, r1, r2, r3⟩ := h.rows
  obtain ⟨D, hC⟩ := h.cache
  obtain ⟨D', hB⟩ := h.bad
  have oth : ∀ k, k ≠ A → (w.setCell ⟨A, i, none⟩ v).heap[k]? = w.heap[k]? := fun k hk => heap_setCell_other _ ⟨A, i, none⟩ k _ hk
  have key : ∀ (g : Nat) (cur : Array Value), w.heap[g]? = some (.cells cur 5 (0, 0)) → (w.setCell ⟨A, i, none⟩ v).heap[g]? = w.heap[g]? := fun g cur hg => oth g (h.off hg).2.1
  refine ⟨⟨hok, by rw [hn]; exact h.pos, h.ne, ⟨capA, by rw [hn]; exact t1, by rw [hn, hd]; exact (oth r a1).trans t2⟩, ⟨_, heap_setCell_same w A i _ _ v r1, by rw [hn]; simpa using r2, fun j hj => ?_⟩, ⟨D, ?_⟩, ⟨D', ?_⟩⟩, RChg.of_grown (grown_cell w A i v) (by simp)⟩
  · rw [hn] at hj
    obtain ⟨u, e1, e2⟩ := r3 j hj
    by_cases e : j = i
    · subst e
      exact ⟨v, by rw [Array.getElem?_setIfInBounds_self_of_lt (by omega)], hr.keep key⟩
    · refine ⟨u, by rw [Array.getElem?_setIfInBounds_ne (fun q => e q.symm)]; exact e1, ?_⟩
      rw [hst j hj e]; exact e2.keep key
  · rw [hn, hw]; exact hC.keep (oth C (fun e => a4 e.symm)) key
  · rw [hn, hrot]; exact hB.keep (oth E (fun e => a5 e.symm))
theorem RefIn.newMaps {w : World} {r A C E : Nat} {s : St} (h : RefIn w r A C E s) :
    RefIn ((((w.alloc (.map #[] 0)).alloc (.map #[] 0)).setCell ⟨r, 1, none⟩ (.map (some w.heap.size))).setCell ⟨r, 2, none⟩ (.map (some (w.heap.size + 1)))) r A w.heap.size (w.heap.size + 1) { s with wt := fun _ => none, rot := fun _ => false } ∧
    RChg r A C E w ((((w.alloc (.map #[] 0)).alloc (.map #[] 0)).setCell ⟨r, 1, none⟩ (.map (some w.heap.size))).setCell ⟨r, 2, none⟩ (.map (some (w.heap.size + 1)))) := by
  obtain ⟨b1, b2, b3, b4⟩ := h.lt
  obtain ⟨a1, a2, a3, a4, a5⟩ := h.apart
  have hs : (w.alloc (.map #[] 0)).heap.size = w.heap.size + 1 := by simp
  have h1 := (h.below (one_below w (.map #[] 0))).below (one_below _ (.map #[] 0))
  obtain ⟨capA, t1, t2⟩ := h1.top
  obtain ⟨cur, r1, r2, r3⟩ := h1.rows
  generalize hW : (w.alloc (.map #[] 0)).alloc (.map #[] 0) = W at *
  have oth : ∀ k, k ≠ r → ((W.setCell ⟨r, 1, none⟩ (.map (some w.heap.size))).setCell ⟨r, 2, none⟩ (.map (some (w.heap.size + 1)))).heap[k]? = W.heap[k]? := fun k hk => (heap_setCell_other _ ⟨r, 2, none⟩ k _ hk).trans (heap_setCell_other _ ⟨r, 1, none⟩ k _ hk)
  have hC : W.heap[w.heap.size]? = some (.map #[] 0) := by rw [← hW, heap_alloc_old (r := w.heap.size) _ _ (by simp)]; exact heap_alloc_new w _
  have hE : W.heap[w.heap.size + 1]? = some (.map #[] 0) := by rw [← hW]; have := heap_alloc_new (w.alloc (.map #[] 0)) (.map #[] 0); rwa [hs] at this
  refine ⟨⟨⟨h.ok.n, h.ok.st, fun _ _ e => by cases e⟩, h.pos, by omega, ⟨capA, t1, ?_⟩, ⟨cur, (oth A (fun e => a1 e.symm)).trans r1, r2, fun i hi => ?_⟩, ⟨.map [], ?_⟩, ⟨.map [], ?_⟩⟩, ?_⟩
  · have e1 := heap_setCell_same W r 1 _ _ (.map (some w.heap.size)) t2
    exact heap_setCell_same _ r 2 _ _ (.map (some (w.heap.size + 1))) e1
  · obtain ⟨v, e1, e2⟩ := r3 i hi
    exact ⟨v, e1, e2.keep fun g cur hg => oth g (h1.off hg).1⟩
  · exact ⟨⟨#[], 0, (oth _ (fun e => by omega)).trans hC, ⟨by simp, MapKept.stamped_empty 0, by simp⟩, Nat.le_refl _, rfl⟩, fun _ h => (by cases h), fun _ _ _ => rfl, fun i l _ hl => (by cases hl)⟩
  · exact ⟨⟨#[], 0, (oth _ (fun e => by omega)).trans hE, ⟨by simp, MapKept.stamped_empty 0, by simp⟩, Nat.le_refl _, rfl⟩, fun _ h => (by cases h), fun _ _ => rfl⟩
  · exact ((RChg.of_below (hW ▸ balloc (one_below w _) _)).trans (RChg.of_grown (grown_cell _ r 1 _) (by simp))).trans (RChg.of_grown (grown_cell _ r 2 _) (by simp))
theorem RefIn.newMaps' {w : World} {r A C E : Nat} {s : St} (h : RefIn w r A C E s) :
    RefIn ((((w.setCell ⟨r, 1, none⟩ (.map (some w.heap.size))).setCell ⟨r, 2, none⟩ (.map (some (w.heap.size + 1)))).alloc (.map #[] 0)).alloc (.map #[] 0)) r A w.heap.size (w.heap.size + 1) { s with wt := fun _ => none, rot := fun _ => false } ∧
    RChg r A C E w ((((w.setCell ⟨r, 1, none⟩ (.map (some w.heap.size))).setCell ⟨r, 2, none⟩ (.map (some (w.heap.size + 1)))).alloc (.map #[] 0)).alloc (.map #[] 0)) := by
  have := h.newMaps
  have hl := h.lt.1
  rw [World.setCell_alloc_past _ _ _ _ (by simp; omega), World.setCell_alloc_past _ _ _ _ hl, World.setCell_alloc_past _ _ _ _ (by simp; omega), World.setCell_alloc_past _ _ _ _ (by simpa using hl)] at this
  exact this
def RelRB (r A C E : Nat) (s : St) (w0 : World) (c : Value) (wr : World) : Prop := ∃ m : Nat, m ≤ s.n ∧ c = .int .i64 m ∧ RefIn wr r A C E (blanks s m) ∧ RChg r A C E w0 wr
set_option maxHeartbeats 4000000 in
set_option maxRecDepth 100000 in
theorem rblank_any {r A C E : Nat} {s : St} (w : World) (h : RefIn w r A C E s) : Calls Tryd.prog 45 #[.pointer (some ⟨r, 0, none⟩)] w (RNew r A C E (s.wipe s.dead) (.tuple #[]) w) := by
  obtain ⟨capA, hcap, c0, c1, c2, c3⟩ := h.cells
  have hmm := @run_makeMap Tryd.prog
  have hmk : ∀ w, (Instr.makeSlice 28 (.int .i64 128) (.int .i64 128)).run Tryd.prog w = .ok (.slice (some ⟨w.heap.size, 0, none⟩) 128 128) (w.alloc (.cells (madeCells #[.int .u8 0] 128) 5)) := make_u8 128 (by omega)
  have H0 := Lib.hid (show RefIn w r A C E (blanks s 0) from h.alike (blanks_ok h.ok 0) ⟨rfl, rfl, fun i _ => by show s.st i = if i < 0 then zer else s.st i; rw [if_neg (by omega)], fun _ _ => rfl, fun _ _ => rfl⟩)
  have hn := h.ok.n
  have HOK := Lib.hid h.ok
  have HF := Lib.hid (wipe_alike s)
  have HFO := Lib.hid (show (s.wipe s.dead).Ok from h.ok.wipe _)
  generalize s.wipe s.dead = sf at HF HFO ⊢
  clear h
  go_enter Tryd.func45, Tryd.ntmps45
  go_wp2_with fail
  clear c0 c1 c2 c3
  go_loopw [8] (fun c wr => RelRB r A C E s w c wr) (fun c _ => s.n - (RowKit.intOf c).toNat)
  case atStart => exact ⟨0, Nat.zero_le _, rfl, H0.out, RChg.refl _ _ _ _ _⟩
  case round =>
    obtain ⟨m, hm, rfl, hR, hG⟩ := hrel
    by_cases hlt : m < s.n
    · obtain ⟨capB, hcb, d0, d1, d2, d3⟩ := hR.cells
      obtain ⟨u0, k0, _⟩ := hR.row (i := m) hlt
      obtain ⟨cur, r1, _⟩ := hR.rows
      have f0 := frozen_of_row wr A m _ _ r1
      have hlA := hR.lt.2.1
      have hlr := hR.lt.1
      have i1 : (m : Int) < s.n := by omega
      have hR1 := hR.below (one_below wr (.cells (madeCells #[.int .u8 0] 128) 5))
      have hown := made_own wr wr.heap.size 128 (Nat.le_refl _) (by omega)
      have hz : (zeros 128) = zer := rfl
      rw [hz] at hown
      have HN := Lib.hid (hR1.setRow (s' := blanks s (m + 1)) hlt (blanks_ok HOK.out _) rfl rfl rfl rfl (fun j _ hj => by
        show (if j < m + 1 then zer else s.st j) = if j < m then zer else s.st j
        by_cases e : j < m
        · rw [if_pos e, if_pos (by omega)]
        · rw [if_neg e, if_neg (by omega)]) (by
        have e : (blanks s (m + 1)).st m = zer := if_pos (by omega)
        rw [e]; exact ByteRow.of_own hown zer_length))
      rw [World.setCell_alloc_past _ _ _ _ hlA] at HN
      have HG := Lib.hid hG
      have HMEM := Lib.hid (show ∀ (w' : World), w'.heap[r]? = wr.heap[r]? → w'.cell? ⟨r, 0, none⟩ = some (.slice (some ⟨A, 0, none⟩) s.n capB) from fun w' hb => (World.cell?_of_block (a := ⟨r, 0, none⟩) hb).trans d0)
      have hd0 : wr.cell? ⟨r, 0, none⟩ = some (.slice (some ⟨A, 0, none⟩) s.n capB) := d0
      have hrA : r ≠ A := hR.apart.1
      generalize madeCells #[.int .u8 0] 128 = zs at hmk HN
      have HN2 := Lib.hid (hG.trans ((RChg.of_below (one_below wr (.cells zs 5))).trans HN.out.2))
      have hrz : ((wr.setCell ⟨A, m, none⟩ (.slice (some ⟨wr.heap.size, 0, none⟩) 128 128)).alloc (.cells zs 5)).heap[r]? = wr.heap[r]? := (heap_alloc_old _ _ (by have := (RChg.of_grown (r := A) (A := A) (C := A) (E := A) (grown_cell wr A m (.slice (some ⟨wr.heap.size, 0, none⟩) 128 128)) (by simp)).size; omega)).trans (heap_setCell_other wr ⟨A, m, none⟩ r _ hrA)
      clear hR hG hR1 hown r1 d0
      go_wp2_with fail
      go_region_held3 (fun w' => w'.cell? ⟨r, 0, none⟩ = some (.slice (some ⟨A, 0, none⟩) s.n capB)) ((refine HMEM.out _ ?_; first | rfl | assumption | exact hrz | exact heap_alloc_old _ _ hlr)) (fail)
      all_goals
        go_wp2
        go_roundw
        case rel => exact ⟨m + 1, by omega, by go_num, HN.out.1.drew, ⟨HN2.out.os, HN2.out.tape, HN2.out.output, HN2.out.size, HN2.out.block⟩⟩
        case measure => simp [RowKit.intOf]; omega
    · obtain rfl : m = s.n := by omega
      obtain ⟨capB, _, d0, d1, d2, d3⟩ := hR.cells
      obtain ⟨capC, _, t2⟩ := hR.top
      have f1 := frozen_of_row wr r 1 _ _ t2
      have f2 := frozen_of_row wr r 2 _ _ t2
      have HN := Lib.hid hR.newMaps'
      have HG := Lib.hid hG
      have hsz := hG.size
      have hlr := hR.lt.1
      clear hR hG t2
      go_wp2
      go_end0
      exact ⟨rfl, wr.heap.size, wr.heap.size + 1, HN.out.1.alike HFO.out HF.out, HG.out.trans HN.out.2, Or.inr hsz, Or.inr (by omega)⟩
def RWiped (r A C E : Nat) (s' : St) (w : World) (e : Ending) (w' : World) : Prop := RNew r A C E s' (.tuple #[]) w e w'
theorem RefIn.setDead {w : World} {r A C E : Nat} {s : St} (h : RefIn w r A C E s) (b : Bool) : RefIn (w.setCell ⟨r, 3, none⟩ (.bool b)) r A C E { s with dead := b } ∧ RChg r A C E w (w.setCell ⟨r, 3, none⟩ (.bool b)) := by
  obtain ⟨a1, a2, a3, a4, a5⟩ := h.apart
  obtain ⟨capA, t1, t2⟩ := h.top
  obtain ⟨cur, r1, r2, r3⟩ := h.rows
  obtain ⟨D, hC⟩ := h.cache
  obtain ⟨D', hB⟩ := h.bad
  have oth : ∀ k, k ≠ r → (w.setCell ⟨r, 3, none⟩ (.bool b)).heap[k]? = w.heap[k]? := fun k hk => heap_setCell_other _ ⟨r, 3, none⟩ k _ hk
  have key : ∀ (g : Nat) (cur : Array Value), w.heap[g]? = some (.cells cur 5 (0, 0)) → (w.setCell ⟨r, 3, none⟩ (.bool b)).heap[g]? = w.heap[g]? := fun g cur hg => oth g (h.off hg).1
  refine ⟨⟨⟨h.ok.n, h.ok.st, h.ok.wt⟩, h.pos, h.ne, ⟨capA, t1, heap_setCell_same w r 3 _ _ _ t2⟩, ⟨cur, (oth A (fun e => a1 e.symm)).trans r1, r2, fun j hj => ?_⟩, ⟨D, hC.keep (oth C (fun e => a2 e.symm)) key⟩, ⟨D', hB.keep (oth E (fun e => a3 e.symm))⟩⟩, RChg.of_grown (grown_cell w r 3 _) (by simp)⟩
  obtain ⟨u, e1, e2⟩ := r3 j hj
  exact ⟨u, e1, e2.keep key⟩
set_option maxHeartbeats 2000000 in
set_option maxRecDepth 100000 in
theorem rdie_any {r A C E : Nat} {s : St} (w : World) (h : RefIn w r A C E s) : Calls Tryd.prog 27 #[.pointer (some ⟨r, 0, none⟩)] w (RWiped r A C E (s.wipe true) w) := by
  obtain ⟨capB, _, d0, d1, d2, d3⟩ := h.cells
  obtain ⟨capC, _, t2⟩ := h.top
  have f3 := frozen_of_row w r 3 _ _ t2
  have HD := Lib.hid (h.setDead true)
  have HB := Lib.hid (rblank_any (w.setCell ⟨r, 3, none⟩ (.bool true)) (h.setDead true).1)
  clear h t2
  go_enter Tryd.func27, Tryd.ntmps27
  go_wp2_with fail
  refine HB.out.mono ?_
  rintro e w2 ⟨rfl, C', E', h1, h2, h3, h4⟩
  have hs := HD.out.2.size
  have HZ := Lib.hid (show RWiped r A C E (s.wipe true) w (.returned (.tuple #[])) w2 from ⟨rfl, C', E', h1, HD.out.2.trans h2, h3.imp id (fun x => by omega), h4.imp id (fun x => by omega)⟩)
  clear h1 h2 h3 h4
  go_wp2
  go_end0
  exact HZ.out
set_option maxHeartbeats 2000000 in
set_option maxRecDepth 100000 in
theorem rreplace_any {r A C E : Nat} {s : St} (w : World) (h : RefIn w r A C E s) : Calls Tryd.prog 29 #[.pointer (some ⟨r, 0, none⟩)] w (RWiped r A C E (s.wipe false) w) := by
  obtain ⟨capB, _, d0, d1, d2, d3⟩ := h.cells
  obtain ⟨capC, _, t2⟩ := h.top
  have f3 := frozen_of_row w r 3 _ _ t2
  have HD := Lib.hid (h.setDead false)
  have HB := Lib.hid (rblank_any (w.setCell ⟨r, 3, none⟩ (.bool false)) (h.setDead false).1)
  clear h t2
  go_enter Tryd.func29, Tryd.ntmps29
  go_wp2_with fail
  refine HB.out.mono ?_
  rintro e w2 ⟨rfl, C', E', h1, h2, h3, h4⟩
  have hs := HD.out.2.size
  have HZ := Lib.hid (show RWiped r A C E (s.wipe false) w (.returned (.tuple #[])) w2 from ⟨rfl, C', E', h1, HD.out.2.trans h2, h3.imp id (fun x => by omega), h4.imp id (fun x => by omega)⟩)
  clear h1 h2 h3 h4
  go_wp2
  go_end0
  exact HZ.out
end Go.Proofs.YtfhkccldgbgelaaDoor
