/-
  The reference's disk: NewDisk.
-/
import Derived.Test.YtfhkccldgbgelaaDoorRBlank
import Derived.Test.YtfhkccldgbgelaaDoorDHas
namespace Go.Proofs.YtfhkccldgbgelaaDoor
open Go.RowKit Go.Deep Dk Go.Maps
theorem info_rows : (Tryd.prog.info? 28).map (fun i => (i.zero, i.size, i.bytes)) = some (some (.slice none 0 0), 1, 24) := by kernel_rfl
theorem cell_later {w2 wx w3 : World} {r r' : Option Nat} {c i : Nat} {x : Value} (hb : Below w2.heap.size w2 wx) (hg : Grew wx r w3 r') (hl : c < w2.heap.size) (hr : r ≠ some c) (h : w2.cell? ⟨c, i, none⟩ = some x) : w3.cell? ⟨c, i, none⟩ = some x := by
  rw [hg.cell (a := ⟨c, i, none⟩) (Nat.lt_of_lt_of_le hl hb.size) (fun e => hr e.symm), hb.cell (p := ⟨c, i, none⟩) hl]; exact h
theorem frozen_later {w2 wx w3 : World} {r r' : Option Nat} {c i : Nat} (hb : Below w2.heap.size w2 wx) (hg : Grew wx r w3 r') (hl : c < w2.heap.size) (hr : r ≠ some c) (h : w2.frozen? ⟨c, i, none⟩ = false) : w3.frozen? ⟨c, i, none⟩ = false := by
  rw [hg.frozen (a := ⟨c, i, none⟩) (Nat.lt_of_lt_of_le hl hb.size) (fun e => hr e.symm), hb.frozen (p := ⟨c, i, none⟩) hl]; exact h
set_option maxRecDepth 100000 in
theorem step_append_rows (w : World) {ops : Array Oper} {o : Oper} {a : Act} {K : Act → World → Prop} {Q : Exit → Act → World → Prop} {E : Prop} (hgd : o.guard = none) (s x : Operand)
    (ho : o.op = .call { callee := .builtin .append, args := #[s, x], argTypes := #[52, 52] })
    (base : Nat) (v : Value) (n : Nat) (xs : List Value) (hsv : a.eval s = v) (hown : w.ownsRow base 28 1 v n xs)
    (b : Nat) (u : Value) (hx : a.eval x = .slice (some ⟨b, 0, none⟩) 1 1) (hb : w.cell? ⟨b, 0, none⟩ = some u) (hu : u.oneCell' = true) (h63 : n + 1 ≤ 100000) (hbase : base ≤ w.heap.size)
    (h : ∀ v' w', w'.ownsRow base 28 1 v' (n + 1) (xs ++ [u]) → Grew w v.ownBlock w' v'.ownBlock → K (a.put o.dst v') w') : if Region.wanted o (yielded ops a.tmps) = true then Oper.wp Tryd.prog o a w K Q else E := by
  have hw : Region.wanted o (yielded ops a.tmps) = true := by simp [Region.wanted, hgd]
  rw [if_pos hw]
  obtain ⟨i0, hi0, hz⟩ := Option.map_eq_some_iff.1 info_rows
  simp only [Prod.mk.injEq] at hz
  obtain ⟨hz0, hz1, hz2⟩ := hz
  have hsrc : Src Tryd.prog 1 52 (.slice (some ⟨b, 0, none⟩) 1 1) 1 [u] w := Src.ofSlice _ Tryd.underlying52 ⟨b, 0, none⟩ 1 1 [u] rfl (fun j y hy => by
    match j, hy with
    | 0, hy => injection hy with hy; subst hy; simpa [Addr.add] using hb
    | j + 1, hy => simp at hy) (fun y hy => by rw [List.mem_singleton.1 hy]; exact hu)
  exact wp_append_src w s x 52 52 ho base 28 i0 (.slice none 0 0) 1 24 Tryd.underlying52 hi0 hz0 hz1 hz2 rfl v n xs hsv hown (.slice (some ⟨b, 0, none⟩) 1 1) 1 [u] hx hsrc (by unfold maxLen; omega) (by omega) hbase fun v' w' h1 h2 _ => h v' w' h1 h2
/-- So far j rows have been laid. -/
structure NRow (w : World) (j : Nat) (v : Value) (us : List Value) (w0 : World) : Prop where
  top : w.heap[w0.heap.size + 2]? = some (.cells #[v, .map (some w0.heap.size), .map (some (w0.heap.size + 1)), .bool false] 56 (0, 0))
  c : w.heap[w0.heap.size]? = some (.map #[] 0)
  e : w.heap[w0.heap.size + 1]? = some (.map #[] 0)
  own : w.ownsRow (w0.heap.size + 3) 28 1 v j us
  row : ∀ u ∈ us, ByteRow w u zer
  below : KB w0 w
theorem NRow.cells {w w0 : World} {j : Nat} {v : Value} {us : List Value} (h : NRow w j v us w0) : w.cell? ⟨w0.heap.size + 2, 0, none⟩ = some v ∧ w.frozen? ⟨w0.heap.size + 2, 0, none⟩ = false := by
  refine ⟨?_, frozen_of_row _ _ 0 _ _ h.top⟩
  rw [cell_of_row _ _ 0 _ _ (0, 0) h.top]; rfl
theorem NRow.lt {w w0 : World} {j : Nat} {v : Value} {us : List Value} (h : NRow w j v us w0) : w0.heap.size + 2 < w.heap.size := (Array.getElem?_eq_some_iff.1 h.top).1
theorem NRow.off {w w0 : World} {j : Nat} {v : Value} {us : List Value} (h : NRow w j v us w0) : v.ownBlock ≠ some (w0.heap.size + 2) := fun e => by have := (own_block h.own e).1; omega
/-- No row of bytes is the row of rows. -/
theorem own_off {w : World} {B n g : Nat} {v : Value} {xs : List Value} {cur : Array Value} (h : w.ownsRow B 28 1 v n xs) (hg : w.heap[g]? = some (.cells cur 5 (0, 0))) : v.ownBlock ≠ some g := by
  rcases h.2 with ⟨rfl, _⟩ | ⟨g', cap, cur', rfl, _, hg', _⟩
  · intro e; cases e
  · intro e
    have e : g' = g := by
      have : (Value.slice (some ⟨g', 0, none⟩) n cap).ownBlock = some g' := rfl
      rw [this] at e; injection e
    subst e
    rw [hg] at hg'
    injection hg' with hg'
    injection hg' with _ h2 _
    cases h2
theorem NRow.next {w0 wr wx w3 : World} {j g : Nat} {v v' : Value} {us : List Value} {cs : Array Value} (h : NRow wr j v us w0) (hx : Below wr.heap.size wr wx) (hz : wx.heap[g]? = some (.cells cs 5 (0, 0))) (hcs : cs.toList.take 128 = bytesV zer)
    (hown : w3.ownsRow (w0.heap.size + 3) 28 1 v' (j + 1) (us ++ [.slice (some ⟨g, 0, none⟩) 128 128])) (hg : Grew wx v.ownBlock w3 v'.ownBlock) :
    NRow (w3.setCell ⟨w0.heap.size + 2, 0, none⟩ v') (j + 1) v' (us ++ [.slice (some ⟨g, 0, none⟩) 128 128]) w0 := by
  have hlt := h.lt
  have hoff := h.off
  have hlow : ∀ k, k < w0.heap.size + 3 → v.ownBlock ≠ some k := fun k hk e => by have := (own_block h.own e).1; omega
  have old : ∀ k, k < wr.heap.size → v.ownBlock ≠ some k → w3.heap[k]? = wr.heap[k]? := fun k hk hne => (hg.by_.block k (Nat.lt_of_lt_of_le hk hx.size) (fun e => hne e.symm)).trans (hx.block k hk)
  have oth : ∀ k, k ≠ w0.heap.size + 2 → (w3.setCell ⟨w0.heap.size + 2, 0, none⟩ v').heap[k]? = w3.heap[k]? := fun k hk => heap_setCell_other _ ⟨w0.heap.size + 2, 0, none⟩ k _ hk
  have hownx := own_below h.own hx
  have key : ∀ (k : Nat) (cur : Array Value), wx.heap[k]? = some (.cells cur 5 (0, 0)) → (w3.setCell ⟨w0.heap.size + 2, 0, none⟩ v').heap[k]? = wx.heap[k]? := fun k cur hk => by
    have e2 : w3.heap[k]? = wx.heap[k]? := hg.by_.block k (Array.getElem?_eq_some_iff.1 hk).1 (fun e => own_off hownx hk e.symm)
    refine (oth k (fun e => ?_)).trans e2
    subst e
    have e3 := (hx.block (w0.heap.size + 2) hlt).trans h.top
    rw [e3] at hk
    injection hk with hk
    injection hk with _ h2 _
    cases h2
  refine ⟨heap_setCell_same w3 _ 0 _ _ v' ((old _ hlt hoff).trans h.top), (oth _ (by omega)).trans ((old _ (by omega) (hlow _ (by omega))).trans h.c), (oth _ (by omega)).trans ((old _ (by omega) (hlow _ (by omega))).trans h.e), ?_, fun u hu => ?_, ?_⟩
  · exact World.ownsRow.kept hown (grown_cell w3 _ 0 v') (Or.inr fun e => by have := (own_block hown e).1; omega)
  · rcases List.mem_append.1 hu with hu | hu
    · exact ((h.row u hu).keep fun k cur hk => hx.block k (Array.getElem?_eq_some_iff.1 hk).1).keep key
    · rw [List.mem_singleton.1 hu]
      exact ByteRow.keep ⟨zer_length, g, 128, cs, rfl, Nat.le_refl _, hz, hcs⟩ key
  · refine Below.setCell (p := ⟨w0.heap.size + 2, 0, none⟩) ?_ (by show _ ≤ w0.heap.size + 2; omega) _
    exact (h.below.trans (hx.mono h.below.size)).trans (hg.below (Nat.le_trans h.below.size hx.size) fun k hk => by have := (own_block h.own hk).1; omega)
/-- A new disk. -/
def RMade (n : Nat) (w : World) (e : Ending) (w' : World) : Prop :=
  ∃ r A C E, e = .returned (.tuple #[.pointer (some ⟨r, 0, none⟩), .int .i64 0]) ∧ RefIn w' r A C E (new n) ∧ w.heap.size ≤ r ∧ w.heap.size ≤ A ∧ w.heap.size ≤ C ∧ w.heap.size ≤ E ∧ KB w w'
theorem NRow.made {w w0 : World} {n : Nat} {v : Value} {us : List Value} (h : NRow w n v us w0) (h1 : 1 ≤ n) (h2 : n ≤ 128) : RMade n w0 (.returned (.tuple #[.pointer (some ⟨w0.heap.size + 2, 0, none⟩), .int .i64 0])) w := by
  have hlen := h.own.1
  rcases h.own.2 with ⟨_, h0⟩ | ⟨A, cap, cur, rfl, hB, hg, hle, _, _, ht⟩
  · omega
  · refine ⟨_, A, _, _, rfl, ⟨new_ok h2, h1, by omega, ⟨cap, hle, h.top⟩, ⟨cur, hg, ?_, fun i hi => ?_⟩, ⟨.map [], ?_⟩, ⟨.map [], ?_⟩⟩, by omega, by omega, by omega, by omega, h.below⟩
    · have e := congrArg List.length ht
      rw [List.length_take, hlen] at e
      show n ≤ cur.size
      have : cur.toList.length = cur.size := rfl
      omega
    · have hi : i < n := hi
      rw [Nat.mul_one] at hlen ht
      have hu : us[i]? = some (us[i]'(by omega)) := List.getElem?_eq_getElem (by omega)
      refine ⟨us[i]'(by omega), ?_, h.row _ (List.getElem_mem _)⟩
      rw [← hu, ← ht, List.getElem?_take, if_pos hi, Array.getElem?_toList]
    · exact ⟨⟨#[], 0, h.c, ⟨by simp, MapKept.stamped_empty 0, by simp⟩, Nat.le_refl _, rfl⟩, fun _ h => (by cases h), fun _ _ _ => rfl, fun i l _ hl => (by cases hl)⟩
    · exact ⟨⟨#[], 0, h.e, ⟨by simp, MapKept.stamped_empty 0, by simp⟩, Nat.le_refl _, rfl⟩, fun _ h => (by cases h), fun _ _ => rfl⟩
theorem nrow_start (w : World) : NRow (((w.alloc (.map #[] 0)).alloc (.map #[] 0)).alloc (.cells #[.slice none 0 0, .map (some w.heap.size), .map (some (w.heap.size + 1)), .bool false] 56)) 0 (.slice none 0 0) [] w := by
  have hs : (w.alloc (.map #[] 0)).heap.size = w.heap.size + 1 := by simp
  have hs2 : ((w.alloc (.map #[] 0)).alloc (.map #[] 0)).heap.size = w.heap.size + 2 := by simp
  have h0 := heap_alloc_new w (.map #[] 0)
  have h1 := heap_alloc_new (w.alloc (.map #[] 0)) (.map #[] 0)
  rw [hs] at h1
  have h2 := heap_alloc_new ((w.alloc (.map #[] 0)).alloc (.map #[] 0)) (.cells #[.slice none 0 0, .map (some w.heap.size), .map (some (w.heap.size + 1)), .bool false] 56)
  rw [hs2] at h2
  refine ⟨h2, ?_, ?_, ⟨rfl, Or.inl ⟨rfl, rfl⟩⟩, fun u hu => (by cases hu), balloc (balloc (one_below w _) _) _⟩
  · rw [heap_alloc_old (r := w.heap.size) _ _ (by rw [hs2]; omega), heap_alloc_old (r := w.heap.size) _ _ (by rw [hs]; omega)]; exact h0
  · rw [heap_alloc_old (r := w.heap.size + 1) _ _ (by rw [hs2]; omega)]; exact h1
def RelNR (n : Nat) (w : World) (i : Value) (wr : World) : Prop := ∃ (j : Nat) (v : Value) (us : List Value), j ≤ n ∧ i = .int .i64 j ∧ NRow wr j v us w
theorem relNR_next {n j g : Nat} {w0 wr wx w3 : World} {v v' : Value} {us : List Value} {cs : Array Value} (h : NRow wr j v us w0) (hj : j < n) (hx : Below wr.heap.size wr wx) (hz : wx.heap[g]? = some (.cells cs 5 (0, 0))) (hcs : cs.toList.take 128 = bytesV zer)
    (hown : w3.ownsRow (w0.heap.size + 3) 28 1 v' (j + 1) (us ++ [.slice (some ⟨g, 0, none⟩) 128 128])) (hg : Grew wx v.ownBlock w3 v'.ownBlock) : RelNR n w0 (.int .i64 ((j : Int) + 1)) (w3.setCell ⟨w0.heap.size + 2, 0, none⟩ v') :=
  ⟨j + 1, v', _, by omega, by go_num, h.next hx hz hcs hown hg⟩
set_option maxHeartbeats 2000000 in
set_option maxRecDepth 100000 in
theorem rnew_yes (n : Nat) (w : World) (h1 : 1 ≤ n) (h2 : n ≤ 128) : Calls Tryd.prog 19 #[.int .i64 (n : Int)] w (RMade n w) := by
  have hmm := @run_makeMap Tryd.prog
  have hmk : ∀ w, (Instr.makeSlice 28 (.int .i64 128) (.int .i64 128)).run Tryd.prog w = .ok (.slice (some ⟨w.heap.size, 0, none⟩) 128 128) (w.alloc (.cells (madeCells #[.int .u8 0] 128) 5)) := make_u8 128 (by omega)
  have hzs : (madeCells #[.int .u8 0] 128).toList.take 128 = bytesV zer := by
    rw [made_u8]
    exact List.take_of_length_le (by rw [bytesV_length, List.length_replicate]; exact Nat.le_refl _)
  have HZS := Lib.hid hzs
  have HNS := Lib.hid (nrow_start w)
  generalize madeCells #[.int .u8 0] 128 = zs at hmk HZS
  clear hzs
  go_enter Tryd.func19, Tryd.ntmps19
  go_wp2_with fail
  go_loopw [5] (fun c wr => RelNR n w c wr) (fun c _ => n - (intOf c).toNat)
  case atStart => exact ⟨0, _, [], Nat.zero_le _, rfl, HNS.out⟩
  case round =>
    obtain ⟨j, v, us, hj, rfl, hr3⟩ := hrel
    by_cases hlt : j < n
    · obtain ⟨c1, c3⟩ := hr3.cells
      have c1 : wr.cell? ⟨w.heap.size + 1 + 1, 0, none⟩ = some v := c1
      have c3 : wr.frozen? ⟨w.heap.size + 1 + 1, 0, none⟩ = false := c3
      have hcl : w.heap.size + 1 + 1 < wr.heap.size := hr3.lt
      have HR3 := Lib.hid hr3
      have HNE := Lib.hid (show v.ownBlock ≠ some (w.heap.size + 1 + 1) from hr3.off)
      have hcl2 : w.heap.size + 1 < wr.heap.size := by omega
      have hcl3 : w.heap.size + 1 + 1 < wr.heap.size + 1 := by omega
      clear hr3
      go_wp2_with fail
      go_region_law (first | (refine step_append_rows _ rfl (.tmp 25) (.tmp 27) (by rfl) (w.heap.size + 3) _ _ us (by rfl) (own_below HR3.out.own (by repeat (first | exact Below.refl _ _ | assumption | apply Below.drew | apply below_drewN | refine balloc ?_ _))) (wr.heap.size + 1) (.slice (some ⟨wr.heap.size, 0, none⟩) 128 128) (by rfl) (by simp) rfl (by omega) (by simp; omega) ?_; intro v' w3 hown3 hg3; have c1d := cell_later (by repeat (first | exact Below.refl _ _ | assumption | apply Below.drew | apply below_drewN | refine balloc ?_ _)) hg3 hcl HNE.out c1; have c3d := frozen_later (by repeat (first | exact Below.refl _ _ | assumption | apply Below.drew | apply below_drewN | refine balloc ?_ _)) hg3 hcl HNE.out c3; have HO3 := Lib.hid hown3; have HG3 := Lib.hid hg3; obtain ⟨gv, cv, rfl, _⟩ := own_slice hown3; clear hown3 hg3))
      all_goals
        go_wp2_with fail
        go_roundw
        case rel =>
          refine relNR_next HR3.out hlt ?_ ?_ HZS.out HO3.out HG3.out
          · repeat (first | exact Below.refl _ _ | assumption | apply Below.drew | apply below_drewN | refine balloc ?_ _)
          · exact (heap_alloc_old (r := wr.heap.size) _ _ (by simp)).trans (heap_alloc_new _ _)
        case measure => simp [intOf]; omega
    · obtain rfl : j = n := by omega
      have HR3 := Lib.hid hr3
      clear hr3
      go_wp2_with fail
      exact bodyPost_ret (v := .tuple #[.pointer (some ⟨w.heap.size + 2, 0, none⟩), .int .i64 0]) (by simp [results, Tryd.results19, go_sem]) rfl (HR3.out.made h1 h2)
end Go.Proofs.YtfhkccldgbgelaaDoor
