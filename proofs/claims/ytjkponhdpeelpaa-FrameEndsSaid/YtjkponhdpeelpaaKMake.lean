/-
  crc.Make: a new block, with what eight bits of each byte do.
-/
import Derived.Test.YtjkponhdpeelpaaKit
import Derived.Test.YtjkponhdpeelpaaBytes
import Derived.Test.YtjkponhdpeelpaaKModel
import Derived.Deep.RegionWith
import Derived.Laws.BitsAllLaws
namespace Go.Proofs.Ytjkponhdpeelpaa
open Go.RowKit Crc
def U32Same (n : Nat) (w : World) (e : Ending) (w' : World) : Prop := e = .returned (.int .u32 n) ∧ w = w'
theorem u32Same {a : Int} {b : Nat} {w : World} (h : a = b) : U32Same b w (.returned (.int .u32 a)) w := ⟨by rw [h], rfl⟩
theorem drewN_0 (w : World) : w = w.drewN 0 := by first | rfl | simp [World.drewN]
theorem and_odd {x : Nat} (hx : x < 4294967296) (h : x % 2 = 1) : (bits .and .u32 (x : Int) 1 == 1) = true := by
  have := u32_and_nat x 1 hx (by omega)
  rw [show ((1 : Nat) : Int) = 1 by rfl, Nat.and_one_is_mod, h] at this
  rw [this]; rfl
theorem and_even {x : Nat} (hx : x < 4294967296) (h : ¬ x % 2 = 1) : (bits .and .u32 (x : Int) 1 == 1) = false := by
  have := u32_and_nat x 1 hx (by omega)
  rw [show ((1 : Nat) : Int) = 1 by rfl, Nat.and_one_is_mod, show x % 2 = 0 by omega] at this
  rw [this]; rfl
theorem st_odd {x : Nat} (hx : x < 4294967296) (h : x % 2 = 1) : bits .xor .u32 ((x : Int) / 2) 2197175160 = (st x : Nat) := by
  have := u32_xor_nat (x / 2) 2197175160 (by omega) (by omega)
  unfold st
  rw [if_pos h, Nat.shiftRight_eq_div_pow, ← show ((x / 2 : Nat) : Int) = (x : Int) / 2 by omega]
  exact this
theorem st_ev {x : Nat} (h : ¬ x % 2 = 1) : (x : Int) / 2 = (st x : Nat) := by
  unfold st
  rw [if_neg h, Nat.shiftRight_eq_div_pow, Nat.xor_zero]
  omega
def RelS (b : Nat) (v c : Value) : Prop := ∃ (k x : Nat), k ≤ 8 ∧ x < 4294967296 ∧ sts (8 - k) x = tab b ∧ v = .int .u32 x ∧ c = .int .i64 k
theorem relS_next {b k x : Nat} {v : Int} (hx : x < 4294967296) (hlt : k < 8) (h : sts (8 - k) x = tab b) (e : v = (st x : Nat)) : RelS b (.int .u32 v) (.int .i64 (k + 1)) := by
  refine ⟨k + 1, st x, by omega, st_lt hx, ?_, by rw [e], by go_num⟩
  rw [← h, show 8 - k = (8 - (k + 1)) + 1 by omega]
  rfl
set_option maxHeartbeats 1000000 in
theorem shifted_any (b : Nat) (w : World) (hb : b < 256) : Calls Try.prog 31 #[.int .u32 b] w (U32Same (tab b) w) := by
  go_enter Try.func31, Try.ntmps31
  go_wp2
  go_loop [0, 4] (fun v c => RelS b v c) (fun _ c => 8 - (intOf c).toNat)
  case atStart => exact ⟨0, b, by omega, by omega, rfl, rfl, rfl⟩
  case round =>
    obtain ⟨k, x, hk, hx, hs, rfl, rfl⟩ := hrel
    have HS := Lib.hid hs; clear hs
    by_cases hlt : k < 8
    · by_cases ho : x % 2 = 1
      · have hb1 := and_odd hx ho
        have HX := Lib.hid (st_odd hx ho)
        have HO := Lib.hid ho
        clear ho
        go_wp2_with fail
        go_round
        case rel => exact relS_next hx hlt HS.out HX.out
        case measure => simp [intOf]; omega
      · have hb1 := and_even hx ho
        have HX := Lib.hid (st_ev ho)
        have HO := Lib.hid ho
        clear ho
        go_wp2_with fail
        go_round
        case rel => exact relS_next hx hlt HS.out HX.out
        case measure => simp [intOf]; omega
    · obtain rfl : k = 8 := by omega
      go_wp2
      go_ret
      exact u32Same (by rw [← HS.out]; rfl)

/-- What Make has laid, when n rows are laid. -/
structure LaidT (cs : Array Value) (n : Nat) : Prop where
  size : cs.size = 256
  row : ∀ i, i < n → cs[i]? = some (.int .u32 (tab i))
theorem LaidT.next {cs : Array Value} {n : Nat} (h : LaidT cs n) (hn : n < 256) : LaidT (cs.setIfInBounds n (.int .u32 (tab n))) (n + 1) := by
  have hs := h.size
  refine ⟨by simp [hs], fun i hi => ?_⟩
  by_cases e : i = n
  · subst e; rw [Array.getElem?_setIfInBounds_self_of_lt (by omega)]
  · rw [Array.getElem?_setIfInBounds_ne (by omega)]; exact h.row i (by omega)
noncomputable def tableZ : Array Value := ((Try.t55.zero).getD undef).cells
theorem tableZ_eq : Try.t55.zero = some (.agg tableZ) := by kernel_rfl
theorem tableZ_size : tableZ.size = 256 := by kernel_rfl
theorem zero_table (w : World) : (zeroValue 55).run Try.prog w = .ok (.agg tableZ) w := by
  simp [zeroValue, Try.typeInfo55, tableZ_eq]
/-- A table lies in block b. -/
def TableIn (w : World) (b : Nat) : Prop := ∀ i, i < 256 → w.cell? ⟨b, i, none⟩ = some (.int .u32 (tab i))
theorem TableIn.below {w w' : World} {b : Nat} (h : TableIn w b) (hl : b < w.heap.size) (hb : Below w.heap.size w w') : TableIn w' b := fun i hi => by rw [hb.cell hl]; exact h i hi
theorem TableIn.drewN {w : World} {b : Nat} (h : TableIn w b) (n : Nat) : TableIn (w.drewN n) b := h
/-- A block of cells, whole. -/
structure Lies (w0 : World) (cs : Array Value) (wr : World) : Prop where
  row : wr.heap[w0.heap.size]? = some (.cells cs 55 (0, 0))
  size : wr.heap.size = w0.heap.size + 1
  below : Below w0.heap.size w0 wr
theorem lies_new (w : World) (cs : Array Value) : Lies w cs (w.alloc (.cells cs 55)) := ⟨heap_alloc_new w _, by simp, one_below _ _⟩
theorem Lies.cell {w0 wr : World} {cs : Array Value} (h : Lies w0 cs wr) {i : Nat} {v : Value} (hv : cs[i]? = some v) : wr.cell? ⟨w0.heap.size, i, none⟩ = some v := by
  rw [cell_of_row _ w0.heap.size i cs 55 (0, 0) h.row]; exact hv
theorem Lies.frozen {w0 wr : World} {cs : Array Value} (h : Lies w0 cs wr) (i : Nat) : wr.frozen? ⟨w0.heap.size, i, none⟩ = false := by
  unfold World.frozen?
  rw [h.row]
  simp
theorem Lies.set {w0 wr : World} {cs : Array Value} (h : Lies w0 cs wr) (i : Nat) (v : Value) : Lies w0 (cs.setIfInBounds i v) (wr.setCell ⟨w0.heap.size, i, none⟩ v) := by
  refine ⟨?_, ?_, h.below.setCell (Nat.le_refl _) _⟩
  · show (wr.heap.modify w0.heap.size _)[w0.heap.size]? = _
    rw [Array.getElem?_modify, if_pos rfl, h.row]; rfl
  · show (wr.heap.modify w0.heap.size _).size = _
    rw [Array.size_modify]; exact h.size
theorem Lies.drew {w0 wr : World} {cs : Array Value} (h : Lies w0 cs wr) : Lies w0 cs wr.drew := ⟨h.row, h.size, h.below.drew⟩
def RelM (w0 : World) (c : Value) (wr : World) : Prop := ∃ k : Nat, k ≤ 256 ∧ c = .int .i64 k ∧ ∃ cs, Lies w0 cs wr ∧ LaidT cs k
/-- A new table. -/
def NewTable (w : World) (e : Ending) (w' : World) : Prop := e = .returned (.pointer (some ⟨w.heap.size, 0, none⟩)) ∧ TableIn w' w.heap.size ∧ w'.heap.size = w.heap.size + 1 ∧ Below w.heap.size w w'
theorem newTable {w wr : World} {cs : Array Value} (hl : Lies w cs wr) (h : LaidT cs 256) : NewTable w (.returned (.pointer (some ⟨w.heap.size, 0, none⟩))) wr :=
  ⟨rfl, fun i hi => hl.cell (h.row i hi), hl.size, hl.below⟩
theorem laidT_0 : LaidT tableZ 0 := ⟨tableZ_size, fun i hi => by omega⟩
set_option maxHeartbeats 1000000 in
set_option maxRecDepth 100000 in
theorem make_any (w : World) : Calls Try.prog 21 #[] w (NewTable w) := by
  have hz := zero_table
  have hc : (Value.agg tableZ).cells = tableZ := rfl
  go_enter Try.func21, Try.ntmps21
  go_wp2_with fail
  go_loopw [5] (fun c wr => RelM w c wr) (fun c _ => 256 - (intOf c).toNat)
  case atStart => exact ⟨0, Nat.zero_le _, rfl, _, lies_new _ _, laidT_0⟩
  case round =>
    obtain ⟨k, hk, rfl, cs, hwr, hL⟩ := hrel
    have HL := Lib.hid hL
    have HW := Lib.hid hwr
    by_cases hlt : k < 256
    · obtain ⟨v1, h1⟩ : ∃ v, cs[k]? = some v := ⟨_, Array.getElem?_eq_getElem (by rw [hL.size]; exact hlt)⟩
      replace h1 := hwr.cell h1
      have h2 := hwr.frozen k
      have h3 : IntKind.u32.wrap (k : Int) = k := by rw [IntKind.wrap_u32']; omega
      clear hL hz hc hwr
      go_wp2_with fail
      go_region_with ((go_at_call 31; (with_reducible refine (shifted_any k _ hlt).mono ?_); rintro e w' ⟨rfl, rfl⟩))
      go_wp2_with fail
      go_roundw
      case rel => exact ⟨k + 1, by omega, by go_num, cs.setIfInBounds k (.int .u32 (tab k)), (HW.out.set _ _).drew, HL.out.next hlt⟩
      case measure => simp [intOf]; omega
    · clear hL hz hc hwr
      obtain rfl : k = 256 := by omega
      go_wp2_with fail
      go_ret
      exact newTable HW.out HL.out
end Go.Proofs.Ytjkponhdpeelpaa
