import Derived.Test.YtilljaneegbhlaaGreatDoorZKit
import Derived.Test.YtilljaneegbhlaaGreatDoorZBytes
import Derived.Test.YtilljaneegbhlaaGreatDoorZHModel
import Derived.Deep.RegionWith
import Derived.Laws.BitsAllLaws
namespace Go.Proofs.YtilljaneegbhlaaGreatDoor
open Go.RowKit Crc
set_option maxHeartbeats 1000000
set_option maxRecDepth 100000
def U32Same (n : Nat) (w : World) (e : Ending) (w' : World) : Prop := e = .returned (.int .u32 n) ∧ w = w'
variable {b : Nat} {w : World}
theorem u32Same {a : Int} (h : a = b) : U32Same b w (.returned (.int .u32 a)) w := ⟨by rw [h], rfl⟩
variable {x : Nat}
theorem and_odd (hx : x < 4294967296) (h : x % 2 = 1) : (bits .and .u32 (x : Int) 1 == 1) = true := by
 have := u32_and_nat x 1 hx (by omega)
 rw [show ((1 : Nat) : Int) = 1 by rfl, Nat.and_one_is_mod, h] at this
 rw [this]; rfl
theorem and_even (hx : x < 4294967296) (h : ¬ x % 2 = 1) : (bits .and .u32 (x : Int) 1 == 1) = false := by
 have := u32_and_nat x 1 hx (by omega)
 rw [show ((1 : Nat) : Int) = 1 by rfl, Nat.and_one_is_mod, show x % 2 = 0 by omega] at this
 rw [this]; rfl
theorem st_odd (hx : x < 4294967296) (h : x % 2 = 1) : bits .xor .u32 ((x : Int) / 2) 2197175160 = (st x : Nat) := by
 have := u32_xor_nat (x / 2) 2197175160 (by omega) (by omega)
 unfold st
 rw [if_pos h, Nat.shiftRight_eq_div_pow, ← show ((x / 2 : Nat) : Int) = (x : Int) / 2 by omega]
 exact this
theorem st_ev (h : ¬ x % 2 = 1) : (x : Int) / 2 = (st x : Nat) := by
 unfold st
 rw [if_neg h, Nat.shiftRight_eq_div_pow, Nat.xor_zero]
 omega
def RelS (b : Nat) (v c : Value) : Prop := ∃ (k x : Nat), k ≤ 8 ∧ x < 4294967296 ∧ sts (8 - k) x = tab b ∧ v = .int .u32 x ∧ c = .int .i64 k
variable {k : Nat}
theorem relS_next {v : Int} (hx : x < 4294967296) (hlt : k < 8) (h : sts (8 - k) x = tab b) (e : v = (st x : Nat)) : RelS b (.int .u32 v) (.int .i64 (k + 1)) := by
 refine ⟨k + 1, st x, by omega, st_lt hx, ?_, by rw [e], by go_num⟩
 rw [← h, show 8 - k = (8 - (k + 1)) + 1 by omega]
 rfl
theorem shifted_any (b : Nat) (w : World) (hb : b < 256) : Calls Tryz.prog 130 #[.int .u32 b] w (U32Same (tab b) w) := by
 go_enter Tryz.func130, Tryz.ntmps130
 go_wp2
 go_loop [0, 4] (fun v c => RelS b v c) (fun _ c => 8 - (intOf c).toNat)
 case atStart => exact ⟨0, b, by omega, by omega, rfl, rfl, rfl⟩
 case round =>
  obtain ⟨k, x, hk, hx, hs, rfl, rfl⟩ := hrel; have HS := hI hs; clear hs
  by_cases hlt : k < 8
  ·by_cases ho : x % 2 = 1
   ·have hb1 := and_odd hx ho
    have HX := hI (st_odd hx ho); have HO := hI ho; clear ho; go_wp2_with fail
    go_round
    case rel => exact relS_next hx hlt HS.out HX.out
    case measure => simp [intOf]; omega
   ·have hb1 := and_even hx ho
    have HX := hI (st_ev ho); have HO := hI ho; clear ho; go_wp2_with fail
    go_round
    case rel => exact relS_next hx hlt HS.out HX.out
    case measure => simp [intOf]; omega
  ·obtain rfl : k = 8 := by omega
   go_wp2
   go_ret; exact u32Same (by rw [← HS.out]; rfl)
structure LaidT (cs : Array Value) (n : Nat) : Prop where
 size : cs.size = 256
 row : ∀ i, i < n → cs[i]? = some (.int .u32 (tab i))
variable {cs : Array Value}
theorem LaidT.next {n : Nat} (h : LaidT cs n) (hn : n < 256) : LaidT (cs.setIfInBounds n (.int .u32 (tab n))) (n + 1) := by
 have hs := h.size
 refine ⟨by simp [hs], fun i hi => ?_⟩
 by_cases e : i = n
 ·subst e; rw [Array.getElem?_setIfInBounds_self_of_lt (by omega)]
 ·rw [Array.getElem?_setIfInBounds_ne (by omega)]; exact h.row i (by omega)
noncomputable def tableZ : Array Value := ((Tryz.t219.zero).getD undef).cells
theorem tableZ_eq : Tryz.t219.zero = some (.agg tableZ) := by kernel_rfl
theorem tableZ_size : tableZ.size = 256 := by kernel_rfl
theorem zero_table (w : World) : (zeroValue 219).run Tryz.prog w = .ok (.agg tableZ) w := by
 simp [zeroValue, Tryz.typeInfo219, tableZ_eq]
def TableIn (w : World) (b : Nat) : Prop := ∀ i, i < 256 → w.cell? ⟨b, i, none⟩ = some (.int .u32 (tab i))
theorem TableIn.below {w' : World} (h : TableIn w b) (hl : b < w.heap.size) (hb : Below w.heap.size w w') : TableIn w' b := fun i hi => by rw [hb.cell hl]; exact h i hi
structure Lies (w0 : World) (cs : Array Value) (wr : World) : Prop where
 row : wr.heap[w0.heap.size]? = some (.cells cs 219 (0, 0))
 size : wr.heap.size = w0.heap.size + 1
 below : Below w0.heap.size w0 wr
theorem lies_new (w : World) (cs : Array Value) : Lies w cs (w.alloc (.cells cs 219)) := ⟨heap_alloc_new w _, by simp, one_below _ _⟩
variable {w0 : World}
theorem Lies.cell {wr : World} (h : Lies w0 cs wr) {i : Nat} {v : Value} (hv : cs[i]? = some v) : wr.cell? ⟨w0.heap.size, i, none⟩ = some v := by
 rw [cell_of_row _ w0.heap.size i cs 219 (0, 0) h.row]; exact hv
theorem Lies.frozen {wr : World} (h : Lies w0 cs wr) (i : Nat) : wr.frozen? ⟨w0.heap.size, i, none⟩ = false := by
 unfold World.frozen?
 rw [h.row]
 simp
theorem Lies.set {wr : World} (h : Lies w0 cs wr) (i : Nat) (v : Value) : Lies w0 (cs.setIfInBounds i v) (wr.setCell ⟨w0.heap.size, i, none⟩ v) := by
 refine ⟨?_, ?_, h.below.setCell (Nat.le_refl _) _⟩
 ·show (wr.heap.modify w0.heap.size _)[w0.heap.size]? = _
  rw [Array.getElem?_modify, if_pos rfl, h.row]; rfl
 ·show (wr.heap.modify w0.heap.size _).size = _
  rw [Array.size_modify]; exact h.size
theorem Lies.drew {wr : World} (h : Lies w0 cs wr) : Lies w0 cs wr.drew := ⟨h.row, h.size, h.below.drew⟩
def RelM (w0 : World) (c : Value) (wr : World) : Prop := ∃ k : Nat, k ≤ 256 ∧ c = .int .i64 k ∧ ∃ cs, Lies w0 cs wr ∧ LaidT cs k
def NewTable (w : World) (e : Ending) (w' : World) : Prop := e = .returned (.pointer (some ⟨w.heap.size, 0, none⟩)) ∧ TableIn w' w.heap.size ∧ w'.heap.size = w.heap.size + 1 ∧ Below w.heap.size w w'
theorem newTable {wr : World} (hl : Lies w cs wr) (h : LaidT cs 256) : NewTable w (.returned (.pointer (some ⟨w.heap.size, 0, none⟩))) wr :=
 ⟨rfl, fun i hi => hl.cell (h.row i hi), hl.size, hl.below⟩
theorem laidT_0 : LaidT tableZ 0 := ⟨tableZ_size, fun i hi => by omega⟩
theorem make_any (w : World) : Calls Tryz.prog 114 #[] w (NewTable w) := by
 have hz := zero_table
 have hc : (Value.agg tableZ).cells = tableZ := rfl
 go_enter Tryz.func114, Tryz.ntmps114
 go_wp2_with fail
 go_loopw [5] (fun c wr => RelM w c wr) (fun c _ => 256 - (intOf c).toNat)
 case atStart => exact ⟨0, Nat.zero_le _, rfl, _, lies_new _ _, laidT_0⟩
 case round =>
  obtain ⟨k, hk, rfl, cs, hwr, hL⟩ := hrel; have HL := hI hL; have HW := hI hwr
  by_cases hlt : k < 256
  ·obtain ⟨v1, h1⟩ : ∃ v, cs[k]? = some v := ⟨_, Array.getElem?_eq_getElem (by rw [hL.size]; exact hlt)⟩
   replace h1 := hwr.cell h1
   have h2 := hwr.frozen k
   have h3 : IntKind.u32.wrap (k : Int) = k := by rw [IntKind.wrap_u32']; omega
   clear hL hz hc hwr; go_wp2_with fail
   go_region_with ((go_at_call 130; (with_reducible refine (shifted_any k _ hlt).mono ?_); rintro e w' ⟨rfl, rfl⟩))
   go_wp2_with fail
   go_roundw
   case rel => exact ⟨k + 1, by omega, by go_num, cs.setIfInBounds k (.int .u32 (tab k)), (HW.out.set _ _).drew, HL.out.next hlt⟩
   case measure => simp [intOf]; omega
  ·clear hL hz hc hwr
   obtain rfl : k = 256 := by omega
   go_wp2_with fail; go_ret; exact newTable HW.out HL.out
def RelOn (c : Nat) (l : List UInt8) (v i : Value) : Prop := ∃ k : Nat, k ≤ l.length ∧ i = .int .i64 k ∧ v = .int .u32 (run (c ^^^ ones) (l.take k))
variable {l : List UInt8}
theorem slb_now {B : Nat} {v : Value} (h : SlB B w v l) {k : Nat} (hk : k < l.length) :
  ∃ b o cap, v = .slice (some ⟨b, o, none⟩) l.length cap ∧ w.cell? ⟨b, o + k, none⟩ = some (.int .u8 (l.getD k 0).toNat) := by
 rcases h with ⟨rfl, _⟩ | ⟨b, o, cap, h1, h2, h3, _⟩
 ·simp at hk
 ·exact ⟨b, o, cap, h1, h3 k hk⟩
variable {c : Nat}
theorem not_nat (hc : c < 4294967296) : bits .xor .u32 IntKind.u32.max (c : Int) = ((c ^^^ ones : Nat) : Int) := by
 have := u32_xor_nat 4294967295 c (by omega) hc
 rw [Nat.xor_comm] at this
 exact this
theorem run_take (hk : k < l.length) : run c (l.take (k + 1)) = upd (run c (l.take k)) (l.getD k 0) := by
 have e : l.take (k + 1) = l.take k ++ [l.getD k 0] := by
  rw [List.take_succ_eq_append_getElem hk]; simp [List.getD, hk]
 rw [e, run_append]; rfl
theorem upd_int {v : Nat} (b : UInt8) (hv : v < 4294967296) : bits .xor .u32 ((tab (v % 256 ^^^ b.toNat) : Nat) : Int) ((v : Int) / 256) = (upd v b : Nat) := by
 have hb := u8_lt b
 have h8 : v % 256 ^^^ b.toNat < 2 ^ 8 := Nat.xor_lt_two_pow (by omega) (by omega)
 have := u32_xor_nat (tab (v % 256 ^^^ b.toNat)) (v / 256) (sts_lt 8 (by omega)) (by omega)
 rw [upd_tab, Nat.shiftRight_eq_div_pow, ← show ((v / 256 : Nat) : Int) = (v : Int) / 256 by omega]
 exact this
theorem on_any (B tb : Nat) (v : Value) (l : List UInt8) (c : Nat) (w : World) (hT : TableIn w tb) (h : SlB B w v l) (hc : c < 4294967296) (hl : l.length ≤ 1000000) :
  Calls Tryz.prog 149 #[.pointer (some ⟨tb, 0, none⟩), .int .u32 c, v] w (U32Same (on c l) w) := by
 obtain ⟨a, cap, rfl, _⟩ := h.len
 have H := hI h
 have HT := hI hT
 have HN := hI (not_nat hc)
 have HC := hI (Nat.xor_lt_two_pow hc ones_lt)
 clear h hT
 go_enter Tryz.func149, Tryz.ntmps149
 go_wp2_with fail
 go_loop [7, 14] (fun v i => RelOn c l v i) (fun _ i => l.length - (intOf i).toNat)
 case atStart => exact ⟨0, Nat.zero_le _, rfl, by rw [HN.out]; rfl⟩
 case round =>
  obtain ⟨k, hk, rfl, rfl⟩ := hrel; have hv := run_lt (l.take k) HC.out
  by_cases hlt : k < l.length
  ·have HR := hI (run_take (c := c ^^^ ones) hlt)
   obtain ⟨b, o, cap', h1, h2⟩ := slb_now H.out hlt; injection h1 with h1 _ h1'; subst h1 h1'; have HB := hI (upd_int (l.getD k 0) hv); have hb := u8_lt (l.getD k 0); generalize run (c ^^^ ones) (l.take k) = v at *; generalize (l.getD k 0) = y at *; have h8 : v % 256 ^^^ y.toNat < 2 ^ 8 := Nat.xor_lt_two_pow (by omega) (by omega)
   have h3 : IntKind.u8.wrap (v : Int) = ((v % 256 : Nat) : Int) := by rw [IntKind.wrap_u8']; omega
   have h4 := u8_xor_nat (v % 256) y.toNat (by omega) hb; have h5 := HT.out (v % 256 ^^^ y.toNat) h8; generalize hz : v % 256 ^^^ y.toNat = z at *; generalize hm : v % 256 = m at *; clear hz hm; go_wp2_with fail
   go_round
   case rel => exact ⟨k + 1, by omega, by go_num, by rw [HR.out, HB.out]⟩
   case measure => simp [intOf]; omega
  ·obtain rfl : k = l.length := by omega
   have HN2 := hI (not_nat hv); rw [List.take_length] at *; generalize hr : run (c ^^^ ones) l = r at *; have HR := hI hr; clear hr; go_wp2_with fail; go_ret; exact u32Same (by rw [HN2.out, ← HR.out]; rfl)
theorem sum_any (B tb : Nat) (v : Value) (l : List UInt8) (w : World) (hT : TableIn w tb) (h : SlB B w v l) (hl : l.length ≤ 1000000) :
  Calls Tryz.prog 129 #[.pointer (some ⟨tb, 0, none⟩), v] w (U32Same (sum l) w) := by
 have HC := hI (on_any B tb v l 0 w hT h (by omega) hl)
 obtain ⟨a, cap, rfl, _⟩ := h.len
 clear h hT
 go_enter Tryz.func129, Tryz.ntmps129
 go_wp2_with fail
 refine HC.out.mono ?_
 rintro e w' ⟨rfl, rfl⟩
 go_wp2_with fail
 go_ret
 exact u32Same rfl
theorem bytesV_set (l : List UInt8) (i : Nat) (b : UInt8) : (bytesV l).set i (.int .u8 b.toNat) = bytesV (l.set i b) := by simp [bytesV, List.map_set]
end Go.Proofs.YtilljaneegbhlaaGreatDoor
