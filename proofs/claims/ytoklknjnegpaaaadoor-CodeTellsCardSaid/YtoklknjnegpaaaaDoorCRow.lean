/-
  code.row: the factors of one fragment.
-/
import Derived.Test.YtoklknjnegpaaaaDoorCRows
import Derived.Test.YtoklknjnegpaaaaDoorCModel
import Derived.Test.YtoklknjnegpaaaaDoorFOps
namespace Go.Proofs.YtoklknjnegpaaaaDoor
open Go.RowKit Gf Cd
def rowB (k a : Nat) : List UInt8 := tab k (cf k a)
/-- A new row of bytes. -/
def NewB (l : List UInt8) (w : World) (e : Ending) (w' : World) : Prop := ∃ u, e = .returned u ∧ w'.ownsRow w.heap.size 5 1 u l.length (bytesV l) ∧ Below w.heap.size w w'
theorem newB {l m : List UInt8} {w w' : World} {u : Value} (h : l = m) (ho : w'.ownsRow w.heap.size 5 1 u l.length (bytesV l)) (hb : Below w.heap.size w w') : NewB m w (.returned u) w' := ⟨u, rfl, by rw [← h]; exact ho, hb⟩
def RelRow (k a n : Nat) (w : World) (c : Value) (wr : World) : Prop :=
  ∃ j : Nat, j ≤ k ∧ c = .int .i64 j ∧ wr.ownsRow w.heap.size 5 1 (.slice (some ⟨w.heap.size, 0, none⟩) k k) k (bytesV (tab k fun i => if i < j then cf k a i else 0)) ∧ Below w.heap.size w wr ∧ n = n
theorem wrap8 (n : Nat) (h : n < 256) : IntKind.u8.wrap (n : Int) = n := by rw [IntKind.wrap_u8]; omega
set_option maxHeartbeats 1000000 in
set_option maxRecDepth 100000 in
theorem row_any (k a fb : Nat) (w : World) (hF : FieldIn w fb) (hk : k ≤ 8) (ha : a < 8) : Calls Tryd.prog 49 #[.pointer (some ⟨fb, 0, none⟩), .int .i64 k, .int .i64 a] w (NewB (rowB k a) w) := by
  have hmk := make_u8 k (by omega)
  have HF := Lib.hid hF
  have hfl : fb < w.heap.size := World.block_lt_of_cell? w ⟨fb, 255, none⟩ hF.none_
  clear hF
  have hO := made_own w w.heap.size k (Nat.le_refl _) (by omega)
  by_cases hak : a < k
  · have HS := Lib.hid (show (w.alloc (.cells ((madeCells #[.int .u8 0] k).setIfInBounds a (.int .u8 1)) 5)).ownsRow w.heap.size 5 1 (.slice (some ⟨w.heap.size, 0, none⟩) k k) k (bytesV (rowB k a)) by
      have := own_set hO a (.int .u8 1)
      rw [show (w.alloc (.cells (madeCells #[.int .u8 0] k) 5)).setCell ⟨w.heap.size, a, none⟩ (.int .u8 1) = w.alloc (.cells ((madeCells #[.int .u8 0] k).setIfInBounds a (.int .u8 1)) 5) from World.setCell_alloc_at _ _ _ _ _ rfl] at this
      rw [zeros_tab, show (Value.int .u8 1) = .int .u8 ((1 : Nat) : Int) from rfl, tab_set (g := cf k a) (i := a) (x := 1) (by omega) (fun j _ hj => by unfold cf; rw [if_pos hak, if_neg hj]) (by unfold cf; rw [if_pos hak, if_pos rfl])] at this
      exact this)
    have hlen : a < (bytesV (zeros k)).length := by rw [bytesV_length, zeros_length]; exact hak
    have hc := own_cell hO (List.getElem?_eq_getElem hlen)
    have hfz := own_frozen hO a
    generalize (bytesV (zeros k))[a] = x at hc
    clear hO hlen
    go_enter Tryd.func49, Tryd.ntmps49
    go_wp2_with fail
    go_ret
    exact newB rfl (by rw [show (rowB k a).length = k from tab_length ..]; exact HS.out) (one_below _ _)
  · have HO := Lib.hid hO
    have HB := Lib.hid (one_below w (.cells (madeCells #[.int .u8 0] k) 5))
    clear hO
    go_enter Tryd.func49, Tryd.ntmps49
    go_wp2_with fail
    go_loopw [20] (fun c wr => RelRow k a 0 w c wr) (fun c _ => k - (intOf c).toNat)
    case atStart => exact ⟨0, Nat.zero_le _, rfl, by have := HO.out; rw [zeros_tab] at this; rw [tab_congr (g := fun _ => 0) fun i _ => by rw [if_neg (by omega)]]; exact this, HB.out, rfl⟩
    case round =>
      obtain ⟨j, hj, rfl, hown, hb, -⟩ := hrel
      by_cases hlt : j < k
      · have hlen : j < (bytesV (tab k fun i => if i < j then cf k a i else 0)).length := by rw [bytesV_length, tab_length]; exact hlt
        have hc := own_cell hown (List.getElem?_eq_getElem hlen)
        have hfz := own_frozen hown j
        have HW := Lib.hid (own_set hown j (.int .u8 ((inv (a ^^^ j) : Nat) : Int)))
        generalize (bytesV (tab k fun i => if i < j then cf k a i else 0))[j] = x at hc
        have HB2 := Lib.hid hb
        have HF2 := Lib.hid (HF.out.below hfl hb)
        have hx : a ^^^ j < 256 := xor_lt (by omega) (by omega)
        have hx1 := i64_xor_nat a j (by omega) (by omega)
        have hx2 := wrap8 _ hx
        have hset := tab_set (n := k) (f := fun i => if i < j then cf k a i else 0) (g := fun i => if i < j + 1 then cf k a i else 0) (i := j) (x := inv (a ^^^ j)) (inv_lt _) (fun i _ hi => by simp only [show i < j + 1 ↔ i < j by omega]) (by simp only [show j < j + 1 by omega, if_pos]; unfold cf; rw [if_neg hak])
        have HSET := Lib.hid hset
        clear hown hb hlen hset
        generalize a ^^^ j = y at *
        go_wp2_with (go_at_call 82; refine (inv_any _ _ HF2.out _ hx).mono ?_; rintro e w' ⟨rfl, rfl⟩)
        go_roundw
        case rel => exact ⟨j + 1, by omega, by go_num, by have := HW.out; rw [HSET.out] at this; exact this, HB2.out.setCell (Nat.le_refl _) _, rfl⟩
        case measure => simp [intOf]; omega
      · obtain rfl : j = k := by omega
        have HO2 := Lib.hid hown
        have HB2 := Lib.hid hb
        clear hown hb
        go_wp2_with fail
        go_ret
        exact newB (tab_congr (g := cf j a) fun i hi => if_pos hi) (by rw [tab_length]; exact HO2.out) HB2.out
end Go.Proofs.YtoklknjnegpaaaaDoor
