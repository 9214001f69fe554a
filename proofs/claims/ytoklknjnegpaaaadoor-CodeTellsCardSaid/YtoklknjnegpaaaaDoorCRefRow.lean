/-
  staveref1.Row: the same factors.
-/
import Derived.Test.YtoklknjnegpaaaaDoorCRow
import Derived.Test.YtoklknjnegpaaaaDoorFRef
import Derived.Lib.SliceRun
namespace Go.Proofs.YtoklknjnegpaaaaDoor
open Go.RowKit Gf Cd
/-- A value; nothing turned. -/
def Same1 (v : Value) (w : World) (e : Ending) (w' : World) : Prop := e = .returned v ∧ w = w'
set_option maxHeartbeats 1000000 in
theorem refRow_no (k n a : Int) (w : World) (h : ¬ (1 ≤ k ∧ k ≤ n ∧ n ≤ 8 ∧ 0 ≤ a ∧ a < n)) : Calls Tryd.prog 54 #[.int .i64 k, .int .i64 n, .int .i64 a] w (Same1 (.slice none 0 0) w) := by
  by_cases h1 : k < 1
  · clear h
    go_enter Tryd.func54, Tryd.ntmps54
    go_wp2_with fail
    go_ret
    exact ⟨rfl, rfl⟩
  have d1 : decide (k < 1) = false := decide_eq_false h1
  by_cases h2 : n < k
  · clear h
    go_enter Tryd.func54, Tryd.ntmps54
    go_wp2_with fail
    go_ret
    exact ⟨rfl, rfl⟩
  have d2 : decide (n < k) = false := decide_eq_false h2
  by_cases h3 : 8 < n
  · clear h
    go_enter Tryd.func54, Tryd.ntmps54
    go_wp2_with fail
    go_ret
    exact ⟨rfl, rfl⟩
  have d3 : decide (8 < n) = false := decide_eq_false h3
  by_cases h4 : a < 0
  · clear h
    go_enter Tryd.func54, Tryd.ntmps54
    go_wp2_with fail
    go_ret
    exact ⟨rfl, rfl⟩
  have d4 : decide (a < 0) = false := decide_eq_false h4
  have h5 : n ≤ a := by omega
  clear h
  go_enter Tryd.func54, Tryd.ntmps54
  go_wp2_with fail
  go_ret
  exact ⟨rfl, rfl⟩
def RelRr (k a : Nat) (w : World) (c : Value) (wr : World) : Prop :=
  ∃ j : Nat, j ≤ k ∧ c = .int .i64 j ∧ wr.ownsRow w.heap.size 5 1 (.slice (some ⟨w.heap.size, 0, none⟩) k k) k (bytesV (tab k fun i => if i < j then cf k a i else 0)) ∧ Below w.heap.size w wr
theorem relRr_set {k a j z : Nat} {w wr : World} (hj : j < k) (hz : cf k a j = z) (ho : wr.ownsRow w.heap.size 5 1 (.slice (some ⟨w.heap.size, 0, none⟩) k k) k (bytesV (tab k fun i => if i < j then cf k a i else 0))) (hb : Below w.heap.size w wr) :
    RelRr k a w (.int .i64 ((j : Int) + 1)) (wr.setCell ⟨w.heap.size, j, none⟩ (.int .u8 z)) := by
  refine ⟨j + 1, by omega, by go_num, ?_, hb.setCell (Nat.le_refl _) _⟩
  have h := own_set ho j (.int .u8 z)
  rwa [tab_set (n := k) (f := fun i => if i < j then cf k a i else 0) (g := fun i => if i < j + 1 then cf k a i else 0) (i := j) (x := z) (by rw [← hz]; exact cf_lt ..) (fun i _ hi => by simp only [show i < j + 1 ↔ i < j by omega]) (by rw [if_pos (by omega)]; exact hz)] at h
theorem relRr_keep {k a j : Nat} {w wr : World} (hj : j < k) (hz : cf k a j = 0) (ho : wr.ownsRow w.heap.size 5 1 (.slice (some ⟨w.heap.size, 0, none⟩) k k) k (bytesV (tab k fun i => if i < j then cf k a i else 0))) (hb : Below w.heap.size w wr) :
    RelRr k a w (.int .i64 ((j : Int) + 1)) wr := by
  refine ⟨j + 1, by omega, by go_num, ?_, hb⟩
  rwa [tab_congr (g := fun i => if i < j + 1 then cf k a i else 0) fun i _ => by
    by_cases e : i = j
    · subst e; rw [if_neg (by omega), if_pos (by omega), hz]
    · simp only [show i < j + 1 ↔ i < j by omega]] at ho
set_option maxHeartbeats 2000000 in
set_option maxRecDepth 100000 in
theorem refRow_yes (k n a : Nat) (w : World) (hk : 1 ≤ k) (hkn : k ≤ n) (hn : n ≤ 8) (ha : a < n) : Calls Tryd.prog 54 #[.int .i64 k, .int .i64 n, .int .i64 a] w (NewB (rowB k a) w) := by
  have hmk := make_u8 k (by omega) w
  have HO := Lib.hid (made_own w w.heap.size k (Nat.le_refl _) (by omega))
  have d1 : decide ((k : Int) < 1) = false := decide_eq_false (by omega)
  have d2 : decide ((n : Int) < k) = false := decide_eq_false (by omega)
  have d3 : decide ((8 : Int) < n) = false := decide_eq_false (by omega)
  have d4 : decide ((a : Int) < 0) = false := decide_eq_false (by omega)
  have d5 : decide ((n : Int) ≤ a) = false := decide_eq_false (by omega)
  have d6 : ¬ (n : Int) ≤ a := by omega
  have hak : a ^^^ 0 = a := Nat.xor_zero a
  clear hak
  go_enter Tryd.func54, Tryd.ntmps54
  go_wp2_with fail
  go_loopw [8] (fun c wr => RelRr k a w c wr) (fun c _ => k - (intOf c).toNat)
  case atStart => exact ⟨0, Nat.zero_le _, rfl, by have := HO.out; rw [zeros_tab] at this; rw [tab_congr (g := fun _ => 0) fun i _ => by rw [if_neg (by omega)]]; exact this, one_below _ _⟩
  case round =>
    obtain ⟨j, hj, rfl, hown, hb⟩ := hrel
    have HOr := Lib.hid hown
    have HBr := Lib.hid hb
    clear hmk d1 d2 d3 d4 d5 d6
    by_cases hlt : j < k
    · have hlen : j < (bytesV (tab k fun i => if i < j then cf k a i else 0)).length := by rw [bytesV_length, tab_length]; exact hlt
      have hc := own_cell hown (List.getElem?_eq_getElem hlen)
      have hfz := own_frozen hown j
      generalize (bytesV (tab k fun i => if i < j then cf k a i else 0))[j] = x at hc
      have hx1 := i64_xor_nat a j (by omega) (by omega)
      have hx2 : a ^^^ j < 2 ^ 4 := Nat.xor_lt_two_pow (by omega) (by omega)
      have hx3 := wrap8 (a ^^^ j) (by omega)
      have HS := Lib.hid (fun z (hz : cf k a j = z) => relRr_set hlt hz HOr.out HBr.out)
      have HK := Lib.hid (fun (hz : cf k a j = 0) => relRr_keep hlt hz HOr.out HBr.out)
      clear hown hb hlen
      by_cases hak : a < k
      · by_cases hja : j = a
        · subst hja
          go_wp2_with fail
          go_roundw
          case rel => exact HS.out 1 (by unfold cf; rw [if_pos hak, if_pos rfl])
          case measure => simp [intOf]; omega
        · have e1 : ((j : Int) == a) = false := by simp only [beq_eq_false_iff_ne]; omega
          go_wp2_with fail
          go_roundw
          case rel => exact HK.out (by unfold cf; rw [if_pos hak, if_neg hja])
          case measure => simp [intOf]; omega
      · generalize hxx : a ^^^ j = xx at *
        have HXX := Lib.hid hxx
        clear hxx
        go_wp2_with fail
        go_at_call 50
        refine (refInv_any xx _ (by omega)).mono ?_
        rintro e w2 ⟨rfl, rfl⟩
        go_wp2_with fail
        go_roundw
        case rel => exact HS.out _ (by unfold cf; rw [if_neg hak, HXX.out])
        case measure => simp [intOf]; omega
    · obtain rfl : j = k := by omega
      clear hown hb
      go_wp2_with fail
      go_ret
      refine newB (l := rowB j a) rfl ?_ HBr.out
      have := HOr.out
      rw [tab_congr (g := cf j a) fun i hi => by rw [if_pos hi]] at this
      rw [show (rowB j a).length = j from tab_length ..]
      exact this
end Go.Proofs.YtoklknjnegpaaaaDoor
