/-
  fault.First and stavebook.Same: what each answers.
-/
import Derived.Test.YtnehangdkjalbaaDoorKind
import Derived.Deep.QuietTactic
import Derived.BigQuiet
namespace Go.Proofs.YtnehangdkjalbaaDoor
open Go.RowKit Go.Extern.Stop Go.Stop Go.Extern

/-- The place of the first of js of which m holds, counted from i on; or -1. -/
def firstAt (m : Int → Bool) : List Int → Nat → Int
  | [], _ => -1
  | j :: js, i => if m j then i else firstAt m js (i + 1)
theorem firstAt_skip (m : Int → Bool) (js : List Int) (i : Nat) : ∀ k, k ≤ js.length → (∀ x, x < k → m (js.getD x 0) = false) → firstAt m js i = firstAt m (js.drop k) (i + k)
  | 0, _, _ => by simp
  | k + 1, hk, h => by
    rw [firstAt_skip m js i k (by omega) (fun x hx => h x (by omega))]
    have hlt : k < js.length := by omega
    rw [List.drop_eq_getElem_cons hlt]
    have := h k (by omega)
    rw [show js.getD k 0 = js[k] from by simp [List.getD, hlt]] at this
    simp only [firstAt, this, Bool.false_eq_true, if_false]
    rw [show i + k + 1 = i + (k + 1) from by omega]

theorem firstAt_here (m : Int → Bool) (js : List Int) (k : Nat) (hk : k < js.length) (h : ∀ x, x < k → m (js.getD x 0) = false) (ht : m (js.getD k 0) = true) : firstAt m js 0 = k := by
  rw [firstAt_skip m js 0 k (by omega) h, List.drop_eq_getElem_cons hk]
  rw [show js.getD k 0 = js[k] from by simp [List.getD, hk]] at ht
  simp [firstAt, ht]
theorem firstAt_none (m : Int → Bool) (js : List Int) (h : ∀ x, x < js.length → m (js.getD x 0) = false) : firstAt m js 0 = -1 := by
  rw [firstAt_skip m js 0 js.length (Nat.le_refl _) h, List.drop_length]; rfl
theorem ret_int {k : IntKind} {a b : Int} (h : a = b) : Ending.returned (.int k a) = .returned (.int k b) := by rw [h]

def RelF (m : Int → Bool) (js : List Int) (w : World) (c : Value) (wr : World) : Prop :=
  ∃ k : Nat, k ≤ js.length ∧ c = .int .i64 k ∧ (∀ x, x < k → m (js.getD x 0) = false) ∧ Below w.heap.size w wr

set_option maxHeartbeats 1000000 in
theorem first_any (v : Value) (m : Int → Bool) (js : List Int) (b : Nat) (cap : Nat) (w : World) (hn : js.length ≤ 1000)
    (hm : ∀ j W, Calls Tryd.prog 15 #[v, errV j] W (Bit (m j) W)) (hb : b < w.heap.size)
    (hc : ∀ x, x < js.length → w.cell? ⟨b, x, none⟩ = some (.int .i64 (js.getD x 0))) :
    Calls Tryd.prog 13 #[v, .slice (some ⟨b, 0, none⟩) js.length cap] w (Num (firstAt m js 0) w) := by
  have Hm := Lib.hid hm; clear hm
  have Hc := Lib.hid hc; clear hc
  go_enter Tryd.func13, Tryd.ntmps13
  go_wp2
  go_loopw [9] (fun c wr => RelF m js w c wr) (fun c _ => js.length - (intOf c).toNat)
  case atStart => exact ⟨0, Nat.zero_le _, rfl, fun x hx => absurd hx (by omega), Below.refl _ _⟩
  case round =>
    obtain ⟨k, hk, rfl, hno, hB⟩ := hrel
    have Hno := Lib.hid hno; clear hno
    by_cases hlt : k < js.length
    · have hcell : wr.cell? ⟨b, k, none⟩ = some (.int .i64 (js.getD k 0)) := by rw [hB.cell (by show b < _; omega)]; exact Hc.out k hlt
      generalize hj : js.getD k 0 = j at hcell
      have Hj := Lib.hid hj; clear hj
      have HB := Lib.hid hB; clear hB
      go_wp2_with fail
      refine (Hm.out j _).mono ?_
      rintro e w' ⟨rfl, hb2⟩
      have hsz := HB.out.size
      cases hmj : m j
      · have Hmj := Lib.hid hmj; clear hmj
        go_wp2
        go_roundw
        case rel =>
          refine ⟨k + 1, by omega, by go_num, fun x hx => ?_, HB.out.trans (hb2.mono hsz)⟩
          rcases Nat.lt_or_ge x k with h | h
          · exact Hno.out x h
          · obtain rfl : x = k := by omega
            rw [Hj.out]; exact Hmj.out
        case measure => simp [intOf]; omega
      · have Hmj := Lib.hid hmj; clear hmj
        go_wp2
        go_ret
        exact ⟨ret_int (firstAt_here m js k hlt Hno.out (by rw [Hj.out]; exact Hmj.out)).symm, HB.out.trans (hb2.mono hsz)⟩
    · have hkl : k = js.length := by omega
      subst hkl
      have HB := Lib.hid hB; clear hB
      go_wp2
      go_ret
      exact ⟨ret_int (firstAt_none m js Hno.out).symm, HB.out⟩

/-- First over no list. -/
theorem first_nil (v : Value) (w : World) : Calls Tryd.prog 13 #[v, .slice none 0 0] w (Num (-1) w) := by
  go_enter Tryd.func13, Tryd.ntmps13
  go_wp2
  refine wp_loop_rounds 1 ?_
  rw [rounds_succ]
  go_wp2
  go_ret
  exact ⟨rfl, Below.refl _ _⟩

/-- A slice of texts reads as xs. -/
def Texts (w : World) (b o : Nat) (xs : List ByteArray) : Prop := ∀ x, x < xs.length → w.cell? ⟨b, o + x, none⟩ = some (.string (xs.getD x ByteArray.empty))

theorem below_drewN {B : Nat} {a w : World} (h : Below B a w) (n : Nat) : Below B a (w.drewN n) := ⟨h.os, h.tape, h.output, h.size, h.block⟩

def RelS (n : Nat) (w : World) (c : Value) (wr : World) : Prop := ∃ k : Nat, k ≤ n ∧ c = .int .i64 k ∧ Below w.heap.size w wr

set_option maxHeartbeats 1000000 in
theorem same_yes (xs : List ByteArray) (ba oa ca bb ob cb : Nat) (w : World) (hn : xs.length ≤ 1000) (ha : Texts w ba oa xs) (hb : Texts w bb ob xs) (hla : ba < w.heap.size) (hlb : bb < w.heap.size) :
    Calls Tryd.prog 11 #[.slice (some ⟨ba, oa, none⟩) xs.length ca, .slice (some ⟨bb, ob, none⟩) xs.length cb] w (Bit true w) := by
  have Ha := Lib.hid ha; clear ha
  have Hb := Lib.hid hb; clear hb
  go_enter Tryd.func11, Tryd.ntmps11
  go_wp2
  go_loopw [5] (fun c wr => RelS xs.length w c wr) (fun c _ => xs.length - (intOf c).toNat)
  case atStart => exact ⟨0, Nat.zero_le _, rfl, Below.refl _ _⟩
  case round =>
    obtain ⟨k, hk, rfl, hB⟩ := hrel
    by_cases hlt : k < xs.length
    · have c1 : wr.cell? ⟨ba, oa + k, none⟩ = some (.string (xs.getD k ByteArray.empty)) := by rw [hB.cell (by show ba < _; omega)]; exact Ha.out k hlt
      have c2 : wr.cell? ⟨bb, ob + k, none⟩ = some (.string (xs.getD k ByteArray.empty)) := by rw [hB.cell (by show bb < _; omega)]; exact Hb.out k hlt
      generalize xs.getD k ByteArray.empty = s at c1 c2
      have HB := Lib.hid hB; clear hB
      go_wp2
      go_quiet (fail)
      go_wp2
      go_roundw
      case rel => exact ⟨k + 1, by omega, by go_num, below_drewN HB.out _⟩
      case measure => simp [intOf]; omega
    · have hkl : k = xs.length := by omega
      subst hkl
      have HB := Lib.hid hB; clear hB
      go_wp2
      go_ret
      exact ⟨rfl, HB.out⟩
end Go.Proofs.YtnehangdkjalbaaDoor
