/-
  gf.Make: a new block, with the powers of 2 and their logarithms.
-/
import Derived.Test.YtoklknjnegpaaaaDoorKit
import Derived.Test.YtoklknjnegpaaaaDoorFModel
import Derived.Laws.BitsAllLaws
namespace Go.Proofs.YtoklknjnegpaaaaDoor
open Go.RowKit Gf
def NumSame (n : Int) (w : World) (e : Ending) (w' : World) : Prop := e = .returned (.int .i64 n) ∧ w = w'
theorem numSame {a b : Int} {w : World} (h : a = b) : NumSame b w (.returned (.int .i64 a)) w := ⟨by rw [h], rfl⟩
theorem i64_xor_nat (a b : Nat) (ha : a < 4294967296) (hb : b < 4294967296) : bits .xor .i64 (a : Int) (b : Int) = ((a ^^^ b : Nat) : Int) := by
  have hx : a ^^^ b < 2 ^ 32 := Nat.xor_lt_two_pow (by omega) (by omega)
  show IntKind.i64.wrap ((BitVec.ofInt 64 (a : Int) ^^^ BitVec.ofInt 64 (b : Int)).toNat : Int) = _
  rw [BitVec.toNat_xor, ofInt_u64 a (by omega), ofInt_u64 b (by omega), IntKind.wrap_i64]
  omega
set_option maxHeartbeats 400000 in
set_option maxRecDepth 100000 in
theorem double_num (x : Nat) (w : World) (hx : x < 256) : Calls Tryd.prog 81 #[.int .i64 x] w (NumSame (dbl x) w) := by
  by_cases h : x < 128
  · have hd : ((2 * x : Nat) : Int) = dbl x := by unfold dbl; rw [if_pos (by omega)]
    have H := Lib.hid hd; clear hd
    go_enter Tryd.func81, Tryd.ntmps81
    go_wp2
    go_ret
    exact numSame (by rw [← H.out]; omega)
  · have hd : bits .xor .i64 ((x : Int) * 2) 285 = dbl x := by
      have := i64_xor_nat (2 * x) 285 (by omega) (by omega)
      rw [show ((x : Int) * 2) = ((2 * x : Nat) : Int) by omega]; unfold dbl; rw [if_neg (by omega)]; exact this
    have H := Lib.hid hd; clear hd
    go_enter Tryd.func81, Tryd.ntmps81
    go_wp2
    go_ret
    exact numSame H.out

/-- What Make has laid, when n powers are laid. -/
structure LaidF (cs : Array Value) (n : Nat) : Prop where
  size : cs.size = 511
  exp : ∀ i, i < n → cs[i]? = some (.int .u8 (pw i))
  none_ : cs[255]? = some (.int .i64 (-1))
  log : ∀ i, i < n → cs[255 + pw i]? = some (.int .i64 i)
theorem LaidF.next {cs : Array Value} {n : Nat} (h : LaidF cs n) (hn : n < 255) : LaidF ((cs.setIfInBounds n (.int .u8 (pw n))).setIfInBounds (255 + pw n) (.int .i64 n)) (n + 1) := by
  have hlt := pw_lt n
  have hne := pw_ne n
  have hs := h.size
  refine ⟨by simp [hs], fun i hi => ?_, ?_, fun i hi => ?_⟩
  · rw [Array.getElem?_setIfInBounds_ne (by omega)]
    by_cases e : i = n
    · subst e; rw [Array.getElem?_setIfInBounds_self_of_lt (by omega)]
    · rw [Array.getElem?_setIfInBounds_ne (by omega)]; exact h.exp i (by omega)
  · rw [Array.getElem?_setIfInBounds_ne (by omega), Array.getElem?_setIfInBounds_ne (by omega)]; exact h.none_
  · by_cases e : i = n
    · subst e; rw [Array.getElem?_setIfInBounds_self_of_lt (by simp; omega)]
    · have hd : pw i ≠ pw n := fun q => e (pw_inj (by omega) hn q)
      have := pw_lt i
      have := pw_ne i
      rw [Array.getElem?_setIfInBounds_ne (by omega), Array.getElem?_setIfInBounds_ne (by omega)]; exact h.log i (by omega)

noncomputable def fieldZ : Array Value := ((Tryd.t146.zero).getD undef).cells
theorem fieldZ_eq : Tryd.t146.zero = some (.agg fieldZ) := by kernel_rfl
theorem fieldZ_size : fieldZ.size = 511 := by kernel_rfl
theorem zero_field (w : World) : (zeroValue 146).run Tryd.prog w = .ok (.agg fieldZ) w := by
  simp [zeroValue, Tryd.typeInfo146, fieldZ_eq]
/-- A field lies in block b. -/
structure FieldIn (w : World) (b : Nat) : Prop where
  exp : ∀ i, i < 255 → w.cell? ⟨b, i, none⟩ = some (.int .u8 (pw i))
  none_ : w.cell? ⟨b, 255, none⟩ = some (.int .i64 (-1))
  log : ∀ a, a < 256 → a ≠ 0 → w.cell? ⟨b, 255 + a, none⟩ = some (.int .i64 (lg a))
theorem FieldIn.below {w w' : World} {b : Nat} (h : FieldIn w b) (hl : b < w.heap.size) (hb : Below w.heap.size w w') : FieldIn w' b :=
  ⟨fun i hi => by rw [hb.cell hl]; exact h.exp i hi, by rw [hb.cell hl]; exact h.none_, fun a ha h0 => by rw [hb.cell hl]; exact h.log a ha h0⟩
theorem FieldIn.drewN {w : World} {b : Nat} (h : FieldIn w b) (n : Nat) : FieldIn (w.drewN n) b := ⟨h.exp, h.none_, h.log⟩
theorem fieldIn_new (w : World) {cs : Array Value} (h : LaidF cs 255) : FieldIn (w.alloc (.cells cs 146)) w.heap.size := by
  have key : ∀ i, (w.alloc (.cells cs 146)).cell? ⟨w.heap.size, i, none⟩ = cs[i]? := fun i => by unfold World.cell? World.alloc; rw [Array.getElem?_push_size]; rfl
  refine ⟨fun i hi => by rw [key]; exact h.exp i hi, by rw [key]; exact h.none_, fun a ha h0 => ?_⟩
  rw [key]
  have := h.log (lg a) (lg_lt ha)
  rwa [pw_lg ha h0] at this
def RelM (w0 : World) (p c : Value) (wr : World) : Prop := ∃ k : Nat, k ≤ 255 ∧ p = .int .i64 (pw k) ∧ c = .int .i64 k ∧ ∃ cs, wr = w0.alloc (.cells cs 146) ∧ LaidF cs k
/-- A new field. -/
def NewField (w : World) (e : Ending) (w' : World) : Prop := e = .returned (.pointer (some ⟨w.heap.size, 0, none⟩)) ∧ FieldIn w' w.heap.size ∧ w'.heap.size = w.heap.size + 1 ∧ Below w.heap.size w w'
theorem newField (w : World) {cs : Array Value} (h : LaidF cs 255) : NewField w (.returned (.pointer (some ⟨w.heap.size, 0, none⟩))) (w.alloc (.cells cs 146)) :=
  ⟨rfl, fieldIn_new w h, by simp, one_below _ _⟩
theorem laidF_0 : LaidF (fieldZ.setIfInBounds 255 (.int .i64 (-1))) 0 :=
  ⟨by rw [Array.size_setIfInBounds]; exact fieldZ_size, fun i hi => by omega, by rw [Array.getElem?_setIfInBounds_self_of_lt (by rw [fieldZ_size]; omega)], fun i hi => by omega⟩
set_option maxHeartbeats 1000000 in
set_option maxRecDepth 100000 in
theorem make_any (w : World) : Calls Tryd.prog 48 #[] w (NewField w) := by
  have hz := zero_field
  have hc : (Value.agg fieldZ).cells = fieldZ := rfl
  obtain ⟨v0, h0⟩ : ∃ v, fieldZ[255]? = some v := ⟨_, Array.getElem?_eq_getElem (by rw [fieldZ_size]; omega)⟩
  go_enter Tryd.func48, Tryd.ntmps48
  go_wp2
  go_loopw [2, 10] (fun p c wr => RelM w p c wr) (fun _ c _ => 255 - (intOf c).toNat)
  case atStart => exact ⟨0, Nat.zero_le _, rfl, rfl, _, rfl, laidF_0⟩
  case round =>
    obtain ⟨k, hk, rfl, rfl, cs, rfl, hL⟩ := hrel
    have HL := Lib.hid hL
    have hs := hL.size
    clear hL hz hc h0
    have hpl := pw_lt k
    by_cases hlt : k < 255
    · obtain ⟨v1, h1⟩ : ∃ v, cs[k]? = some v := ⟨_, Array.getElem?_eq_getElem (by omega)⟩
      obtain ⟨v2, h2⟩ : ∃ v, (cs.setIfInBounds k (.int .u8 (pw k)))[255 + pw k]? = some v := ⟨_, Array.getElem?_eq_getElem (by rw [Array.size_setIfInBounds]; omega)⟩
      go_wp2_with (go_at_call 81; refine (double_num _ _ (pw_lt k)).mono ?_; rintro e w' ⟨rfl, rfl⟩)
      go_roundw
      case rel => exact ⟨k + 1, by omega, rfl, by go_num, _, rfl, HL.out.next hlt⟩
      case measure => simp [intOf]; omega
    · go_wp2
      obtain rfl : k = 255 := by omega
      go_ret
      exact newField w HL.out
end Go.Proofs.YtoklknjnegpaaaaDoor
