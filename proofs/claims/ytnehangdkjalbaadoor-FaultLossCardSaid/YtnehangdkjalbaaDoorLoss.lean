/-
  stavelaw1.FaultLoss: the walk.
-/
import Derived.Test.YtnehangdkjalbaaDoorNone
import Derived.Deep.RegionHeld3
import Derived.Laws.StructEq
namespace Go.Proofs.YtnehangdkjalbaaDoor
open Go.RowKit Go.Extern.Stop Go.Stop Go.Extern

theorem take_rev (l : List (ByteArray × Int)) (k : Nat) (hk : k < l.length) : (l.take (k + 1)).reverse = l.getD k (⟨#[]⟩, 0) :: (l.take k).reverse := by
  rw [List.take_succ_eq_append_getElem hk, List.reverse_append]
  simp [List.getD, hk]

def K3 (w3 w' : World) : Prop := Below w3.heap.size w3 w'
theorem K3.alloc {w3 w' : World} (h : K3 w3 w') (o : Obj) : K3 w3 (w'.alloc o) := Below.alloc h (Below.size h) o
theorem K3.drew {w3 w' : World} (h : K3 w3 w') : K3 w3 w'.drew := Below.drew h
theorem K3.then {w3 w' w'' : World} (h : K3 w3 w') (hb : Below w'.heap.size w' w'') : K3 w3 w'' := Below.trans h (hb.mono (Below.size h))
theorem eql29 (a b c x y z : Int) (w : World) : (binOp .eql 29 (.agg #[.int .i64 a, .int .i64 b, .int .i64 c]) (.agg #[.int .i64 x, .int .i64 y, .int .i64 z])).run Tryd.prog w = .ok (.bool (a == x && b == y && c == z)) w := by
  rw [run_eql_struct, run_equalIn_struct w 9999 29 _ _ (by kernel_rfl) (by kernel_rfl)]
  simp [Program.fieldsOf, Op.eqFields, part, isAgg, underlying, Tryd.underlying29, Tryd.underlying3, Result.andThen, run_equalIn_int w 9998 3 .i64 .i64 _ _ Tryd.underlying3]
  by_cases e1 : a = x <;> by_cases e2 : b = y <;> by_cases e3 : c = z <;> simp [e1, e2, e3]
theorem is_loss_loss_bit (l : List (ByteArray × Int)) (a b c x y z : Int) (v : Value) (hc : v = chain l (lossV a b c)) (W : World) : Calls Tryd.prog 15 #[v, lossV x y z] W (Bit (a == x && b == y && c == z) W) := by
  by_cases h : a = x ∧ b = y ∧ c = z
  · rw [show (a == x && b == y && c == z) = true from by simp [h]]; exact Is_loss_loss_yes l a b c x y z W v hc h
  · rw [show (a == x && b == y && c == z) = false from by simpa [and_assoc] using h]; exact Is_loss_loss_no l a b c x y z W v hc h
theorem calls_k3 {f : Nat} {args : Array Value} {r : Bool} (h : ∀ W, Calls Tryd.prog f args W (Bit r W)) (w3 W : World) (hk : K3 w3 W) : Calls Tryd.prog f args W fun e w' => e = .returned (.bool r) ∧ K3 w3 w' :=
  (h W).mono fun _ _ hh => ⟨hh.1, hk.then hh.2⟩
theorem first_k3 (L : List (ByteArray × Int)) (a1 a2 a3 q : Int) (v : Value) (hc : v = chain L (lossV a1 a2 a3)) (w3 : World) (b : Nat) (W : World) (hk : K3 w3 W) (hcell : W.cell? ⟨b, 0, none⟩ = some (.int .i64 q)) (hb : b < W.heap.size) :
    Calls Tryd.prog 13 #[v, .slice (some ⟨b, 0, none⟩) 1 1] W fun e w' => e = .returned (.int .i64 (if q == 6 then 0 else -1)) ∧ K3 w3 w' := by
  refine (first_any v (fun j => j == 6) [q] b 1 W (by simp) (is_loss_bit L a1 a2 a3 v hc) hb (by intro x hx; match x, hx with | 0, _ => simpa using hcell | x + 1, hx => exact absurd hx (by simp))).mono ?_
  rintro e w' ⟨rfl, hh⟩
  refine ⟨ret_int ?_, hk.then hh⟩
  by_cases h : (q == 6) = true <;> simp [firstAt, h]
def Row3 (w : World) (b : Nat) (x y z : Int) : Prop := w.cell? ⟨b, 0, none⟩ = some (.int .i64 x) ∧ w.cell? ⟨b, 1, none⟩ = some (.int .i64 y) ∧ w.cell? ⟨b, 2, none⟩ = some (.int .i64 z)
theorem Row3.keep {w3 w' : World} {b : Nat} {x y z : Int} (h : Row3 w3 b x y z) (hl : b < w3.heap.size) (hk : K3 w3 w') : Row3 w' b x y z :=
  ⟨by rw [Below.cell hk hl]; exact h.1, by rw [Below.cell hk hl]; exact h.2.1, by rw [Below.cell hk hl]; exact h.2.2⟩
/-- What the last statement's loads want, at every world that it comes to. -/
def S8 (A B D : Nat) (a1 a2 a3 b1 b2 b3 : Int) (w3 w' : World) : Prop :=
  K3 w3 w' ∧ w'.cell? ⟨A, 0, none⟩ = some (.int .i64 a1) ∧ w'.cell? ⟨A, 1, none⟩ = some (.int .i64 a2) ∧ w'.cell? ⟨A, 2, none⟩ = some (.int .i64 a3) ∧
  w'.cell? ⟨B, 0, none⟩ = some (.int .i64 b1) ∧ w'.cell? ⟨B, 1, none⟩ = some (.int .i64 b2) ∧ w'.cell? ⟨B, 2, none⟩ = some (.int .i64 b3) ∧
  w'.cell? ⟨D, 0, none⟩ = some (.int .i64 a1) ∧ w'.cell? ⟨D, 1, none⟩ = some (.int .i64 a2) ∧ w'.cell? ⟨D, 2, none⟩ = some (.int .i64 a3)

def RelL (l : List (ByteArray × Int)) (b : Value) (w0 : World) (e i : Value) (wr : World) : Prop :=
  ∃ k : Nat, k ≤ l.length ∧ k ≤ 9 ∧ i = .int .i64 k ∧ e = chain (l.take k).reverse b ∧ Below w0.heap.size w0 wr

set_option maxHeartbeats 4000000 in
set_option maxRecDepth 100000 in
theorem loss_any (a1 a2 a3 b1 b2 b3 : Int) (b o cap : Nat) (l : List (ByteArray × Int)) (n : Int) (w : World) (hg : Typ w) (hs : Steps w b o l) (hbl : b < w.heap.size) :
    Calls Tryd.prog 6 #[.agg #[.int .i64 a1, .int .i64 a2, .int .i64 a3], .agg #[.int .i64 b1, .int .i64 b2, .int .i64 b3], .slice (some ⟨b, o, none⟩) l.length cap, .int .i64 n] w (Bit true w) := by
  have hB0 : Below w.heap.size w ((w.alloc (.cells #[.int .i64 a1, .int .i64 a2, .int .i64 a3] 29)).alloc (.cells #[.int .i64 b1, .int .i64 b2, .int .i64 b3] 29)) := ((Below.refl _ _).alloc (Nat.le_refl _) _).alloc (by simp) _
  have Hg := Lib.hid hg; clear hg
  have Hs := Lib.hid hs; clear hs
  have HB0 := Lib.hid hB0; clear hB0
  go_enter Tryd.func6, Tryd.ntmps6
  go_wp2_with fail
  have A0 : ∀ (i : Nat) (v : Value), (#[Value.int .i64 a1, .int .i64 a2, .int .i64 a3] : Array Value)[i]? = some v → ((w.alloc (.cells #[.int .i64 a1, .int .i64 a2, .int .i64 a3] 29)).alloc (.cells #[.int .i64 b1, .int .i64 b2, .int .i64 b3] 29)).cell? ⟨w.heap.size, i, none⟩ = some v := by
    intro i v hv
    match i, hv with
    | 0, hv => simpa using hv
    | 1, hv => simpa using hv
    | 2, hv => simpa using hv
    | i + 3, hv => simp at hv
  have A1 : ∀ (i : Nat) (v : Value), (#[Value.int .i64 b1, .int .i64 b2, .int .i64 b3] : Array Value)[i]? = some v → ((w.alloc (.cells #[.int .i64 a1, .int .i64 a2, .int .i64 a3] 29)).alloc (.cells #[.int .i64 b1, .int .i64 b2, .int .i64 b3] 29)).cell? ⟨w.heap.size + 1, i, none⟩ = some v := by
    intro i v hv
    match i, hv with
    | 0, hv => simpa using hv
    | 1, hv => simpa using hv
    | 2, hv => simpa using hv
    | i + 3, hv => simp at hv
  have hsz : w.heap.size + 1 < ((w.alloc (.cells #[.int .i64 a1, .int .i64 a2, .int .i64 a3] 29)).alloc (.cells #[.int .i64 b1, .int .i64 b2, .int .i64 b3] 29)).heap.size := by simp
  have M := Lib.hid (And.intro hsz (And.intro A0 A1)); clear A0 A1 hsz
  generalize (w.alloc (.cells #[.int .i64 a1, .int .i64 a2, .int .i64 a3] 29)).alloc (.cells #[.int .i64 b1, .int .i64 b2, .int .i64 b3] 29) = w0 at *
  go_loopw [9, 10] (fun e i wr => RelL l (lossV a1 a2 a3) w0 e i wr) (fun _ i _ => l.length - (intOf i).toNat)
  case atStart => exact ⟨0, Nat.zero_le _, Nat.zero_le _, rfl, rfl, Below.refl _ _⟩
  case round =>
    obtain ⟨k, hk, hk9, rfl, rfl, hB⟩ := hrel
    have HB := Lib.hid hB; clear hB
    by_cases hlt : k < l.length ∧ k < 9
    · obtain ⟨hlt, h9⟩ := hlt
      have hst := (Hs.out.below hbl (HB0.out.trans (HB.out.mono HB0.out.size))) k hlt
      have hbe := take_rev l k hlt
      have c1 := hst.1
      have c2 := hst.2
      have HBE := Lib.hid hbe
      clear hst hbe
      generalize l.getD k (⟨#[]⟩, 0) = x at *
      obtain ⟨s, m⟩ := x
      obtain ⟨U, y, hy⟩ := chain_iface (l.take k).reverse 29 (.agg #[.int .i64 a1, .int .i64 a2, .int .i64 a3])
      change chain _ (lossV a1 a2 a3) = _ at hy
      rw [hy]
      have Hy := Lib.hid hy; clear hy
      simp only at c1 c2
      go_wp2
      go_quiet ((go_at_call 7; exact Calls.quiet_of_same (wrap_some' _ _ _ _ _)))
      go_wp2
      go_roundw
      case rel => exact ⟨k + 1, by omega, by omega, by go_num, by rw [HBE.out]; simp only [chain, wrapV]; rw [Hy.out], below_drewN HB.out _⟩
      case measure => simp [intOf]; omega
    · have hor : k = l.length ∨ (k < l.length ∧ 9 ≤ k) := by omega
      generalize hL : (l.take k).reverse = L
      clear hL
      obtain ⟨U, y, hy⟩ := chain_iface L 29 (.agg #[.int .i64 a1, .int .i64 a2, .int .i64 a3])
      change chain L (lossV a1 a2 a3) = _ at hy
      rw [hy]
      have Hy := Lib.hid hy; clear hy hlt
      rcases hor with hkl | ⟨hlt, h9⟩
      · subst hkl
        clear hk
        go_wp2_with fail
        refine (within n _).mono ?_
        rintro e w1 ⟨q, hq, rfl, rfl⟩
        clear hq
        go_wp2_with fail
        refine (lost_loss L a1 a2 a3 _ _ Hy.out.symm (Hg.out.below (HB0.out.trans (HB.out.mono HB0.out.size)))).mono ?_
        rintro e w2 ⟨rfl, hb⟩
        have K2 := Lib.hid ((HB.out.trans (hb.mono HB.out.size)).alloc (Nat.le_trans HB.out.size hb.size) (.cells #[.int .i64 a1, .int .i64 a2, .int .i64 a3] 29))
        have z2 : w2.heap.size < (w2.alloc (.cells #[.int .i64 a1, .int .i64 a2, .int .i64 a3] 29)).heap.size := by simp
        have e0 : (w2.alloc (.cells #[.int .i64 a1, .int .i64 a2, .int .i64 a3] 29)).cell? ⟨w2.heap.size, 0, none⟩ = some (.int .i64 a1) := by simp
        have e1 : (w2.alloc (.cells #[.int .i64 a1, .int .i64 a2, .int .i64 a3] 29)).cell? ⟨w2.heap.size, 1, none⟩ = some (.int .i64 a2) := by simp
        have e2 : (w2.alloc (.cells #[.int .i64 a1, .int .i64 a2, .int .i64 a3] 29)).cell? ⟨w2.heap.size, 2, none⟩ = some (.int .i64 a3) := by simp
        have E2 := Lib.hid (And.intro z2 (And.intro e0 (And.intro e1 e2))); clear hb z2 e0 e1 e2
        have hmem : ∀ W, K3 (w2.alloc (.cells #[.int .i64 a1, .int .i64 a2, .int .i64 a3] 29)) W → S8 w.heap.size (w.heap.size + 1) w2.heap.size a1 a2 a3 b1 b2 b3 (w2.alloc (.cells #[.int .i64 a1, .int .i64 a2, .int .i64 a3] 29)) W := fun W hW => by
          have hA := (M.out.2.1 0 _ rfl)
          have lA : w.heap.size < w0.heap.size := Nat.lt_of_succ_lt M.out.1
          have z := K2.out.size
          have cA : ∀ i v, (#[Value.int .i64 a1, .int .i64 a2, .int .i64 a3] : Array Value)[i]? = some v → W.cell? ⟨w.heap.size, i, none⟩ = some v := fun i v h => by rw [Below.cell hW (Nat.lt_of_lt_of_le lA z), K2.out.cell lA]; exact M.out.2.1 i v h
          have cB : ∀ i v, (#[Value.int .i64 b1, .int .i64 b2, .int .i64 b3] : Array Value)[i]? = some v → W.cell? ⟨w.heap.size + 1, i, none⟩ = some v := fun i v h => by rw [Below.cell hW (Nat.lt_of_lt_of_le M.out.1 z), K2.out.cell M.out.1]; exact M.out.2.2 i v h
          exact ⟨hW, cA 0 _ rfl, cA 1 _ rfl, cA 2 _ rfl, cB 0 _ rfl, cB 1 _ rfl, cB 2 _ rfl, by rw [Below.cell hW E2.out.1]; exact E2.out.2.1, by rw [Below.cell hW E2.out.1]; exact E2.out.2.2.1, by rw [Below.cell hW E2.out.1]; exact E2.out.2.2.2⟩
        have Hmem := Lib.hid hmem; clear hmem
        have B3 := Lib.hid (HB0.out.trans (K2.out.mono HB0.out.size))
        go_wp2_with fail
        generalize w2.alloc (.cells #[.int .i64 a1, .int .i64 a2, .int .i64 a3] 29) = w3 at *
        have hk0 : K3 w3 w3 := Below.refl _ _
        have c1 := calls_k3 (fun W => Is_loss_err_yes L a1 a2 a3 6 W (.iface U y) Hy.out.symm rfl) w3
        have c5 := calls_k3 (is_loss_bit L a1 a2 a3 (.iface U y) Hy.out.symm q) w3
        have c2 := calls_k3 (is_loss_loss_bit L a1 a2 a3 b1 b2 b3 (.iface U y) Hy.out.symm) w3
        have c4 := first_k3 L a1 a2 a3 q (.iface U y) Hy.out.symm w3
        have C3 := Lib.hid (fun (W : World) (hk : K3 w3 W) => runs W (Hg.out.below (B3.out.trans (Below.mono hk B3.out.size))))
        have heqA := eql29 a1 a2 a3 a1 a2 a3
        have heqB := eql29 a1 a2 a3 b1 b2 b3
        simp only [beq_self_eq_true, Bool.and_self] at heqA
        have hz : ((if q == 6 then 0 else -1 : Int) == -1) = (q != 6) := by by_cases h : q = 6 <;> simp [h]
        generalize (if q == 6 then 0 else -1 : Int) = z at c4 hz
        generalize (a1 == b1 && a2 == b2 && a3 == b3) = r at c2 heqB
        unfold errV at c1 c5
        unfold lossV at c2
        have C1 := Lib.hid c1
        have C5 := Lib.hid c5
        have C2 := Lib.hid c2
        have C4 := Lib.hid c4
        clear c1 c5 c2 c4
        have hS := Hmem.out w3 hk0
        unfold S8 at hS
        go_region_held3 (fun w' => K3 w3 w' ∧ w'.cell? ⟨w.heap.size, 0, none⟩ = some (.int .i64 a1) ∧ w'.cell? ⟨w.heap.size, 1, none⟩ = some (.int .i64 a2) ∧ w'.cell? ⟨w.heap.size, 2, none⟩ = some (.int .i64 a3) ∧ w'.cell? ⟨w.heap.size + 1, 0, none⟩ = some (.int .i64 b1) ∧ w'.cell? ⟨w.heap.size + 1, 1, none⟩ = some (.int .i64 b2) ∧ w'.cell? ⟨w.heap.size + 1, 2, none⟩ = some (.int .i64 b3) ∧ w'.cell? ⟨w2.heap.size, 0, none⟩ = some (.int .i64 a1) ∧ w'.cell? ⟨w2.heap.size, 1, none⟩ = some (.int .i64 a2) ∧ w'.cell? ⟨w2.heap.size, 2, none⟩ = some (.int .i64 a3)) (exact Hmem.out _ (by repeat (first | assumption | refine K3.drew ?_ | refine K3.alloc ?_ _))) (first | (go_at_call 15; (with_reducible refine (C1.out _ ?_).mono ?_); (repeat (first | assumption | refine K3.drew ?_ | refine K3.alloc ?_ _)); rintro e w' ⟨rfl, hk⟩) | (go_at_call 15; (with_reducible refine (C5.out _ ?_).mono ?_); (repeat (first | assumption | refine K3.drew ?_ | refine K3.alloc ?_ _)); rintro e w' ⟨rfl, hk⟩) | (go_at_call 15; (with_reducible refine (C2.out _ ?_).mono ?_); (repeat (first | assumption | refine K3.drew ?_ | refine K3.alloc ?_ _)); rintro e w' ⟨rfl, hk⟩) | (go_at_call 13; (with_reducible refine (C4.out _ _ (by repeat (first | assumption | refine K3.drew ?_ | refine K3.alloc ?_ _)) (by simp) (by simp)).mono ?_); rintro e w' ⟨rfl, hk⟩) | (go_at_call 3; (with_reducible refine (C3.out _ ?_).mono ?_); (repeat (first | assumption | refine K3.drew ?_ | refine K3.alloc ?_ _)); rintro e w' ⟨rfl, hb⟩; have hk : K3 w3 w' := K3.then (by assumption) hb))
        go_wp2
        go_ret
        exact ⟨rfl, B3.out.trans (Below.mono hk B3.out.size)⟩
      · go_wp2_with fail
        refine (within n _).mono ?_
        rintro e w1 ⟨q, hq, rfl, rfl⟩
        clear hq
        go_wp2_with fail
        refine (lost_loss L a1 a2 a3 _ _ Hy.out.symm (Hg.out.below (HB0.out.trans (HB.out.mono HB0.out.size)))).mono ?_
        rintro e w2 ⟨rfl, hb⟩
        have K2 := Lib.hid ((HB.out.trans (hb.mono HB.out.size)).alloc (Nat.le_trans HB.out.size hb.size) (.cells #[.int .i64 a1, .int .i64 a2, .int .i64 a3] 29))
        have z2 : w2.heap.size < (w2.alloc (.cells #[.int .i64 a1, .int .i64 a2, .int .i64 a3] 29)).heap.size := by simp
        have e0 : (w2.alloc (.cells #[.int .i64 a1, .int .i64 a2, .int .i64 a3] 29)).cell? ⟨w2.heap.size, 0, none⟩ = some (.int .i64 a1) := by simp
        have e1 : (w2.alloc (.cells #[.int .i64 a1, .int .i64 a2, .int .i64 a3] 29)).cell? ⟨w2.heap.size, 1, none⟩ = some (.int .i64 a2) := by simp
        have e2 : (w2.alloc (.cells #[.int .i64 a1, .int .i64 a2, .int .i64 a3] 29)).cell? ⟨w2.heap.size, 2, none⟩ = some (.int .i64 a3) := by simp
        have E2 := Lib.hid (And.intro z2 (And.intro e0 (And.intro e1 e2))); clear hb z2 e0 e1 e2
        have hmem : ∀ W, K3 (w2.alloc (.cells #[.int .i64 a1, .int .i64 a2, .int .i64 a3] 29)) W → S8 w.heap.size (w.heap.size + 1) w2.heap.size a1 a2 a3 b1 b2 b3 (w2.alloc (.cells #[.int .i64 a1, .int .i64 a2, .int .i64 a3] 29)) W := fun W hW => by
          have hA := (M.out.2.1 0 _ rfl)
          have lA : w.heap.size < w0.heap.size := Nat.lt_of_succ_lt M.out.1
          have z := K2.out.size
          have cA : ∀ i v, (#[Value.int .i64 a1, .int .i64 a2, .int .i64 a3] : Array Value)[i]? = some v → W.cell? ⟨w.heap.size, i, none⟩ = some v := fun i v h => by rw [Below.cell hW (Nat.lt_of_lt_of_le lA z), K2.out.cell lA]; exact M.out.2.1 i v h
          have cB : ∀ i v, (#[Value.int .i64 b1, .int .i64 b2, .int .i64 b3] : Array Value)[i]? = some v → W.cell? ⟨w.heap.size + 1, i, none⟩ = some v := fun i v h => by rw [Below.cell hW (Nat.lt_of_lt_of_le M.out.1 z), K2.out.cell M.out.1]; exact M.out.2.2 i v h
          exact ⟨hW, cA 0 _ rfl, cA 1 _ rfl, cA 2 _ rfl, cB 0 _ rfl, cB 1 _ rfl, cB 2 _ rfl, by rw [Below.cell hW E2.out.1]; exact E2.out.2.1, by rw [Below.cell hW E2.out.1]; exact E2.out.2.2.1, by rw [Below.cell hW E2.out.1]; exact E2.out.2.2.2⟩
        have Hmem := Lib.hid hmem; clear hmem
        have B3 := Lib.hid (HB0.out.trans (K2.out.mono HB0.out.size))
        go_wp2_with fail
        generalize w2.alloc (.cells #[.int .i64 a1, .int .i64 a2, .int .i64 a3] 29) = w3 at *
        have hk0 : K3 w3 w3 := Below.refl _ _
        have c1 := calls_k3 (fun W => Is_loss_err_yes L a1 a2 a3 6 W (.iface U y) Hy.out.symm rfl) w3
        have c5 := calls_k3 (is_loss_bit L a1 a2 a3 (.iface U y) Hy.out.symm q) w3
        have c2 := calls_k3 (is_loss_loss_bit L a1 a2 a3 b1 b2 b3 (.iface U y) Hy.out.symm) w3
        have c4 := first_k3 L a1 a2 a3 q (.iface U y) Hy.out.symm w3
        have C3 := Lib.hid (fun (W : World) (hk : K3 w3 W) => runs W (Hg.out.below (B3.out.trans (Below.mono hk B3.out.size))))
        have heqA := eql29 a1 a2 a3 a1 a2 a3
        have heqB := eql29 a1 a2 a3 b1 b2 b3
        simp only [beq_self_eq_true, Bool.and_self] at heqA
        have hz : ((if q == 6 then 0 else -1 : Int) == -1) = (q != 6) := by by_cases h : q = 6 <;> simp [h]
        generalize (if q == 6 then 0 else -1 : Int) = z at c4 hz
        generalize (a1 == b1 && a2 == b2 && a3 == b3) = r at c2 heqB
        unfold errV at c1 c5
        unfold lossV at c2
        have C1 := Lib.hid c1
        have C5 := Lib.hid c5
        have C2 := Lib.hid c2
        have C4 := Lib.hid c4
        clear c1 c5 c2 c4
        have hS := Hmem.out w3 hk0
        unfold S8 at hS
        go_region_held3 (fun w' => K3 w3 w' ∧ w'.cell? ⟨w.heap.size, 0, none⟩ = some (.int .i64 a1) ∧ w'.cell? ⟨w.heap.size, 1, none⟩ = some (.int .i64 a2) ∧ w'.cell? ⟨w.heap.size, 2, none⟩ = some (.int .i64 a3) ∧ w'.cell? ⟨w.heap.size + 1, 0, none⟩ = some (.int .i64 b1) ∧ w'.cell? ⟨w.heap.size + 1, 1, none⟩ = some (.int .i64 b2) ∧ w'.cell? ⟨w.heap.size + 1, 2, none⟩ = some (.int .i64 b3) ∧ w'.cell? ⟨w2.heap.size, 0, none⟩ = some (.int .i64 a1) ∧ w'.cell? ⟨w2.heap.size, 1, none⟩ = some (.int .i64 a2) ∧ w'.cell? ⟨w2.heap.size, 2, none⟩ = some (.int .i64 a3)) (exact Hmem.out _ (by repeat (first | assumption | refine K3.drew ?_ | refine K3.alloc ?_ _))) (first | (go_at_call 15; (with_reducible refine (C1.out _ ?_).mono ?_); (repeat (first | assumption | refine K3.drew ?_ | refine K3.alloc ?_ _)); rintro e w' ⟨rfl, hk⟩) | (go_at_call 15; (with_reducible refine (C5.out _ ?_).mono ?_); (repeat (first | assumption | refine K3.drew ?_ | refine K3.alloc ?_ _)); rintro e w' ⟨rfl, hk⟩) | (go_at_call 15; (with_reducible refine (C2.out _ ?_).mono ?_); (repeat (first | assumption | refine K3.drew ?_ | refine K3.alloc ?_ _)); rintro e w' ⟨rfl, hk⟩) | (go_at_call 13; (with_reducible refine (C4.out _ _ (by repeat (first | assumption | refine K3.drew ?_ | refine K3.alloc ?_ _)) (by simp) (by simp)).mono ?_); rintro e w' ⟨rfl, hk⟩) | (go_at_call 3; (with_reducible refine (C3.out _ ?_).mono ?_); (repeat (first | assumption | refine K3.drew ?_ | refine K3.alloc ?_ _)); rintro e w' ⟨rfl, hb⟩; have hk : K3 w3 w' := K3.then (by assumption) hb))
        go_wp2
        go_ret
        exact ⟨rfl, B3.out.trans (Below.mono hk B3.out.size)⟩

set_option maxHeartbeats 4000000 in
set_option maxRecDepth 100000 in
theorem loss_empty (a1 a2 a3 b1 b2 b3 : Int) (a : Option Addr) (cap : Nat) (n : Int) (w : World) (hg : Typ w) :
    Calls Tryd.prog 6 #[.agg #[.int .i64 a1, .int .i64 a2, .int .i64 a3], .agg #[.int .i64 b1, .int .i64 b2, .int .i64 b3], .slice a 0 cap, .int .i64 n] w (Bit true w) := by
  have hB0 : Below w.heap.size w ((w.alloc (.cells #[.int .i64 a1, .int .i64 a2, .int .i64 a3] 29)).alloc (.cells #[.int .i64 b1, .int .i64 b2, .int .i64 b3] 29)) := ((Below.refl _ _).alloc (Nat.le_refl _) _).alloc (by simp) _
  have Hg := Lib.hid hg; clear hg
  have HB0 := Lib.hid hB0; clear hB0
  go_enter Tryd.func6, Tryd.ntmps6
  go_wp2_with fail
  have A0 : ∀ (i : Nat) (v : Value), (#[Value.int .i64 a1, .int .i64 a2, .int .i64 a3] : Array Value)[i]? = some v → ((w.alloc (.cells #[.int .i64 a1, .int .i64 a2, .int .i64 a3] 29)).alloc (.cells #[.int .i64 b1, .int .i64 b2, .int .i64 b3] 29)).cell? ⟨w.heap.size, i, none⟩ = some v := by
    intro i v hv
    match i, hv with
    | 0, hv => simpa using hv
    | 1, hv => simpa using hv
    | 2, hv => simpa using hv
    | i + 3, hv => simp at hv
  have A1 : ∀ (i : Nat) (v : Value), (#[Value.int .i64 b1, .int .i64 b2, .int .i64 b3] : Array Value)[i]? = some v → ((w.alloc (.cells #[.int .i64 a1, .int .i64 a2, .int .i64 a3] 29)).alloc (.cells #[.int .i64 b1, .int .i64 b2, .int .i64 b3] 29)).cell? ⟨w.heap.size + 1, i, none⟩ = some v := by
    intro i v hv
    match i, hv with
    | 0, hv => simpa using hv
    | 1, hv => simpa using hv
    | 2, hv => simpa using hv
    | i + 3, hv => simp at hv
  have hsz : w.heap.size + 1 < ((w.alloc (.cells #[.int .i64 a1, .int .i64 a2, .int .i64 a3] 29)).alloc (.cells #[.int .i64 b1, .int .i64 b2, .int .i64 b3] 29)).heap.size := by simp
  have M := Lib.hid (And.intro hsz (And.intro A0 A1)); clear A0 A1 hsz
  generalize (w.alloc (.cells #[.int .i64 a1, .int .i64 a2, .int .i64 a3] 29)).alloc (.cells #[.int .i64 b1, .int .i64 b2, .int .i64 b3] 29) = w0 at *
  have HB := Lib.hid (Below.refl w0.heap.size w0)
  obtain ⟨L, hL⟩ : ∃ L : List (ByteArray × Int), L = [] := ⟨_, rfl⟩
  obtain ⟨U, y, hy⟩ : ∃ U y, chain L (lossV a1 a2 a3) = .iface U y := chain_iface L 29 _
  have hl0 : lossV a1 a2 a3 = .iface U y := by rw [← hy, hL]; rfl
  unfold lossV at hl0
  rw [hl0]
  have Hy := Lib.hid hy; clear hy hL hl0
  refine wp_loop_rounds 1 ?_
  rw [rounds_succ]
  go_wp2_with fail
  refine (within n _).mono ?_
  rintro e w1 ⟨q, hq, rfl, rfl⟩
  clear hq
  go_wp2_with fail
  refine (lost_loss L a1 a2 a3 _ _ Hy.out.symm (Hg.out.below (HB0.out.trans (HB.out.mono HB0.out.size)))).mono ?_
  rintro e w2 ⟨rfl, hb⟩
  have K2 := Lib.hid ((HB.out.trans (hb.mono HB.out.size)).alloc (Nat.le_trans HB.out.size hb.size) (.cells #[.int .i64 a1, .int .i64 a2, .int .i64 a3] 29))
  have z2 : w2.heap.size < (w2.alloc (.cells #[.int .i64 a1, .int .i64 a2, .int .i64 a3] 29)).heap.size := by simp
  have e0 : (w2.alloc (.cells #[.int .i64 a1, .int .i64 a2, .int .i64 a3] 29)).cell? ⟨w2.heap.size, 0, none⟩ = some (.int .i64 a1) := by simp
  have e1 : (w2.alloc (.cells #[.int .i64 a1, .int .i64 a2, .int .i64 a3] 29)).cell? ⟨w2.heap.size, 1, none⟩ = some (.int .i64 a2) := by simp
  have e2 : (w2.alloc (.cells #[.int .i64 a1, .int .i64 a2, .int .i64 a3] 29)).cell? ⟨w2.heap.size, 2, none⟩ = some (.int .i64 a3) := by simp
  have E2 := Lib.hid (And.intro z2 (And.intro e0 (And.intro e1 e2))); clear hb z2 e0 e1 e2
  have hmem : ∀ W, K3 (w2.alloc (.cells #[.int .i64 a1, .int .i64 a2, .int .i64 a3] 29)) W → S8 w.heap.size (w.heap.size + 1) w2.heap.size a1 a2 a3 b1 b2 b3 (w2.alloc (.cells #[.int .i64 a1, .int .i64 a2, .int .i64 a3] 29)) W := fun W hW => by
    have hA := (M.out.2.1 0 _ rfl)
    have lA : w.heap.size < w0.heap.size := Nat.lt_of_succ_lt M.out.1
    have z := K2.out.size
    have cA : ∀ i v, (#[Value.int .i64 a1, .int .i64 a2, .int .i64 a3] : Array Value)[i]? = some v → W.cell? ⟨w.heap.size, i, none⟩ = some v := fun i v h => by rw [Below.cell hW (Nat.lt_of_lt_of_le lA z), K2.out.cell lA]; exact M.out.2.1 i v h
    have cB : ∀ i v, (#[Value.int .i64 b1, .int .i64 b2, .int .i64 b3] : Array Value)[i]? = some v → W.cell? ⟨w.heap.size + 1, i, none⟩ = some v := fun i v h => by rw [Below.cell hW (Nat.lt_of_lt_of_le M.out.1 z), K2.out.cell M.out.1]; exact M.out.2.2 i v h
    exact ⟨hW, cA 0 _ rfl, cA 1 _ rfl, cA 2 _ rfl, cB 0 _ rfl, cB 1 _ rfl, cB 2 _ rfl, by rw [Below.cell hW E2.out.1]; exact E2.out.2.1, by rw [Below.cell hW E2.out.1]; exact E2.out.2.2.1, by rw [Below.cell hW E2.out.1]; exact E2.out.2.2.2⟩
  have Hmem := Lib.hid hmem; clear hmem
  have B3 := Lib.hid (HB0.out.trans (K2.out.mono HB0.out.size))
  go_wp2_with fail
  generalize w2.alloc (.cells #[.int .i64 a1, .int .i64 a2, .int .i64 a3] 29) = w3 at *
  have hk0 : K3 w3 w3 := Below.refl _ _
  have c1 := calls_k3 (fun W => Is_loss_err_yes L a1 a2 a3 6 W (.iface U y) Hy.out.symm rfl) w3
  have c5 := calls_k3 (is_loss_bit L a1 a2 a3 (.iface U y) Hy.out.symm q) w3
  have c2 := calls_k3 (is_loss_loss_bit L a1 a2 a3 b1 b2 b3 (.iface U y) Hy.out.symm) w3
  have c4 := first_k3 L a1 a2 a3 q (.iface U y) Hy.out.symm w3
  have C3 := Lib.hid (fun (W : World) (hk : K3 w3 W) => runs W (Hg.out.below (B3.out.trans (Below.mono hk B3.out.size))))
  have heqA := eql29 a1 a2 a3 a1 a2 a3
  have heqB := eql29 a1 a2 a3 b1 b2 b3
  simp only [beq_self_eq_true, Bool.and_self] at heqA
  have hz : ((if q == 6 then 0 else -1 : Int) == -1) = (q != 6) := by by_cases h : q = 6 <;> simp [h]
  generalize (if q == 6 then 0 else -1 : Int) = z at c4 hz
  generalize (a1 == b1 && a2 == b2 && a3 == b3) = r at c2 heqB
  unfold errV at c1 c5
  unfold lossV at c2
  have C1 := Lib.hid c1
  have C5 := Lib.hid c5
  have C2 := Lib.hid c2
  have C4 := Lib.hid c4
  clear c1 c5 c2 c4
  have hS := Hmem.out w3 hk0
  unfold S8 at hS
  go_region_held3 (fun w' => K3 w3 w' ∧ w'.cell? ⟨w.heap.size, 0, none⟩ = some (.int .i64 a1) ∧ w'.cell? ⟨w.heap.size, 1, none⟩ = some (.int .i64 a2) ∧ w'.cell? ⟨w.heap.size, 2, none⟩ = some (.int .i64 a3) ∧ w'.cell? ⟨w.heap.size + 1, 0, none⟩ = some (.int .i64 b1) ∧ w'.cell? ⟨w.heap.size + 1, 1, none⟩ = some (.int .i64 b2) ∧ w'.cell? ⟨w.heap.size + 1, 2, none⟩ = some (.int .i64 b3) ∧ w'.cell? ⟨w2.heap.size, 0, none⟩ = some (.int .i64 a1) ∧ w'.cell? ⟨w2.heap.size, 1, none⟩ = some (.int .i64 a2) ∧ w'.cell? ⟨w2.heap.size, 2, none⟩ = some (.int .i64 a3)) (exact Hmem.out _ (by repeat (first | assumption | refine K3.drew ?_ | refine K3.alloc ?_ _))) (first | (go_at_call 15; (with_reducible refine (C1.out _ ?_).mono ?_); (repeat (first | assumption | refine K3.drew ?_ | refine K3.alloc ?_ _)); rintro e w' ⟨rfl, hk⟩) | (go_at_call 15; (with_reducible refine (C5.out _ ?_).mono ?_); (repeat (first | assumption | refine K3.drew ?_ | refine K3.alloc ?_ _)); rintro e w' ⟨rfl, hk⟩) | (go_at_call 15; (with_reducible refine (C2.out _ ?_).mono ?_); (repeat (first | assumption | refine K3.drew ?_ | refine K3.alloc ?_ _)); rintro e w' ⟨rfl, hk⟩) | (go_at_call 13; (with_reducible refine (C4.out _ _ (by repeat (first | assumption | refine K3.drew ?_ | refine K3.alloc ?_ _)) (by simp) (by simp)).mono ?_); rintro e w' ⟨rfl, hk⟩) | (go_at_call 3; (with_reducible refine (C3.out _ ?_).mono ?_); (repeat (first | assumption | refine K3.drew ?_ | refine K3.alloc ?_ _)); rintro e w' ⟨rfl, hb⟩; have hk : K3 w3 w' := K3.then (by assumption) hb))
  go_wp2
  go_ret
  exact ⟨rfl, B3.out.trans (Below.mono hk B3.out.size)⟩
end Go.Proofs.YtnehangdkjalbaaDoor
