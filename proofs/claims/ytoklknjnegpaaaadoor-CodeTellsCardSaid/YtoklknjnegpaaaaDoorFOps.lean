/-
  gf.Exp, Log, Mul, Inv, Div: what they answer.
-/
import Derived.Test.YtoklknjnegpaaaaDoorFMake
namespace Go.Proofs.YtoklknjnegpaaaaDoor
open Go.RowKit Gf
def U8Same (n : Nat) (w : World) (e : Ending) (w' : World) : Prop := e = .returned (.int .u8 n) ∧ w = w'
theorem u8Same {a : Int} {b : Nat} {w : World} (h : a = b) : U8Same b w (.returned (.int .u8 a)) w := ⟨by rw [h], rfl⟩
/-- An answer; an order was drawn, or none. -/
def U8Drew (n : Nat) (w : World) (e : Ending) (w' : World) : Prop := e = .returned (.int .u8 n) ∧ ∃ k, w' = w.drewN k
theorem drewN_0 (w : World) : w = w.drewN 0 := by first | rfl | simp [World.drewN]
theorem u8Drew {a : Int} {b : Nat} {w : World} (h : a = b) : U8Drew b w (.returned (.int .u8 a)) w := ⟨by rw [h], 0, drewN_0 w⟩
theorem u8Drew' {a : Int} {b k : Nat} {w : World} (h : a = b) : U8Drew b w (.returned (.int .u8 a)) (w.drewN k) := ⟨by rw [h], k, rfl⟩
/-- 2 to whatever power. -/
def pwI (n : Int) : Nat := pw (n % 255).toNat
theorem pwI_nat (n : Nat) : pwI n = pw n := by
  unfold pwI; rw [← pw_mod n]; congr 1
theorem exp_any (w : World) (b : Nat) (hF : FieldIn w b) (n : Int) : Calls Tryd.prog 96 #[.pointer (some ⟨b, 0, none⟩), .int .i64 n] w (U8Same (pwI n) w) := by
  have e0 := Int.tmod_eq_emod (a := n) (b := 255)
  have b1 : n.tmod 255 < 255 := Int.tmod_lt_of_pos n (by omega)
  have b2 : -255 < n.tmod 255 := Int.lt_tmod_of_pos n (by omega)
  have b3 : n % 255 < 255 := Int.emod_lt_of_pos n (by omega)
  have b4 : 0 ≤ n % 255 := Int.emod_nonneg n (by omega)
  have hk : ((n % 255).toNat : Int) = n % 255 := by omega
  have hc := hF.exp (n % 255).toNat (by omega)
  have hr : pwI n = pw (n % 255).toNat := rfl
  generalize (n % 255).toNat = k at hc hr hk
  rw [hr]
  by_cases h : n.tmod 255 < 0
  · have e : n.tmod 255 + 255 = k := by split at e0 <;> omega
    clear e0 hk hr b3 b4
    go_enter Tryd.func96, Tryd.ntmps96
    go_wp2
    go_ret
    exact u8Same rfl
  · have e : n.tmod 255 = k := by split at e0 <;> omega
    clear e0 hk hr b3 b4
    rw [e] at b1 b2 h
    go_enter Tryd.func96, Tryd.ntmps96
    go_wp2
    go_ret
    exact u8Same rfl
theorem exp_quiet (w : World) (b n : Nat) (hF : FieldIn (w.drewN n) b) (k : Nat) : Calls Tryd.prog 96 #[.pointer (some ⟨b, 0, none⟩), .int .i64 k] (w.drewN n) fun e w'' => e = .returned (.int .u8 (pw k)) ∧ ∃ m, w'' = w.drewN m :=
  (exp_any _ b hF k).mono fun _ _ ⟨h1, h2⟩ => ⟨by rw [h1, pwI_nat], n, h2.symm⟩
theorem mul_any (w : World) (b : Nat) (hF : FieldIn w b) (x y : Nat) (hx : x < 256) (hy : y < 256) : Calls Tryd.prog 90 #[.pointer (some ⟨b, 0, none⟩), .int .u8 x, .int .u8 y] w (U8Drew (mul x y) w) := by
  by_cases h : x = 0
  · subst h
    go_enter Tryd.func90, Tryd.ntmps90
    go_wp2
    go_ret
    exact u8Drew (by rw [zero_mul]; rfl)
  by_cases h' : y = 0
  · subst h'
    go_enter Tryd.func90, Tryd.ntmps90
    go_wp2
    go_ret
    exact u8Drew (by rw [mul_zero]; rfl)
  have hy0 : ((y : Int) == 0) = false := by simpa using h'
  have hx0 : ((x : Int) == 0) = false := by simpa using h
  have hc := hF.log x hx h
  have hd := hF.log y hy h'
  have lx := lg_lt hx
  have ly := lg_lt hy
  have hr : pw (lg x + lg y) = mul x y := by unfold mul; rw [if_neg (by omega)]
  have HR := Lib.hid hr; clear hr
  have HF := Lib.hid hF; clear hF
  go_enter Tryd.func90, Tryd.ntmps90
  go_wp2
  go_quiet ((go_at_call 96; exact exp_quiet _ _ _ (HF.out.drewN _) _))
  go_wp2
  go_ret
  exact u8Drew' (by rw [← HR.out])
theorem pwI_neg (l : Nat) (h : l < 255) : pwI (-(l : Int)) = pw (255 - l) := by
  unfold pwI
  by_cases e : l = 0
  · subst e; exact pw_255.symm
  · congr 1
    have : (-(l : Int)) % 255 = 255 - l := by omega
    omega
theorem inv_any (w : World) (b : Nat) (hF : FieldIn w b) (x : Nat) (hx : x < 256) : Calls Tryd.prog 82 #[.pointer (some ⟨b, 0, none⟩), .int .u8 x] w (U8Same (inv x) w) := by
  by_cases h : x = 0
  · subst h
    go_enter Tryd.func82, Tryd.ntmps82
    go_wp2
    go_ret
    exact u8Same (by rw [inv_zero]; rfl)
  have hx0 : ((x : Int) == 0) = false := by simpa using h
  have hc := hF.log x hx h
  have lx := lg_lt hx
  have hr : pwI (-(lg x : Int)) = inv x := by rw [pwI_neg _ lx]; unfold inv; rw [if_neg h]
  have HR := Lib.hid hr; clear hr
  have HF := Lib.hid hF; clear hF
  go_enter Tryd.func82, Tryd.ntmps82
  go_wp2_with (go_at_call 96; refine (exp_any _ _ HF.out _).mono ?_; rintro e w' ⟨rfl, rfl⟩)
  go_ret
  exact u8Same (by rw [HR.out])
end Go.Proofs.YtoklknjnegpaaaaDoor
