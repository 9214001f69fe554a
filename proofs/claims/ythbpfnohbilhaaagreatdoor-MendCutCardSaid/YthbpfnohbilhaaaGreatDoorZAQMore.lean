import Derived.Test.YthbpfnohbilhaaaGreatDoorZADWipe
import Derived.Laws.BitsAllLaws
import Derived.RegionTactic
import Derived.BigRegion
import Derived.Test.YthbpfnohbilhaaaGreatDoorZADEv
import Derived.Test.YthbpfnohbilhaaaGreatDoorZAQS
namespace Go.Proofs.YthbpfnohbilhaaaGreatDoor
open Go.RowKit Go.Deep Dk Go.Maps
set_option maxHeartbeats 1000000
set_option maxRecDepth 100000
def rotL (b : Sec) (a x k : Nat) : Sec := tab 128 fun p => if a ≤ p ∧ p < a + k then (b.getD p 0).toNat ^^^ (x / 2 ^ (8 * (p - a)) % 256) else (b.getD p 0).toNat
theorem rotL_length (b : Sec) (a x k : Nat) : (rotL b a x k).length = 128 := tab_length _ _
variable {b : Sec}
theorem rotL_zero (h : b.length = 128) (a x : Nat) : rotL b a x 0 = b := (tab_eq h fun i _ => (if_neg (by omega)).symm).symm
variable {a : Nat}
theorem turn_lt {b : Nat} (ha : a < 256) (hb : b < 256) : a ^^^ b < 256 := Nat.xor_lt_two_pow (n := 8) ha hb
theorem byte_lt (b : Sec) (p : Nat) : (b.getD p 0).toNat < 256 := UInt8.toNat_lt _
variable {x k : Nat}
theorem rotL_set : (bytesV (rotL b a x k)).set (a + k) (.int .u8 (((b.getD (a + k) 0).toNat ^^^ (x / 2 ^ (8 * k) % 256) : Nat) : Int)) = bytesV (rotL b a x (k + 1)) := by
 refine tab_set (turn_lt (byte_lt _ _) (Nat.mod_lt _ (by omega))) (fun j _ hj => ?_) ?_
 ·by_cases h : a ≤ j ∧ j < a + k
  ·rw [if_pos h, if_pos (by omega)]
  ·rw [if_neg h, if_neg (by omega)]
 ·rw [if_pos (by omega), Nat.add_sub_cancel_left]
theorem rotL_at (hk : a + k < 128) : ((rotL b a x k).getD (a + k) 0).toNat = (b.getD (a + k) 0).toNat := by
 unfold rotL
 rw [tab_nat _ hk]
 ·rw [if_neg (by omega)]
 ·rw [if_neg (by omega)]; exact byte_lt _ _
def stRot (s : St) (i a x k : Nat) : St := { s with st := upd s.st i (rotL (s.st i) a x k) }
def rotD (s : St) (i a x : Nat) : St := { stRot s i a x 4 with rot := upd s.rot i true }
variable {s : St}
theorem stRot_ok (h : s.Ok) (i a x k : Nat) : (stRot s i a x k).Ok := ⟨h.n, fun j => by show (upd s.st i _ j).length = 128; unfold upd; split; exact rotL_length _ _ _ _; exact h.st j, h.wt⟩
theorem rotD_ok (h : s.Ok) (i a x : Nat) : (rotD s i a x).Ok := ⟨h.n, (stRot_ok h i a x 4).st, h.wt⟩
def mayRot (s : St) (i a : Int) (x : Nat) : Prop := s.dead = false ∧ 0 ≤ i ∧ i < s.n ∧ 0 ≤ a ∧ a ≤ 124 ∧ x ≠ 0 ∧ s.rot i.toNat = false
instance (s : St) (i a : Int) (x : Nat) : Decidable (mayRot s i a x) := by unfold mayRot; infer_instance
def rotnext (s : St) (i a : Int) (x : Nat) : St := if mayRot s i a x then rotD s i.toNat a.toNat x else s
end Go.Proofs.YthbpfnohbilhaaaGreatDoor
namespace Go.Proofs.YthbpfnohbilhaaaGreatDoor
open Go.RowKit Go.Deep Dk Qk Go.Maps
set_option maxHeartbeats 1000000
set_option maxRecDepth 100000
variable {lo : Nat} {c : Lc} {q : Rk}
theorem qn_any (w : World) (h : RackIn lo w c q) : Calls Tryz.prog 76 #[.pointer (some ⟨c.r, 0, none⟩)] w (NumSame (q.n : Int) w) := by
 have c0 := h.c0
 clear h
 go_enter Tryz.func76, Tryz.ntmps76
 go_wp2
 go_ret
 exact ⟨rfl, rfl⟩
def Rk.dying (q : Rk) (i : Int) (dead : Bool) : Rk := if q.has i then q.wipe i.toNat dead else q
theorem qdie_any (w : World) (h : RackIn lo w c q) (i : Int) : Calls Tryz.prog 42 #[.pointer (some ⟨c.r, 0, none⟩), .int .i64 i] w (NextR lo c q.n (Rk.dying q i true) (.bool (decide (q.has i))) w) := by
 have HH := hI (qhas_any w h i)
 have c0 := h.c0
 unfold Rk.dying
 by_cases hi : q.has i
 ·rw [decide_eq_true hi] at HH ⊢
  rw [if_pos hi]; obtain ⟨k, rfl⟩ := Int.eq_ofNat_of_zero_le hi.1
  have hk : k < q.n := by have := hi.2; omega
  have ca := h.at_ hk; have HD := hI (die_any w (h.disk k hk)); have HQ := hI h
  have i1 : (k : Int) < q.n := by omega
  have i2 : (0 : Int) ≤ k := by omega
  clear h hi
  go_enter Tryz.func42, Tryz.ntmps42
  go_wp2_with (first
   | (go_at_call 62; refine HH.out.mono ?_; rintro e w' ⟨rfl, rfl⟩)
   | (go_at_call 71; refine HD.out.mono ?_; rintro e w2 ⟨rfl, hD, hC⟩))
  go_ret; rw [Int.toNat_natCast]; exact ⟨rfl, HQ.out.turned hk (HQ.out.ok.k k hk) hD hC, RC.of_chg hC hk⟩
 ·rw [decide_eq_false hi] at HH ⊢
  rw [if_neg hi]; have HQ := hI h; clear h hi
  go_enter Tryz.func42, Tryz.ntmps42
  go_wp2_with (go_at_call 62; refine HH.out.mono ?_; rintro e w' ⟨rfl, rfl⟩); go_ret; exact ⟨rfl, HQ.out, RC.refl _ _ _⟩
theorem qreplace_any (w : World) (h : RackIn lo w c q) (i : Int) : Calls Tryz.prog 35 #[.pointer (some ⟨c.r, 0, none⟩), .int .i64 i] w (NextR lo c q.n (Rk.dying q i false) (.bool (decide (q.has i))) w) := by
 have HH := hI (qhas_any w h i)
 have c0 := h.c0
 unfold Rk.dying
 by_cases hi : q.has i
 ·rw [decide_eq_true hi] at HH ⊢
  rw [if_pos hi]; obtain ⟨k, rfl⟩ := Int.eq_ofNat_of_zero_le hi.1
  have hk : k < q.n := by have := hi.2; omega
  have ca := h.at_ hk; have HD := hI (replace_any w (h.disk k hk)); have HQ := hI h
  have i1 : (k : Int) < q.n := by omega
  have i2 : (0 : Int) ≤ k := by omega
  clear h hi
  go_enter Tryz.func35, Tryz.ntmps35
  go_wp2_with (first
   | (go_at_call 62; refine HH.out.mono ?_; rintro e w' ⟨rfl, rfl⟩)
   | (go_at_call 68; refine HD.out.mono ?_; rintro e w2 ⟨rfl, hD, hC⟩))
  go_ret; rw [Int.toNat_natCast]; exact ⟨rfl, HQ.out.turned hk (HQ.out.ok.k k hk) hD hC, RC.of_chg hC hk⟩
 ·rw [decide_eq_false hi] at HH ⊢
  rw [if_neg hi]; have HQ := hI h; clear h hi
  go_enter Tryz.func35, Tryz.ntmps35
  go_wp2_with (go_at_call 62; refine HH.out.mono ?_; rintro e w' ⟨rfl, rfl⟩); go_ret; exact ⟨rfl, HQ.out, RC.refl _ _ _⟩
def Rk.rotten (q : Rk) (i sec a : Int) (x : Nat) : Rk := if q.has i then q.turn i.toNat (rotnext (q.s i.toNat) sec a x) else q
theorem rotnext_nn (s : St) (i a : Int) (x : Nat) : (rotnext s i a x).n = s.n := by unfold rotnext; split; rfl; rfl
end Go.Proofs.YthbpfnohbilhaaaGreatDoor
