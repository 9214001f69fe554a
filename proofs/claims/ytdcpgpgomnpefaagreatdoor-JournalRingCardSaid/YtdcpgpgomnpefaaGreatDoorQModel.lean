/-
  A rack in numbers: its disks, the power, how many operations remain.
-/
import Derived.Test.YtdcpgpgomnpefaaGreatDoorDFlat
namespace Qk
open Dk
structure Rk where
  n : Nat
  k : Nat
  s : Nat → St
  off : Bool
  rem : Int
structure Rk.Ok (q : Rk) : Prop where
  n0 : 1 ≤ q.n
  n8 : q.n ≤ 8
  k0 : 1 ≤ q.k
  k8 : q.k ≤ 128
  k : ∀ i, i < q.n → (q.s i).n = q.k
  low : -9223372036854775808 ≤ q.rem
  high : q.rem < 9223372036854775808
def Rk.has (q : Rk) (i : Int) : Prop := 0 ≤ i ∧ i < q.n
instance (q : Rk) (i : Int) : Decidable (q.has i) := by unfold Rk.has; infer_instance
def Rk.up (q : Rk) (i : Int) : Bool := decide (q.has i) && !(q.s i.toNat).dead
/-- The error if nothing can be done on disk i; 0: none. -/
def Rk.ready (q : Rk) (i : Int) : Int := if q.has i then (if (q.off || (q.s i.toNat).dead) = true then 5 else 0) else 1
/-- An operation begins. -/
def Rk.spent (q : Rk) : Rk := if q.rem = 0 then { q with off := true } else if 0 < q.rem then { q with rem := q.rem - 1 } else q
def Rk.turn (q : Rk) (i : Nat) (t : St) : Rk := { q with s := upd q.s i t }
def Rk.fits (q : Rk) (sec : Int) (len : Nat) : Prop := 0 ≤ sec ∧ sec < q.k ∧ len = 128
instance (q : Rk) (sec : Int) (len : Nat) : Decidable (q.fits sec len) := by unfold Rk.fits; infer_instance
def Rk.wcode (q : Rk) (i sec : Int) (len : Nat) : Int := if q.ready i = 0 then (if q.fits sec len then (if q.rem = 0 then 5 else 0) else 1) else q.ready i
def Rk.write (q : Rk) (i sec : Int) (l : List UInt8) : Rk :=
  if q.ready i = 0 ∧ q.fits sec l.length then (if q.rem = 0 then q.spent else q.spent.turn i.toNat ((q.s i.toNat).write sec.toNat l)) else q
def Rk.fcode (q : Rk) (i : Int) : Int := if q.ready i = 0 then (if q.rem = 0 then 5 else 0) else q.ready i
def Rk.flush (q : Rk) (i : Int) : Rk := if q.ready i = 0 then (if q.rem = 0 then q.spent else q.spent.turn i.toNat (q.s i.toNat).flush) else q
def Rk.arm (q : Rk) (n : Int) : Rk := { q with rem := n }
/-- The first m disks have crashed. -/
def Rk.crashed (q : Rk) (bits : Nat → Nat) (m : Nat) : Rk := { q with s := fun i => if i < m then (q.s i).crash (bits i) else q.s i }
def Rk.boot (q : Rk) (bits : Nat → Nat) : Rk := { (q.crashed bits q.n) with off := false, rem := -1 }
def Rk.wipe (q : Rk) (i : Nat) (dead : Bool) : Rk := q.turn i ((q.s i).wipe dead)
def newRk (n k : Nat) : Rk := ⟨n, k, fun _ => new k, false, -1⟩
theorem newRk_ok {n k : Nat} (h1 : 1 ≤ n) (h2 : n ≤ 8) (h3 : 1 ≤ k) (h4 : k ≤ 128) : (newRk n k).Ok :=
  ⟨h1, h2, h3, h4, fun _ _ => rfl, by show (-9223372036854775808 : Int) ≤ -1; omega, by show (-1 : Int) < 9223372036854775808; omega⟩
theorem Rk.Ok.spent {q : Rk} (h : q.Ok) : q.spent.Ok := by
  have hl := h.low
  have hh := h.high
  unfold Rk.spent
  split
  · exact ⟨h.n0, h.n8, h.k0, h.k8, h.k, hl, hh⟩
  · split
    · exact ⟨h.n0, h.n8, h.k0, h.k8, h.k, by show _ ≤ q.rem - 1; omega, by show q.rem - 1 < _; omega⟩
    · exact h
theorem Rk.Ok.turn {q : Rk} (h : q.Ok) {i : Nat} {t : St} (ht : t.n = q.k) : (q.turn i t).Ok :=
  ⟨h.n0, h.n8, h.k0, h.k8, fun j hj => by
    show (upd q.s i t j).n = q.k
    by_cases e : j = i
    · subst e; rw [upd_same]; exact ht
    · rw [upd_other _ _ e]; exact h.k j hj, h.low, h.high⟩
theorem spent_n (q : Rk) : q.spent.n = q.n := by unfold Rk.spent; split; rfl; split; rfl; rfl
theorem spent_k (q : Rk) : q.spent.k = q.k := by unfold Rk.spent; split; rfl; split; rfl; rfl
theorem spent_s (q : Rk) : q.spent.s = q.s := by unfold Rk.spent; split; rfl; split; rfl; rfl
theorem turn_at (q : Rk) (i : Nat) (t : St) : (q.turn i t).s i = t := upd_same ..
theorem turn_off (q : Rk) {i j : Nat} (t : St) (h : j ≠ i) : (q.turn i t).s j = q.s j := upd_other _ _ h
theorem write_n (q : Rk) (i sec : Int) (l : List UInt8) : (q.write i sec l).n = q.n := by
  unfold Rk.write; split
  · split
    · exact spent_n q
    · exact spent_n q
  · rfl
theorem write_k (q : Rk) (i sec : Int) (l : List UInt8) : (q.write i sec l).k = q.k := by
  unfold Rk.write; split
  · split
    · exact spent_k q
    · exact spent_k q
  · rfl
theorem flush_n (q : Rk) (i : Int) : (q.flush i).n = q.n := by
  unfold Rk.flush; split
  · split
    · exact spent_n q
    · exact spent_n q
  · rfl
theorem flush_k (q : Rk) (i : Int) : (q.flush i).k = q.k := by
  unfold Rk.flush; split
  · split
    · exact spent_k q
    · exact spent_k q
  · rfl
end Qk
