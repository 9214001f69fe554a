import Derived.Test.YtilljaneegbhlaaGreatZDWipe
import Derived.Laws.BitsAllLaws
import Derived.RegionTactic
import Derived.BigRegion
import Derived.Test.YtilljaneegbhlaaGreatZDEv
import Derived.Test.YtilljaneegbhlaaGreatZQS
namespace Go.Proofs.YtilljaneegbhlaaGreat
open Go.RowKit Go.Deep Dk Go.Maps
set_option maxHeartbeats 1000000
set_option maxRecDepth 100000
def rotL (b : Sec) (a x k : Nat) : Sec := tab 128 fun p => if a ≤ p ∧ p < a + k then (b.getD p 0).toNat ^^^ (x / 2 ^ (8 * (p - a)) % 256) else (b.getD p 0).toNat
theorem rotL_length (b : Sec) (a x k : Nat) : (rotL b a x k).length = 128 := tab_length _ _
variable {b : Sec}
theorem rotL_zero (h : b.length = 128) (a x : Nat) : rotL b a x 0 = b := (tab_eq h fun i _ => (if_neg (by omega)).symm).symm
variable {a : Nat}
theorem turn_lt {b : Nat} (ha : a < 256) (hb : b < 256) : a ^^^ b < 256 := Nat.xor_lt_two_pow (n := 8) ha hb
theorem byte_lt (b : Sec) (p : Nat) : (b.getD p 0).toNat < 256 := UInt8.toNat_lt _
variable {x k : Nat}
theorem rotL_set : (bytesV (rotL b a x k)).set (a + k) (.int .u8 (((b.getD (a + k) 0).toNat ^^^ (x / 2 ^ (8 * k) % 256) : Nat) : Int)) = bytesV (rotL b a x (k + 1)) := by
 refine tab_set (turn_lt (byte_lt _ _) (Nat.mod_lt _ (by omega))) (fun j _ hj => ?_) ?_
 ·by_cases h : a ≤ j ∧ j < a + k
  ·rw [if_pos h, if_pos (by omega)]
  ·rw [if_neg h, if_neg (by omega)]
 ·rw [if_pos (by omega), Nat.add_sub_cancel_left]
theorem rotL_at (hk : a + k < 128) : ((rotL b a x k).getD (a + k) 0).toNat = (b.getD (a + k) 0).toNat := by
 unfold rotL
 rw [tab_nat _ hk]
 ·rw [if_neg (by omega)]
 ·rw [if_neg (by omega)]; exact byte_lt _ _
def stRot (s : St) (i a x k : Nat) : St := { s with st := upd s.st i (rotL (s.st i) a x k) }
def rotD (s : St) (i a x : Nat) : St := { stRot s i a x 4 with rot := upd s.rot i true }
variable {s : St}
theorem stRot_ok (h : s.Ok) (i a x k : Nat) : (stRot s i a x k).Ok := ⟨h.n, fun j => by show (upd s.st i _ j).length = 128; unfold upd; split; exact rotL_length _ _ _ _; exact h.st j, h.wt⟩
theorem rotD_ok (h : s.Ok) (i a x : Nat) : (rotD s i a x).Ok := ⟨h.n, (stRot_ok h i a x 4).st, h.wt⟩
theorem stRot_zero (h : s.Ok) (i a x : Nat) : stRot s i a x 0 = s := by
 unfold stRot
 rw [rotL_zero (h.st i)]
 have : upd s.st i (s.st i) = s.st := by funext j; unfold upd; split; rename_i e; rw [e]; rfl
 rw [this]
variable {w : World} {d M : Nat}
theorem DiskIn.setSec {S : Nat} {s' : St} (h : DiskIn w d S M s) (i j : Nat) (v : Value) (hok : s'.Ok) (hn : s'.n = s.n) (hd : s'.dead = s.dead) (hw : s'.wt = s.wt)
  (hs : (secsV s.n s.st s.rot).set (129 * i + j) v = secsV s'.n s'.st s'.rot) : DiskIn (w.setCell ⟨S, i * 129 + j, none⟩ v) d S M s' := by
 obtain ⟨a1, a2, a3⟩ := h.apart
 obtain ⟨D, hm⟩ := h.map_
 refine ⟨hok, by rw [hn]; exact h.pos, ?_, ?_, D, ?_⟩
 ·rw [heap_setCell_other w ⟨S, i * 129 + j, none⟩ d _ a1, hn, hd]; exact h.top
 ·have := heap_setCell_same w S (i * 129 + j) _ _ v h.secs
  rw [this, ← hs]
  simp [Nat.mul_comm]
 ·rw [hn, hw]; exact hm.keep (heap_setCell_other w ⟨S, i * 129 + j, none⟩ M _ (fun e => a3 e.symm))
variable {i : Nat}
theorem DiskIn.rotByte {S : Nat} (h : DiskIn w d S M (stRot s i a x k)) (hs : s.Ok) (hi : i < s.n) (hk : a + k < 128) :
  DiskIn (w.setCell ⟨S, i * 129 + (a + k), none⟩ (.int .u8 ((((s.st i).getD (a + k) 0).toNat ^^^ (x / 2 ^ (8 * k) % 256) : Nat) : Int))) d S M (stRot s i a x (k + 1)) := by
 refine h.setSec i (a + k) _ (stRot_ok hs _ _ _ _) rfl rfl rfl ?_
 have hf : ∀ j, (secV ((stRot s i a x k).st j) ((stRot s i a x k).rot j)).length = 129 := fun j => secV_length ((stRot_ok hs i a x k).st j) _
 refine (flat_set hf (i := i) (j := a + k) hi (by omega) _).trans (flat_congr fun j hj => ?_)
 by_cases e : j = i
 ·subst e
  rw [upd_same]
  show (secV (upd s.st j (rotL (s.st j) a x k) j) (s.rot j)).set (a + k) _ = secV (upd s.st j (rotL (s.st j) a x (k + 1)) j) (s.rot j)
  rw [upd_same, upd_same]; unfold secV; rw [List.set_append_left _ _ (by rw [bytesV_length, rotL_length]; exact hk), rotL_set]
 ·rw [upd_other _ _ e]
  show secV (upd s.st i _ j) _ = secV (upd s.st i _ j) _
  rw [upd_other _ _ e, upd_other _ _ e]; rfl
theorem DiskIn.rotMark {S : Nat} (h : DiskIn w d S M (stRot s i a x 4)) (hs : s.Ok) (hi : i < s.n) :
  DiskIn (w.setCell ⟨S, i * 129 + 128, none⟩ (.bool true)) d S M (rotD s i a x) := by
 refine h.setSec i 128 _ (rotD_ok hs _ _ _) rfl rfl rfl ?_
 have hf : ∀ j, (secV ((stRot s i a x 4).st j) ((stRot s i a x 4).rot j)).length = 129 := fun j => secV_length ((stRot_ok hs i a x 4).st j) _
 refine (flat_set hf (i := i) (j := 128) hi (by omega) _).trans (flat_congr fun j hj => ?_)
 have hl := (stRot_ok hs i a x 4).st i
 by_cases e : j = i
 ·subst e
  rw [upd_same]
  show (secV ((stRot s j a x 4).st j) _).set 128 _ = secV ((stRot s j a x 4).st j) (upd s.rot j true j)
  rw [upd_same]; unfold secV; rw [List.set_append_right _ _ (by rw [bytesV_length, hl]; omega), bytesV_length, hl]; rfl
 ·rw [upd_other _ _ e]
  show secV _ (s.rot j) = secV _ (upd s.rot i true j)
  rw [upd_other _ _ e]; rfl
theorem DiskIn.secCell {S : Nat} (h : DiskIn w d S M s) {i j : Nat} (hi : i < s.n) (hj : j < 128) : w.cell? ⟨S, i * 129 + j, none⟩ = some (.int .u8 ((s.st i).getD j 0).toNat) :=
 h.range hi j _ (bytesV_at (by rw [h.ok.st]; exact hj))
theorem DiskIn.rotCell {S : Nat} (h : DiskIn w d S M s) {i : Nat} (hi : i < s.n) : w.cell? ⟨S, i * 129 + 128, none⟩ = some (.bool (s.rot i)) := by
 rw [cell_of_row w S _ _ _ _ h.secs, Nat.mul_comm]
 have hf : ∀ i, (secV (s.st i) (s.rot i)).length = 129 := fun i => secV_length (h.ok.st i) _
 show (secsV s.n s.st s.rot).toArray[129 * i + 128]? = _
 rw [List.getElem?_toArray]
 unfold secsV
 rw [flat_at hf (by omega) hi]
 unfold secV
 rw [List.getElem?_append_right (by rw [bytesV_length, h.ok.st]; omega), bytesV_length, h.ok.st]; rfl
theorem DiskIn.secFrozen {S : Nat} (h : DiskIn w d S M s) (j : Nat) : w.frozen? ⟨S, j, none⟩ = false := frozen_of_row w S j _ _ h.secs
def mayRot (s : St) (i a : Int) (x : Nat) : Prop := s.dead = false ∧ 0 ≤ i ∧ i < s.n ∧ 0 ≤ a ∧ a ≤ 124 ∧ x ≠ 0 ∧ s.rot i.toNat = false
theorem byte_turn (y x k : Nat) (hy : y < 256) : Go.bits .xor .u8 (y : Int) ((x : Int) / 2 ^ (8 * k) % 256) = ((y ^^^ (x / 2 ^ (8 * k) % 256) : Nat) : Int) := by
 have e : ((x : Int) / 2 ^ (8 * k) % 256) = ((x / 2 ^ (8 * k) % 256 : Nat) : Int) := by simp
 rw [e, u8_xor_nat _ _ hy (Nat.mod_lt _ (by omega))]
def RelRot (d S M : Nat) (s : St) (i a x : Nat) (w0 : World) (c : Value) (wr : World) : Prop := ∃ k : Nat, k ≤ 4 ∧ c = .int .i64 k ∧ DiskIn wr d S M (stRot s i a x k) ∧ Chg d S M w0 wr
theorem chg_setSec (d S M i : Nat) (v : Value) (w : World) : Chg d S M w (w.setCell ⟨S, i, none⟩ v) :=
 ⟨rfl, rfl, rfl, ((Below.refl 0 w).setCell (p := ⟨S, i, none⟩) (Nat.zero_le _) v).size, fun k _ _ hS _ => heap_setCell_other w ⟨S, i, none⟩ k v hS⟩
instance (s : St) (i a : Int) (x : Nat) : Decidable (mayRot s i a x) := by unfold mayRot; infer_instance
def rotnext (s : St) (i a : Int) (x : Nat) : St := if mayRot s i a x then rotD s i.toNat a.toNat x else s
end Go.Proofs.YtilljaneegbhlaaGreat
namespace Go.Proofs.YtilljaneegbhlaaGreat
open Go.RowKit Go.Deep Dk Qk Go.Maps
set_option maxHeartbeats 1000000
set_option maxRecDepth 100000
variable {lo : Nat} {c : Lc} {q : Rk}
theorem qn_any (w : World) (h : RackIn lo w c q) : Calls Tryz.prog 44 #[.pointer (some ⟨c.r, 0, none⟩)] w (NumSame (q.n : Int) w) := by
 have c0 := h.c0
 clear h
 go_enter Tryz.func44, Tryz.ntmps44
 go_wp2
 go_ret
 exact ⟨rfl, rfl⟩
def Rk.dying (q : Rk) (i : Int) (dead : Bool) : Rk := if q.has i then q.wipe i.toNat dead else q
theorem qdie_any (w : World) (h : RackIn lo w c q) (i : Int) : Calls Tryz.prog 28 #[.pointer (some ⟨c.r, 0, none⟩), .int .i64 i] w (NextR lo c q.n (Rk.dying q i true) (.bool (decide (q.has i))) w) := by
 have HH := hI (qhas_any w h i)
 have c0 := h.c0
 unfold Rk.dying
 by_cases hi : q.has i
 ·rw [decide_eq_true hi] at HH ⊢
  rw [if_pos hi]; obtain ⟨k, rfl⟩ := Int.eq_ofNat_of_zero_le hi.1
  have hk : k < q.n := by have := hi.2; omega
  have ca := h.at_ hk; have HD := hI (die_any w (h.disk k hk)); have HQ := hI h
  have i1 : (k : Int) < q.n := by omega
  have i2 : (0 : Int) ≤ k := by omega
  clear h hi
  go_enter Tryz.func28, Tryz.ntmps28
  go_wp2_with (first
   | (go_at_call 41; refine HH.out.mono ?_; rintro e w' ⟨rfl, rfl⟩)
   | (go_at_call 42; refine HD.out.mono ?_; rintro e w2 ⟨rfl, hD, hC⟩))
  go_ret; rw [Int.toNat_natCast]; exact ⟨rfl, HQ.out.turned hk (HQ.out.ok.k k hk) hD hC, RC.of_chg hC hk⟩
 ·rw [decide_eq_false hi] at HH ⊢
  rw [if_neg hi]; have HQ := hI h; clear h hi
  go_enter Tryz.func28, Tryz.ntmps28
  go_wp2_with (go_at_call 41; refine HH.out.mono ?_; rintro e w' ⟨rfl, rfl⟩); go_ret; exact ⟨rfl, HQ.out, RC.refl _ _ _⟩
def Rk.rots (q : Rk) (i sec a : Int) (x : Nat) : Bool := decide (q.has i) && decide (mayRot (q.s i.toNat) sec a x)
def Rk.rotten (q : Rk) (i sec a : Int) (x : Nat) : Rk := if q.has i then q.turn i.toNat (rotnext (q.s i.toNat) sec a x) else q
theorem rotnext_nn (s : St) (i a : Int) (x : Nat) : (rotnext s i a x).n = s.n := by unfold rotnext; split; rfl; rfl
end Go.Proofs.YtilljaneegbhlaaGreat
