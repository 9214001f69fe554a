import Derived.Test.YtilljaneegbhlaaGreatDoorZDWipe
import Derived.Laws.BitsAllLaws
import Derived.RegionTactic
import Derived.BigRegion
import Derived.Test.YtilljaneegbhlaaGreatDoorZDEv
import Derived.Test.YtilljaneegbhlaaGreatDoorZQS
namespace Go.Proofs.YtilljaneegbhlaaGreatDoor
open Go.RowKit Go.Deep Dk Go.Maps
set_option maxHeartbeats 1000000
set_option maxRecDepth 100000
def rotL (b : Sec) (a x k : Nat) : Sec := tab 128 fun p => if a ≤ p ∧ p < a + k then (b.getD p 0).toNat ^^^ (x / 2 ^ (8 * (p - a)) % 256) else (b.getD p 0).toNat
theorem rotL_length (b : Sec) (a x k : Nat) : (rotL b a x k).length = 128 := tab_length _ _
variable {b : Sec}
theorem rotL_zero (h : b.length = 128) (a x : Nat) : rotL b a x 0 = b := (tab_eq h fun i _ => (if_neg (by omega)).symm).symm
variable {a : Nat}
theorem turn_lt {b : Nat} (ha : a < 256) (hb : b < 256) : a ^^^ b < 256 := Nat.xor_lt_two_pow (n := 8) ha hb
theorem byte_lt (b : Sec) (p : Nat) : (b.getD p 0).toNat < 256 := UInt8.toNat_lt _
variable {x k : Nat}
theorem rotL_set : (bytesV (rotL b a x k)).set (a + k) (.int .u8 (((b.getD (a + k) 0).toNat ^^^ (x / 2 ^ (8 * k) % 256) : Nat) : Int)) = bytesV (rotL b a x (k + 1)) := by
 refine tab_set (turn_lt (byte_lt _ _) (Nat.mod_lt _ (by omega))) (fun j _ hj => ?_) ?_
 ·by_cases h : a ≤ j ∧ j < a + k
  ·rw [if_pos h, if_pos (by omega)]
  ·rw [if_neg h, if_neg (by omega)]
 ·rw [if_pos (by omega), Nat.add_sub_cancel_left]
theorem rotL_at (hk : a + k < 128) : ((rotL b a x k).getD (a + k) 0).toNat = (b.getD (a + k) 0).toNat := by
 unfold rotL
 rw [tab_nat _ hk]
 ·rw [if_neg (by omega)]
 ·rw [if_neg (by omega)]; exact byte_lt _ _
def stRot (s : St) (i a x k : Nat) : St := { s with st := upd s.st i (rotL (s.st i) a x k) }
def rotD (s : St) (i a x : Nat) : St := { stRot s i a x 4 with rot := upd s.rot i true }
variable {s : St}
theorem stRot_ok (h : s.Ok) (i a x k : Nat) : (stRot s i a x k).Ok := ⟨h.n, fun j => by show (upd s.st i _ j).length = 128; unfold upd; split; exact rotL_length _ _ _ _; exact h.st j, h.wt⟩
theorem rotD_ok (h : s.Ok) (i a x : Nat) : (rotD s i a x).Ok := ⟨h.n, (stRot_ok h i a x 4).st, h.wt⟩
theorem stRot_zero (h : s.Ok) (i a x : Nat) : stRot s i a x 0 = s := by
 unfold stRot
 rw [rotL_zero (h.st i)]
 have : upd s.st i (s.st i) = s.st := by funext j; unfold upd; split; rename_i e; rw [e]; rfl
 rw [this]
variable {w : World} {d M : Nat}
theorem DiskIn.setSec {S : Nat} {s' : St} (h : DiskIn w d S M s) (i j : Nat) (v : Value) (hok : s'.Ok) (hn : s'.n = s.n) (hd : s'.dead = s.dead) (hw : s'.wt = s.wt)
  (hs : (secsV s.n s.st s.rot).set (129 * i + j) v = secsV s'.n s'.st s'.rot) : DiskIn (w.setCell ⟨S, i * 129 + j, none⟩ v) d S M s' := by
 obtain ⟨a1, a2, a3⟩ := h.apart
 obtain ⟨D, hm⟩ := h.map_
 refine ⟨hok, by rw [hn]; exact h.pos, ?_, ?_, D, ?_⟩
 ·rw [heap_setCell_other w ⟨S, i * 129 + j, none⟩ d _ a1, hn, hd]; exact h.top
 ·have := heap_setCell_same w S (i * 129 + j) _ _ v h.secs
  rw [this, ← hs]
  simp [Nat.mul_comm]
 ·rw [hn, hw]; exact hm.keep (heap_setCell_other w ⟨S, i * 129 + j, none⟩ M _ (fun e => a3 e.symm))
variable {i : Nat}
theorem DiskIn.rotByte {S : Nat} (h : DiskIn w d S M (stRot s i a x k)) (hs : s.Ok) (hi : i < s.n) (hk : a + k < 128) :
  DiskIn (w.setCell ⟨S, i * 129 + (a + k), none⟩ (.int .u8 ((((s.st i).getD (a + k) 0).toNat ^^^ (x / 2 ^ (8 * k) % 256) : Nat) : Int))) d S M (stRot s i a x (k + 1)) := by
 refine h.setSec i (a + k) _ (stRot_ok hs _ _ _ _) rfl rfl rfl ?_
 have hf : ∀ j, (secV ((stRot s i a x k).st j) ((stRot s i a x k).rot j)).length = 129 := fun j => secV_length ((stRot_ok hs i a x k).st j) _
 refine (flat_set hf (i := i) (j := a + k) hi (by omega) _).trans (flat_congr fun j hj => ?_)
 by_cases e : j = i
 ·subst e
  rw [upd_same]
  show (secV (upd s.st j (rotL (s.st j) a x k) j) (s.rot j)).set (a + k) _ = secV (upd s.st j (rotL (s.st j) a x (k + 1)) j) (s.rot j)
  rw [upd_same, upd_same]; unfold secV; rw [List.set_append_left _ _ (by rw [bytesV_length, rotL_length]; exact hk), rotL_set]
 ·rw [upd_other _ _ e]
  show secV (upd s.st i _ j) _ = secV (upd s.st i _ j) _
  rw [upd_other _ _ e, upd_other _ _ e]; rfl
theorem DiskIn.rotMark {S : Nat} (h : DiskIn w d S M (stRot s i a x 4)) (hs : s.Ok) (hi : i < s.n) :
  DiskIn (w.setCell ⟨S, i * 129 + 128, none⟩ (.bool true)) d S M (rotD s i a x) := by
 refine h.setSec i 128 _ (rotD_ok hs _ _ _) rfl rfl rfl ?_
 have hf : ∀ j, (secV ((stRot s i a x 4).st j) ((stRot s i a x 4).rot j)).length = 129 := fun j => secV_length ((stRot_ok hs i a x 4).st j) _
 refine (flat_set hf (i := i) (j := 128) hi (by omega) _).trans (flat_congr fun j hj => ?_)
 have hl := (stRot_ok hs i a x 4).st i
 by_cases e : j = i
 ·subst e
  rw [upd_same]
  show (secV ((stRot s j a x 4).st j) _).set 128 _ = secV ((stRot s j a x 4).st j) (upd s.rot j true j)
  rw [upd_same]; unfold secV; rw [List.set_append_right _ _ (by rw [bytesV_length, hl]; omega), bytesV_length, hl]; rfl
 ·rw [upd_other _ _ e]
  show secV _ (s.rot j) = secV _ (upd s.rot i true j)
  rw [upd_other _ _ e]; rfl
theorem DiskIn.secCell {S : Nat} (h : DiskIn w d S M s) {i j : Nat} (hi : i < s.n) (hj : j < 128) : w.cell? ⟨S, i * 129 + j, none⟩ = some (.int .u8 ((s.st i).getD j 0).toNat) :=
 h.range hi j _ (bytesV_at (by rw [h.ok.st]; exact hj))
theorem DiskIn.rotCell {S : Nat} (h : DiskIn w d S M s) {i : Nat} (hi : i < s.n) : w.cell? ⟨S, i * 129 + 128, none⟩ = some (.bool (s.rot i)) := by
 rw [cell_of_row w S _ _ _ _ h.secs, Nat.mul_comm]
 have hf : ∀ i, (secV (s.st i) (s.rot i)).length = 129 := fun i => secV_length (h.ok.st i) _
 show (secsV s.n s.st s.rot).toArray[129 * i + 128]? = _
 rw [List.getElem?_toArray]
 unfold secsV
 rw [flat_at hf (by omega) hi]
 unfold secV
 rw [List.getElem?_append_right (by rw [bytesV_length, h.ok.st]; omega), bytesV_length, h.ok.st]; rfl
theorem DiskIn.secFrozen {S : Nat} (h : DiskIn w d S M s) (j : Nat) : w.frozen? ⟨S, j, none⟩ = false := frozen_of_row w S j _ _ h.secs
def mayRot (s : St) (i a : Int) (x : Nat) : Prop := s.dead = false ∧ 0 ≤ i ∧ i < s.n ∧ 0 ≤ a ∧ a ≤ 124 ∧ x ≠ 0 ∧ s.rot i.toNat = false
theorem rot_no {S : Nat} (w : World) (h : DiskIn w d S M s) (i a : Int) (x : Nat) (hno : ¬ mayRot s i a x) :
  Calls Tryz.prog 48 #[.pointer (some ⟨d, 0, none⟩), .int .i64 i, .int .i64 a, .int .u32 x] w (BitSame false w) := by
 have c0 := h.c0
 have c2 := h.c2
 have HH := hI (has_any w h i)
 unfold mayRot at hno
 cases hd : s.dead with
 | true =>
  rw [hd] at c2; clear h hno
  go_enter Tryz.func48, Tryz.ntmps48
  go_wp2
  go_ret; exact bitSame rfl
 | false =>
  rw [hd] at c2
  by_cases hi : 0 ≤ i ∧ i < s.n
  ·rw [decide_eq_true hi] at HH
   by_cases ha : a < 0
   ·clear h hno
    go_enter Tryz.func48, Tryz.ntmps48
    go_wp2_with (go_at_call 75; refine HH.out.mono ?_; rintro e w' ⟨rfl, rfl⟩); go_ret; exact bitSame rfl
   ·by_cases ha2 : 124 < a
    ·clear h hno
     go_enter Tryz.func48, Tryz.ntmps48
     go_wp2_with (go_at_call 75; refine HH.out.mono ?_; rintro e w' ⟨rfl, rfl⟩); go_ret; exact bitSame rfl
    ·by_cases hx : x = 0
     ·have hx1 : ((x : Int) == 0) = true := by simp; omega
      clear h hno hx
      go_enter Tryz.func48, Tryz.ntmps48
      go_wp2_with (go_at_call 75; refine HH.out.mono ?_; rintro e w' ⟨rfl, rfl⟩); go_ret; exact bitSame rfl
     ·have hr : s.rot i.toNat = true := by
       cases e : s.rot i.toNat with
       | true => rfl
       | false => exact absurd ⟨hd, hi.1, hi.2, by omega, by omega, hx, e⟩ hno
      obtain ⟨j, rfl⟩ := Int.eq_ofNat_of_zero_le hi.1; have hc := h.rotCell (i := j) (by omega); rw [show ((j : Int)).toNat = j from rfl] at hr; rw [hr] at hc
      have hx1 : ((x : Int) == 0) = false := by simp; omega
      have hx2 : ¬ (x : Int) = 0 := by omega
      clear h hno hr hx
      go_enter Tryz.func48, Tryz.ntmps48
      go_wp2_with (go_at_call 75; refine HH.out.mono ?_; rintro e w' ⟨rfl, rfl⟩); go_ret; exact bitSame rfl
  ·rw [decide_eq_false hi] at HH
   clear h hno hi
   go_enter Tryz.func48, Tryz.ntmps48
   go_wp2_with (go_at_call 75; refine HH.out.mono ?_; rintro e w' ⟨rfl, rfl⟩); go_ret; exact bitSame rfl
theorem byte_turn (y x k : Nat) (hy : y < 256) : Go.bits .xor .u8 (y : Int) ((x : Int) / 2 ^ (8 * k) % 256) = ((y ^^^ (x / 2 ^ (8 * k) % 256) : Nat) : Int) := by
 have e : ((x : Int) / 2 ^ (8 * k) % 256) = ((x / 2 ^ (8 * k) % 256 : Nat) : Int) := by simp
 rw [e, u8_xor_nat _ _ hy (Nat.mod_lt _ (by omega))]
def RelRot (d S M : Nat) (s : St) (i a x : Nat) (w0 : World) (c : Value) (wr : World) : Prop := ∃ k : Nat, k ≤ 4 ∧ c = .int .i64 k ∧ DiskIn wr d S M (stRot s i a x k) ∧ Chg d S M w0 wr
theorem chg_setSec (d S M i : Nat) (v : Value) (w : World) : Chg d S M w (w.setCell ⟨S, i, none⟩ v) :=
 ⟨rfl, rfl, rfl, ((Below.refl 0 w).setCell (p := ⟨S, i, none⟩) (Nat.zero_le _) v).size, fun k _ _ hS _ => heap_setCell_other w ⟨S, i, none⟩ k v hS⟩
theorem rot_yes {S : Nat} (w : World) (h : DiskIn w d S M s) (i a x : Nat) (hok : mayRot s i a x) :
  Calls Tryz.prog 48 #[.pointer (some ⟨d, 0, none⟩), .int .i64 (i : Int), .int .i64 (a : Int), .int .u32 (x : Int)] w (NextD d S M (rotD s i a x) (.bool true) w) := by
 obtain ⟨hd, _, hi, _, ha, hx0, hr⟩ := hok
 have hi : i < s.n := by omega
 have ha : a ≤ 124 := by omega
 rw [show ((i : Int)).toNat = i from rfl] at hr
 have c0 := h.c0
 have c2 := h.c2
 have cr := h.rotCell hi
 rw [hd] at c2
 rw [hr] at cr
 have HH := hI (has_any w h i)
 rw [decide_eq_true (by omega)] at HH
 have H0 := hI (show DiskIn w d S M (stRot s i a x 0) by rw [stRot_zero h.ok]; exact h)
 have HK := hI h.ok
 have hx1 : ((x : Int) == 0) = false := by simp; omega
 have hx2 : ¬ (x : Int) = 0 := by omega
 clear h hd hr hx0
 go_enter Tryz.func48, Tryz.ntmps48
 go_wp2_with (go_at_call 75; refine HH.out.mono ?_; rintro e w' ⟨rfl, rfl⟩)
 clear hx1 hx2 cr c0 c2
 go_loopw [43] (fun c wr => RelRot d S M s i a x w c wr) (fun c _ => 4 - (RowKit.intOf c).toNat)
 case atStart => exact ⟨0, by omega, rfl, H0.out, Chg.refl _ _ _ _⟩
 case round =>
  obtain ⟨k, hk, rfl, hD, hG⟩ := hrel
  by_cases hlt : k < 4
  ·have hc := hD.secCell (i := i) (j := a + k) hi (by omega)
   rw [show ((stRot s i a x k).st i) = rotL (s.st i) a x k from upd_same _ _ _, rotL_at (by omega)] at hc; have hf := hD.secFrozen (i * 129 + (a + k)); have HN := hI (hD.rotByte HK.out hi (by omega)); have HG := hI hG; clear hD hG; have hy := byte_lt (s.st i) (a + k); generalize ((s.st i).getD (a + k) 0).toNat = y at hc HN hy; have hb := byte_turn y x k hy; generalize y ^^^ (x / 2 ^ (8 * k) % 256) = z at hb HN; clear hy
   go_wp2
   go_region
   go_wp2
   go_roundw
   case rel => exact ⟨k + 1, by omega, by go_num, HN.out.drewN 1, (HG.out.trans (chg_setSec d S M _ _ _)).drewN 1⟩
   case measure => simp [RowKit.intOf]; omega
  ·obtain rfl : k = 4 := by omega
   have hf := hD.secFrozen (i * 129 + 128); have hc := hD.rotCell (i := i) hi; have HN := hI (hD.rotMark HK.out hi); have HG := hI hG; clear hD hG
   go_wp2
   go_ret; exact ⟨rfl, HN.out, HG.out.trans (chg_setSec d S M _ _ _)⟩
instance (s : St) (i a : Int) (x : Nat) : Decidable (mayRot s i a x) := by unfold mayRot; infer_instance
def rotnext (s : St) (i a : Int) (x : Nat) : St := if mayRot s i a x then rotD s i.toNat a.toNat x else s
theorem rot_ev {S : Nat} (w : World) (h : DiskIn w d S M s) (i a : Int) (x : Nat) :
  Calls Tryz.prog 48 #[.pointer (some ⟨d, 0, none⟩), .int .i64 i, .int .i64 a, .int .u32 (x : Int)] w (EvD d S M (rotnext s i a x) (.bool (decide (mayRot s i a x))) w) := by
 unfold rotnext
 by_cases hok : mayRot s i a x
 ·rw [if_pos hok, decide_eq_true hok]
  obtain ⟨k, rfl⟩ := Int.eq_ofNat_of_zero_le hok.2.1; obtain ⟨b, rfl⟩ := Int.eq_ofNat_of_zero_le hok.2.2.2.1; exact rot_yes w h k b x hok
 ·rw [if_neg hok, decide_eq_false hok]
  refine (rot_no w h i a x hok).mono ?_; rintro e w' ⟨rfl, rfl⟩; exact ⟨rfl, h, Chg.refl _ _ _ _⟩
end Go.Proofs.YtilljaneegbhlaaGreatDoor
namespace Go.Proofs.YtilljaneegbhlaaGreatDoor
open Go.RowKit Go.Deep Dk Qk Go.Maps
set_option maxHeartbeats 1000000
set_option maxRecDepth 100000
variable {lo : Nat} {c : Lc} {q : Rk}
theorem qn_any (w : World) (h : RackIn lo w c q) : Calls Tryz.prog 59 #[.pointer (some ⟨c.r, 0, none⟩)] w (NumSame (q.n : Int) w) := by
 have c0 := h.c0
 clear h
 go_enter Tryz.func59, Tryz.ntmps59
 go_wp2
 go_ret
 exact ⟨rfl, rfl⟩
def Rk.dying (q : Rk) (i : Int) (dead : Bool) : Rk := if q.has i then q.wipe i.toNat dead else q
theorem qdie_any (w : World) (h : RackIn lo w c q) (i : Int) : Calls Tryz.prog 27 #[.pointer (some ⟨c.r, 0, none⟩), .int .i64 i] w (NextR lo c q.n (Rk.dying q i true) (.bool (decide (q.has i))) w) := by
 have HH := hI (qhas_any w h i)
 have c0 := h.c0
 unfold Rk.dying
 by_cases hi : q.has i
 ·rw [decide_eq_true hi] at HH ⊢
  rw [if_pos hi]; obtain ⟨k, rfl⟩ := Int.eq_ofNat_of_zero_le hi.1
  have hk : k < q.n := by have := hi.2; omega
  have ca := h.at_ hk; have HD := hI (die_any w (h.disk k hk)); have HQ := hI h
  have i1 : (k : Int) < q.n := by omega
  have i2 : (0 : Int) ≤ k := by omega
  clear h hi
  go_enter Tryz.func27, Tryz.ntmps27
  go_wp2_with (first
   | (go_at_call 47; refine HH.out.mono ?_; rintro e w' ⟨rfl, rfl⟩)
   | (go_at_call 52; refine HD.out.mono ?_; rintro e w2 ⟨rfl, hD, hC⟩))
  go_ret; rw [Int.toNat_natCast]; exact ⟨rfl, HQ.out.turned hk (HQ.out.ok.k k hk) hD hC, RC.of_chg hC hk⟩
 ·rw [decide_eq_false hi] at HH ⊢
  rw [if_neg hi]; have HQ := hI h; clear h hi
  go_enter Tryz.func27, Tryz.ntmps27
  go_wp2_with (go_at_call 47; refine HH.out.mono ?_; rintro e w' ⟨rfl, rfl⟩); go_ret; exact ⟨rfl, HQ.out, RC.refl _ _ _⟩
def Rk.rots (q : Rk) (i sec a : Int) (x : Nat) : Bool := decide (q.has i) && decide (mayRot (q.s i.toNat) sec a x)
def Rk.rotten (q : Rk) (i sec a : Int) (x : Nat) : Rk := if q.has i then q.turn i.toNat (rotnext (q.s i.toNat) sec a x) else q
theorem rotnext_nn (s : St) (i a : Int) (x : Nat) : (rotnext s i a x).n = s.n := by unfold rotnext; split; rfl; rfl
theorem qrot_any (w : World) (h : RackIn lo w c q) (i sec a : Int) (x : Nat) : Calls Tryz.prog 19 #[.pointer (some ⟨c.r, 0, none⟩), .int .i64 i, .int .i64 sec, .int .i64 a, .int .u32 (x : Int)] w (NextR lo c q.n (Rk.rotten q i sec a x) (.bool (Rk.rots q i sec a x)) w) := by
 have HH := hI (qhas_any w h i)
 have c0 := h.c0
 unfold Rk.rotten Rk.rots
 by_cases hi : q.has i
 ·rw [decide_eq_true hi] at HH ⊢
  rw [if_pos hi, Bool.true_and]; obtain ⟨k, rfl⟩ := Int.eq_ofNat_of_zero_le hi.1
  have hk : k < q.n := by have := hi.2; omega
  have ca := h.at_ hk; have HD := hI (rot_ev w (h.disk k hk) sec a x); have HQ := hI h
  have i1 : (k : Int) < q.n := by omega
  have i2 : (0 : Int) ≤ k := by omega
  rw [Int.toNat_natCast]; clear h hi; generalize decide (mayRot (q.s k) sec a x) = b at *
  go_enter Tryz.func19, Tryz.ntmps19
  go_wp2_with (first
   | (go_at_call 47; refine HH.out.mono ?_; rintro e w' ⟨rfl, rfl⟩)
   | (go_at_call 48; refine HD.out.mono ?_; rintro e w2 ⟨rfl, hD, hC⟩))
  go_ret; exact ⟨rfl, HQ.out.turned hk ((rotnext_nn _ _ _ _).trans (HQ.out.ok.k k hk)) hD hC, RC.of_chg hC hk⟩
 ·rw [decide_eq_false hi] at HH ⊢
  rw [if_neg hi, Bool.false_and]; have HQ := hI h; clear h hi
  go_enter Tryz.func19, Tryz.ntmps19
  go_wp2_with (go_at_call 47; refine HH.out.mono ?_; rintro e w' ⟨rfl, rfl⟩); go_ret; exact ⟨rfl, HQ.out, RC.refl _ _ _⟩
end Go.Proofs.YtilljaneegbhlaaGreatDoor
