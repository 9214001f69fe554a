/-
  Superblocks on disks that work: put, read, rotten, gone.
-/
import Derived.Test.YtfhnkjlegehaoaaGreatDoorSModel
import Derived.Test.YtfhnkjlegehaoaaGreatDoorQMore
namespace Go.Proofs.YtfhnkjlegehaoaaGreatDoor
open Go.RowKit Go.Deep Crc Dk Qk Go.Maps Hf
theorem rotL_turn {b : Sec} (hb : b.length = 128) (a x : Nat) : ∀ k, a + k ≤ 128 → rotL b a x k = turnL b a x k
  | 0, _ => rotL_zero hb a x
  | k + 1, h => by
    have ih := rotL_turn hb a x k (by omega)
    have hl := rotL_at (b := b) (a := a) (x := x) (k := k) (by omega)
    refine bytesV_inj ?_
    rw [← rotL_set]
    show _ = bytesV ((turnL b a x k).set (a + k) _)
    rw [← ih, show ∀ (l : List UInt8) (k : Nat) (x : UInt8), bytesV (l.set k x) = (bytesV l).set k (.int .u8 (x.toNat : Int)) from fun l k x => by simp [bytesV, List.map_set]]
    rw [UInt8.toNat_xor, hl, ofNat_toNat]
/-- A superblock of which one byte turned is none. -/
theorem rot_sup {c : Cf} {i : Nat} (h : i < 8) : goodB (rotL (put (supF c i)) i 7 4) = false := by
  have hl := sup_len (c := c) (i := (i : Int)) (by omega) (by omega)
  rw [rotL_turn hl i 7 4 (by omega)]
  have hb := (burst (supF_is c i) (supF_right (c := c) (i := (i : Int)) (by omega) (by omega)) i 7 (by omega) (by decide)).1
  cases hg : goodB (turnL (put (supF c ↑i)) i 7 4) with
  | false => rfl
  | true => exact absurd (hb.1 hg) (by decide)
theorem turn_turn (q : Rk) (i : Nat) (s t : St) : (q.turn i s).turn i t = q.turn i t := by
  unfold Rk.turn
  show ({ q with s := upd (upd q.s i s) i t } : Rk) = _
  rw [upd_upd]
theorem spent_free {q : Rk} (h : q.rem = -1) : q.spent = q := by
  unfold Rk.spent
  rw [if_neg (by omega), if_neg (by omega)]
/-- A disk behind a Put. -/
def supS (s : St) (c : Cf) (k : Nat) : St := (s.write 0 (put (supF c k))).flush
/-- Where the power is on and no fuse burns. -/
theorem sput_well {q : Rk} {c : Cf} {k : Nat} (hq : q.Ok) (ho : q.off = false) (hr : q.rem = -1) (hk : k < q.n) (hd : (q.s k).dead = false) (hf : c.fits q = true) :
    Rk.scode q c k = 0 ∧ Rk.sput q c k = q.turn k (supS (q.s k) c k) := by
  have h8 := hq.n8
  have hl := sup_len (c := c) (i := (k : Int)) (by omega) (by omega)
  obtain ⟨e1, e2⟩ := write_goes (q := q) (i := (k : Int)) (sec := 0) (l := put (supF c k)) (ready_ok hk ho hd) ⟨by decide, by have := hq.k0; omega, hl⟩ (by omega)
  rw [spent_free hr, Int.toNat_natCast] at e1
  have hd2 : ((q.turn k ((q.s k).write (0 : Int).toNat (put (supF c k)))).s k).dead = false := by rw [turn_at]; exact hd
  obtain ⟨e3, e4⟩ := flush_goes (q := q.turn k ((q.s k).write (0 : Int).toNat (put (supF c k)))) (i := (k : Int)) (ready_ok hk ho hd2) (by show ¬ q.rem = 0; omega)
  rw [spent_free (show (q.turn k ((q.s k).write (0 : Int).toNat (put (supF c k)))).rem = -1 from hr), Int.toNat_natCast, turn_at, turn_turn] at e3
  refine ⟨?_, ?_⟩
  · unfold Rk.scode
    rw [if_pos hf, if_pos e2, e1, e4]
  · unfold Rk.sput
    rw [if_pos hf, if_pos e2, e1, e3]
    rfl
theorem supS_facts {s : St} (hs : s.Ok) (hn : 1 ≤ s.n) {c : Cf} {k : Nat} (hk : k < 8) :
    (supS s c k).dead = s.dead ∧ (supS s c k).n = s.n ∧ (supS s c k).read 0 = put (supF c k) ∧ (supS s c k).rot 0 = false ∧ (supS s c k).wt 0 = none ∧ (supS s c k).st 0 = put (supF c k) := by
  have hl := sup_len (c := c) (i := (k : Int)) (by omega) (by omega)
  have hw : (s.write 0 (put (supF c k))).Ok := hs.write (by omega) hl
  have hr : (s.write 0 (put (supF c k))).read 0 = put (supF c k) := by
    show ((upd s.wt 0 (some (put (supF c k)))) 0).getD _ = _
    rw [upd_same]; rfl
  refine ⟨St.stores_dead _ _, St.stores_n _ _, (St.flush_read hw 0).trans hr, ?_, St.flush_wt hw 0, (St.flush_st hw 0).trans hr⟩
  show ((s.write 0 (put (supF c k))).stores (s.write 0 (put (supF c k))).ks).rot 0 = false
  rw [St.stores_rot, if_pos ((St.mem_ks hw).2 (by show ((upd s.wt 0 (some (put (supF c k)))) 0).isSome = true; rw [upd_same]; rfl))]
/-- It rots. -/
theorem supS_rot {s : St} (hs : s.Ok) (hn : 1 ≤ s.n) (hd : s.dead = false) {c : Cf} {k : Nat} (hk : k < 8) :
    goodB ((rotnext (supS s c k) 0 k 7).read 0) = false ∧ (rotnext (supS s c k) 0 k 7).n = s.n := by
  obtain ⟨f1, f2, f3, f4, f5, f6⟩ := supS_facts hs hn (c := c) hk
  have hm : mayRot (supS s c k) 0 (k : Int) 7 := ⟨f1.trans hd, by decide, by rw [f2]; omega, by omega, by omega, by decide, f4⟩
  unfold rotnext
  rw [if_pos hm]
  refine ⟨?_, f2⟩
  show goodB (((supS s c k).wt 0).getD ((upd (supS s c k).st (0 : Int).toNat (rotL ((supS s c k).st (0 : Int).toNat) (k : Int).toNat 7 4)) 0)) = false
  rw [f5, Int.toNat_natCast, show (0 : Int).toNat = 0 from rfl, upd_same, f6]
  exact rot_sup hk
/-! ### how many -/
def cntN (p : Nat → Bool) : Nat → Nat
  | 0 => 0
  | m + 1 => if p m = true then cntN p m + 1 else cntN p m
theorem cntN_le (p : Nat → Bool) : ∀ m, cntN p m ≤ m
  | 0 => Nat.le_refl _
  | m + 1 => by have := cntN_le p m; unfold cntN; split <;> omega
theorem cntN_congr {p r : Nat → Bool} : ∀ {m : Nat}, (∀ j, j < m → p j = r j) → cntN p m = cntN r m
  | 0, _ => rfl
  | m + 1, h => by
    unfold cntN
    rw [h m (by omega), cntN_congr (m := m) fun j hj => h j (by omega)]
/-- All that say something say the same. -/
theorem fnd_all {q : Rk} {c : Cf} : ∀ {m : Nat}, (∀ j : Nat, j < m → cfHas q j = true → cfOf q j = c) →
    fnd q m = if cntN (fun j => cfHas q j) m = 0 then (zeroC, 0) else (c, cntN (fun j => cfHas q j) m)
  | 0, _ => rfl
  | m + 1, h => by
    have ih := fnd_all (q := q) (c := c) (m := m) fun j hj => h j (by omega)
    cases hh : cfHas q m with
    | false =>
      have e : cntN (fun j => cfHas q j) (m + 1) = cntN (fun j => cfHas q j) m := by
        exact if_neg (by show ¬ cfHas q m = true; rw [hh]; decide)
      rw [fnd_no hh, ih, e]
    | true =>
      have e : cntN (fun j => cfHas q j) (m + 1) = cntN (fun j => cfHas q j) m + 1 := by
        show (if _ then _ else _) = _
        rw [if_pos hh]
      have ho := h m (by omega) hh
      rw [e, if_neg (by omega)]
      by_cases h0 : cntN (fun j => cfHas q j) m = 0
      · rw [if_pos h0] at ih
        rw [fnd_yes hh (by rw [ih]), ho, h0]
      · rw [if_neg h0] at ih
        rw [fnd_same hh (by rw [ih]; exact h0) (by rw [ih]; exact ho), ih]
end Go.Proofs.YtfhnkjlegehaoaaGreatDoor
