/-
  stavelaw8.RackApart: the states.
-/
import Derived.Test.YtbokangpcjeofaaGreatDoorQRuns
import Derived.Test.YtbokangpcjeofaaGreatDoorQMore
namespace Go.Proofs.YtbokangpcjeofaaGreatDoor
open Go.RowKit Go.Deep Dk Qk Go.Maps Hf Crc
def jF (d x : Nat) : Fr := frK 2 d x 5 ((d : Int) * 3 + x)
theorem jF_is (d x : Nat) : (jF d x).is := frK_is ..
theorem jF_right {d x : Nat} (hd : d < 4) (hx : x < 3) : rightB (jF d x) = true :=
  decide_eq_true ⟨by show (1 : Int) ≤ 2; decide, by show (2 : Int) ≤ 3; decide, by show (0 : Int) ≤ d; omega, by show (d : Int) < 8; omega, by show (0 : Int) ≤ x; omega, by show (x : Int) < 64; omega, by show (0 : Int) ≤ 5; decide, by show (5 : Int) ≤ 1152921504606846976; decide⟩
def jL (d x : Nat) : Sec := put (jF d x)
theorem jL_length {d x : Nat} (hd : d < 4) (hx : x < 3) : (jL d x).length = 128 := put_len (jF_is d x) (jF_right hd hx)
def jA (d : Nat) : Nat → St
  | 0 => new 3
  | m + 1 => (jA d m).write m (jL d m)
theorem jA_n (d : Nat) : ∀ m, (jA d m).n = 3
  | 0 => rfl
  | m + 1 => jA_n d m
theorem jA_dead (d : Nat) : ∀ m, (jA d m).dead = false
  | 0 => rfl
  | m + 1 => jA_dead d m
theorem jA_ok {d : Nat} (hd : d < 4) : ∀ m, m ≤ 3 → (jA d m).Ok
  | 0, _ => new_ok (by decide)
  | m + 1, h => (jA_ok hd m (by omega)).write (by rw [jA_n]; omega) (jL_length hd (by omega))
def jE (d : Nat) : St := (jA d 3).flush
theorem jE_n (d : Nat) : (jE d).n = 3 := (St.stores_n _ _).trans (jA_n d 3)
theorem jE_dead (d : Nat) : (jE d).dead = false := (St.stores_dead _ _).trans (jA_dead d 3)
theorem jE_wt {d : Nat} (hd : d < 4) (i : Nat) : (jE d).wt i = none := St.flush_wt (jA_ok hd 3 (by decide)) i
theorem jE_st {d x : Nat} (hd : d < 4) (hx : x < 3) : (jE d).st x = jL d x := by
  rw [show (jE d).st x = (jA d 3).read x from St.flush_st (jA_ok hd 3 (by decide)) x]
  have h : x = 0 ∨ x = 1 ∨ x = 2 := by omega
  rcases h with rfl | rfl | rfl <;> rfl
theorem jE_read {d x : Nat} (hd : d < 4) (hx : x < 3) : (jE d).read x = jL d x := by
  show ((jE d).wt x).getD ((jE d).st x) = _
  rw [jE_wt hd, jE_st hd hx]; rfl
theorem jE_rot (d i : Nat) : (jE d).rot i = false := by
  show ((jA d 3).stores (jA d 3).ks).rot i = false
  rw [St.stores_rot]
  split <;> rfl
/-! ### the rack -/
def jR (d : Nat) (t : St) : Rk := ⟨4, 3, fun j => if j < d then jE j else if j = d then t else new 3, false, -1⟩
theorem jR_start : newRk 4 3 = jR 0 (new 3) := by
  unfold jR newRk
  have : (fun _ : Nat => new 3) = fun j => if j < 0 then jE j else if j = 0 then new 3 else new 3 := by
    funext j; rw [if_neg (by omega)]; split <;> rfl
  rw [this]
theorem jR_at (d : Nat) (t : St) : (jR d t).s d = t := by
  show (if d < d then jE d else if d = d then t else new 3) = t
  rw [if_neg (by omega), if_pos rfl]
theorem jR_turn (d : Nat) (t t' : St) : (jR d t).turn d t' = jR d t' := by
  unfold jR Rk.turn
  have : upd (fun j => if j < d then jE j else if j = d then t else new 3) d t' = fun j => if j < d then jE j else if j = d then t' else new 3 := by
    funext j
    by_cases e : j = d
    · subst e; rw [upd_same, if_neg (by omega), if_pos rfl]
    · rw [upd_other _ _ e]
      by_cases h : j < d
      · rw [if_pos h, if_pos h]
      · rw [if_neg h, if_neg h, if_neg e, if_neg e]
  show Rk.mk _ _ (upd _ d t') _ _ = _
  rw [this]
theorem jR_next (d : Nat) : jR d (jE d) = jR (d + 1) (new 3) := by
  unfold jR
  have : (fun j => if j < d then jE j else if j = d then jE d else new 3) = fun j => if j < d + 1 then jE j else if j = d + 1 then new 3 else new 3 := by
    funext j
    by_cases h : j < d
    · rw [if_pos h, if_pos (by omega)]
    · rw [if_neg h]
      by_cases e : j = d
      · rw [if_pos e, if_pos (by omega), e]
      · rw [if_neg e, if_neg (by omega)]; split <;> rfl
  rw [this]
theorem jR_write {d m : Nat} (hd : d < 4) (hm : m < 3) : (jR d (jA d m)).write (d : Int) (m : Int) (jL d m) = jR d (jA d (m + 1)) ∧ (jR d (jA d m)).wcode (d : Int) (m : Int) (jL d m).length = 0 := by
  obtain ⟨e1, e2⟩ := write_goes (q := jR d (jA d m)) (i := (d : Int)) (sec := (m : Int)) (l := jL d m) (ready_ok (show d < 4 from hd) rfl (by rw [jR_at]; exact jA_dead d m)) ⟨by omega, by show (m : Int) < (3 : Nat); omega, jL_length hd hm⟩ (show ¬ (-1 : Int) = 0 by decide)
  refine ⟨e1.trans ?_, e2⟩
  rw [show (jR d (jA d m)).spent = jR d (jA d m) from rfl, Int.toNat_natCast, Int.toNat_natCast, jR_at, jR_turn]
  rfl
theorem jR_flush {d : Nat} (hd : d < 4) : (jR d (jA d 3)).flush (d : Int) = jR (d + 1) (new 3) ∧ (jR d (jA d 3)).fcode (d : Int) = 0 := by
  obtain ⟨e1, e2⟩ := flush_goes (q := jR d (jA d 3)) (i := (d : Int)) (ready_ok (show d < 4 from hd) rfl (by rw [jR_at]; exact jA_dead d 3)) (show ¬ (-1 : Int) = 0 by decide)
  refine ⟨e1.trans ?_, e2⟩
  rw [show (jR d (jA d 3)).spent = jR d (jA d 3) from rfl, Int.toNat_natCast, jR_at, jR_turn]
  exact jR_next d
/-- The whole rack, one disk of it in another state. -/
def jQ (a : Nat) (t : St) : Rk := (jR 4 (new 3)).turn a t
theorem jQ_at (a : Nat) (t : St) : (jQ a t).s a = t := turn_at _ _ _
theorem jQ_off {a d : Nat} (t : St) (hd : d < 4) (h : d ≠ a) : (jQ a t).s d = jE d := by
  rw [show (jQ a t).s d = (jR 4 (new 3)).s d from turn_off _ t h]
  show (if d < 4 then jE d else _) = _
  rw [if_pos hd]
/-- A frame that stands where it belongs. -/
def Stands (q : Rk) (d x : Nat) : Prop := ∀ kind slot stripe : Int, qfound q d x kind slot stripe = asked (jF d x) kind slot stripe ∧ qgot q d x kind slot stripe = if asked (jF d x) kind slot stripe = true then jF d x else zeroF
def Gone (q : Rk) (d x : Nat) : Prop := ∀ kind slot stripe : Int, qfound q d x kind slot stripe = false ∧ qgot q d x kind slot stripe = zeroF
theorem stands_of {q : Rk} {d x : Nat} (hd : d < 4) (hx : x < 3) (h1 : qval q d x = jL d x) (h2 : qrcode q d x = 0) : Stands q d x := fun kind slot stripe => by
  obtain ⟨g1, g2⟩ := got_put (jF_is d x) (jF_right hd hx)
  have h : qfound q d x kind slot stripe = asked (jF d x) kind slot stripe := by
    unfold qfound
    rw [h2, h1, show goodB (jL d x) = true from g1, show got (jL d x) = jF d x from g2, decide_eq_true rfl, Bool.true_and, Bool.true_and]
  exact ⟨h, by unfold qgot; rw [h, h1, show got (jL d x) = jF d x from g2]⟩
theorem gone_of {q : Rk} {d x : Nat} (h : qrcode q d x ≠ 0 ∨ goodB (qval q d x) = false) : Gone q d x := fun kind slot stripe => by
  have hf : qfound q d x kind slot stripe = false := by
    unfold qfound
    rcases h with h | h
    · rw [decide_eq_false h, Bool.false_and]
    · rw [h, Bool.false_and, Bool.and_false]
  exact ⟨hf, by unfold qgot; rw [hf]; rfl⟩
theorem jQ_stands {a d x : Nat} (t : St) (hd : d < 4) (hx : x < 3) (h : d ≠ a) : Stands (jQ a t) d x := by
  have hs := jQ_off t hd h
  obtain ⟨e1, e2⟩ := qval_at (q := jQ a t) (i := d) (k := x) hd rfl (by rw [hs]; exact jE_dead d) (by rw [hs, jE_n]; exact hx)
  exact stands_of hd hx (e1.trans (by rw [hs]; exact jE_read hd hx)) e2
theorem jQ_dead {a x : Nat} (ha : a < 4) : Gone (jQ a ((jE a).wipe true)) a x := gone_of (Or.inl (by
  unfold qrcode
  rw [if_pos (show (jQ a ((jE a).wipe true)).has (a : Int) from ⟨by omega, by show (a : Int) < (4 : Nat); omega⟩), if_neg (show ¬ (jQ a ((jE a).wipe true)).off = true by show ¬ false = true; decide), Int.toNat_natCast, jQ_at]
  unfold rcode
  rw [if_pos (show ((jE a).wipe true).dead = true from rfl)]; decide))
/-! ### rotten bytes -/
theorem rot_turn {L : Sec} (hl : L.length = 128) (a x : Nat) : ∀ k, a + k ≤ 128 → rotL L a x k = turnL L a x k
  | 0, _ => rotL_zero hl a x
  | k + 1, h => by
    have ih := rot_turn hl a x k (by omega)
    apply bytesV_inj
    rw [← rotL_set]
    show _ = bytesV ((turnL L a x k).set (a + k) ((turnL L a x k).getD (a + k) 0 ^^^ UInt8.ofNat (x / 2 ^ (8 * k))))
    rw [← bytesV_set, ← ih]
    congr 3
    rw [UInt8.toNat_xor, rotL_at (by omega), ofNat_toNat]
theorem rotD_read (s : St) (b p x i : Nat) : (rotD s b p x).read i = (s.wt i).getD (upd s.st b (rotL (s.st b) p x 4) i) := rfl
theorem rotD_n (s : St) (b p x : Nat) : (rotD s b p x).n = s.n := rfl
theorem rotD_dead (s : St) (b p x : Nat) : (rotD s b p x).dead = s.dead := rfl
theorem jQ_rot {a b p : Nat} (ha : a < 4) (hb : b < 3) (hp : p ≤ 124) : Gone (jQ a (rotD (jE a) b p 1)) a b := by
  have hs := jQ_at a (rotD (jE a) b p 1)
  obtain ⟨e1, e2⟩ := qval_at (q := jQ a (rotD (jE a) b p 1)) (i := a) (k := b) ha rfl (by rw [hs, rotD_dead]; exact jE_dead a) (by rw [hs, rotD_n, jE_n]; exact hb)
  refine gone_of (Or.inr ?_)
  rw [e1, hs]
  have e3 : (rotD (jE a) b p 1).read b = turnL (put (jF a b)) p 1 4 := by
    rw [rotD_read, jE_wt ha, upd_same, jE_st ha hb]
    exact (Option.getD_none ..).trans (rot_turn (jL_length ha hb) p 1 4 (by omega))
  rw [e3]
  cases hg : goodB (turnL (put (jF a b)) p 1 4) with
  | false => rfl
  | true => exact absurd ((burst (jF_is a b) (jF_right ha hb) p 1 hp (by decide)).1.1 hg) (by decide)
theorem jQ_rot_off {a b p x : Nat} (ha : a < 4) (hx : x < 3) (h : x ≠ b) : Stands (jQ a (rotD (jE a) b p 1)) a x := by
  have hs := jQ_at a (rotD (jE a) b p 1)
  obtain ⟨e1, e2⟩ := qval_at (q := jQ a (rotD (jE a) b p 1)) (i := a) (k := x) ha rfl (by rw [hs, rotD_dead]; exact jE_dead a) (by rw [hs, rotD_n, jE_n]; exact hx)
  refine stands_of ha hx (e1.trans ?_) e2
  rw [hs, rotD_read, jE_wt ha, upd_other _ _ h, jE_st ha hx]
  exact Option.getD_none ..
theorem jQ_rots {a b p : Nat} (ha : a < 4) (hb : b < 3) (hp : p ≤ 124) : Rk.rots (jR 4 (new 3)) (a : Int) (b : Int) (p : Int) 1 = true ∧ Rk.rotten (jR 4 (new 3)) (a : Int) (b : Int) (p : Int) 1 = jQ a (rotD (jE a) b p 1) := by
  have hh : (jR 4 (new 3)).has (a : Int) := ⟨by omega, by show (a : Int) < (4 : Nat); omega⟩
  have hs : (jR 4 (new 3)).s a = jE a := by show (if a < 4 then jE a else _) = _; rw [if_pos ha]
  have hm : mayRot (jE a) (b : Int) (p : Int) 1 := ⟨jE_dead a, by omega, by rw [jE_n]; omega, by omega, by omega, by decide, jE_rot a _⟩
  unfold Rk.rots Rk.rotten rotnext
  rw [Int.toNat_natCast, hs, decide_eq_true hh, decide_eq_true hm, if_pos hh, if_pos hm, Int.toNat_natCast, Int.toNat_natCast]
  exact ⟨rfl, rfl⟩
theorem jQ_dies {a : Nat} (ha : a < 4) : Rk.dying (jR 4 (new 3)) (a : Int) true = jQ a ((jE a).wipe true) ∧ decide ((jR 4 (new 3)).has (a : Int)) = true := by
  have hh : (jR 4 (new 3)).has (a : Int) := ⟨by omega, by show (a : Int) < (4 : Nat); omega⟩
  have hs : (jR 4 (new 3)).s a = jE a := by show (if a < 4 then jE a else _) = _; rw [if_pos ha]
  refine ⟨?_, decide_eq_true hh⟩
  unfold Rk.dying Rk.wipe
  rw [if_pos hh, Int.toNat_natCast, hs]; rfl
theorem jQ_up {a : Nat} (t : St) (ha : a < 4) : (jQ a t).up (a : Int) = !t.dead := by
  rw [up_at (show a < (jQ a t).n from ha), jQ_at]
/-! ### what is asked for -/
theorem asked_j (d x : Nat) : asked (jF d x) 2 d x = true := by unfold asked; simp [jF, frK]
theorem asked_j3 (d x : Nat) : asked (jF d x) 3 d x = false := by unfold asked; simp [jF, frK]
theorem asked_jd (d x : Nat) : asked (jF d x) 2 ((d : Int) + 1) x = false := by
  have : ¬ (d : Int) = d + 1 := by omega
  unfold asked; simp [jF, frK, this]
theorem asked_jx (d x : Nat) : asked (jF d x) 2 d ((x : Int) + 1) = false := by
  have h1 : ¬ (x : Int) = x + 1 := by omega
  have h2 : ¬ (x : Int) + 1 < 0 := by omega
  unfold asked; simp [jF, frK, h1, h2]
end Go.Proofs.YtbokangpcjeofaaGreatDoor
