/-
  A volume's configuration in numbers: what may be, its superblock, what a rack's disks say.
-/
import Derived.Test.YtfhnkjlegehaoaaGreatDoorQGet
namespace Go.Proofs.YtfhnkjlegehaoaaGreatDoor
open Go.RowKit Go.Deep Crc Dk Qk Go.Maps Hf
structure Cf where
  id : Int
  k : Int
  n : Int
  t : Int
  s : Int
theorem Cf.same : ∀ {a b : Cf}, a.id = b.id → a.k = b.k → a.n = b.n → a.t = b.t → a.s = b.s → a = b
  | ⟨_, _, _, _, _⟩, ⟨_, _, _, _, _⟩, rfl, rfl, rfl, rfl, rfl => rfl
instance : DecidableEq Cf := fun a b =>
  decidable_of_iff (a.id = b.id ∧ a.k = b.k ∧ a.n = b.n ∧ a.t = b.t ∧ a.s = b.s) ⟨fun ⟨h1, h2, h3, h4, h5⟩ => Cf.same h1 h2 h3 h4 h5, fun h => by subst h; exact ⟨rfl, rfl, rfl, rfl, rfl⟩⟩
def zeroC : Cf := ⟨0, 0, 0, 0, 0⟩
def CfRight (c : Cf) : Prop := 1 ≤ c.id ∧ c.id ≤ 2147483647 ∧ 1 ≤ c.k ∧ c.k ≤ c.n ∧ c.n ≤ 8 ∧ 1 ≤ c.t ∧ c.t ≤ 64 ∧ 1 ≤ c.s ∧ c.s ≤ 4
instance (c : Cf) : Decidable (CfRight c) := by unfold CfRight; infer_instance
def cfRightB (c : Cf) : Bool := decide (CfRight c)
theorem zero_wrong : cfRightB zeroC = false := by decide
def Cf.secs (c : Cf) : Int := 1 + c.s * c.k + c.t
theorem mul_le_32 {s k : Int} (h1 : 1 ≤ s) (h2 : s ≤ 4) (h3 : 1 ≤ k) (h4 : k ≤ 8) : 1 ≤ s * k ∧ s * k ≤ 32 := by
  have hs : s = 1 ∨ s = 2 ∨ s = 3 ∨ s = 4 := by omega
  rcases hs with rfl | rfl | rfl | rfl <;> omega
theorem CfRight.secs {c : Cf} (h : CfRight c) : 3 ≤ c.secs ∧ c.secs ≤ 97 ∧ 1 ≤ c.s * c.k ∧ c.s * c.k ≤ 32 := by
  obtain ⟨_, _, h3, h4, h5, h6, h7, h8, h9⟩ := h
  obtain ⟨a, b⟩ := mul_le_32 h8 h9 h3 (by omega)
  unfold Cf.secs
  exact ⟨by omega, by omega, a, b⟩
def Cf.fits (c : Cf) (q : Rk) : Bool := cfRightB c && (decide (c.n = q.n) && decide (c.secs ≤ q.k))
theorem fits_right {c : Cf} {q : Rk} (h : c.fits q = true) : CfRight c ∧ c.n = q.n ∧ c.secs ≤ q.k := by
  unfold Cf.fits cfRightB at h
  simpa using h
/-- What a superblock carries. -/
def supD (c : Cf) : List UInt8 := le 4 c.id.toNat ++ ([UInt8.ofNat c.k.toNat, UInt8.ofNat c.n.toNat, UInt8.ofNat c.t.toNat, UInt8.ofNat c.s.toNat] ++ List.replicate 100 0)
def supF (c : Cf) (i : Int) : Fr := ⟨1, i, 0, 1, supD c⟩
theorem supD_length (c : Cf) : (supD c).length = 108 := by simp [supD, le_length]
theorem supF_is (c : Cf) (i : Int) : (supF c i).is := supD_length c
theorem supF_right {c : Cf} {i : Int} (h0 : 0 ≤ i) (h1 : i < 8) : rightB (supF c i) = true :=
  decide_eq_true (show (1 : Int) ≤ 1 ∧ (1 : Int) ≤ 3 ∧ 0 ≤ i ∧ i < 8 ∧ (0 : Int) ≤ 0 ∧ (0 : Int) < 64 ∧ (0 : Int) ≤ 1 ∧ (1 : Int) ≤ 1152921504606846976 from ⟨by decide, by decide, h0, h1, by decide, by decide, by decide, by decide⟩)
theorem sup_len {c : Cf} {i : Int} (h0 : 0 ≤ i) (h1 : i < 8) : (put (supF c i)).length = 128 := put_len (supF_is c i) (supF_right h0 h1)
/-- What the bytes of a superblock say. -/
def readC (d : List UInt8) : Cf := ⟨(leV (d.take 4) : Int), ((d.getD 4 0).toNat : Int), ((d.getD 5 0).toNat : Int), ((d.getD 6 0).toNat : Int), ((d.getD 7 0).toNat : Int)⟩
theorem read_sup {c : Cf} (h : CfRight c) : readC (supD c) = c := by
  obtain ⟨h1, h2, h3, h4, h5, h6, h7, h8, h9⟩ := h
  have ht : (supD c).take 4 = le 4 c.id.toNat := by
    unfold supD
    rw [List.take_append_of_le_length (by simp [le_length]), List.take_of_length_le (by simp [le_length])]
  have hl : leV (le 4 c.id.toNat) = c.id.toNat := leV_le 4 _ (by omega)
  have g4 : (supD c).getD 4 0 = UInt8.ofNat c.k.toNat := rfl
  have g5 : (supD c).getD 5 0 = UInt8.ofNat c.n.toNat := rfl
  have g6 : (supD c).getD 6 0 = UInt8.ofNat c.t.toNat := rfl
  have g7 : (supD c).getD 7 0 = UInt8.ofNat c.s.toNat := rfl
  unfold readC
  rw [ht, hl, g4, g5, g6, g7]
  refine Cf.same ?_ ?_ ?_ ?_ ?_
  · show ((c.id.toNat : Nat) : Int) = c.id; omega
  · show ((UInt8.ofNat c.k.toNat).toNat : Int) = c.k; rw [byte_back (by omega) (by omega)]
  · show ((UInt8.ofNat c.n.toNat).toNat : Int) = c.n; rw [byte_back (by omega) (by omega)]
  · show ((UInt8.ofNat c.t.toNat).toNat : Int) = c.t; rw [byte_back (by omega) (by omega)]
  · show ((UInt8.ofNat c.s.toNat).toNat : Int) = c.s; rw [byte_back (by omega) (by omega)]
/-- Is a frame the superblock of disk i? -/
def supGood (f : Fr) (i : Int) : Bool := cfRightB (readC f.d) && frEq f (supF (readC f.d) i)
def cfHas (q : Rk) (i : Int) : Bool := qfound q i 0 1 i 0 && supGood (qgot q i 0 1 i 0) i
def cfOf (q : Rk) (i : Int) : Cf := if cfHas q i = true then readC (qgot q i 0 1 i 0).d else zeroC
theorem cfOf_right {q : Rk} {i : Int} (h : cfHas q i = true) : CfRight (cfOf q i) := by
  unfold cfOf
  rw [if_pos h]
  unfold cfHas supGood at h
  simp only [Bool.and_eq_true] at h
  exact of_decide_eq_true h.2.1
theorem cfOf_no {q : Rk} {i : Int} (h : cfHas q i = false) : cfOf q i = zeroC := if_neg (by rw [h]; decide)
/-- Where the superblock stands. -/
theorem has_sup {q : Rk} {c : Cf} {k : Nat} (hq : q.Ok) (hk : k < q.n) (ho : q.off = false) (hd : (q.s k).dead = false) (hv : (q.s k).read 0 = put (supF c k)) (hc : CfRight c) : cfHas q k = true ∧ cfOf q k = c := by
  have h8 := hq.n8
  have hh : q.has (k : Int) := ⟨by omega, by omega⟩
  have hn : inN (q.s k) 0 := ⟨by omega, by have := hq.k k hk; have := hq.k0; omega⟩
  have e1 : qval q (k : Int) 0 = put (supF c k) := by
    unfold qval
    rw [if_pos ⟨hh, ho⟩]
    unfold rval
    rw [Int.toNat_natCast, if_pos ⟨hd, hn⟩]
    exact hv
  have e2 : qrcode q (k : Int) 0 = 0 := by
    unfold qrcode
    rw [if_pos hh, ho, if_neg (show ¬ false = true by decide)]
    unfold rcode
    rw [Int.toNat_natCast, hd, if_neg (show ¬ false = true by decide), if_pos hn]
  obtain ⟨g1, g2⟩ := got_put (supF_is c k) (supF_right (c := c) (i := k) (by omega) (by omega))
  have ha : asked (supF c k) 1 k 0 = true := by
    unfold asked supF
    simp
  have hf : qfound q k 0 1 k 0 = true := by
    unfold qfound
    rw [e1, e2, g1, g2, ha]; rfl
  have hg : qgot q k 0 1 k 0 = supF c k := by
    unfold qgot
    rw [if_pos hf, e1, g2]
  have hr : readC (supF c k).d = c := read_sup hc
  have hs : supGood (supF c k) k = true := by
    unfold supGood
    rw [hr, (frEq_iff _ _).2 rfl, show cfRightB c = true from decide_eq_true hc]; rfl
  have hH : cfHas q k = true := by
    unfold cfHas
    rw [hf, hg, hs]; rfl
  refine ⟨hH, ?_⟩
  unfold cfOf
  rw [if_pos hH, hg, hr]
/-- Where it does not stand. -/
theorem no_sup {q : Rk} {k : Nat} (h : q.off = true ∨ ¬ k < q.n ∨ (q.s k).dead = true ∨ goodB ((q.s k).read 0) = false) : cfHas q k = false := by
  have key : qfound q k 0 1 k 0 = false := by
    unfold qfound
    by_cases hc : qrcode q (k : Int) 0 = 0
    · have hh : q.has (k : Int) := by
        by_cases hh : q.has (k : Int)
        · exact hh
        · unfold qrcode at hc; rw [if_neg hh] at hc; cases hc
      unfold qrcode at hc
      rw [if_pos hh] at hc
      cases ho : q.off with
      | true => rw [ho, if_pos rfl] at hc; cases hc
      | false =>
        rw [ho, if_neg (show ¬ false = true by decide)] at hc
        unfold rcode at hc
        rw [Int.toNat_natCast] at hc
        cases hd : (q.s k).dead with
        | true => rw [hd, if_pos rfl] at hc; cases hc
        | false =>
          rw [hd, if_neg (show ¬ false = true by decide)] at hc
          by_cases hn : inN (q.s k) 0
          · have e1 : qval q (k : Int) 0 = (q.s k).read 0 := by
              unfold qval
              rw [if_pos ⟨hh, ho⟩]
              unfold rval
              rw [Int.toNat_natCast, if_pos ⟨hd, hn⟩]
              rfl
            rcases h with h | h | h | h
            · rw [ho] at h; cases h
            · exact absurd hh.2 (by omega)
            · rw [hd] at h; cases h
            · rw [e1, h]; simp
          · rw [if_neg hn] at hc; cases hc
    · rw [decide_eq_false hc]; rfl
  unfold cfHas
  rw [key]; rfl
theorem no_sup_out {q : Rk} {i : Int} (h : ¬ q.has i) : cfHas q i = false := by
  have e : qrcode q i 0 = 1 := if_neg h
  unfold cfHas qfound
  rw [e]; rfl
/-! ### the calls -/
def Rk.sput (q : Rk) (c : Cf) (i : Int) : Rk :=
  if c.fits q = true then (if q.wcode i 0 (put (supF c i)).length = 0 then (q.write i 0 (put (supF c i))).flush i else q.write i 0 (put (supF c i))) else q
def Rk.scode (q : Rk) (c : Cf) (i : Int) : Int :=
  if c.fits q = true then (if q.wcode i 0 (put (supF c i)).length = 0 then (q.write i 0 (put (supF c i))).fcode i else q.wcode i 0 (put (supF c i)).length) else 1
theorem sput_n (q : Rk) (c : Cf) (i : Int) : (Rk.sput q c i).n = q.n := by
  unfold Rk.sput; split
  · split
    · rw [flush_n, write_n]
    · rw [write_n]
  · rfl
theorem sput_k (q : Rk) (c : Cf) (i : Int) : (Rk.sput q c i).k = q.k := by
  unfold Rk.sput; split
  · split
    · rw [flush_k, write_k]
    · rw [write_k]
  · rfl
/-- What the first m disks say: the first one's configuration, and how many have it. -/
def fnd (q : Rk) : Nat → Cf × Nat
  | 0 => (zeroC, 0)
  | m + 1 =>
    if cfHas q m = true then
      (if (fnd q m).2 = 0 then (cfOf q m, 1) else if cfOf q m = (fnd q m).1 then ((fnd q m).1, (fnd q m).2 + 1) else fnd q m)
    else fnd q m
def fndOk (q : Rk) : Bool := decide ((fnd q q.n).1.k ≤ (fnd q q.n).2) && (fnd q q.n).1.fits q
def fndC (q : Rk) : Cf := if fndOk q = true then (fnd q q.n).1 else zeroC
theorem fnd_le (q : Rk) : ∀ m, (fnd q m).2 ≤ m
  | 0 => Nat.le_refl _
  | m + 1 => by
    have := fnd_le q m
    unfold fnd
    split
    · split
      · show 1 ≤ m + 1; omega
      · split
        · show _ + 1 ≤ m + 1; omega
        · omega
    · omega
theorem fnd_zero (q : Rk) : ∀ m, (fnd q m).2 = 0 → (fnd q m).1 = zeroC
  | 0, _ => rfl
  | m + 1, h => by
    have ih := fnd_zero q m
    unfold fnd at h ⊢
    split at h
    · split at h
      · cases h
      · split at h
        · cases h
        · rename_i h1 _; exact absurd h h1
    · rename_i h1
      rw [if_neg h1]; exact ih h
theorem fnd_yes {q : Rk} {m : Nat} (h : cfHas q m = true) (h0 : (fnd q m).2 = 0) : fnd q (m + 1) = (cfOf q m, 1) := by
  show (if _ then _ else _) = _
  rw [if_pos h, if_pos h0]
theorem fnd_same {q : Rk} {m : Nat} (h : cfHas q m = true) (h0 : ¬ (fnd q m).2 = 0) (h1 : cfOf q m = (fnd q m).1) : fnd q (m + 1) = ((fnd q m).1, (fnd q m).2 + 1) := by
  show (if _ then _ else _) = _
  rw [if_pos h, if_neg h0, if_pos h1]
theorem fnd_other {q : Rk} {m : Nat} (h : cfHas q m = true) (h0 : ¬ (fnd q m).2 = 0) (h1 : ¬ cfOf q m = (fnd q m).1) : fnd q (m + 1) = fnd q m := by
  show (if _ then _ else _) = _
  rw [if_pos h, if_neg h0, if_neg h1]
theorem fnd_no {q : Rk} {m : Nat} (h : cfHas q m = false) : fnd q (m + 1) = fnd q m := by
  show (if _ then _ else _) = _
  rw [if_neg (by rw [h]; decide)]
end Go.Proofs.YtfhnkjlegehaoaaGreatDoor
