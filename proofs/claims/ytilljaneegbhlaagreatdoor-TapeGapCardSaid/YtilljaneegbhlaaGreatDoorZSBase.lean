import Derived.Test.YtilljaneegbhlaaGreatDoorZQS
import Derived.Test.YtilljaneegbhlaaGreatDoorZQMore
import Derived.Test.YtilljaneegbhlaaGreatDoorZHPut
namespace Go.Proofs.YtilljaneegbhlaaGreatDoor
open Go.RowKit Go.Deep Crc Dk Qk Go.Maps Hf
set_option maxHeartbeats 2000000
set_option maxRecDepth 100000
structure Cf where
 id : Int
 k : Int
 n : Int
 t : Int
 s : Int
theorem Cf.same : ∀ {a b : Cf}, a.id = b.id → a.k = b.k → a.n = b.n → a.t = b.t → a.s = b.s → a = b
 | ⟨_, _, _, _, _⟩, ⟨_, _, _, _, _⟩, rfl, rfl, rfl, rfl, rfl => rfl
instance : DecidableEq Cf := fun a b =>
 decidable_of_iff (a.id = b.id ∧ a.k = b.k ∧ a.n = b.n ∧ a.t = b.t ∧ a.s = b.s) ⟨fun ⟨h1, h2, h3, h4, h5⟩ => Cf.same h1 h2 h3 h4 h5, fun h => by subst h; exact ⟨rfl, rfl, rfl, rfl, rfl⟩⟩
def zeroC : Cf := ⟨0, 0, 0, 0, 0⟩
def CfRight (c : Cf) : Prop := 1 ≤ c.id ∧ c.id ≤ 2147483647 ∧ 1 ≤ c.k ∧ c.k ≤ c.n ∧ c.n ≤ 8 ∧ 1 ≤ c.t ∧ c.t ≤ 64 ∧ 1 ≤ c.s ∧ c.s ≤ 4
instance (c : Cf) : Decidable (CfRight c) := by unfold CfRight; infer_instance
def cfRightB (c : Cf) : Bool := decide (CfRight c)
theorem zero_wrong : cfRightB zeroC = false := by decide
def Cf.secs (c : Cf) : Int := 1 + c.s * c.k + c.t
theorem mul_le_32 {s k : Int} (h1 : 1 ≤ s) (h2 : s ≤ 4) (h3 : 1 ≤ k) (h4 : k ≤ 8) : 1 ≤ s * k ∧ s * k ≤ 32 := by
 have hs : s = 1 ∨ s = 2 ∨ s = 3 ∨ s = 4 := by omega
 rcases hs with rfl | rfl | rfl | rfl <;> omega
variable {c : Cf}
theorem CfRight.secs (h : CfRight c) : 3 ≤ c.secs ∧ c.secs ≤ 97 ∧ 1 ≤ c.s * c.k ∧ c.s * c.k ≤ 32 := by
 obtain ⟨_, _, h3, h4, h5, h6, h7, h8, h9⟩ := h
 obtain ⟨a, b⟩ := mul_le_32 h8 h9 h3 (by omega)
 unfold Cf.secs
 exact ⟨by omega, by omega, a, b⟩
def Cf.fits (c : Cf) (q : Rk) : Bool := cfRightB c && (decide (c.n = q.n) && decide (c.secs ≤ q.k))
variable {q : Rk}
theorem fits_right (h : c.fits q = true) : CfRight c ∧ c.n = q.n ∧ c.secs ≤ q.k := by
 unfold Cf.fits cfRightB at h
 simpa using h
def supD (c : Cf) : List UInt8 := le 4 c.id.toNat ++ ([UInt8.ofNat c.k.toNat, UInt8.ofNat c.n.toNat, UInt8.ofNat c.t.toNat, UInt8.ofNat c.s.toNat] ++ List.replicate 100 0)
def supF (c : Cf) (i : Int) : Fr := ⟨1, i, 0, 1, supD c⟩
theorem supD_length (c : Cf) : (supD c).length = 108 := by simp [supD, le_length]
theorem supF_is (c : Cf) (i : Int) : (supF c i).is := supD_length c
variable {i : Int}
theorem supF_right (h0 : 0 ≤ i) (h1 : i < 8) : rightB (supF c i) = true :=
 decide_eq_true (show (1 : Int) ≤ 1 ∧ (1 : Int) ≤ 3 ∧ 0 ≤ i ∧ i < 8 ∧ (0 : Int) ≤ 0 ∧ (0 : Int) < 64 ∧ (0 : Int) ≤ 1 ∧ (1 : Int) ≤ 1152921504606846976 from ⟨by decide, by decide, h0, h1, by decide, by decide, by decide, by decide⟩)
def readC (d : List UInt8) : Cf := ⟨(leV (d.take 4) : Int), ((d.getD 4 0).toNat : Int), ((d.getD 5 0).toNat : Int), ((d.getD 6 0).toNat : Int), ((d.getD 7 0).toNat : Int)⟩
theorem read_sup (h : CfRight c) : readC (supD c) = c := by
 obtain ⟨h1, h2, h3, h4, h5, h6, h7, h8, h9⟩ := h
 have ht : (supD c).take 4 = le 4 c.id.toNat := by
  unfold supD; rw [List.take_append_of_le_length (by simp [le_length]), List.take_of_length_le (by simp [le_length])]
 have hl : leV (le 4 c.id.toNat) = c.id.toNat := leV_le 4 _ (by omega)
 have g4 : (supD c).getD 4 0 = UInt8.ofNat c.k.toNat := rfl
 have g5 : (supD c).getD 5 0 = UInt8.ofNat c.n.toNat := rfl
 have g6 : (supD c).getD 6 0 = UInt8.ofNat c.t.toNat := rfl
 have g7 : (supD c).getD 7 0 = UInt8.ofNat c.s.toNat := rfl
 unfold readC
 rw [ht, hl, g4, g5, g6, g7]
 refine Cf.same ?_ ?_ ?_ ?_ ?_
 ·show ((c.id.toNat : Nat) : Int) = c.id; omega
 ·show ((UInt8.ofNat c.k.toNat).toNat : Int) = c.k; rw [byte_back (by omega) (by omega)]
 ·show ((UInt8.ofNat c.n.toNat).toNat : Int) = c.n; rw [byte_back (by omega) (by omega)]
 ·show ((UInt8.ofNat c.t.toNat).toNat : Int) = c.t; rw [byte_back (by omega) (by omega)]
 ·show ((UInt8.ofNat c.s.toNat).toNat : Int) = c.s; rw [byte_back (by omega) (by omega)]
def supGood (f : Fr) (i : Int) : Bool := cfRightB (readC f.d) && frEq f (supF (readC f.d) i)
def cfHas (q : Rk) (i : Int) : Bool := qfound q i 0 1 i 0 && supGood (qgot q i 0 1 i 0) i
def cfOf (q : Rk) (i : Int) : Cf := if cfHas q i = true then readC (qgot q i 0 1 i 0).d else zeroC
theorem cfOf_no (h : cfHas q i = false) : cfOf q i = zeroC := if_neg (by rw [h]; decide)
variable {k : Nat}
theorem has_sup (hq : q.Ok) (hk : k < q.n) (ho : q.off = false) (hd : (q.s k).dead = false) (hv : (q.s k).read 0 = put (supF c k)) (hc : CfRight c) : cfHas q k = true ∧ cfOf q k = c := by
 have h8 := hq.n8
 have hh : q.has (k : Int) := ⟨by omega, by omega⟩
 have hn : inN (q.s k) 0 := ⟨by omega, by have := hq.k k hk; have := hq.k0; omega⟩
 have e1 : qval q (k : Int) 0 = put (supF c k) := by
  unfold qval; rw [if_pos ⟨hh, ho⟩]; unfold rval; rw [Int.toNat_natCast, if_pos ⟨hd, hn⟩]; exact hv
 have e2 : qrcode q (k : Int) 0 = 0 := by
  unfold qrcode; rw [if_pos hh, ho, if_neg (show ¬ false = true by decide)]; unfold rcode; rw [Int.toNat_natCast, hd, if_neg (show ¬ false = true by decide), if_pos hn]
 obtain ⟨g1, g2⟩ := got_put (supF_is c k) (supF_right (c := c) (i := k) (by omega) (by omega))
 have ha : asked (supF c k) 1 k 0 = true := by
  unfold asked supF
  simp
 have hf : qfound q k 0 1 k 0 = true := by
  unfold qfound; rw [e1, e2, g1, g2, ha]; rfl
 have hg : qgot q k 0 1 k 0 = supF c k := by
  unfold qgot; rw [if_pos hf, e1, g2]
 have hr : readC (supF c k).d = c := read_sup hc
 have hs : supGood (supF c k) k = true := by
  unfold supGood; rw [hr, (frEq_iff _ _).2 rfl, show cfRightB c = true from decide_eq_true hc]; rfl
 have hH : cfHas q k = true := by
  unfold cfHas; rw [hf, hg, hs]; rfl
 refine ⟨hH, ?_⟩
 unfold cfOf
 rw [if_pos hH, hg, hr]
theorem no_sup (h : q.off = true ∨ ¬ k < q.n ∨ (q.s k).dead = true ∨ goodB ((q.s k).read 0) = false) : cfHas q k = false := by
 have key : qfound q k 0 1 k 0 = false := by
  unfold qfound
  by_cases hc : qrcode q (k : Int) 0 = 0
  ·have hh : q.has (k : Int) := by
    by_cases hh : q.has (k : Int)
    ·exact hh
    ·unfold qrcode at hc; rw [if_neg hh] at hc; cases hc
   unfold qrcode at hc; rw [if_pos hh] at hc
   cases ho : q.off with
   | true => rw [ho, if_pos rfl] at hc; cases hc
   | false =>
    rw [ho, if_neg (show ¬ false = true by decide)] at hc; unfold rcode at hc; rw [Int.toNat_natCast] at hc
    cases hd : (q.s k).dead with
    | true => rw [hd, if_pos rfl] at hc; cases hc
    | false =>
     rw [hd, if_neg (show ¬ false = true by decide)] at hc
     by_cases hn : inN (q.s k) 0
     ·have e1 : qval q (k : Int) 0 = (q.s k).read 0 := by
       unfold qval; rw [if_pos ⟨hh, ho⟩]; unfold rval; rw [Int.toNat_natCast, if_pos ⟨hd, hn⟩]
       rfl
      rcases h with h | h | h | h
      ·rw [ho] at h; cases h
      ·exact absurd hh.2 (by omega)
      ·rw [hd] at h; cases h
      ·rw [e1, h]; simp
     ·rw [if_neg hn] at hc; cases hc
  ·rw [decide_eq_false hc]; rfl
 unfold cfHas
 rw [key]; rfl
def Rk.sput (q : Rk) (c : Cf) (i : Int) : Rk :=
 if c.fits q = true then (if q.wcode i 0 (put (supF c i)).length = 0 then (q.write i 0 (put (supF c i))).flush i else q.write i 0 (put (supF c i))) else q
def Rk.scode (q : Rk) (c : Cf) (i : Int) : Int :=
 if c.fits q = true then (if q.wcode i 0 (put (supF c i)).length = 0 then (q.write i 0 (put (supF c i))).fcode i else q.wcode i 0 (put (supF c i)).length) else 1
def fnd (q : Rk) : Nat → Cf × Nat
 | 0 => (zeroC, 0)
 | m + 1 =>
  if cfHas q m = true then
   (if (fnd q m).2 = 0 then (cfOf q m, 1) else if cfOf q m = (fnd q m).1 then ((fnd q m).1, (fnd q m).2 + 1) else fnd q m)
  else fnd q m
def fndOk (q : Rk) : Bool := decide ((fnd q q.n).1.k ≤ (fnd q q.n).2) && (fnd q q.n).1.fits q
def fndC (q : Rk) : Cf := if fndOk q = true then (fnd q q.n).1 else zeroC
theorem fnd_le (q : Rk) : ∀ m, (fnd q m).2 ≤ m
 | 0 => Nat.le_refl _
 | m + 1 => by
  have := fnd_le q m; unfold fnd
  split
  ·split
   ·show 1 ≤ m + 1; omega
   ·split
    ·show _ + 1 ≤ m + 1; omega
    ·omega
  ·omega
variable {m : Nat}
theorem fnd_yes (h : cfHas q m = true) (h0 : (fnd q m).2 = 0) : fnd q (m + 1) = (cfOf q m, 1) := by
 show (if _ then _ else _) = _
 rw [if_pos h, if_pos h0]
theorem fnd_same (h : cfHas q m = true) (h0 : ¬ (fnd q m).2 = 0) (h1 : cfOf q m = (fnd q m).1) : fnd q (m + 1) = ((fnd q m).1, (fnd q m).2 + 1) := by
 show (if _ then _ else _) = _
 rw [if_pos h, if_neg h0, if_pos h1]
theorem fnd_other (h : cfHas q m = true) (h0 : ¬ (fnd q m).2 = 0) (h1 : ¬ cfOf q m = (fnd q m).1) : fnd q (m + 1) = fnd q m := by
 show (if _ then _ else _) = _
 rw [if_pos h, if_neg h0, if_neg h1]
theorem fnd_no (h : cfHas q m = false) : fnd q (m + 1) = fnd q m := by
 show (if _ then _ else _) = _
 rw [if_neg (by rw [h]; decide)]
abbrev cfA (c : Cf) : Array Value := #[.int .i64 c.id, .int .i64 c.k, .int .i64 c.n, .int .i64 c.t, .int .i64 c.s]
theorem sright_any (c : Cf) (w : World) : Calls Tryz.prog 58 #[.agg (cfA c)] w (Bit (cfRightB c) w) := by
 by_cases h0 : 1 ≤ c.id
 ·skip
  by_cases h1 : c.id ≤ 2147483647
  ·skip
   by_cases h2 : 1 ≤ c.k
   ·skip
    by_cases h3 : c.k ≤ c.n
    ·skip
     by_cases h4 : c.n ≤ 8
     ·skip
      by_cases h5 : 1 ≤ c.t
      ·skip
       by_cases h6 : c.t ≤ 64
       ·skip
        by_cases h7 : 1 ≤ c.s
        ·skip
         by_cases h8 : c.s ≤ 4
         ·skip
          have HR := hI (show cfRightB c = true from decide_eq_true (by unfold CfRight; omega))
          go_enter Tryz.func58, Tryz.ntmps58
          go_wp2_with fail; go_ret; exact bit (by first | exact HR.out.symm | (rw [HR.out]; exact decide_eq_false (by omega)) | (rw [HR.out]; exact decide_eq_true (by omega))) (one_below _ _)
         ·skip
          have HR := hI (show cfRightB c = false from decide_eq_false (by unfold CfRight; omega))
          go_enter Tryz.func58, Tryz.ntmps58
          go_wp2_with fail; go_ret; exact bit (by first | exact HR.out.symm | (rw [HR.out]; exact decide_eq_false (by omega)) | (rw [HR.out]; exact decide_eq_true (by omega))) (one_below _ _)
        ·skip
         have HR := hI (show cfRightB c = false from decide_eq_false (by unfold CfRight; omega))
         go_enter Tryz.func58, Tryz.ntmps58
         go_wp2_with fail; go_ret; exact bit (by first | exact HR.out.symm | (rw [HR.out]; exact decide_eq_false (by omega)) | (rw [HR.out]; exact decide_eq_true (by omega))) (one_below _ _)
       ·skip
        have HR := hI (show cfRightB c = false from decide_eq_false (by unfold CfRight; omega))
        go_enter Tryz.func58, Tryz.ntmps58
        go_wp2_with fail; go_ret; exact bit (by first | exact HR.out.symm | (rw [HR.out]; exact decide_eq_false (by omega)) | (rw [HR.out]; exact decide_eq_true (by omega))) (one_below _ _)
      ·skip
       have HR := hI (show cfRightB c = false from decide_eq_false (by unfold CfRight; omega))
       go_enter Tryz.func58, Tryz.ntmps58
       go_wp2_with fail; go_ret; exact bit (by first | exact HR.out.symm | (rw [HR.out]; exact decide_eq_false (by omega)) | (rw [HR.out]; exact decide_eq_true (by omega))) (one_below _ _)
     ·skip
      have HR := hI (show cfRightB c = false from decide_eq_false (by unfold CfRight; omega))
      go_enter Tryz.func58, Tryz.ntmps58
      go_wp2_with fail; go_ret; exact bit (by first | exact HR.out.symm | (rw [HR.out]; exact decide_eq_false (by omega)) | (rw [HR.out]; exact decide_eq_true (by omega))) (one_below _ _)
    ·skip
     have HR := hI (show cfRightB c = false from decide_eq_false (by unfold CfRight; omega))
     go_enter Tryz.func58, Tryz.ntmps58
     go_wp2_with fail; go_ret; exact bit (by first | exact HR.out.symm | (rw [HR.out]; exact decide_eq_false (by omega)) | (rw [HR.out]; exact decide_eq_true (by omega))) (one_below _ _)
   ·skip
    have HR := hI (show cfRightB c = false from decide_eq_false (by unfold CfRight; omega))
    go_enter Tryz.func58, Tryz.ntmps58
    go_wp2_with fail; go_ret; exact bit (by first | exact HR.out.symm | (rw [HR.out]; exact decide_eq_false (by omega)) | (rw [HR.out]; exact decide_eq_true (by omega))) (one_below _ _)
  ·skip
   have HR := hI (show cfRightB c = false from decide_eq_false (by unfold CfRight; omega))
   go_enter Tryz.func58, Tryz.ntmps58
   go_wp2_with fail; go_ret; exact bit (by first | exact HR.out.symm | (rw [HR.out]; exact decide_eq_false (by omega)) | (rw [HR.out]; exact decide_eq_true (by omega))) (one_below _ _)
 ·skip
  have HR := hI (show cfRightB c = false from decide_eq_false (by unfold CfRight; omega))
  go_enter Tryz.func58, Tryz.ntmps58
  go_wp2_with fail; go_ret; exact bit (by first | exact HR.out.symm | (rw [HR.out]; exact decide_eq_false (by omega)) | (rw [HR.out]; exact decide_eq_true (by omega))) (one_below _ _)
theorem ssectors_any (c : Cf) (w : World) (h : CfRight c) : Calls Tryz.prog 60 #[.agg (cfA c)] w (Num c.secs w) := by
 obtain ⟨a1, a2, a3, a4⟩ := h.secs
 have HS := hI (show (1 : Int) + c.s * c.k + c.t = c.secs from rfl)
 obtain ⟨_, _, _, _, _, b1, b2, _, _⟩ := h
 go_enter Tryz.func60, Tryz.ntmps60
 go_wp2_with fail
 go_ret
 refine num ?_ (one_below _ _)
 exact HS.out
def FrB (f : Fr) (b : Nat) (w : World) : Prop := f.is ∧ w.heap[b]? = some (.cells (frA f) 151 (0, 0))
variable {f : Fr} {b : Nat} {w : World}
theorem FrB.fin (h : FrB f b w) : FrIn f b w := ⟨h.1, fun j v hv => by rw [cell_of_row _ b j _ _ (0, 0) h.2]; simpa [frA] using hv⟩
variable {B : Nat} {w' : World}
theorem FrB.below (h : FrB f b w) (hb : b < B) (hB : Below B w w') : FrB f b w' := ⟨h.1, by rw [hB.block b hb]; exact h.2⟩
theorem FrB.free (h : FrB f b w) (i : Nat) : w.frozen? ⟨b, i, none⟩ = false := frozen_of_row w b i _ _ h.2
theorem FrB.byte (h : FrB f b w) (hk : k < 108) : w.cell? ⟨b, 4 + k, none⟩ = some (.int .u8 ((f.d.getD k 0).toNat : Int)) := by
 have hi : f.d.length = 108 := h.1
 refine h.fin.2 (4 + k) _ ?_
 unfold frC
 rw [List.getElem?_append_right (by simp)]
 simpa using bytesV_at (l := f.d) (i := k) (by omega)
def Fr.setD (f : Fr) (k : Nat) (x : UInt8) : Fr := ⟨f.k, f.s, f.t, f.g, f.d.set k x⟩
theorem bytesV_setB (l : List UInt8) (k : Nat) (x : UInt8) : (bytesV l).set k (.int .u8 (x.toNat : Int)) = bytesV (l.set k x) := by simp [bytesV, List.map_set]
theorem FrB.set (h : FrB f b w) (k : Nat) (x : UInt8) : FrB (Fr.setD f k x) b (w.setCell ⟨b, 4 + k, none⟩ (.int .u8 (x.toNat : Int))) := by
 have hi : f.d.length = 108 := h.1
 refine ⟨by show (f.d.set k x).length = 108; rw [List.length_set]; exact hi, ?_⟩
 show (w.heap.modify b _)[b]? = _
 rw [Array.getElem?_modify, if_pos rfl, h.2]
 show some (Obj.cells ((frC f).toArray.setIfInBounds (4 + k) (.int .u8 (x.toNat : Int))) _ _) = _
 congr 2
 simp only [List.setIfInBounds_toArray]
 congr 1
 unfold frC Fr.setD
 rw [List.set_append_right _ _ (by simp)]
 rw [← bytesV_setB]
 simp
def FrOut (f : Fr) (w : World) (e : Ending) (w' : World) : Prop := e = .returned (.agg (frA f)) ∧ Below w.heap.size w w'
theorem frB_new (w : World) (f : Fr) (h : f.is) : FrB f w.heap.size (w.alloc (.cells (frA f) 151)) := ⟨h, heap_alloc_new w _⟩
def supP (n k : Nat) : List UInt8 := le k n ++ List.replicate (108 - k) 0
theorem supP_next (n : Nat) {k : Nat} (h : k < 108) : (supP n k).set k (UInt8.ofNat (n / 2 ^ (8 * k))) = supP n (k + 1) := by
 unfold supP
 have e := set_at (le k n) (List.replicate (108 - k) 0) 0 (UInt8.ofNat (n / 2 ^ (8 * k)))
 rw [le_length, Nat.add_zero] at e
 rw [e, show 108 - k = (108 - (k + 1)) + 1 by omega, List.replicate_succ, List.set_cons_zero, le_succ]
 simp
theorem supP_done (n : Nat) (a b c d : UInt8) : ((((supP n 4).set 4 a).set 5 b).set 6 c).set 7 d = le 4 n ++ ([a, b, c, d] ++ List.replicate 100 0) := rfl
def supQ (n : Nat) (i : Int) (k : Nat) : Fr := ⟨1, i, 0, 1, supP n k⟩
theorem sup_byte (n k : Nat) : (n : Int) / 2 ^ (8 * k) % 256 = ((UInt8.ofNat (n / 2 ^ (8 * k))).toNat : Int) := by
 rw [ofNat_toNat]
 have e : ((n : Int) / 2 ^ (8 * k)) = ((n / 2 ^ (8 * k) : Nat) : Int) := by
  rw [Int.natCast_ediv, Int.natCast_pow]; rfl
 rw [e]; rfl
def CfB (c : Cf) (b : Nat) (w : World) : Prop := w.heap[b]? = some (.cells (cfA c) 24 (0, 0))
theorem CfB.below (h : CfB c b w) (hb : b < B) (hB : Below B w w') : CfB c b w' := by unfold CfB; rw [hB.block b hb]; exact h
theorem CfB.cell (h : CfB c b w) (i : Nat) : w.cell? ⟨b, i, none⟩ = (cfA c)[i]? := by rw [cell_of_row _ b i _ _ (0, 0) h]
abbrev fillC (c : Cf) (b : Nat) (w : World) : World := ((((w.setCell ⟨b, 0, none⟩ (.int .i64 c.id)).setCell ⟨b, 1, none⟩ (.int .i64 c.k)).setCell ⟨b, 2, none⟩ (.int .i64 c.n)).setCell ⟨b, 3, none⟩ (.int .i64 c.t)).setCell ⟨b, 4, none⟩ (.int .i64 c.s)
theorem CfB.fill (h : CfB c b w) (c' : Cf) : CfB c' b (fillC c' b w) := by
 have h0 := heap_setCell_same w b 0 _ _ (.int .i64 c'.id) h
 have h1 := heap_setCell_same _ b 1 _ _ (.int .i64 c'.k) h0
 have h2 := heap_setCell_same _ b 2 _ _ (.int .i64 c'.n) h1
 have h3 := heap_setCell_same _ b 3 _ _ (.int .i64 c'.t) h2
 have h4 := heap_setCell_same _ b 4 _ _ (.int .i64 c'.s) h3
 exact h4
theorem fillC_below {w0 : World} (h : Below B w0 w) (hb : B ≤ b) (c : Cf) : Below B w0 (fillC c b w) :=
 ((((h.setCell (p := ⟨b, 0, none⟩) hb _).setCell (p := ⟨b, 1, none⟩) hb _).setCell (p := ⟨b, 2, none⟩) hb _).setCell (p := ⟨b, 3, none⟩) hb _).setCell (p := ⟨b, 4, none⟩) hb _
theorem CfB.cells (h : CfB c b w) : w.cell? ⟨b, 0, none⟩ = some (.int .i64 c.id) ∧ w.cell? ⟨b, 1, none⟩ = some (.int .i64 c.k) ∧ w.cell? ⟨b, 2, none⟩ = some (.int .i64 c.n) ∧ w.cell? ⟨b, 3, none⟩ = some (.int .i64 c.t) ∧ w.cell? ⟨b, 4, none⟩ = some (.int .i64 c.s) :=
 ⟨h.cell 0, h.cell 1, h.cell 2, h.cell 3, h.cell 4⟩
theorem CfB.free (h : CfB c b w) : w.frozen? ⟨b, 0, none⟩ = false ∧ w.frozen? ⟨b, 1, none⟩ = false ∧ w.frozen? ⟨b, 2, none⟩ = false ∧ w.frozen? ⟨b, 3, none⟩ = false ∧ w.frozen? ⟨b, 4, none⟩ = false :=
 ⟨frozen_of_row w b 0 _ _ h, frozen_of_row w b 1 _ _ h, frozen_of_row w b 2 _ _ h, frozen_of_row w b 3 _ _ h, frozen_of_row w b 4 _ _ h⟩
def RelSB (c : Cf) (n : Nat) (i : Int) (w : World) (t : Value) (wr : World) : Prop :=
 ∃ k : Nat, k ≤ 4 ∧ t = .int .i64 k ∧ FrB (supQ n i k) (w.heap.size + 2) wr ∧ ZIn (w.heap.size + 1) wr ∧ CfB c w.heap.size wr ∧ Below w.heap.size w wr
theorem supQ_is (n : Nat) (i : Int) {k : Nat} (h : k ≤ 108) : (supQ n i k).is := by
 show (supP n k).length = 108
 unfold supP; simp [le_length]; omega
theorem superblock_any (c : Cf) (i : Int) (w : World) (h : CfRight c) : Calls Tryz.prog 92 #[.agg (cfA c), .int .i64 i] w (FrOut (supF c i) w) := by
 obtain ⟨id, k, n, t, s⟩ := c
 obtain ⟨a1, a2, a3, a4, a5, a6, a7, a8, a9⟩ := h
 simp only at a1 a2 a3 a4 a5 a6 a7 a8 a9
 obtain ⟨id, rfl⟩ := Int.eq_ofNat_of_zero_le (show 0 ≤ id by omega)
 obtain ⟨k, rfl⟩ := Int.eq_ofNat_of_zero_le (show 0 ≤ k by omega)
 obtain ⟨n, rfl⟩ := Int.eq_ofNat_of_zero_le (show 0 ≤ n by omega)
 obtain ⟨t, rfl⟩ := Int.eq_ofNat_of_zero_le (show 0 ≤ t by omega)
 obtain ⟨s, rfl⟩ := Int.eq_ofNat_of_zero_le (show 0 ≤ s by omega)
 have hz := szFr_run
 have hz0 := zero_frame
 have hc : (Value.agg (frA zeroF)).cells = frA zeroF := rfl
 have hsz : (frC zeroF).length = szFr := frC_length zeroF_is
 have h0 := supQ_is id i (Nat.zero_le 108)
 have hbd : ((((frC zeroF).set 0 (.int .i64 1)).set 1 (.int .i64 i)).set 3 (.int .i64 1)) = frC (supQ id i 0) := rfl
 have hst0 : (storeCells ⟨w.heap.size + 1 + 1, 0, none⟩ (frC (supQ id i 0)) 0).run Tryz.prog (((w.alloc (.cells (cfA ⟨id, k, n, t, s⟩) 24)).alloc (.cells (frA zeroF) 151)).alloc (.cells (frA zeroF) 151)) = .ok () (((w.alloc (.cells (cfA ⟨id, k, n, t, s⟩) 24)).alloc (.cells (frA zeroF) 151)).alloc (.cells (frA (supQ id i 0)) 151)) := by
  have := storeCells_frame zeroF_is h0 ((w.alloc (.cells (cfA ⟨id, k, n, t, s⟩) 24)).alloc (.cells (frA zeroF) 151))
  simpa using this
 have HB0 := hI (show RelSB ⟨id, k, n, t, s⟩ id i w (.int .i64 0) (((w.alloc (.cells (cfA ⟨id, k, n, t, s⟩) 24)).alloc (.cells (frA zeroF) 151)).alloc (.cells (frA (supQ id i 0)) 151)) from by
  refine ⟨0, by omega, rfl, ?_, ?_, ?_, balloc (balloc (one_below _ _) _) _⟩
  ·have := frB_new ((w.alloc (.cells (cfA ⟨id, k, n, t, s⟩) 24)).alloc (.cells (frA zeroF) 151)) _ h0
   simpa using this
  ·have := (zin_new (w.alloc (.cells (cfA ⟨id, k, n, t, s⟩) 24))).below (B := w.heap.size + 2) (by simp) (Below.refl _ _)
   refine (show ZIn (w.heap.size + 1) _ by simpa using this).below (B := w.heap.size + 2) (by omega) ?_; exact (one_below _ _).mono (by simp)
  ·exact (show CfB _ w.heap.size (w.alloc (.cells (cfA ⟨id, k, n, t, s⟩) 24)) from heap_alloc_new w _).below (B := w.heap.size + 1) (by omega) ((balloc (one_below _ _) _).mono (by simp)))
 clear h0
 go_enter Tryz.func92, Tryz.ntmps92
 go_wp2_with fail
 go_loopw [9] (fun x wr => RelSB ⟨id, k, n, t, s⟩ id i w x wr) (fun x _ => 4 - (intOf x).toNat)
 case atStart => exact HB0.out
 case round =>
  obtain ⟨j, hj, rfl, hf, hzz, hcc, hb⟩ := hrel
  by_cases hlt : j < 4
  ·have e0 := hcc.cell 0
   have e1 := hf.byte (k := j) (by omega); have e2 := hf.free (4 + j)
   have HN := hI (fun (v : Int) (hv : v = (id : Int) / 2 ^ (8 * j) % 256) => (show RelSB ⟨id, k, n, t, s⟩ id i w (.int .i64 ((j : Int) + 1)) (wr.setCell ⟨w.heap.size + 2, 4 + j, none⟩ (.int .u8 v)) from by
    subst hv; rw [sup_byte]; have hn := hf.set j (UInt8.ofNat (id / 2 ^ (8 * j)))
    have eq : Fr.setD (supQ id i j) j (UInt8.ofNat (id / 2 ^ (8 * j))) = supQ id i (j + 1) := by
     show (⟨1, i, 0, 1, (supP id j).set j _⟩ : Fr) = ⟨1, i, 0, 1, supP id (j + 1)⟩
     rw [supP_next id (by omega)]
    rw [eq] at hn
    exact ⟨j + 1, by omega, by go_num, hn, hzz.below (B := w.heap.size + 2) (by omega) ((Below.refl (w.heap.size + 2) wr).setCell (Nat.le_refl _) _), hcc.below (B := w.heap.size + 2) (by omega) ((Below.refl (w.heap.size + 2) wr).setCell (Nat.le_refl _) _), hb.setCell (Nat.le_add_right _ _) _⟩))
   generalize ((supQ id i j).d.getD j 0).toNat = y at *; clear hf hzz hcc hb; go_wp2_with fail
   go_roundw
   case rel => exact HN.out _ rfl
   case measure => simp [intOf]; omega
  ·obtain rfl : j = 4 := by omega
   have e1 := hcc.cell 1; have e2 := hcc.cell 2; have e3 := hcc.cell 3; have e4 := hcc.cell 4; have s1 := hf.set 4 (UInt8.ofNat k); have s2 := s1.set 5 (UInt8.ofNat n); have s3 := s2.set 6 (UInt8.ofNat t); have s4 := s3.set 7 (UInt8.ofNat s)
   have eq : Fr.setD (Fr.setD (Fr.setD (Fr.setD (supQ id i 4) 4 (UInt8.ofNat k)) 5 (UInt8.ofNat n)) 6 (UInt8.ofNat t)) 7 (UInt8.ofNat s) = supF ⟨id, k, n, t, s⟩ i := by
    show (⟨1, i, 0, 1, ((((supP id 4).set 4 _).set 5 _).set 6 _).set 7 _⟩ : Fr) = _
    rw [supP_done]
    rfl
   rw [eq] at s4
   have nb : ∀ x : Nat, x ≤ 64 → ((UInt8.ofNat x).toNat : Int) = (x : Int) := fun x hx => by rw [ofNat_toNat]; omega
   rw [nb k (by omega), nb n (by omega), nb t (by omega), nb s (by omega)] at s4; simp only [Nat.reduceAdd] at s4
   have hbl : Below (w.heap.size + 2) wr ((((wr.setCell ⟨w.heap.size + 2, 8, none⟩ (.int .u8 (k : Int))).setCell ⟨w.heap.size + 2, 9, none⟩ (.int .u8 (n : Int))).setCell ⟨w.heap.size + 2, 10, none⟩ (.int .u8 (t : Int))).setCell ⟨w.heap.size + 2, 11, none⟩ (.int .u8 (s : Int))) :=
    ((((Below.refl (w.heap.size + 2) wr).setCell (p := ⟨w.heap.size + 2, 8, none⟩) (Nat.le_refl _) _).setCell (p := ⟨w.heap.size + 2, 9, none⟩) (Nat.le_refl _) _).setCell (p := ⟨w.heap.size + 2, 10, none⟩) (Nat.le_refl _) _).setCell (p := ⟨w.heap.size + 2, 11, none⟩) (Nat.le_refl _) _
   have hzW := hzz.below (by omega) hbl; have HFI := hI (supF_is ⟨id, k, n, t, s⟩ i); have hl1 := s4.fin.load; have hs1 := hzW.store _ HFI.out; have HL2 := hI (hzW.load _ HFI.out); have HBE := hI (setRow_below (hb.trans (hbl.mono (Nat.le_add_right _ _))) (Nat.le_succ w.heap.size) (frA (supF ⟨id, k, n, t, s⟩ i))); have hcF : (Value.agg (frA (supF ⟨id, k, n, t, s⟩ i))).cells = frA (supF ⟨id, k, n, t, s⟩ i) := rfl; have hsF : (frC (supF ⟨id, k, n, t, s⟩ i)).length = szFr := frC_length HFI.out; have z0 := hf.free 8; have z1 := hf.free 9; have z2 := hf.free 10; have z3 := hf.free 11; have b0 := hf.byte (k := 4) (by omega); have b1 := hf.byte (k := 5) (by omega); have b2 := hf.byte (k := 6) (by omega); have b3 := hf.byte (k := 7) (by omega); simp only [Nat.reduceAdd] at b0 b1 b2 b3; generalize ((supQ id i 4).d.getD 4 0).toNat = y0 at *; generalize ((supQ id i 4).d.getD 5 0).toNat = y1 at *; generalize ((supQ id i 4).d.getD 6 0).toNat = y2 at *; generalize ((supQ id i 4).d.getD 7 0).toNat = y3 at *; clear s1 s2 s3 s4 hf hzz hcc hb hbd hst0 hbl hzW eq nb; generalize supF ⟨id, k, n, t, s⟩ i = F at *; go_wp2_with fail; have hl2 := HL2.out; exact bodyPost_ret (v := .agg (frA F)) (by simp [results, Tryz.results92, go_sem, hz, hl2]) rfl ⟨rfl, HBE.out⟩
theorem rotL_turn {b : Sec} (hb : b.length = 128) (a x : Nat) : ∀ k, a + k ≤ 128 → rotL b a x k = turnL b a x k
 | 0, _ => rotL_zero hb a x
 | k + 1, h => by
  have ih := rotL_turn hb a x k (by omega); have hl := rotL_at (b := b) (a := a) (x := x) (k := k) (by omega); refine bytesV_inj ?_; rw [← rotL_set]
  show _ = bytesV ((turnL b a x k).set (a + k) _)
  rw [← ih, show ∀ (l : List UInt8) (k : Nat) (x : UInt8), bytesV (l.set k x) = (bytesV l).set k (.int .u8 (x.toNat : Int)) from fun l k x => by simp [bytesV, List.map_set]]; rw [UInt8.toNat_xor, hl, ofNat_toNat]
def cntN (p : Nat → Bool) : Nat → Nat
 | 0 => 0
 | m + 1 => if p m = true then cntN p m + 1 else cntN p m
theorem cntN_congr {p r : Nat → Bool} : ∀ {m : Nat}, (∀ j, j < m → p j = r j) → cntN p m = cntN r m
 | 0, _ => rfl
 | m + 1, h => by
  unfold cntN; rw [h m (by omega), cntN_congr (m := m) fun j hj => h j (by omega)]
theorem fnd_all {q : Rk} {c : Cf} : ∀ {m : Nat}, (∀ j : Nat, j < m → cfHas q j = true → cfOf q j = c) →
  fnd q m = if cntN (fun j => cfHas q j) m = 0 then (zeroC, 0) else (c, cntN (fun j => cfHas q j) m)
 | 0, _ => rfl
 | m + 1, h => by
  have ih := fnd_all (q := q) (c := c) (m := m) fun j hj => h j (by omega)
  cases hh : cfHas q m with
  | false =>
   have e : cntN (fun j => cfHas q j) (m + 1) = cntN (fun j => cfHas q j) m := by
    exact if_neg (by show ¬ cfHas q m = true; rw [hh]; decide)
   rw [fnd_no hh, ih, e]
  | true =>
   have e : cntN (fun j => cfHas q j) (m + 1) = cntN (fun j => cfHas q j) m + 1 := by
    show (if _ then _ else _) = _
    rw [if_pos hh]
   have ho := h m (by omega) hh; rw [e, if_neg (by omega)]
   by_cases h0 : cntN (fun j => cfHas q j) m = 0
   ·rw [if_pos h0] at ih
    rw [fnd_yes hh (by rw [ih]), ho, h0]
   ·rw [if_neg h0] at ih
    rw [fnd_same hh (by rw [ih]; exact h0) (by rw [ih]; exact ho), ih]
end Go.Proofs.YtilljaneegbhlaaGreatDoor
