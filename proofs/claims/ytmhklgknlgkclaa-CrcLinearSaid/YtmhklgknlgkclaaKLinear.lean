/-
  stavelaw5.CrcLinear: the walk.
-/
import Derived.Test.YtmhklgknlgkclaaCTab
import Derived.Test.YtmhklgknlgkclaaKTells
namespace Go.Proofs.Ytmhklgknlgkclaa
open Go.RowKit
open Crc hiding tab
theorem run_min_4 {P : Program} (w : World) (ts : Array TypeId) (t : TypeId) (a b c d n : Nat) (h : n = min (min (min a b) c) d) :
    (Builtin.min_ ts t #[.int .i64 (a : Int), .int .i64 (b : Int), .int .i64 (c : Int), .int .i64 (d : Int)]).run P w = .ok (.int .i64 (n : Int)) w := by
  have e : (n : Int) = if (d : Int) < (if (c : Int) < (if (b : Int) < a then (b : Int) else a) then (c : Int) else (if (b : Int) < a then (b : Int) else a)) then (d : Int) else (if (c : Int) < (if (b : Int) < a then (b : Int) else a) then (c : Int) else (if (b : Int) < a then (b : Int) else a)) := by
    repeat' split
    all_goals omega
  rw [e]
  simp [Builtin.min_, Builtin.min2]
def xor3 (a b c : List UInt8) (i : Nat) : Nat := (a.getD i 0).toNat ^^^ (b.getD i 0).toNat ^^^ (c.getD i 0).toNat
def rowX (a b c : List UInt8) (n j : Nat) : List UInt8 := tab n fun i => if i < j then xor3 a b c i else 0
theorem xor3_lt (a b c : List UInt8) (i : Nat) : xor3 a b c i < 256 := by
  unfold xor3
  have h1 : (a.getD i 0).toNat < 2 ^ 8 := u8_lt _
  have h2 : (b.getD i 0).toNat < 2 ^ 8 := u8_lt _
  have h3 : (c.getD i 0).toNat < 2 ^ 8 := u8_lt _
  exact Nat.xor_lt_two_pow (Nat.xor_lt_two_pow h1 h2) h3
theorem xorL_getD : ∀ (a b : List UInt8) (i : Nat), a.length = b.length → (xorL a b).getD i 0 = a.getD i 0 ^^^ b.getD i 0
  | [], [], i, _ => by simp [xorL]
  | a :: l, b :: m, 0, _ => rfl
  | a :: l, b :: m, i + 1, h => by
    have := xorL_getD l m i (by simpa using h)
    simpa [xorL] using this
  | [], _ :: _, _, h => by simp at h
  | _ :: _, [], _, h => by simp at h
theorem getD_take {l : List UInt8} {n i : Nat} (h : i < n) : (l.take n).getD i 0 = l.getD i 0 := by simp [List.getD, h]
theorem rowX_all {a b c : List UInt8} {n : Nat} (ha : n ≤ a.length) (hb : n ≤ b.length) (hc : n ≤ c.length) : rowX a b c n n = xorL (xorL (a.take n) (b.take n)) (c.take n) := by
  have l1 : (a.take n).length = n := by rw [List.length_take]; omega
  have l2 : (b.take n).length = n := by rw [List.length_take]; omega
  have l3 : (c.take n).length = n := by rw [List.length_take]; omega
  have h1 := xorL_length (a.take n) (b.take n) (by omega)
  have h2 := xorL_length (xorL (a.take n) (b.take n)) (c.take n) (by omega)
  refine (tab_eq (by omega) fun i hi => ?_).symm
  rw [if_pos hi, xorL_getD _ _ _ (by omega), xorL_getD _ _ _ (by omega), UInt8.toNat_xor, UInt8.toNat_xor, getD_take hi, getD_take hi, getD_take hi]; rfl
theorem rowX_0 (a b c : List UInt8) (n : Nat) : rowX a b c n 0 = zeros n := by
  rw [zeros_tab]; exact tab_congr fun i _ => if_neg (by omega)
theorem row_src {w : World} {B n : Nat} {v : Value} {l : List UInt8} (h : w.ownsRow B 5 1 v n (bytesV l)) (hn : n = l.length) : SlB w.heap.size w v l := by subst hn; exact slb_own h
def RelX (w1 : World) (a b c : List UInt8) (n : Nat) (i : Value) (wr : World) : Prop :=
  ∃ j : Nat, j ≤ n ∧ i = .int .i64 j ∧ wr.ownsRow w1.heap.size 5 1 (.slice (some ⟨w1.heap.size, 0, none⟩) n n) n (bytesV (rowX a b c n j)) ∧ Below w1.heap.size w1 wr
theorem relX_next {w1 wr : World} {a b c : List UInt8} {n j : Nat} (hj : j < n) (ho : wr.ownsRow w1.heap.size 5 1 (.slice (some ⟨w1.heap.size, 0, none⟩) n n) n (bytesV (rowX a b c n j))) (hb : Below w1.heap.size w1 wr) (d : Nat) :
    RelX w1 a b c n (.int .i64 ((j : Int) + 1)) ((wr.setCell ⟨w1.heap.size, j, none⟩ (.int .u8 (xor3 a b c j))).drewN d) := by
  refine ⟨j + 1, by omega, by go_num, ?_, below_drewN (hb.setCell (Nat.le_refl _) _) d⟩
  have h := own_set ho j (.int .u8 (xor3 a b c j))
  rwa [show (bytesV (rowX a b c n j)).set j (.int .u8 (xor3 a b c j)) = bytesV (rowX a b c n (j + 1)) from tab_set (xor3_lt _ _ _ _) (fun i _ hne => by
    by_cases e : i < j
    · rw [if_pos (by omega), if_pos e]
    · rw [if_neg (by omega), if_neg e]) (by rw [if_pos (by omega)])] at h
set_option maxHeartbeats 1000000 in
set_option maxRecDepth 100000 in
theorem linear_any (v u t : Value) (l m p : List UInt8) (w : World) (h : SlB w.heap.size w v l) (hu : SlB w.heap.size w u m) (ht : SlB w.heap.size w t p) (_hl : l.length ≤ maxLen) (_hm : m.length ≤ maxLen) (_hp : p.length ≤ maxLen) :
    Calls Try.prog 6 #[v, u, t] w (Bit true w) := by
  obtain ⟨a1, cap1, rfl, hcap1⟩ := h.len
  obtain ⟨a2, cap2, rfl, hcap2⟩ := hu.len
  obtain ⟨a3, cap3, rfl, hcap3⟩ := ht.len
  have H1 := Lib.hid h
  have H2 := Lib.hid hu
  have H3 := Lib.hid ht
  clear h hu ht
  go_enter Try.func6, Try.ntmps6
  go_wp2_with fail
  go_at_call 9
  refine (make_any _).mono ?_
  rintro e w1 ⟨rfl, hT, hz, hb⟩
  have HT := Lib.hid hT
  have HB := Lib.hid hb
  have hz1 : w.heap.size < w1.heap.size := by omega
  obtain ⟨n, hn⟩ : ∃ n, n = min (min (min l.length m.length) p.length) 60 := ⟨_, rfl⟩
  have hmin : (Builtin.min_ #[3, 3, 3, 3] 3 #[.int .i64 l.length, .int .i64 m.length, .int .i64 p.length, .int .i64 60]).run Try.prog w1 = .ok (.int .i64 n) w1 := run_min_4 w1 _ _ l.length m.length p.length 60 n hn
  have n1 : n ≤ l.length := by omega
  have n2 : n ≤ m.length := by omega
  have n3 : n ≤ p.length := by omega
  have n4 : n ≤ 60 := by omega
  clear hn hT hz
  have S1 := Lib.hid (H1.out.below hb)
  have S2 := Lib.hid (H2.out.below hb)
  have S3 := Lib.hid (H3.out.below hb)
  have hmk := make_u8 n (by omega) w1
  clear hb
  go_wp2_with fail
  have HMO := Lib.hid (made_own w1 w1.heap.size n (Nat.le_refl _) (by omega))
  go_loopw [25] (fun i wr => RelX w1 l m p n i wr) (fun i _ => n - (intOf i).toNat)
  case atStart => exact ⟨0, by omega, rfl, by rw [rowX_0]; exact HMO.out, one_below _ _⟩
  case round =>
    obtain ⟨j, hj, rfl, hown, hb⟩ := hrel
    have HO := Lib.hid hown
    have HBr := Lib.hid hb
    clear hmk hmin
    by_cases hlt : j < n
    · obtain ⟨b1, o1, q1, e1, d1⟩ := slb_now (S1.out.below (hb.mono (by omega))) (k := j) (by omega)
      obtain ⟨b2, o2, q2, e2, d2⟩ := slb_now (S2.out.below (hb.mono (by omega))) (k := j) (by omega)
      obtain ⟨b3, o3, q3, e3, d3⟩ := slb_now (S3.out.below (hb.mono (by omega))) (k := j) (by omega)
      injection e1 with e1 _ e1'
      injection e2 with e2 _ e2'
      injection e3 with e3 _ e3'
      subst e1 e1' e2 e2' e3 e3'
      have d4 := own_cell hown (bytesV_at (i := j) (by unfold rowX; rw [tab_length]; exact hlt))
      have d5 := own_frozen hown j
      have HN := Lib.hid (relX_next hlt HO.out HBr.out)
      have y1 := u8_lt (l.getD j 0)
      have y2 := u8_lt (m.getD j 0)
      have y3 := u8_lt (p.getD j 0)
      have y12 : (l.getD j 0).toNat ^^^ (m.getD j 0).toNat < 2 ^ 8 := Nat.xor_lt_two_pow y1 y2
      have x1 := u8_xor_nat _ _ y1 y2
      have x2 := u8_xor_nat _ _ y12 y3
      rw [show (l.getD j 0).toNat ^^^ (m.getD j 0).toNat ^^^ (p.getD j 0).toNat = xor3 l m p j from rfl] at x2
      generalize xor3 l m p j = z at *
      generalize (l.getD j 0).toNat = za at *
      generalize (m.getD j 0).toNat = zb at *
      generalize (p.getD j 0).toNat = zc at *
      generalize za ^^^ zb = zab at *
      generalize ((rowX l m p n j).getD j 0).toNat = zd at *
      have i1 : (j : Int) < l.length := by omega
      have i2 : (j : Int) < m.length := by omega
      have i3 : (j : Int) < p.length := by omega
      have i4 : (j : Int) < n := by omega
      clear hown hb
      go_wp2_with fail
      go_region
      all_goals
        go_wp2_with fail
        go_roundw
        case rel => exact HN.out 1
        case measure => simp [intOf]; omega
    · obtain rfl : j = n := by omega
      have HAL := Lib.hid (rowX_all n1 n2 n3)
      have hz6 := hb.size
      have hrl : (rowX l m p j j).length = j := by unfold rowX; rw [tab_length]
      have HX := Lib.hid (show SlB wr.heap.size wr (.slice (some ⟨w1.heap.size, 0, none⟩) j j) (rowX l m p j j) from row_src hown hrl.symm)
      have HTX := Lib.hid (show TableIn wr w.heap.size from fun i hi => by rw [hb.cell (show w.heap.size < _ by omega)]; exact HT.out i hi)
      have HBX := Lib.hid (HB.out.trans (hb.mono (by omega)))
      have C1 := Lib.hid (fun W' (hk : KW wr W') => keeps_u32 (sum_any w.heap.size w.heap.size _ (l.take j) W' (HTX.out.below (by omega) hk) ((slb_take (S1.out.below (hb.mono (by omega))) n1).below (hk.mono (by omega))) (by rw [List.length_take]; omega)) hk)
      have C2 := Lib.hid (fun W' (hk : KW wr W') => keeps_u32 (sum_any w.heap.size w.heap.size _ (m.take j) W' (HTX.out.below (by omega) hk) ((slb_take (S2.out.below (hb.mono (by omega))) n2).below (hk.mono (by omega))) (by rw [List.length_take]; omega)) hk)
      have C3 := Lib.hid (fun W' (hk : KW wr W') => keeps_u32 (sum_any w.heap.size w.heap.size _ (p.take j) W' (HTX.out.below (by omega) hk) ((slb_take (S3.out.below (hb.mono (by omega))) n3).below (hk.mono (by omega))) (by rw [List.length_take]; omega)) hk)
      have C4 := Lib.hid (fun W' (hk : KW wr W') => keeps_u32 (sum_any wr.heap.size w.heap.size _ (rowX l m p j j) W' (HTX.out.below (by omega) hk) (HX.out.below hk) (by omega)) hk)
      have C5 := Lib.hid (fun W' (hk : KW wr W') => keeps_bit (runs_any W') hk)
      have hs3 := sum_three (l.take j) (m.take j) (p.take j) (by rw [List.length_take, List.length_take]; omega) (by rw [List.length_take, List.length_take]; omega)
      rw [← HAL.out] at hs3
      have s1 := sum_lt (l.take j)
      have s2 := sum_lt (m.take j)
      have s3 := sum_lt (p.take j)
      have s12 : sum (l.take j) ^^^ sum (m.take j) < 2 ^ 32 := Nat.xor_lt_two_pow s1 s2
      have x1 := u32_xor_nat _ _ s1 s2
      have x2 := u32_xor_nat _ _ s12 s3
      rw [hs3] at x2
      have hk0 : KW wr wr := Below.refl _ _
      generalize sum (l.take j) = t1 at *
      generalize sum (m.take j) = t2 at *
      generalize sum (p.take j) = t3 at *
      generalize sum (rowX l m p j j) = t4 at *
      generalize t1 ^^^ t2 = t12 at *
      have i1 : (j : Int) ≤ cap1 := by omega
      have i2 : (j : Int) ≤ cap2 := by omega
      have i3 : (j : Int) ≤ cap3 := by omega
      have i4 : (0 : Int) ≤ j := by omega
      clear hown hb hrl hs3
      go_wp2_with fail
      go_region_held3 (fun w' => KW wr w') (repeat (first | assumption | refine KW.drew ?_)) (first | ((with_reducible refine (C1.out _ ?_).mono ?_); (repeat (first | assumption | refine KW.drew ?_)); rintro e w' ⟨rfl, hk⟩) | ((with_reducible refine (C2.out _ ?_).mono ?_); (repeat (first | assumption | refine KW.drew ?_)); rintro e w' ⟨rfl, hk⟩) | ((with_reducible refine (C3.out _ ?_).mono ?_); (repeat (first | assumption | refine KW.drew ?_)); rintro e w' ⟨rfl, hk⟩) | ((with_reducible refine (C4.out _ ?_).mono ?_); (repeat (first | assumption | refine KW.drew ?_)); rintro e w' ⟨rfl, hk⟩) | ((with_reducible refine (C5.out _ ?_).mono ?_); (repeat (first | assumption | refine KW.drew ?_)); rintro e w' ⟨rfl, hk⟩))
      all_goals
        go_wp2_with fail
        go_ret
        exact bit rfl (bthen HBX.out (show Below wr.heap.size wr _ from by (repeat (first | assumption | refine KW.drew ?_))))
end Go.Proofs.Ytmhklgknlgkclaa
