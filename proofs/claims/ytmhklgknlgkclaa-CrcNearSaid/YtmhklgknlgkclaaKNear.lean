/-
  stavelaw5.CrcNear: the walk.
-/
import Derived.Test.YtmhklgknlgkclaaKTurnL
import Derived.Test.YtmhklgknlgkclaaWithinI
namespace Go.Proofs.Ytmhklgknlgkclaa
open Go.RowKit Crc
theorem grew_own' {B n : Nat} {w2 wl w3 : World} {v : Value} {xs : List Value} {r : Option Nat} (hl : Below w2.heap.size w2 wl) (hg : Grew wl v.ownBlock w3 r) (ho : w2.ownsRow B 5 1 v n xs) (hb : B ≤ w2.heap.size) : Below B w2 w3 :=
  (hl.mono hb).trans (hg.below (Nat.le_trans hb hl.size) fun _ hk => (own_block ho hk).1)
theorem near_src {w : World} {B n : Nat} {v : Value} {l : List UInt8} (h : w.ownsRow B 5 1 v n (bytesV l)) (hn : n = l.length) : SlB w.heap.size w v l := by subst hn; exact slb_own h
set_option maxHeartbeats 1000000 in
set_option maxRecDepth 100000 in
theorem near_any (v u : Value) (l m : List UInt8) (n : Int) (x : Nat) (w : World) (h : SlB w.heap.size w v l) (hu : SlB w.heap.size w u m) (_hl : l.length ≤ maxLen) (_hm : m.length ≤ maxLen) (hx : x < 4294967296) :
    Calls Try.prog 8 #[v, .int .i64 n, .int .u32 x, u] w (Bit true w) := by
  obtain ⟨a, cap, rfl, hcap⟩ := h.len
  obtain ⟨a', cap', rfl, hcap'⟩ := hu.len
  have H := Lib.hid (slb_take (m := min l.length 80) h (by omega))
  have H' := Lib.hid (slb_take (m := min m.length 40) hu (by omega))
  have hm1 : (if (80 : Int) < l.length then 80 else (l.length : Int)) = ((min l.length 80 : Nat) : Int) := by split <;> omega
  have hm2 : (if (40 : Int) < m.length then 40 else (m.length : Int)) = ((min m.length 40 : Nat) : Int) := by split <;> omega
  have hlt1 : (l.take (min l.length 80)).length = min l.length 80 := by rw [List.length_take]; omega
  have hlt2 : (m.take (min m.length 40)).length = min m.length 40 := by rw [List.length_take]; omega
  have k1 : min l.length 80 ≤ 80 := by omega
  have k2 : min l.length 80 ≤ cap := by omega
  have k3 : min m.length 40 ≤ 40 := by omega
  have k4 : min m.length 40 ≤ cap' := by omega
  clear h hu hcap hcap'
  generalize l.take (min l.length 80) = bs at *
  generalize m.take (min m.length 40) = ms at *
  generalize min l.length 80 = ml at *
  generalize min m.length 40 = mm at *
  subst hlt1 hlt2
  go_enter Try.func8, Try.ntmps8
  go_wp2_with fail
  go_at_call 9
  refine (make_any _).mono ?_
  rintro e w1 ⟨rfl, hT, hz, hb⟩
  have HT := Lib.hid hT
  have HB := Lib.hid hb
  have hz1 : w.heap.size < w1.heap.size := by omega
  have HS := Lib.hid (H.out.below hb)
  have HS' := Lib.hid (H'.out.below hb)
  clear hT hz hb
  have HLIT := Lib.hid (show (#[.int .u8 1, .int .u8 2, .int .u8 3, .int .u8 4] : Array Value).toList = bytesV [1, 2, 3, 4] from rfl)
  go_wp2_with (first
    | (at_builtin; refine wpList_append_bytes (o := ⟨some 23, _, _, _, _, _⟩) _ rfl (.tmp 17) (.tmp 22) rfl w1.heap.size _ _ _ rfl (own_new w1 w1.heap.size #[] 5 1 0 (Nat.le_refl _) rfl (by decide)) _ _ bs rfl (HS.out.below ((Below.refl _ _).alloc (by omega) _)) (by omega) (by simp) ?_; intro v2 w2 hown hg; have Ho := Lib.hid (own_plain hown); obtain ⟨g2, c2, rfl, hc2⟩ := own_slice Ho.out; have Hb2 := Lib.hid (grew_new HB.out hg); have hz2 := Hb2.out.2.size; clear hown hg)
    | (at_builtin; refine wpList_append_bytes (o := ⟨some 26, _, _, _, _, _⟩) _ rfl (.tmp 24) (.tmp 25) rfl w1.heap.size _ _ _ rfl (own_below Ho.out (one_below _ _)) (w2.heap.size + 1) _ [1, 2, 3, 4] rfl (lit_slb [1, 2, 3, 4] rfl HLIT.out) (by simp; omega) (by simp; omega) ?_; intro v3 w3 hown hg; rw [show [(1 : UInt8), 2, 3, 4].length = 4 from rfl, ← bytesV_append] at hown; obtain ⟨g3, c3, rfl, hc3⟩ := own_slice hown; have Ho3 := Lib.hid hown; have Hb3 := Lib.hid (grew_own (one_below w2 _) hg Ho.out hz2); have hz3 := Hb3.out.size; clear hown hg)
    | (at_builtin; refine wpList_append_bytes (o := ⟨some 33, _, _, _, _, _⟩) _ rfl (.tmp 27) (.tmp 32) rfl w1.heap.size _ _ _ rfl Ho3.out w.heap.size _ ms rfl (HS'.out.below ((Hb2.out.2.trans Hb3.out).mono (by omega))) (by omega) (by omega) ?_; intro v4 w4 hown hg; rw [← bytesV_append] at hown; obtain ⟨g4, c4, rfl, hc4⟩ := own_slice hown; have Ho4 := Lib.hid hown; have Hb4 := Lib.hid (grew_own' (Below.refl _ _) hg Ho3.out (Nat.le_trans hz2 hz3)); have hz4 := Hb4.out.size; have HLN := Lib.hid (show bs.length + 4 + ms.length = (bs ++ [1, 2, 3, 4] ++ ms).length by simp; omega); clear hown hg)
    | (at_builtin; refine wpList_append_bytes (o := ⟨some 36, _, _, _, _, _⟩) _ rfl (.tmp 34) (.tmp 35) rfl w4.heap.size _ _ _ rfl (own_new w4 w4.heap.size #[] 5 1 0 (Nat.le_refl _) rfl (by decide)) w4.heap.size _ (bs ++ [1, 2, 3, 4] ++ ms) rfl ((near_src Ho4.out HLN.out).below (one_below _ _)) (by rw [← HLN.out]; omega) (by simp) ?_; intro v5 w5 hown hg; rw [← HLN.out, Nat.zero_add, List.nil_append] at hown; obtain ⟨g5, c5, rfl, hc5⟩ := own_slice hown; have Ho5 := Lib.hid hown; have Hb5 := Lib.hid (grew_new (Below.refl w4.heap.size w4) hg); have hz5 := Hb5.out.2.size; clear hown hg))
  refine (within_int n 0 ((bs.length + 4 + ms.length : Nat) - 4 : Int) w5 (by omega) (by omega) (by omega)).mono ?_
  rintro e w' ⟨k, ⟨hk0, hk1⟩, rfl, rfl⟩
  obtain ⟨k, rfl⟩ := Int.eq_ofNat_of_zero_le hk0
  have hk : k ≤ bs.length + ms.length := by omega
  clear hk0 hk1
  go_wp2_with fail
  go_loopw [13] (fun i wr => RelT w4 (bs ++ [1, 2, 3, 4] ++ ms) k x (.slice g5 (bs.length + 4 + ms.length) c5) w5 i wr) (fun i _ => 4 - (intOf i).toNat)
  case atStart => exact ⟨0, by omega, rfl, by rw [turnL_length, ← HLN.out]; exact Ho5.out, Below.refl _ _⟩
  case round =>
    obtain ⟨j, hj, rfl, hown, hb⟩ := hrel
    rw [turnL_length, ← HLN.out] at hown
    have HO := Lib.hid hown
    have HBr := Lib.hid hb
    by_cases hlt : j < 4
    · obtain ⟨gb, rfl⟩ := own_addr hown (by omega)
      have hlen : k + j < (turnL (bs ++ [1, 2, 3, 4] ++ ms) k x j).length := by rw [turnL_length, ← HLN.out]; omega
      have c1 := own_cell hown (bytesV_at hlen)
      have c3 := own_frozen hown (k + j)
      have hy := u8_lt ((turnL (bs ++ [1, 2, 3, 4] ++ ms) k x j).getD (k + j) 0)
      have HN := Lib.hid (relT_next (L := bs ++ [1, 2, 3, 4] ++ ms) (k := k) (x := x) (j := j) (w1 := w4) (w3 := w5) hlt HO.out HBr.out)
      generalize (turnL (bs ++ [1, 2, 3, 4] ++ ms) k x j).getD (k + j) 0 = y at *
      clear hown hb hlen
      have hj4 : j = 0 ∨ j = 1 ∨ j = 2 ∨ j = 3 := by omega
      clear hj hlt
      rcases hj4 with rfl | rfl | rfl | rfl
      · simp only [Nat.add_zero] at c1 c3
        go_wp2_with fail
        go_region
        go_wp2_with fail
        go_roundw
        case rel => exact HN.out _ (by omega)
        case measure => simp [intOf]
      · go_wp2_with fail
        go_region
        go_wp2_with fail
        go_roundw
        case rel => exact HN.out _ (by omega)
        case measure => simp [intOf]
      · go_wp2_with fail
        go_region
        go_wp2_with fail
        go_roundw
        case rel => exact HN.out _ (by omega)
        case measure => simp [intOf]
      · go_wp2_with fail
        go_region
        go_wp2_with fail
        go_roundw
        case rel => exact HN.out _ (by omega)
        case measure => simp [intOf]
    · obtain rfl : j = 4 := by omega
      have HE := Lib.hid (turnL_spot (bs ++ [1, 2, 3, 4] ++ ms) k x (bs.length + ms.length - k) (by rw [← HLN.out]; omega))
      have HC := Lib.hid (near_src hown (show _ = (turnL (bs ++ [1, 2, 3, 4] ++ ms) k x 4).length by rw [turnL_length, ← HLN.out]))
      have hz6 := hb.size
      have HA := Lib.hid (((near_src Ho4.out HLN.out).below Hb5.out.2).below hb)
      have HBX := Lib.hid (((Hb2.out.1.trans (Hb3.out.mono (by omega))).trans (Hb4.out.mono (by omega))).trans ((Hb5.out.2.trans hb).mono (by omega)))
      have HTX := Lib.hid (show TableIn wr w.heap.size from fun i hi => by rw [hb.cell (show w.heap.size < _ by omega), Hb5.out.2.cell (show w.heap.size < _ by omega), Hb4.out.cell hz1, Hb3.out.cell hz1, Hb2.out.2.cell hz1]; exact HT.out i hi)
      have HIFF := Lib.hid (show sum (bs ++ [1, 2, 3, 4] ++ ms) = sum (turnL (bs ++ [1, 2, 3, 4] ++ ms) k x 4) ↔ x = 0 by rw [HE.out]; exact sum_near _ k x _ hx (by rw [← HLN.out]; omega))
      have HL1 := Lib.hid (show (bs ++ [1, 2, 3, 4] ++ ms).length ≤ 1000000 by rw [← HLN.out]; omega)
      have HL2 := Lib.hid (show (turnL (bs ++ [1, 2, 3, 4] ++ ms) k x 4).length ≤ 1000000 by rw [turnL_length, ← HLN.out]; omega)
      generalize turnL (bs ++ [1, 2, 3, 4] ++ ms) k x 4 = T at *
      generalize bs ++ [1, 2, 3, 4] ++ ms = L at *
      clear hown hb hj
      by_cases hx0 : x = 0
      · have hs1 := HIFF.out.2 hx0
        have HS1 := Lib.hid hs1.symm
        clear hs1
        subst hx0
        go_wp2_with fail
        refine (sum_any _ w.heap.size _ L _ HTX.out HA.out HL1.out).mono ?_
        rintro e w' ⟨rfl, rfl⟩
        go_wp2_with fail
        refine (sum_any _ w.heap.size _ T _ HTX.out HC.out HL2.out).mono ?_
        rw [HS1.out]
        rintro e w' ⟨rfl, rfl⟩
        generalize sum L = s1 at *
        go_wp2_with fail
        refine (runs_any _).mono ?_
        rintro e w7 ⟨rfl, hb7⟩
        go_wp2_with fail
        go_ret
        exact bit rfl (bthen HBX.out hb7)
      · have hs1 := fun e => hx0 (HIFF.out.1 e)
        have e1 : ((sum L : Int) == sum T) = false := by simp only [beq_eq_false_iff_ne]; intro e; exact hs1 (by omega)
        have e2 : ((x : Int) == 0) = false := by simp only [beq_eq_false_iff_ne]; omega
        clear hs1 hx0
        go_wp2_with fail
        refine (sum_any _ w.heap.size _ L _ HTX.out HA.out HL1.out).mono ?_
        rintro e w' ⟨rfl, rfl⟩
        go_wp2_with fail
        refine (sum_any _ w.heap.size _ T _ HTX.out HC.out HL2.out).mono ?_
        rintro e w' ⟨rfl, rfl⟩
        generalize sum L = s1 at *
        generalize sum T = s2 at *
        go_wp2_with fail
        refine (runs_any _).mono ?_
        rintro e w7 ⟨rfl, hb7⟩
        go_wp2_with fail
        go_ret
        exact bit rfl (bthen HBX.out hb7)
end Go.Proofs.Ytmhklgknlgkclaa
