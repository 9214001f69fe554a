/-
  stavelaw5.CrcTurned: the walk.
-/
import Derived.Test.YtmhklgknlgkclaaKTurnL
import Derived.Test.YtmhklgknlgkclaaWithinI
import Derived.Deep.RegionHeld3
namespace Go.Proofs.Ytmhklgknlgkclaa
open Go.RowKit Crc
set_option maxHeartbeats 1000000 in
set_option maxRecDepth 100000 in
theorem turned_any (v : Value) (l : List UInt8) (n : Int) (x : Nat) (w : World) (h : SlB w.heap.size w v l) (_hl : l.length ≤ maxLen) (hx : x < 4294967296) :
    Calls Try.prog 5 #[v, .int .i64 n, .int .u32 x] w (Bit true w) := by
  obtain ⟨a, cap, rfl, hcap⟩ := h.len
  have H := Lib.hid (slb_take (m := min l.length 124) h (by omega))
  have hm : (if (124 : Int) < l.length then 124 else (l.length : Int)) = ((min l.length 124 : Nat) : Int) := by split <;> omega
  have hlt : (l.take (min l.length 124)).length = min l.length 124 := by rw [List.length_take]; omega
  have hb200 : min l.length 124 ≤ 124 := by omega
  have hbc : min l.length 124 ≤ cap := by omega
  have hll : min l.length 124 ≤ l.length := by omega
  clear h hcap
  generalize l.take (min l.length 124) = bs at *
  generalize min l.length 124 = m at *
  subst hlt
  go_enter Try.func5, Try.ntmps5
  go_wp2_with fail
  go_at_call 9
  refine (make_any _).mono ?_
  rintro e w1 ⟨rfl, hT, hz, hb⟩
  have HT := Lib.hid hT
  have HB := Lib.hid hb
  have hz1 : w.heap.size < w1.heap.size := by omega
  have HS := Lib.hid (H.out.below hb)
  clear hT hz hb
  go_wp2_with (at_builtin; refine wpList_append_bytes _ rfl _ _ rfl w1.heap.size _ _ _ rfl (own_new w1 w1.heap.size #[] 5 1 0 (Nat.le_refl _) rfl (by decide)) _ _ bs rfl (HS.out.below ((Below.refl _ _).alloc (by omega) _)) (by omega) (by simp) ?_; intro v2 w2 hown hg; have Hown := Lib.hid hown; have Hg := Lib.hid hg; clear hown hg)
  have Ho := Lib.hid (own_plain Hown.out)
  have Hb2 := Lib.hid (grew_new HB.out Hg.out)
  have HT2 := Lib.hid (HT.out.below hz1 Hb2.out.2)
  go_at_call 10
  refine (sum_any w2.heap.size w.heap.size _ bs w2 HT2.out (slb_own Ho.out) (by omega)).mono ?_
  rintro e w' ⟨rfl, rfl⟩
  have hs := sum_lt bs
  obtain ⟨g2, c2, rfl, hc2⟩ := own_slice Ho.out
  have HLE := Lib.hid (le4_cells hs)
  generalize hg : sum bs = s at *
  have HSUM := Lib.hid hg
  clear hg
  go_wp2_with (at_builtin; refine wpList_append_bytes _ rfl (.tmp 27) (.tmp 39) rfl w1.heap.size _ _ _ rfl (own_below Ho.out (one_below _ _)) (w2.heap.size + 1) _ (le4 s) rfl (lit_slb (le4 s) rfl HLE.out) (by rw [le4_length]; omega) (by have := Hb2.out.2.size; simp; omega) ?_; intro v3 w3 hown hg; rw [le4_length, ← bytesV_append] at hown; obtain ⟨g3, c3, rfl, hc3⟩ := own_slice hown; have Hown3 := Lib.hid hown; have Hg3 := Lib.hid hg; clear hown hg)
  refine (within_int n 0 bs.length w3 (by omega) (by omega) (by omega)).mono ?_
  rintro e w' ⟨k, ⟨hk0, hk1⟩, rfl, rfl⟩
  obtain ⟨k, rfl⟩ := Int.eq_ofNat_of_zero_le hk0
  have hk : k ≤ bs.length := by omega
  go_wp2_with fail
  go_loopw [11] (fun i wr => RelT w1 (bs ++ le4 s) k x (.slice g3 (bs.length + 4) c3) w3 i wr) (fun i _ => 4 - (intOf i).toNat)
  case atStart => exact ⟨0, by omega, rfl, by rw [turnL_length, List.length_append, le4_length]; exact Hown3.out, Below.refl _ _⟩
  case round =>
    obtain ⟨j, hj, rfl, hown, hb⟩ := hrel
    rw [turnL_length, List.length_append, le4_length] at hown
    have HO := Lib.hid hown
    have HBr := Lib.hid hb
    by_cases hlt : j < 4
    · obtain ⟨gb, rfl⟩ := own_addr hown (by omega)
      have hlen : k + j < (turnL (bs ++ le4 s) k x j).length := by rw [turnL_length, List.length_append, le4_length]; omega
      have c1 := own_cell hown (bytesV_at hlen)
      have c3 := own_frozen hown (k + j)
      have hy := u8_lt ((turnL (bs ++ le4 s) k x j).getD (k + j) 0)
      have HN := Lib.hid (relT_next (L := bs ++ le4 s) (k := k) (x := x) (j := j) (w1 := w1) (w3 := w3) hlt HO.out HBr.out)
      generalize (turnL (bs ++ le4 s) k x j).getD (k + j) 0 = y at *
      clear hown hb hlen
      have hj4 : j = 0 ∨ j = 1 ∨ j = 2 ∨ j = 3 := by omega
      clear hj hlt
      rcases hj4 with rfl | rfl | rfl | rfl
      · simp only [Nat.add_zero] at c1 c3
        go_wp2_with fail
        go_region
        go_wp2_with fail
        go_roundw
        case rel => exact HN.out _ (by omega)
        case measure => simp [intOf]
      · go_wp2_with fail
        go_region
        go_wp2_with fail
        go_roundw
        case rel => exact HN.out _ (by omega)
        case measure => simp [intOf]
      · go_wp2_with fail
        go_region
        go_wp2_with fail
        go_roundw
        case rel => exact HN.out _ (by omega)
        case measure => simp [intOf]
      · go_wp2_with fail
        go_region
        go_wp2_with fail
        go_roundw
        case rel => exact HN.out _ (by omega)
        case measure => simp [intOf]
    · obtain rfl : j = 4 := by omega
      obtain ⟨gb, rfl⟩ := own_addr hown (by omega)
      have HE := Lib.hid (turnL_spot (bs ++ le4 s) k x (bs.length - k) (by rw [List.length_append, le4_length]; omega))
      have HL := Lib.hid (show (turnL (bs ++ le4 s) k x 4).length = bs.length + 4 by rw [turnL_length, List.length_append, le4_length])
      generalize turnL (bs ++ le4 s) k x 4 = T at *
      have c0 := own_cell hown (bytesV_at (l := T) (i := bs.length) (by rw [HL.out]; omega))
      have c1 := own_cell hown (bytesV_at (l := T) (i := bs.length + 1) (by rw [HL.out]; omega))
      have c2' := own_cell hown (bytesV_at (l := T) (i := bs.length + 2) (by rw [HL.out]; omega))
      have c3' := own_cell hown (bytesV_at (l := T) (i := bs.length + 3) (by rw [HL.out]; omega))
      have y0 := u8_lt (T.getD bs.length 0)
      have y1 := u8_lt (T.getD (bs.length + 1) 0)
      have y2 := u8_lt (T.getD (bs.length + 2) 0)
      have y3 := u8_lt (T.getD (bs.length + 3) 0)
      have hv : val4 (T.drop bs.length) = (T.getD bs.length 0).toNat + 256 * (T.getD (bs.length + 1) 0).toNat + 65536 * (T.getD (bs.length + 2) 0).toNat + 16777216 * (T.getD (bs.length + 3) 0).toNat := by unfold val4; simp [List.getD]
      have HV := Lib.hid hv
      generalize (T.getD bs.length 0).toNat = b0 at *
      generalize (T.getD (bs.length + 1) 0).toNat = b1 at *
      generalize (T.getD (bs.length + 2) 0).toNat = b2 at *
      generalize (T.getD (bs.length + 3) 0).toNat = b3 at *
      have hor := or4_nat y0 y1 y2 y3
      rw [← hv] at hor
      have hv4 := val4_lt (T.drop bs.length)
      have HSL : Hid (SlB wr.heap.size wr (.slice (some ⟨gb, 0, none⟩) bs.length c3) (T.take bs.length)) := Lib.hid (slb_take (l := T) (m := bs.length) (by rw [HL.out]; exact slb_own (B := w1.heap.size) (by rw [HL.out]; exact hown)) (by rw [HL.out]; omega))
      have HBX := Lib.hid ((Hb2.out.1.trans ((grew_own (one_below w2 _) Hg3.out Ho.out Hb2.out.2.size).mono (by omega))).trans (hb.mono (by omega)))
      have HTX := Lib.hid (show TableIn wr w.heap.size from fun i hi => by rw [hb.cell hz1, (grew_own (one_below w2 _) Hg3.out Ho.out Hb2.out.2.size).cell hz1]; exact HT2.out i hi)
      have HLT := Lib.hid (show (T.take bs.length).length ≤ 1000000 by rw [List.length_take]; omega)
      have HIFF := Lib.hid (show sum (T.take bs.length) = val4 (T.drop bs.length) ↔ x = 0 by rw [HE.out]; have := sum_turned bs k x hx hk; rw [HSUM.out] at this; exact this)
      generalize val4 (T.drop bs.length) = v at *
      generalize T.take bs.length = T1 at *
      clear hown hb hv hj
      by_cases hx0 : x = 0
      · have hs1 := HIFF.out.2 hx0
        have HS1 := Lib.hid hs1
        clear hs1
        subst hx0
        go_wp2_with fail
        go_quiet (fail)
        go_wp2_with fail
        refine (sum_any wr.heap.size w.heap.size _ T1 _ (HTX.out.drewN _) (HSL.out.mono fun _ _ _ => rfl) HLT.out).mono ?_
        rw [HS1.out]
        rintro e w' ⟨rfl, rfl⟩
        go_wp2_with fail
        refine (runs_any _).mono ?_
        rintro e w7 ⟨rfl, hb7⟩
        go_wp2_with fail
        go_ret
        exact bit rfl (bthen (below_drewN HBX.out _) hb7)
      · have hs1 := fun e => hx0 (HIFF.out.1 e)
        have e1 : ((sum T1 : Int) == v) = false := by simp only [beq_eq_false_iff_ne]; intro e; exact hs1 (by omega)
        have e2 : ((x : Int) == 0) = false := by simp only [beq_eq_false_iff_ne]; omega
        have hsl := sum_lt T1
        clear hs1 hx0
        generalize hg : sum T1 = s1 at *
        have HG := Lib.hid hg
        clear hg
        go_wp2_with fail
        go_quiet (fail)
        go_wp2_with fail
        refine (sum_any wr.heap.size w.heap.size _ T1 _ (HTX.out.drewN _) (HSL.out.mono fun _ _ _ => rfl) HLT.out).mono ?_
        rw [HG.out]
        rintro e w' ⟨rfl, rfl⟩
        go_wp2_with fail
        refine (runs_any _).mono ?_
        rintro e w7 ⟨rfl, hb7⟩
        go_wp2_with fail
        go_ret
        exact bit rfl (bthen (below_drewN HBX.out _) hb7)
end Go.Proofs.Ytmhklgknlgkclaa
