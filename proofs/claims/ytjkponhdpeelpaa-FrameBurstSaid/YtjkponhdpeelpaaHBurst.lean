/-
  stavelaw7.FrameBurst: the walk.
-/
import Derived.Test.YtjkponhdpeelpaaHRuns
import Derived.Test.YtjkponhdpeelpaaWithinI
import Derived.Test.YtjkponhdpeelpaaKTurnL
namespace Go.Proofs.Ytjkponhdpeelpaa
open Go.RowKit Crc Hf
set_option maxHeartbeats 4000000 in
set_option maxRecDepth 100000 in
theorem burst_no (f : Fr) (n : Int) (x : Nat) (w : World) (hi : f.is) (hr : rightB f = false) :
    Calls Try.prog 5 #[.agg (frA f), .int .i64 n, .int .u32 x] w (Bit true w) := by
  have hc : (Value.agg (frA f)).cells = frA f := rfl
  have hz := szFr_run
  have F0 := Lib.hid (frIn_new w f hi)
  have hl : ∀ w', FrIn f w.heap.size w' → (loadCellsFrom ⟨w.heap.size, 0, none⟩ 0 szFr #[]).run Try.prog w' = .ok (frA f) w' := fun w' h => h.load
  have hf0 := F0.out
  have CR := Lib.hid (fun w => show Calls Try.prog 12 #[.agg (frA f)] w (Bit false w) from hr ▸ right_any f w)
  have CP := Lib.hid (by have := put_any f (w.alloc (.cells (frA f) 24)) hi; rwa [put_no hr] at this)
  have CX := Lib.hid (fun w => runs_any w)
  clear hr
  go_enter Try.func5, Try.ntmps5
  go_wp2_with (first
    | ((with_reducible refine CP.out.mono ?_); rintro e w2 ⟨v2, rfl, ho, hb⟩; obtain ⟨g2, c2, rfl, hc2⟩ := own_slice ho; have hf2 := hf0.below (by simp) hb; have HB2 := Lib.hid (bthen (one_below w _) hb); have HK2 := Lib.hid (show w.heap.size < w2.heap.size from Nat.lt_of_lt_of_le (by simp) hb.size); clear ho hb)
    | ((with_reducible refine (CR.out _).mono ?_); rintro e w3 ⟨rfl, hb⟩; have HB3 := Lib.hid (bthen HB2.out hb); clear hb)
    | ((with_reducible refine (CX.out _).mono ?_); rintro e w4 ⟨rfl, hb⟩; have HB4 := Lib.hid (bthen HB3.out hb); clear hb))
  go_ret
  exact bit rfl HB4.out
set_option maxHeartbeats 4000000 in
set_option maxRecDepth 100000 in
theorem burst_yes (f : Fr) (n : Int) (x : Nat) (w : World) (hi : f.is) (hr : rightB f = true) (hx : x < 4294967296) :
    Calls Try.prog 5 #[.agg (frA f), .int .i64 n, .int .u32 x] w (Bit true w) := by
  have hc : (Value.agg (frA f)).cells = frA f := rfl
  have hz := szFr_run
  have hz0 := zero_frame
  have hsz : (frC zeroF).length = szFr := frC_length zeroF_is
  have hsf : (frC f).length = szFr := frC_length hi
  have hc0 : (Value.agg (frA zeroF)).cells = frA zeroF := rfl
  have F0 := Lib.hid (frIn_new w f hi)
  have hl : ∀ w', FrIn f w.heap.size w' → (loadCellsFrom ⟨w.heap.size, 0, none⟩ 0 szFr #[]).run Try.prog w' = .ok (frA f) w' := fun w' h => h.load
  have hf0 := F0.out
  have hplen := put_len hi hr
  have HPL := Lib.hid hplen
  have CP := Lib.hid (put_any f (w.alloc (.cells (frA f) 24)) hi)
  have HBU := Lib.hid (fun k hk => burst hi hr k x hk hx)
  have HGP := Lib.hid (got_put hi hr)
  clear hplen hr
  generalize Hf.put f = L at *
  go_enter Try.func5, Try.ntmps5
  go_wp2_with ((with_reducible refine CP.out.mono ?_); rintro e w2 ⟨v2, rfl, ho, hb⟩; rw [HPL.out] at ho; obtain ⟨g2, c2, rfl, hc2⟩ := own_slice ho; have HO := Lib.hid ho; have HF2 := Lib.hid (hf0.below (by simp) hb); have HB2 := Lib.hid (bthen (one_below w _) hb); have HK2 := Lib.hid (show w.heap.size + 1 ≤ w2.heap.size from Nat.le_trans (by simp) hb.size); clear ho hb hf0)
  have hk2 := HK2.out
  refine (within_int n 0 124 w2 (by omega) (by omega) (by omega)).mono ?_
  rintro e w' ⟨k, ⟨hk0, hk1⟩, rfl, rfl⟩
  obtain ⟨k, rfl⟩ := Int.eq_ofNat_of_zero_le hk0
  have hk : k ≤ 124 := by omega
  clear hk0 hk1
  have hws : (w.alloc (.cells (frA f) 24)).heap.size = w.heap.size + 1 := by simp
  have HWS := Lib.hid hws
  generalize hw1 : w.alloc (.cells (frA f) 24) = w1 at *
  clear hw1 hws
  go_wp2_with fail
  go_loopw [9] (fun i wr => RelT w1 L k x (.slice g2 128 c2) w2 i wr) (fun i _ => 4 - (intOf i).toNat)
  case atStart => exact ⟨0, by omega, rfl, by rw [turnL_length, HPL.out]; exact HO.out, Below.refl _ _⟩
  case round =>
    obtain ⟨j, hj, rfl, hown, hb⟩ := hrel
    rw [turnL_length, HPL.out] at hown
    have HOW := Lib.hid hown
    have HBr := Lib.hid hb
    by_cases hlt : j < 4
    · obtain ⟨gb, rfl⟩ := own_addr hown (by omega)
      have hlen : k + j < (turnL L k x j).length := by rw [turnL_length, HPL.out]; omega
      have c1 := own_cell hown (bytesV_at hlen)
      have c3 := own_frozen hown (k + j)
      have hy := u8_lt ((turnL L k x j).getD (k + j) 0)
      have HN := Lib.hid (relT_next (L := L) (k := k) (x := x) (j := j) (w1 := w1) (w3 := w2) hlt HOW.out HBr.out)
      generalize (turnL L k x j).getD (k + j) 0 = y at *
      clear hown hb hlen
      have hj4 : j = 0 ∨ j = 1 ∨ j = 2 ∨ j = 3 := by omega
      clear hj hlt
      rcases hj4 with rfl | rfl | rfl | rfl
      · simp only [Nat.add_zero] at c1 c3
        go_wp2_with fail
        go_region
        go_wp2_with fail
        go_roundw
        case rel => exact HN.out _ (by omega)
        case measure => simp [intOf]
      · go_wp2_with fail
        go_region
        go_wp2_with fail
        go_roundw
        case rel => exact HN.out _ (by omega)
        case measure => simp [intOf]
      · go_wp2_with fail
        go_region
        go_wp2_with fail
        go_roundw
        case rel => exact HN.out _ (by omega)
        case measure => simp [intOf]
      · go_wp2_with fail
        go_region
        go_wp2_with fail
        go_roundw
        case rel => exact HN.out _ (by omega)
        case measure => simp [intOf]
    · obtain rfl : j = 4 := by omega
      have hlenT : (turnL L k x 4).length = 128 := by rw [turnL_length, HPL.out]
      have HT := Lib.hid (show SlB wr.heap.size wr (.slice g2 128 c2) (turnL L k x 4) by
        exact slb_own (B := w1.heap.size) (l := turnL L k x 4) (by rw [hlenT]; exact hown))
      have hbu := HBU.out k hk
      have hkw : w.heap.size < w1.heap.size := by rw [HWS.out]; omega
      have HF3 := Lib.hid (HF2.out.below hkw hb)
      have HKF := Lib.hid (show w.heap.size < wr.heap.size from Nat.lt_of_lt_of_le (Nat.lt_of_lt_of_le (Nat.lt_succ_self _) HK2.out) hb.size)
      have HB3 := Lib.hid (HB2.out.trans (hb.mono (Nat.le_of_lt hkw)))
      have CX := Lib.hid (fun w => runs_any w)
      have hgd := guard_frame
      have heq := eql_yes hi hi rfl
      clear hown hb hlenT hj hlt HOW HBr
      by_cases hx0 : x = 0
      · have CG := Lib.hid (show Calls Try.prog 10 #[.slice g2 128 c2] wr (FrameBit f true wr) by
          have := get_any _ _ _ _ HT.out (Nat.le_refl _)
          rwa [hbu.2 hx0, HGP.out.1, HGP.out.2] at this)
        subst hx0
        clear hbu HT
        have hst : ∀ W : World, (storeCells ⟨W.heap.size, 0, none⟩ (frC f) 0).run Try.prog (W.alloc (.cells (frA zeroF) 24)) = .ok () (W.alloc (.cells (frA f) 24)) := fun W => storeCells_frame zeroF_is hi W
        go_wp2_with (first
          | ((with_reducible refine CG.out.mono ?_); rintro e w5 ⟨rfl, hb5⟩; have hfa := (HF3.out.below HKF.out hb5).below (Nat.lt_of_lt_of_le HKF.out hb5.size) (one_below w5 (.cells (frA f) 24)); have hfb := frIn_new w5 f hi; have hlg : ∀ w', FrIn f w5.heap.size w' → (loadCellsFrom ⟨w5.heap.size, 0, none⟩ 0 szFr #[]).run Try.prog w' = .ok (frA f) w' := (fun w' h => h.load); have HB5 := Lib.hid (balloc (bthen HB3.out hb5) (.cells (frA f) 24)); clear hb5)
          | ((with_reducible refine (CX.out _).mono ?_); rintro e w6 ⟨rfl, hb⟩; have HB6 := Lib.hid (bthen HB5.out hb); clear hb))
        go_ret
        exact bit rfl HB6.out
      · have hgf : goodB (turnL L k x 4) = false := by rw [← Bool.not_eq_true, hbu.1]; exact hx0
        have CG := Lib.hid (show Calls Try.prog 10 #[.slice g2 128 c2] wr (FrameBit zeroF false wr) by
          have := get_any _ _ _ _ HT.out (Nat.le_refl _)
          rwa [hgf, got_no hgf] at this)
        have e1 : ((x : Int) == 0) = false := by simp only [beq_eq_false_iff_ne]; omega
        have e2 : ¬ (x : Int) = 0 := by omega
        clear hbu HT hgf hx0
        have hst : ∀ W : World, (storeCells ⟨W.heap.size, 0, none⟩ (frC zeroF) 0).run Try.prog (W.alloc (.cells (frA zeroF) 24)) = .ok () (W.alloc (.cells (frA zeroF) 24)) := fun W => storeCells_frame zeroF_is zeroF_is W
        go_wp2_with (first
          | ((with_reducible refine CG.out.mono ?_); rintro e w5 ⟨rfl, hb5⟩; have hfa := (HF3.out.below HKF.out hb5).below (Nat.lt_of_lt_of_le HKF.out hb5.size) (one_below w5 (.cells (frA zeroF) 24)); have hfb := frIn_new w5 zeroF zeroF_is; have hlg : ∀ w', FrIn zeroF w5.heap.size w' → (loadCellsFrom ⟨w5.heap.size, 0, none⟩ 0 szFr #[]).run Try.prog w' = .ok (frA zeroF) w' := (fun w' h => h.load); have HB5 := Lib.hid (balloc (bthen HB3.out hb5) (.cells (frA zeroF) 24)); clear hb5)
          | ((with_reducible refine (CX.out _).mono ?_); rintro e w6 ⟨rfl, hb⟩; have HB6 := Lib.hid (bthen HB5.out hb); clear hb))
        go_ret
        exact bit rfl HB6.out
theorem burst_any (f : Fr) (n : Int) (x : Nat) (w : World) (hi : f.is) (hx : x < 4294967296) :
    Calls Try.prog 5 #[.agg (frA f), .int .i64 n, .int .u32 x] w (Bit true w) := by
  by_cases hr : rightB f = true
  · exact burst_yes f n x w hi hr hx
  · exact burst_no f n x w hi (by simpa using hr)
end Go.Proofs.Ytjkponhdpeelpaa
