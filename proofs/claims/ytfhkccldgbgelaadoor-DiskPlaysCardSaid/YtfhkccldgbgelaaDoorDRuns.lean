/-
  stavelaw6.DiskRuns: the walk.
-/
import Derived.Test.YtfhkccldgbgelaaDoorDCrash
import Derived.Test.YtfhkccldgbgelaaDoorDRot
import Derived.Test.YtfhkccldgbgelaaDoorDSec
import Derived.Test.YtfhkccldgbgelaaDoorBase
namespace Go.Proofs.YtfhkccldgbgelaaDoor
open Go.RowKit Go.Deep Dk Go.Maps
/-- The first m sectors wait, all of x. -/
def wrote (s : St) (x m : Nat) : St := match m with
  | 0 => s
  | m + 1 => (wrote s x m).write m (secL x)
theorem wrote_n (s : St) (x : Nat) : ∀ m, (wrote s x m).n = s.n
  | 0 => rfl
  | m + 1 => wrote_n s x m
theorem wrote_dead (s : St) (x : Nat) : ∀ m, (wrote s x m).dead = s.dead
  | 0 => rfl
  | m + 1 => wrote_dead s x m
def RelW (d S M : Nat) (s : St) (x n : Nat) (w0 : World) (c : Value) (wr : World) : Prop := ∃ m : Nat, m ≤ n ∧ c = .int .i64 m ∧ DiskIn wr d S M (wrote s x m) ∧ Below w0.heap.size w0 wr
def runS : St := (wrote (new 3) 7 3).crash 2
theorem runS_0 : runS.read 0 = zer := by decide +kernel
theorem runS_1 : runS.read 1 = secL 7 := by decide +kernel
theorem runS_n : runS.n = 3 := by decide +kernel
theorem runS_dead : runS.dead = false := by decide +kernel
theorem runS_may : mayRot runS 1 0 5 := by unfold mayRot; decide +kernel
theorem runS_mayn : ¬ mayRot (rotD runS 1 0 5) 1 0 5 := by unfold mayRot; decide +kernel
set_option maxHeartbeats 4000000 in
set_option maxRecDepth 100000 in
theorem disk_runs (w : World) (hT : Typ w) : Calls Tryd.prog 3 #[] w (Bit true w) := by
  have HT := Lib.hid hT
  have HN := Lib.hid (show Calls Tryd.prog 10 #[.int .i64 3] w (NewDisk 3 w) from new_yes 3 w (by omega) (by omega))
  clear hT
  go_enter Tryd.func3, Tryd.ntmps3
  go_wp2_with fail
  refine HN.out.mono ?_
  rintro e w1 ⟨d, S, M, rfl, hD, h1, h2, h3, hb⟩
  have HD := Lib.hid hD
  have HB := Lib.hid hb
  have hdS : w.heap.size ≤ d ∧ w.heap.size ≤ S ∧ w.heap.size ≤ M := ⟨h1, h2, h3⟩
  clear hD hb h1 h2 h3
  go_wp2_with fail
  go_loopw [3] (fun c wr => RelW d S M (new 3) 7 3 w c wr) (fun c _ => 3 - (RowKit.intOf c).toNat)
  case atStart => exact ⟨0, by omega, rfl, HD.out, HB.out⟩
  case round =>
    obtain ⟨m, hm, rfl, hD, hb⟩ := hrel
    have HD2 := Lib.hid hD
    have HB2 := Lib.hid hb
    clear hD hb
    by_cases hlt : m < 3
    · go_wp2_with fail
      refine (sector_any 7 (by omega) _).mono ?_
      rintro e w2 ⟨v, rfl, hv, hb2⟩
      have HW := Lib.hid (write_yes w2 (HD2.out.below hb2) (by rw [wrote_dead]; rfl) m v (secL 7) (by rw [wrote_n]; exact hlt) hv.slb (secL_length 7))
      have HB3 := Lib.hid (HB2.out.trans (hb2.mono HB2.out.size))
      clear hv hb2
      go_wp2_with fail
      refine HW.out.mono ?_
      rintro e w3 ⟨rfl, hD3, hG3⟩
      have HD3 := Lib.hid hD3
      have HB4 := Lib.hid (HB3.out.trans (hG3.below HB3.out.size hdS.1 hdS.2.1 hdS.2.2))
      clear hD3 hG3
      go_wp2_with fail
      go_roundw
      case rel => exact ⟨m + 1, by omega, by go_num, HD3.out, HB4.out⟩
      case measure => simp [RowKit.intOf]; omega
    · obtain rfl : m = 3 := by omega
      go_wp2_with fail
      have hl := HD2.out.lt
      have HC := Lib.hid (show Calls Tryd.prog 13 #[.pointer (some ⟨d, 0, none⟩), .int .u64 2] wr (NextD d S M runS (.tuple #[]) wr) from crash_any wr HD2.out 2 (by omega))
      refine HC.out.mono ?_
      rintro e w4 ⟨rfl, hD4, hG4⟩
      have HB4 := Lib.hid (HB2.out.trans (hG4.below HB2.out.size hdS.1 hdS.2.1 hdS.2.2))
      have HD4 := Lib.hid hD4
      have HR0 := Lib.hid (show Calls Tryd.prog 14 #[.pointer (some ⟨d, 0, none⟩), .int .i64 0] w4 (Reads (runS.read 0) w4) from read_yes w4 hD4 runS_dead 0 (by rw [runS_n]; omega))
      rw [runS_0] at HR0
      clear hD4 hG4 hl
      go_wp2_with fail
      refine HR0.out.mono ?_
      rintro e w5 ⟨v5, rfl, hv5, hb5⟩
      have HD5 := Lib.hid (HD4.out.below hb5)
      have HB5 := Lib.hid (bthen HB4.out hb5)
      have HV5 := Lib.hid hv5
      have HR1 := Lib.hid (show Calls Tryd.prog 14 #[.pointer (some ⟨d, 0, none⟩), .int .i64 1] w5 (Reads (runS.read 1) w5) from read_yes w5 HD5.out runS_dead 1 (by rw [runS_n]; omega))
      rw [runS_1] at HR1
      clear hv5 hb5
      go_wp2_with fail
      refine HR1.out.mono ?_
      rintro e w6 ⟨v6, rfl, hv6, hb6⟩
      have HD6 := Lib.hid (HD5.out.below hb6)
      have HB6 := Lib.hid (bthen HB5.out hb6)
      have HV5 := Lib.hid (HV5.out.below hb6)
      have HV6 := Lib.hid hv6
      clear hv6 hb6
      have HT1 := Lib.hid (show Calls Tryd.prog 15 #[.pointer (some ⟨d, 0, none⟩), .int .i64 1, .int .i64 0, .int .u32 5] w6 (NextD d S M (rotD runS 1 0 5) (.bool true) w6) from rot_yes w6 HD6.out 1 0 5 runS_may)
      go_wp2_with fail
      refine HT1.out.mono ?_
      rintro e w7 ⟨rfl, hD7, hG7⟩
      have HD7 := Lib.hid hD7
      have HG7 := Lib.hid hG7
      have HB7 := Lib.hid (HB6.out.trans (hG7.below HB6.out.size hdS.1 hdS.2.1 hdS.2.2))
      have HT2 := Lib.hid (show Calls Tryd.prog 15 #[.pointer (some ⟨d, 0, none⟩), .int .i64 1, .int .i64 0, .int .u32 5] w7 (BitSame false w7) from rot_no w7 hD7 1 0 5 runS_mayn)
      clear hD7 hG7
      go_wp2_with fail
      refine HT2.out.mono ?_
      rintro e w' ⟨rfl, rfl⟩
      have HDIE := Lib.hid (die_any w7 HD7.out)
      go_wp2_with fail
      refine HDIE.out.mono ?_
      rintro e w8 ⟨rfl, hD8, hG8⟩
      have HB8 := Lib.hid (HB7.out.trans (hG8.below HB7.out.size hdS.1 hdS.2.1 hdS.2.2))
      have hl4 := HD4.out.lt
      have hl5 := HD5.out.lt
      have HV5 := Lib.hid (HV5.out.chg hl4.1 hl4.2.1 hl4.2.2 (HG7.out.trans hG8))
      have HV6 := Lib.hid (HV6.out.chg hl5.1 hl5.2.1 hl5.2.2 (HG7.out.trans hG8))
      have HRD := Lib.hid (show Calls Tryd.prog 14 #[.pointer (some ⟨d, 0, none⟩), .int .i64 1] w8 (Err2 (.slice none 0 0) opRead 5 1 w8) from read_dead w8 hD8 rfl 1)
      clear hD8 hG8 hl4 hl5
      unfold Err2 wrapV errV at HRD
      go_wp2_with fail
      refine HRD.out.mono ?_
      rintro e w' ⟨rfl, rfl⟩
      go_wp2_with fail
      refine (sector_any 0 (by omega) _).mono ?_
      rintro e w9 ⟨v9, rfl, hv9, hb9⟩
      have HB9 := Lib.hid (bthen HB8.out hb9)
      have HV5 := Lib.hid (HV5.out.below hb9)
      have HV6 := Lib.hid (HV6.out.below hb9)
      have HS1 := Lib.hid (show Calls Tryd.prog 17 #[v5, v9] w9 (Bit true w9) by
        have := same_bytes w9.heap.size v5 v9 zer (secL 0) w9 HV5.out.slb hv9.slb (Nat.le_refl _) (by rw [zer_length]; omega)
        rwa [decide_eq_true secL_zer.symm] at this)
      clear hv9 hb9
      go_wp2_with fail
      refine HS1.out.mono ?_
      rintro e w10 ⟨rfl, hb10⟩
      have HB10 := Lib.hid (bthen HB9.out hb10)
      have HV6 := Lib.hid (HV6.out.below hb10)
      clear hb10
      go_wp2_with fail
      refine (sector_any 7 (by omega) _).mono ?_
      rintro e w11 ⟨v11, rfl, hv11, hb11⟩
      have HB11 := Lib.hid (bthen HB10.out hb11)
      have HV6 := Lib.hid (HV6.out.below hb11)
      have HS2 := Lib.hid (show Calls Tryd.prog 17 #[v6, v11] w11 (Bit true w11) by
        have := same_bytes w11.heap.size v6 v11 (secL 7) (secL 7) w11 HV6.out.slb hv11.slb (Nat.le_refl _) (by rw [secL_length]; omega)
        rwa [decide_eq_true rfl] at this)
      clear hv11 hb11
      go_wp2_with fail
      refine HS2.out.mono ?_
      rintro e w12 ⟨rfl, hb12⟩
      have HB12 := Lib.hid (bthen HB11.out hb12)
      clear hb12
      go_wp2_with fail
      refine (kind_err [(opRead, 1)] 5 w12 _ rfl (HT.out.below HB12.out)).mono ?_
      rintro e w13 ⟨rfl, hb13⟩
      have HB13 := Lib.hid (bthen HB12.out hb13)
      clear hb13
      go_wp2_with fail
      go_ret
      exact ⟨rfl, HB13.out⟩
end Go.Proofs.YtfhkccldgbgelaaDoor
