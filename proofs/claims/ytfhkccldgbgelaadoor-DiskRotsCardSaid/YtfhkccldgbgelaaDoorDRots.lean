/-
  stavelaw6.DiskRots: the walk.
-/
import Derived.Test.YtfhkccldgbgelaaDoorDAny
namespace Go.Proofs.YtfhkccldgbgelaaDoor
open Go.RowKit Go.Deep Dk Go.Maps
/-- A disk of two sectors, the second all of x, flushed. -/
def rs (x : Nat) : St := ((new 2).write 1 (secL x)).flush
theorem rs_ok0 (x : Nat) : ((new 2).write 1 (secL x)).Ok := (new_ok (by omega)).write (by show 1 < 2; omega) (secL_length x)
theorem rs_ok (x : Nat) : (rs x).Ok := (rs_ok0 x).stores
theorem rs_n (x : Nat) : (rs x).n = 2 := flushed_n _
theorem rs_dead (x : Nat) : (rs x).dead = false := flushed_dead _
theorem rs_read (x : Nat) : (rs x).read 1 = secL x := (St.flush_read (rs_ok0 x) 1).trans (by show (upd (fun _ => none) 1 (some (secL x)) 1 : Option Sec).getD zer = _; rw [upd_same]; rfl)
theorem rs_wt (x i : Nat) : (rs x).wt i = none := St.flush_wt (rs_ok0 x) i
theorem rs_st (x : Nat) : (rs x).st 1 = secL x := by have := rs_read x; unfold St.read at this; rw [rs_wt] at this; exact this
theorem rs_rot (x : Nat) : (rs x).rot 1 = false := flush_rot (rs_ok0 x) (by show (upd (fun _ => none) 1 (some (secL x)) 1 : Option Sec).isSome = true; rw [upd_same]; rfl)
/-- What counts of a disk of two sectors when its second one is written anew. -/
structure Two (s : St) : Prop where
  ok : s.Ok
  n : s.n = 2
  dead : s.dead = false
theorem rs_two (x : Nat) : Two (rs x) := ⟨rs_ok x, rs_n x, rs_dead x⟩
theorem Two.rot {s : St} (h : Two s) (i a x : Nat) : Two (rotD s i a x) := ⟨rotD_ok h.ok i a x, h.n, h.dead⟩
theorem Two.write {s : St} (h : Two s) {b : Sec} (hb : b.length = 128) : Two (s.write 1 b) := ⟨h.ok.write (by rw [h.n]; omega) hb, h.n, h.dead⟩
theorem Two.flush {s : St} (h : Two s) : Two s.flush := ⟨h.ok.stores, (flushed_n s).trans h.n, (flushed_dead s).trans h.dead⟩
theorem write_read (s : St) (i : Nat) (b : Sec) : (s.write i b).read i = b := by show (upd s.wt i (some b) i).getD _ = b; rw [upd_same]; rfl
theorem write_some (s : St) (i : Nat) (b : Sec) : ((s.write i b).wt i).isSome = true := by show (upd s.wt i (some b) i).isSome = true; rw [upd_same]; rfl
theorem Two.may {s : St} (h : Two s) (hr : s.rot 1 = false) {a x : Nat} (ha : a ≤ 124) (hx : x ≠ 0) : mayRot s ((1 : Nat) : Int) (a : Int) x := ⟨h.dead, by omega, by rw [h.n]; omega, by omega, by omega, hx, hr⟩
theorem may_rot {s : St} {i a : Int} {x : Nat} (h : mayRot s i a x) : s.rot i.toNat = false := h.2.2.2.2.2.2
theorem rotD_rot (s : St) (a x : Nat) : (rotD s 1 a x).rot 1 = true := by show upd s.rot 1 true 1 = true; exact upd_same _ _ _
theorem rotD_read {s : St} (hw : s.wt 1 = none) (a x : Nat) : (rotD s 1 a x).read 1 = rotL (s.st 1) a x 4 := by
  show (s.wt 1).getD (upd s.st 1 _ 1) = _
  rw [hw, upd_same]; rfl
def RelRL (w0 : World) (c : Value) (wr : World) : Prop := ∃ m : Nat, m ≤ 128 ∧ c = .int .i64 m ∧ wr = w0
set_option maxHeartbeats 8000000 in
set_option maxRecDepth 100000 in
theorem rots_zero (x : Nat) (at_ : Int) (n : Nat) (w : World) (hT : Typ w) (hx : x < 256) (hn : n < 256) :
    Calls Tryd.prog 6 #[.int .u8 (x : Int), .int .i64 at_, .int .u32 0, .int .u8 (n : Int)] w (Bit true w) := by
  have HT := Lib.hid hT
  have HN := Lib.hid (show Calls Tryd.prog 10 #[.int .i64 2] w (NewDisk 2 w) from new_yes 2 w (by omega) (by omega))
  clear hT
  go_enter Tryd.func6, Tryd.ntmps6
  go_wp2_with fail
  refine HN.out.mono ?_
  rintro e x0 ⟨d, S, M, rfl, hD, h1, h2, h3, hb⟩
  have HD0 := Lib.hid hD
  have HB0 := Lib.hid hb
  have hdS : w.heap.size ≤ d ∧ w.heap.size ≤ S ∧ w.heap.size ≤ M := ⟨h1, h2, h3⟩
  clear hD hb h1 h2 h3
  go_wp2_with fail
  refine (sector_any x hx _).mono ?_
  rintro e x1 ⟨v1, rfl, hv1, hb1⟩
  have HB1 := Lib.hid (HB0.out.trans (hb1.mono HB0.out.size))
  have HD1 := Lib.hid (HD0.out.below hb1)
  clear hb1
  have HV1_0 := Lib.hid hv1
  clear hv1
  have HWR := Lib.hid (show Calls Tryd.prog 11 #[.pointer (some ⟨d, 0, none⟩), .int .i64 1, v1] x1 (NextD d S M ((new 2).write 1 (secL x)) .nilIface x1) from write_yes x1 HD1.out rfl 1 v1 (secL x) (by show 1 < 2; omega) HV1_0.out.slb (secL_length x))
  go_wp2_with fail
  refine (HWR.out).mono ?_
  rintro e x2 ⟨rfl, hD2, hG2⟩
  have HB2 := Lib.hid (HB1.out.trans (hG2.below HB1.out.size hdS.1 hdS.2.1 hdS.2.2))
  have HD2 := Lib.hid hD2
  clear hD2 hG2
  have HFL := Lib.hid (show Calls Tryd.prog 23 #[.pointer (some ⟨d, 0, none⟩)] x2 (NextD d S M (rs x) .nilIface x2) from flush_yes x2 HD2.out rfl)
  go_wp2_with fail
  refine (HFL.out).mono ?_
  rintro e x3 ⟨rfl, hD3, hG3⟩
  have HB3 := Lib.hid (HB2.out.trans (hG3.below HB2.out.size hdS.1 hdS.2.1 hdS.2.2))
  have HD3 := Lib.hid hD3
  clear hD3 hG3
  go_wp2_with fail
  refine (within_int at_ 0 124 _ (by omega) (by omega) (by omega)).mono ?_
  rintro e w' ⟨k0, ⟨hk1, hk2⟩, rfl, rfl⟩
  obtain ⟨k, rfl⟩ := Int.eq_ofNat_of_zero_le hk1
  have hk : k ≤ 124 := by omega
  clear hk1 hk2
  have HN1 := Lib.hid (show Calls Tryd.prog 15 #[.pointer (some ⟨d, 0, none⟩), .int .i64 1, .int .i64 (k : Int), .int .u32 0] x3 (BitSame false x3) from rot_no x3 HD3.out 1 (k : Int) 0 (fun h => h.2.2.2.2.2.1 rfl))
  go_wp2_with fail
  refine (HN1.out).mono ?_
  rintro e w' ⟨rfl, rfl⟩
  have HN2 := Lib.hid (show Calls Tryd.prog 15 #[.pointer (some ⟨d, 0, none⟩), .int .i64 1, .int .i64 (-1), .int .u32 1] x3 (BitSame false x3) from rot_no x3 HD3.out 1 (-1) 1 (fun h => absurd h.2.2.2.1 (by omega)))
  go_wp2_with fail
  refine (HN2.out).mono ?_
  rintro e w' ⟨rfl, rfl⟩
  have HN3 := Lib.hid (show Calls Tryd.prog 15 #[.pointer (some ⟨d, 0, none⟩), .int .i64 1, .int .i64 125, .int .u32 1] x3 (BitSame false x3) from rot_no x3 HD3.out 1 125 1 (fun h => absurd h.2.2.2.2.1 (by omega)))
  go_wp2_with fail
  refine (HN3.out).mono ?_
  rintro e w' ⟨rfl, rfl⟩
  have HN4 := Lib.hid (show Calls Tryd.prog 15 #[.pointer (some ⟨d, 0, none⟩), .int .i64 2, .int .i64 (k : Int), .int .u32 1] x3 (BitSame false x3) from rot_no x3 HD3.out 2 (k : Int) 1 (fun h => absurd h.2.2.1 (by rw [rs_n]; omega)))
  go_wp2_with fail
  refine (HN4.out).mono ?_
  rintro e w' ⟨rfl, rfl⟩
  have HL4 := Lib.hid HD3.out.lt
  have HR4 := Lib.hid (show Calls Tryd.prog 14 #[.pointer (some ⟨d, 0, none⟩), .int .i64 1] x3 (Reads (secL x) x3) from by have := read_yes x3 HD3.out (rs_dead x) 1 (by rw [rs_n]; omega); rwa [rs_read] at this)
  go_wp2_with fail
  refine (HR4.out).mono ?_
  rintro e x4 ⟨v4, rfl, hv4, hb4⟩
  have HB4 := Lib.hid (HB3.out.trans (hb4.mono HB3.out.size))
  have HD4 := Lib.hid (HD3.out.below hb4)
  clear hb4
  have HV4_0 := Lib.hid hv4
  clear hv4
  go_wp2_with fail
  refine (sector_any x hx _).mono ?_
  rintro e x5 ⟨v5, rfl, hv5, hb5⟩
  have HB5 := Lib.hid (HB4.out.trans (hb5.mono HB4.out.size))
  have HD5 := Lib.hid (HD4.out.below hb5)
  have HV4_5 := Lib.hid (HV4_0.out.below hb5)
  clear hb5
  have HV5_0 := Lib.hid hv5
  clear hv5
  have HS6 := Lib.hid (show Calls Tryd.prog 17 #[v4, v5] x5 (Bit true x5) by
      have := same_bytes x5.heap.size v4 v5 (secL x) (secL x) x5 HV4_5.out.slb HV5_0.out.slb (Nat.le_refl _) (by rw [secL_length]; omega)
      rwa [decide_eq_true (rfl)] at this)
  go_wp2_with fail
  refine (HS6.out).mono ?_
  rintro e x6 ⟨rfl, hb6⟩
  have HB6 := Lib.hid (HB5.out.trans (hb6.mono HB5.out.size))
  have HD6 := Lib.hid (HD5.out.below hb6)
  have HV4_6 := Lib.hid (HV4_5.out.below hb6)
  have HV5_6 := Lib.hid (HV5_0.out.below hb6)
  clear hb6
  have HN5 := Lib.hid (show Calls Tryd.prog 15 #[.pointer (some ⟨d, 0, none⟩), .int .i64 1, .int .i64 (k : Int), .int .u32 0] x6 (BitSame false x6) from rot_no x6 HD6.out 1 (k : Int) 0 (fun h => h.2.2.2.2.2.1 rfl))
  go_wp2_with fail
  refine (HN5.out).mono ?_
  rintro e w' ⟨rfl, rfl⟩
  have HL7 := Lib.hid HD6.out.lt
  have HR7 := Lib.hid (show Calls Tryd.prog 14 #[.pointer (some ⟨d, 0, none⟩), .int .i64 1] x6 (Reads (rotL (secL x) k 0 4) x6) from by have := read_yes x6 HD6.out (rs_two x).dead 1 (by rw [(rs_two x).n]; omega); rwa [rs_read, ← rotL_nought (secL_length x) k 4] at this)
  go_wp2_with fail
  refine (HR7.out).mono ?_
  rintro e x7 ⟨v7, rfl, hv7, hb7⟩
  have HB7 := Lib.hid (HB6.out.trans (hb7.mono HB6.out.size))
  have HD7 := Lib.hid (HD6.out.below hb7)
  clear hb7
  have HV7_0 := Lib.hid hv7
  clear hv7
  obtain ⟨g, rfl, hg1, hg2⟩ := HV7_0.out.slice
  have hgl : (rotL (secL x) k 0 4).length = 128 := rotL_length _ _ _ _
  rw [hgl]
  have HG := Lib.hid hg2
  clear hg2 hgl
  go_wp2_with fail
  go_loopw [85] (fun c wr => RelRL x7 c wr) (fun c _ => 128 - (RowKit.intOf c).toNat)
  case atStart => exact ⟨0, by omega, rfl, rfl⟩
  case round =>
    obtain ⟨m, hm, rfl, hw⟩ := hrel
    obtain rfl : x7 = wr := hw.symm
    clear hw
    by_cases hlt : m < 128
    · have hc := HG.out m _ (bytesV_at (by rw [rotL_length]; exact hlt))
      by_cases hin : k ≤ m
      · by_cases hin2 : m < k + 4
        · obtain ⟨j, rfl⟩ : ∃ j, m = k + j := ⟨m - k, by omega⟩
          have hv : (((rotL (secL x) k 0 4).getD (k + j) 0).toNat : Int) = (x : Int) := by rw [rotL_nought (secL_length x), secL_at hx hlt]
          rw [hv] at hc
          have hb : Go.bits .xor .u8 (x : Int) 0 = (x : Int) := by have := u8_xor_nat x 0 hx (by omega); rwa [Nat.xor_zero] at this
          have hj : j < 4 := by omega
          have hkj : (k : Int) ≤ (k : Int) + (j : Int) := by omega
          clear hv hin hin2
          go_wp2_with fail
          go_roundw
          case rel => exact ⟨k + j + 1, by omega, by go_num, rfl⟩
          case measure => simp [RowKit.intOf]; omega
        · have hv : (((rotL (secL x) k 0 4).getD m 0).toNat : Int) = (x : Int) := by rw [rot_out hx hlt (by omega)]
          rw [hv] at hc
          clear hv
          go_wp2_with fail
          go_roundw
          case rel => exact ⟨m + 1, by omega, by go_num, rfl⟩
          case measure => simp [RowKit.intOf]; omega
      · have hv : (((rotL (secL x) k 0 4).getD m 0).toNat : Int) = (x : Int) := by rw [rot_out hx hlt (by omega)]
        rw [hv] at hc
        clear hv
        go_wp2_with fail
        go_roundw
        case rel => exact ⟨m + 1, by omega, by go_num, rfl⟩
        case measure => simp [RowKit.intOf]; omega
    · obtain rfl : m = 128 := by omega
      have HRT := Lib.hid (show Calls Tryd.prog 15 #[.pointer (some ⟨d, 0, none⟩), .int .i64 1, .int .i64 (k : Int), .int .u32 9] x7 (NextD d S M (rotD (rs x) 1 k 9) (.bool true) x7) from rot_yes x7 HD7.out 1 k 9 ((rs_two x).may (rs_rot x) hk (by omega)))
      go_wp2_with fail
      refine (HRT.out).mono ?_
      rintro e x8 ⟨rfl, hD8, hG8⟩
      have HB8 := Lib.hid (HB7.out.trans (hG8.below HB7.out.size hdS.1 hdS.2.1 hdS.2.2))
      have HD8 := Lib.hid hD8
      clear hD8 hG8
      go_wp2_with fail
      refine (sector_any n hn _).mono ?_
      rintro e x9 ⟨v9, rfl, hv9, hb9⟩
      have HB9 := Lib.hid (HB8.out.trans (hb9.mono HB8.out.size))
      have HD9 := Lib.hid (HD8.out.below hb9)
      clear hb9
      have HV9_0 := Lib.hid hv9
      clear hv9
      have HWR2 := Lib.hid (show Calls Tryd.prog 11 #[.pointer (some ⟨d, 0, none⟩), .int .i64 1, v9] x9 (NextD d S M ((rotD (rs x) 1 k 9).write 1 (secL n)) .nilIface x9) from write_yes x9 HD9.out ((rs_two x).rot 1 k 9).dead 1 v9 (secL n) (by rw [((rs_two x).rot 1 k 9).n]; omega) HV9_0.out.slb (secL_length n))
      go_wp2_with fail
      refine (HWR2.out).mono ?_
      rintro e x10 ⟨rfl, hD10, hG10⟩
      have HB10 := Lib.hid (HB9.out.trans (hG10.below HB9.out.size hdS.1 hdS.2.1 hdS.2.2))
      have HD10 := Lib.hid hD10
      clear hD10 hG10
      have HL11 := Lib.hid HD10.out.lt
      have HR11 := Lib.hid (show Calls Tryd.prog 14 #[.pointer (some ⟨d, 0, none⟩), .int .i64 1] x10 (Reads (secL n) x10) from by have := read_yes x10 HD10.out (((rs_two x).rot 1 k 9).write (secL_length n)).dead 1 (by rw [(((rs_two x).rot 1 k 9).write (secL_length n)).n]; omega); rwa [write_read] at this)
      go_wp2_with fail
      refine (HR11.out).mono ?_
      rintro e x11 ⟨v11, rfl, hv11, hb11⟩
      have HB11 := Lib.hid (HB10.out.trans (hb11.mono HB10.out.size))
      have HD11 := Lib.hid (HD10.out.below hb11)
      clear hb11
      have HV11_0 := Lib.hid hv11
      clear hv11
      go_wp2_with fail
      refine (sector_any n hn _).mono ?_
      rintro e x12 ⟨v12, rfl, hv12, hb12⟩
      have HB12 := Lib.hid (HB11.out.trans (hb12.mono HB11.out.size))
      have HD12 := Lib.hid (HD11.out.below hb12)
      have HV11_12 := Lib.hid (HV11_0.out.below hb12)
      clear hb12
      have HV12_0 := Lib.hid hv12
      clear hv12
      have HS13 := Lib.hid (show Calls Tryd.prog 17 #[v11, v12] x12 (Bit true x12) by
          have := same_bytes x12.heap.size v11 v12 (secL n) (secL n) x12 HV11_12.out.slb HV12_0.out.slb (Nat.le_refl _) (by rw [secL_length]; omega)
          rwa [decide_eq_true (rfl)] at this)
      go_wp2_with fail
      refine (HS13.out).mono ?_
      rintro e x13 ⟨rfl, hb13⟩
      have HB13 := Lib.hid (HB12.out.trans (hb13.mono HB12.out.size))
      have HD13 := Lib.hid (HD12.out.below hb13)
      have HV11_13 := Lib.hid (HV11_12.out.below hb13)
      have HV12_13 := Lib.hid (HV12_0.out.below hb13)
      clear hb13
      have HFL2 := Lib.hid (show Calls Tryd.prog 23 #[.pointer (some ⟨d, 0, none⟩)] x13 (NextD d S M ((rotD (rs x) 1 k 9).write 1 (secL n)).flush .nilIface x13) from flush_yes x13 HD13.out (((rs_two x).rot 1 k 9).write (secL_length n)).dead)
      go_wp2_with fail
      refine (HFL2.out).mono ?_
      rintro e x14 ⟨rfl, hD14, hG14⟩
      have HB14 := Lib.hid (HB13.out.trans (hG14.below HB13.out.size hdS.1 hdS.2.1 hdS.2.2))
      have HD14 := Lib.hid hD14
      clear hD14 hG14
      have HRT2 := Lib.hid (show Calls Tryd.prog 15 #[.pointer (some ⟨d, 0, none⟩), .int .i64 1, .int .i64 (k : Int), .int .u32 1] x14 (NextD d S M (rotD ((rotD (rs x) 1 k 9).write 1 (secL n)).flush 1 k 1) (.bool true) x14) from rot_yes x14 HD14.out 1 k 1 ((((rs_two x).rot 1 k 9).write (secL_length n)).flush.may (flush_rot (((rs_two x).rot 1 k 9).write (secL_length n)).ok (write_some _ _ _)) hk (by omega)))
      go_wp2_with fail
      refine (HRT2.out).mono ?_
      rintro e x15 ⟨rfl, hD15, hG15⟩
      have HB15 := Lib.hid (HB14.out.trans (hG15.below HB14.out.size hdS.1 hdS.2.1 hdS.2.2))
      have HD15 := Lib.hid hD15
      clear hD15 hG15
      go_wp2_with fail
      refine (disk_runs x15 (HT.out.below HB15.out)).mono ?_
      rintro e x16 ⟨rfl, hb16⟩
      have HB16 := Lib.hid (HB15.out.trans (hb16.mono HB15.out.size))
      have HD16 := Lib.hid (HD15.out.below hb16)
      clear hb16
      go_wp2_with fail
      go_ret
      exact ⟨rfl, HB16.out⟩
set_option maxHeartbeats 8000000 in
set_option maxRecDepth 100000 in
theorem rots_some (x : Nat) (at_ : Int) (by_ : Nat) (n : Nat) (w : World) (hT : Typ w) (hx : x < 256) (hb0 : by_ ≠ 0) (hn : n < 256) :
    Calls Tryd.prog 6 #[.int .u8 (x : Int), .int .i64 at_, .int .u32 (by_ : Int), .int .u8 (n : Int)] w (Bit true w) := by
  have HT := Lib.hid hT
  have HN := Lib.hid (show Calls Tryd.prog 10 #[.int .i64 2] w (NewDisk 2 w) from new_yes 2 w (by omega) (by omega))
  have hbt : ((by_ : Int) == 0) = false := by simp; omega
  have hbt2 : ¬ (by_ : Int) = 0 := by omega
  have hbt3 : ((by_ : Int) != 0) = true := by rw [bne, hbt]; rfl
  clear hT
  go_enter Tryd.func6, Tryd.ntmps6
  go_wp2_with fail
  refine HN.out.mono ?_
  rintro e x0 ⟨d, S, M, rfl, hD, h1, h2, h3, hb⟩
  have HD0 := Lib.hid hD
  have HB0 := Lib.hid hb
  have hdS : w.heap.size ≤ d ∧ w.heap.size ≤ S ∧ w.heap.size ≤ M := ⟨h1, h2, h3⟩
  clear hD hb h1 h2 h3
  go_wp2_with fail
  refine (sector_any x hx _).mono ?_
  rintro e x1 ⟨v1, rfl, hv1, hb1⟩
  have HB1 := Lib.hid (HB0.out.trans (hb1.mono HB0.out.size))
  have HD1 := Lib.hid (HD0.out.below hb1)
  clear hb1
  have HV1_0 := Lib.hid hv1
  clear hv1
  have HWR := Lib.hid (show Calls Tryd.prog 11 #[.pointer (some ⟨d, 0, none⟩), .int .i64 1, v1] x1 (NextD d S M ((new 2).write 1 (secL x)) .nilIface x1) from write_yes x1 HD1.out rfl 1 v1 (secL x) (by show 1 < 2; omega) HV1_0.out.slb (secL_length x))
  go_wp2_with fail
  refine (HWR.out).mono ?_
  rintro e x2 ⟨rfl, hD2, hG2⟩
  have HB2 := Lib.hid (HB1.out.trans (hG2.below HB1.out.size hdS.1 hdS.2.1 hdS.2.2))
  have HD2 := Lib.hid hD2
  clear hD2 hG2
  have HFL := Lib.hid (show Calls Tryd.prog 23 #[.pointer (some ⟨d, 0, none⟩)] x2 (NextD d S M (rs x) .nilIface x2) from flush_yes x2 HD2.out rfl)
  go_wp2_with fail
  refine (HFL.out).mono ?_
  rintro e x3 ⟨rfl, hD3, hG3⟩
  have HB3 := Lib.hid (HB2.out.trans (hG3.below HB2.out.size hdS.1 hdS.2.1 hdS.2.2))
  have HD3 := Lib.hid hD3
  clear hD3 hG3
  go_wp2_with fail
  refine (within_int at_ 0 124 _ (by omega) (by omega) (by omega)).mono ?_
  rintro e w' ⟨k0, ⟨hk1, hk2⟩, rfl, rfl⟩
  obtain ⟨k, rfl⟩ := Int.eq_ofNat_of_zero_le hk1
  have hk : k ≤ 124 := by omega
  clear hk1 hk2
  have HN1 := Lib.hid (show Calls Tryd.prog 15 #[.pointer (some ⟨d, 0, none⟩), .int .i64 1, .int .i64 (k : Int), .int .u32 0] x3 (BitSame false x3) from rot_no x3 HD3.out 1 (k : Int) 0 (fun h => h.2.2.2.2.2.1 rfl))
  go_wp2_with fail
  refine (HN1.out).mono ?_
  rintro e w' ⟨rfl, rfl⟩
  have HN2 := Lib.hid (show Calls Tryd.prog 15 #[.pointer (some ⟨d, 0, none⟩), .int .i64 1, .int .i64 (-1), .int .u32 1] x3 (BitSame false x3) from rot_no x3 HD3.out 1 (-1) 1 (fun h => absurd h.2.2.2.1 (by omega)))
  go_wp2_with fail
  refine (HN2.out).mono ?_
  rintro e w' ⟨rfl, rfl⟩
  have HN3 := Lib.hid (show Calls Tryd.prog 15 #[.pointer (some ⟨d, 0, none⟩), .int .i64 1, .int .i64 125, .int .u32 1] x3 (BitSame false x3) from rot_no x3 HD3.out 1 125 1 (fun h => absurd h.2.2.2.2.1 (by omega)))
  go_wp2_with fail
  refine (HN3.out).mono ?_
  rintro e w' ⟨rfl, rfl⟩
  have HN4 := Lib.hid (show Calls Tryd.prog 15 #[.pointer (some ⟨d, 0, none⟩), .int .i64 2, .int .i64 (k : Int), .int .u32 1] x3 (BitSame false x3) from rot_no x3 HD3.out 2 (k : Int) 1 (fun h => absurd h.2.2.1 (by rw [rs_n]; omega)))
  go_wp2_with fail
  refine (HN4.out).mono ?_
  rintro e w' ⟨rfl, rfl⟩
  have HL4 := Lib.hid HD3.out.lt
  have HR4 := Lib.hid (show Calls Tryd.prog 14 #[.pointer (some ⟨d, 0, none⟩), .int .i64 1] x3 (Reads (secL x) x3) from by have := read_yes x3 HD3.out (rs_dead x) 1 (by rw [rs_n]; omega); rwa [rs_read] at this)
  go_wp2_with fail
  refine (HR4.out).mono ?_
  rintro e x4 ⟨v4, rfl, hv4, hb4⟩
  have HB4 := Lib.hid (HB3.out.trans (hb4.mono HB3.out.size))
  have HD4 := Lib.hid (HD3.out.below hb4)
  clear hb4
  have HV4_0 := Lib.hid hv4
  clear hv4
  go_wp2_with fail
  refine (sector_any x hx _).mono ?_
  rintro e x5 ⟨v5, rfl, hv5, hb5⟩
  have HB5 := Lib.hid (HB4.out.trans (hb5.mono HB4.out.size))
  have HD5 := Lib.hid (HD4.out.below hb5)
  have HV4_5 := Lib.hid (HV4_0.out.below hb5)
  clear hb5
  have HV5_0 := Lib.hid hv5
  clear hv5
  have HS6 := Lib.hid (show Calls Tryd.prog 17 #[v4, v5] x5 (Bit true x5) by
      have := same_bytes x5.heap.size v4 v5 (secL x) (secL x) x5 HV4_5.out.slb HV5_0.out.slb (Nat.le_refl _) (by rw [secL_length]; omega)
      rwa [decide_eq_true (rfl)] at this)
  go_wp2_with fail
  refine (HS6.out).mono ?_
  rintro e x6 ⟨rfl, hb6⟩
  have HB6 := Lib.hid (HB5.out.trans (hb6.mono HB5.out.size))
  have HD6 := Lib.hid (HD5.out.below hb6)
  have HV4_6 := Lib.hid (HV4_5.out.below hb6)
  have HV5_6 := Lib.hid (HV5_0.out.below hb6)
  clear hb6
  have HRT := Lib.hid (show Calls Tryd.prog 15 #[.pointer (some ⟨d, 0, none⟩), .int .i64 1, .int .i64 (k : Int), .int .u32 (by_ : Int)] x6 (NextD d S M (rotD (rs x) 1 k by_) (.bool true) x6) from rot_yes x6 HD6.out 1 k by_ ((rs_two x).may (rs_rot x) hk hb0))
  go_wp2_with fail
  refine (HRT.out).mono ?_
  rintro e x7 ⟨rfl, hD7, hG7⟩
  have HB7 := Lib.hid (HB6.out.trans (hG7.below HB6.out.size hdS.1 hdS.2.1 hdS.2.2))
  have HD7 := Lib.hid hD7
  clear hD7 hG7
  have HL8 := Lib.hid HD7.out.lt
  have HR8 := Lib.hid (show Calls Tryd.prog 14 #[.pointer (some ⟨d, 0, none⟩), .int .i64 1] x7 (Reads (rotL (secL x) k by_ 4) x7) from by have := read_yes x7 HD7.out ((rs_two x).rot 1 k by_).dead 1 (by rw [((rs_two x).rot 1 k by_).n]; omega); rwa [rotD_read (rs_wt x 1), rs_st] at this)
  go_wp2_with fail
  refine (HR8.out).mono ?_
  rintro e x8 ⟨v8, rfl, hv8, hb8⟩
  have HB8 := Lib.hid (HB7.out.trans (hb8.mono HB7.out.size))
  have HD8 := Lib.hid (HD7.out.below hb8)
  clear hb8
  have HV8_0 := Lib.hid hv8
  clear hv8
  obtain ⟨g, rfl, hg1, hg2⟩ := HV8_0.out.slice
  have hgl : (rotL (secL x) k by_ 4).length = 128 := rotL_length _ _ _ _
  rw [hgl]
  have HG := Lib.hid hg2
  clear hg2 hgl
  go_wp2_with fail
  go_loopw [85] (fun c wr => RelRL x8 c wr) (fun c _ => 128 - (RowKit.intOf c).toNat)
  case atStart => exact ⟨0, by omega, rfl, rfl⟩
  case round =>
    obtain ⟨m, hm, rfl, hw⟩ := hrel
    obtain rfl : x8 = wr := hw.symm
    clear hw
    by_cases hlt : m < 128
    · have hc := HG.out m _ (bytesV_at (by rw [rotL_length]; exact hlt))
      by_cases hin : k ≤ m
      · by_cases hin2 : m < k + 4
        · obtain ⟨j, rfl⟩ : ∃ j, m = k + j := ⟨m - k, by omega⟩
          have hv : (((rotL (secL x) k by_ 4).getD (k + j) 0).toNat : Int) = ((x ^^^ (by_ / 2 ^ (8 * j) % 256) : Nat) : Int) := by rw [rot_in hx hlt ⟨hin, hin2⟩, Nat.add_sub_cancel_left]
          rw [hv] at hc
          have hb := byte_turn x by_ j hx
          have hj : j < 4 := by omega
          clear hv hin hin2
          generalize x ^^^ (by_ / 2 ^ (8 * j) % 256) = z at hb hc
          go_wp2_with fail
          go_roundw
          case rel => exact ⟨k + j + 1, by omega, by go_num, rfl⟩
          case measure => simp [RowKit.intOf]; omega
        · have hv : (((rotL (secL x) k by_ 4).getD m 0).toNat : Int) = (x : Int) := by rw [rot_out hx hlt (by omega)]
          rw [hv] at hc
          clear hv
          go_wp2_with fail
          go_roundw
          case rel => exact ⟨m + 1, by omega, by go_num, rfl⟩
          case measure => simp [RowKit.intOf]; omega
      · have hv : (((rotL (secL x) k by_ 4).getD m 0).toNat : Int) = (x : Int) := by rw [rot_out hx hlt (by omega)]
        rw [hv] at hc
        clear hv
        go_wp2_with fail
        go_roundw
        case rel => exact ⟨m + 1, by omega, by go_num, rfl⟩
        case measure => simp [RowKit.intOf]; omega
    · obtain rfl : m = 128 := by omega
      have HN6 := Lib.hid (show Calls Tryd.prog 15 #[.pointer (some ⟨d, 0, none⟩), .int .i64 1, .int .i64 (k : Int), .int .u32 9] x8 (BitSame false x8) from rot_no x8 HD8.out 1 (k : Int) 9 (fun h => by have := may_rot h; rw [show ((1 : Int)).toNat = 1 from rfl, rotD_rot] at this; cases this))
      go_wp2_with fail
      refine (HN6.out).mono ?_
      rintro e w' ⟨rfl, rfl⟩
      go_wp2_with fail
      refine (sector_any n hn _).mono ?_
      rintro e x9 ⟨v9, rfl, hv9, hb9⟩
      have HB9 := Lib.hid (HB8.out.trans (hb9.mono HB8.out.size))
      have HD9 := Lib.hid (HD8.out.below hb9)
      clear hb9
      have HV9_0 := Lib.hid hv9
      clear hv9
      have HWR2 := Lib.hid (show Calls Tryd.prog 11 #[.pointer (some ⟨d, 0, none⟩), .int .i64 1, v9] x9 (NextD d S M ((rotD (rs x) 1 k by_).write 1 (secL n)) .nilIface x9) from write_yes x9 HD9.out ((rs_two x).rot 1 k by_).dead 1 v9 (secL n) (by rw [((rs_two x).rot 1 k by_).n]; omega) HV9_0.out.slb (secL_length n))
      go_wp2_with fail
      refine (HWR2.out).mono ?_
      rintro e x10 ⟨rfl, hD10, hG10⟩
      have HB10 := Lib.hid (HB9.out.trans (hG10.below HB9.out.size hdS.1 hdS.2.1 hdS.2.2))
      have HD10 := Lib.hid hD10
      clear hD10 hG10
      have HL11 := Lib.hid HD10.out.lt
      have HR11 := Lib.hid (show Calls Tryd.prog 14 #[.pointer (some ⟨d, 0, none⟩), .int .i64 1] x10 (Reads (secL n) x10) from by have := read_yes x10 HD10.out (((rs_two x).rot 1 k by_).write (secL_length n)).dead 1 (by rw [(((rs_two x).rot 1 k by_).write (secL_length n)).n]; omega); rwa [write_read] at this)
      go_wp2_with fail
      refine (HR11.out).mono ?_
      rintro e x11 ⟨v11, rfl, hv11, hb11⟩
      have HB11 := Lib.hid (HB10.out.trans (hb11.mono HB10.out.size))
      have HD11 := Lib.hid (HD10.out.below hb11)
      clear hb11
      have HV11_0 := Lib.hid hv11
      clear hv11
      go_wp2_with fail
      refine (sector_any n hn _).mono ?_
      rintro e x12 ⟨v12, rfl, hv12, hb12⟩
      have HB12 := Lib.hid (HB11.out.trans (hb12.mono HB11.out.size))
      have HD12 := Lib.hid (HD11.out.below hb12)
      have HV11_12 := Lib.hid (HV11_0.out.below hb12)
      clear hb12
      have HV12_0 := Lib.hid hv12
      clear hv12
      have HS13 := Lib.hid (show Calls Tryd.prog 17 #[v11, v12] x12 (Bit true x12) by
          have := same_bytes x12.heap.size v11 v12 (secL n) (secL n) x12 HV11_12.out.slb HV12_0.out.slb (Nat.le_refl _) (by rw [secL_length]; omega)
          rwa [decide_eq_true (rfl)] at this)
      go_wp2_with fail
      refine (HS13.out).mono ?_
      rintro e x13 ⟨rfl, hb13⟩
      have HB13 := Lib.hid (HB12.out.trans (hb13.mono HB12.out.size))
      have HD13 := Lib.hid (HD12.out.below hb13)
      have HV11_13 := Lib.hid (HV11_12.out.below hb13)
      have HV12_13 := Lib.hid (HV12_0.out.below hb13)
      clear hb13
      have HFL2 := Lib.hid (show Calls Tryd.prog 23 #[.pointer (some ⟨d, 0, none⟩)] x13 (NextD d S M ((rotD (rs x) 1 k by_).write 1 (secL n)).flush .nilIface x13) from flush_yes x13 HD13.out (((rs_two x).rot 1 k by_).write (secL_length n)).dead)
      go_wp2_with fail
      refine (HFL2.out).mono ?_
      rintro e x14 ⟨rfl, hD14, hG14⟩
      have HB14 := Lib.hid (HB13.out.trans (hG14.below HB13.out.size hdS.1 hdS.2.1 hdS.2.2))
      have HD14 := Lib.hid hD14
      clear hD14 hG14
      have HRT2 := Lib.hid (show Calls Tryd.prog 15 #[.pointer (some ⟨d, 0, none⟩), .int .i64 1, .int .i64 (k : Int), .int .u32 1] x14 (NextD d S M (rotD ((rotD (rs x) 1 k by_).write 1 (secL n)).flush 1 k 1) (.bool true) x14) from rot_yes x14 HD14.out 1 k 1 ((((rs_two x).rot 1 k by_).write (secL_length n)).flush.may (flush_rot (((rs_two x).rot 1 k by_).write (secL_length n)).ok (write_some _ _ _)) hk (by omega)))
      go_wp2_with fail
      refine (HRT2.out).mono ?_
      rintro e x15 ⟨rfl, hD15, hG15⟩
      have HB15 := Lib.hid (HB14.out.trans (hG15.below HB14.out.size hdS.1 hdS.2.1 hdS.2.2))
      have HD15 := Lib.hid hD15
      clear hD15 hG15
      go_wp2_with fail
      refine (disk_runs x15 (HT.out.below HB15.out)).mono ?_
      rintro e x16 ⟨rfl, hb16⟩
      have HB16 := Lib.hid (HB15.out.trans (hb16.mono HB15.out.size))
      have HD16 := Lib.hid (HD15.out.below hb16)
      clear hb16
      go_wp2_with fail
      go_ret
      exact ⟨rfl, HB16.out⟩
theorem rots_any (x : Nat) (at_ : Int) (by_ n : Nat) (w : World) (hT : Typ w) (hx : x < 256) (hn : n < 256) :
    Calls Tryd.prog 6 #[.int .u8 (x : Int), .int .i64 at_, .int .u32 (by_ : Int), .int .u8 (n : Int)] w (Bit true w) := by
  by_cases h : by_ = 0
  · subst h; exact rots_zero x at_ n w hT hx hn
  · exact rots_some x at_ by_ n w hT hx h hn
end Go.Proofs.YtfhkccldgbgelaaDoor
