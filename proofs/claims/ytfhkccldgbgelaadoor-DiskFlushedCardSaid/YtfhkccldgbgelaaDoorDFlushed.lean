/-
  stavelaw6.DiskFlushed: the walk.
-/
import Derived.Test.YtfhkccldgbgelaaDoorDArr

import Derived.Deep.CutBlock
import Derived.Deep.DeepCutAuto
namespace Go.Proofs.YtfhkccldgbgelaaDoor
open Go.RowKit Go.Deep Dk Go.Maps
def RelF1 (d S M A : Nat) (w0 : World) (len : Nat) (c : Value) (wr : World) : Prop :=
  ∃ (m : Nat) (s : St) (f : Nat → Nat), m ≤ len ∧ m ≤ 20 ∧ c = .int .i64 m ∧ DiskIn wr d S M s ∧ Has s 5 f ∧ Arr wr A 67 5 f ∧ Below w0.heap.size w0 wr
def CutF1 (d S M A : Nat) (w0 : World) (wx : World) : Prop :=
  ∃ (s : St) (f : Nat → Nat), DiskIn wx d S M s ∧ Has s 5 f ∧ Arr wx A 67 5 f ∧ Below w0.heap.size w0 wx
def RelF2 (d S M A : Nat) (f : Nat → Nat) (w0 : World) (len : Nat) (c : Value) (wr : World) : Prop :=
  ∃ (m : Nat) (s : St), m ≤ len ∧ m ≤ 9 ∧ c = .int .i64 m ∧ DiskIn wr d S M s ∧ Sto s 5 f ∧ Arr wr A 67 5 f ∧ Below w0.heap.size w0 wr
def CutF2 (d S M A : Nat) (f : Nat → Nat) (w0 : World) (wx : World) : Prop :=
  ∃ (s : St), DiskIn wx d S M s ∧ Sto s 5 f ∧ Arr wx A 67 5 f ∧ Below w0.heap.size w0 wx
def RelF3 (d S M A : Nat) (s : St) (f : Nat → Nat) (w0 : World) (c : Value) (wr : World) : Prop :=
  ∃ m : Nat, m ≤ 5 ∧ c = .int .i64 m ∧ DiskIn wr d S M s ∧ Arr wr A 67 5 f ∧ Below w0.heap.size w0 wr
theorem five_zero : (#[.int .u8 0, .int .u8 0, .int .u8 0, .int .u8 0, .int .u8 0] : Array Value).toList = bytesV (tab 5 fun _ => 0) := by kernel_rfl
set_option maxHeartbeats 8000000 in
set_option maxRecDepth 100000 in
theorem flushed_any (v0 v1 : Value) (l more : List Ak) (bits : Nat) (w : World) (hT : Typ w) (hA : SlA w.heap.size w v0 l) (hA2 : SlA w.heap.size w v1 more) (hok : ∀ q ∈ l, q.Ok) (hok2 : ∀ q ∈ more, q.Ok) (hbits : bits < 18446744073709551616) :
    Calls Tryd.prog 7 #[v0, v1, .int .u64 (bits : Int)] w (Bit true w) := by
  have HT := Lib.hid hT
  have HOK := Lib.hid (fun k (hk : k < l.length) => asks_ok hok hk)
  have HOK2 := Lib.hid (fun k (hk : k < more.length) => asks_ok hok2 hk)
  obtain ⟨a, cap, rfl⟩ := hA.len
  obtain ⟨a2, cap2, rfl⟩ := hA2.len
  have HA := Lib.hid hA
  have HA2 := Lib.hid hA2
  have HN := Lib.hid (show Calls Tryd.prog 10 #[.int .i64 5] w (NewDisk 5 w) from new_yes 5 w (by omega) (by omega))
  clear hT hA hA2 hok hok2
  go_enter Tryd.func7, Tryd.ntmps7
  go_wp2_with fail
  refine HN.out.mono ?_
  rintro e x0 ⟨d, S, M, rfl, hD, h1, h2, h3, hb⟩
  have HD0 := Lib.hid hD
  have HB0 := Lib.hid hb
  have hl0 := hD.lt
  have hdS : w.heap.size ≤ d ∧ w.heap.size ≤ S ∧ w.heap.size ≤ M := ⟨h1, h2, h3⟩
  have HAN := Lib.hid (Arr.made x0 67 5 _ five_zero)
  have HAD := Lib.hid (show x0.heap.size ≠ d ∧ x0.heap.size ≠ S ∧ x0.heap.size ≠ M by omega)
  have HAW := Lib.hid (hb.size)
  clear hD hb h1 h2 h3 hl0
  generalize hA' : x0.heap.size = A at HAN HAD HAW
  go_upto_block 0 with (fail)
  clear hA'
  go_cut [] (fun wx => CutF1 d S M A w wx)
  case first =>
    go_wp2_with fail
    go_loopw [10] (fun c wr => RelF1 d S M A w l.length c wr) (fun c _ => l.length - (RowKit.intOf c).toNat)
    case atStart => exact ⟨0, _, _, Nat.zero_le _, Nat.zero_le _, rfl, HD0.out.below (one_below _ _), Has.new (by omega), HAN.out, balloc HB0.out _⟩
    case round =>
      obtain ⟨k, s, f, hk, hk20, rfl, hD, hH, hR, hb⟩ := hrel
      have HD := Lib.hid hD
      have HH := Lib.hid hH
      have HR := Lib.hid hR
      have HB := Lib.hid hb
      by_cases hlt : k < l.length
      · by_cases hlt20 : k < 20
        · obtain ⟨b, o, rfl, hbl, hq⟩ := HA.out.at_ (wr := wr) (fun b hb' => hb.block b hb') hlt
          have hqo := HOK.out k hlt
          generalize l.getD k a0 = q at hq hqo
          have HQ := Lib.hid hq
          have c1 := hq.i
          have c3 := hq.x
          have i1 : (k : Int) < l.length := by omega
          have i2 : (0 : Int) ≤ k := by omega
          have i3 : (k : Int) < 20 := by omega
          clear hq hD hb hH hR
          go_wp2_with fail
          refine (within_int q.i 0 4 _ (by omega) (by omega) (by omega)).mono ?_
          rintro e w' ⟨n0, ⟨hn1, hn2⟩, rfl, rfl⟩
          obtain ⟨n, rfl⟩ := Int.eq_ofNat_of_zero_le hn1
          have hn3 : n < 5 := by omega
          clear hn1 hn2
          go_wp2_with fail
          refine (sector_any q.x hqo.x _).mono ?_
          rintro e x1 ⟨v1, rfl, hv1, hb1⟩
          have HB1 := Lib.hid (HB.out.trans (hb1.mono HB.out.size))
          have HD1 := Lib.hid (HD.out.below hb1)
          have HR_1 := Lib.hid (HR.out.below hb1)
          have HQ_1 := Lib.hid (HQ.out.keep (w' := x1) (hb1.block b HQ.out.lt))
          clear hb1
          have HV1_0 := Lib.hid hv1
          clear hv1
          have HWR := Lib.hid (show Calls Tryd.prog 11 #[.pointer (some ⟨d, 0, none⟩), .int .i64 (n : Int), v1] x1 (NextD d S M (s.write n (secL q.x)) .nilIface x1) from write_yes x1 HD1.out HH.out.dead n v1 (secL q.x) (by rw [HH.out.num]; exact hn3) HV1_0.out.slb (secL_length q.x))
          go_wp2_with fail
          refine (HWR.out).mono ?_
          rintro e x2 ⟨rfl, hD2, hG2⟩
          have HB2 := Lib.hid (HB1.out.trans (hG2.below HB1.out.size hdS.1 hdS.2.1 hdS.2.2))
          have HD2 := Lib.hid hD2
          have HR_2 := Lib.hid (HR_1.out.chg HAD.out.1 HAD.out.2.1 HAD.out.2.2 hG2)
          have HQ_2 := Lib.hid (HQ_1.out.keep (w' := x2) (hG2.block b HQ_1.out.lt (by omega) (by omega) (by omega)))
          clear hD2 hG2
          have c3 := HQ_2.out.x
          obtain ⟨v9, hv9⟩ : ∃ v, x2.cell? ⟨A, n, none⟩ = some v := ⟨_, HR_2.out.cell HH.out.lt hn3⟩
          have hf9 := HR_2.out.frozen n
          have HR3 := Lib.hid (HR_2.out.set (k := n) hqo.x)
          have HD3 := Lib.hid (HD2.out.keep (w' := x2.setCell ⟨A, n, none⟩ (.int .u8 (q.x : Int))) (heap_setCell_other _ _ _ _ (fun e => HAD.out.1 e.symm)) (heap_setCell_other _ _ _ _ (fun e => HAD.out.2.1 e.symm)) (heap_setCell_other _ _ _ _ (fun e => HAD.out.2.2 e.symm)))
          have HB3 := Lib.hid (HB2.out.setCell (p := ⟨A, n, none⟩) HAW.out (.int .u8 (q.x : Int)))
          clear c1
          go_wp2_with fail
          go_roundw
          case rel => exact ⟨k + 1, _, _, by omega, by omega, by go_num, HD3.out, HH.out.write hn3 hqo.x, HR3.out, HB3.out⟩
          case measure => simp [RowKit.intOf]; omega
        · have i1 : (k : Int) < l.length := by omega
          have i2 : ¬ (k : Int) < 20 := by omega
          clear hD hb hH hR
          go_wp2_with fail
          go_meet
          exact ⟨s, f, HD.out, HH.out, HR.out, HB.out⟩
      · have i1 : ¬ (k : Int) < l.length := by omega
        clear hD hb hH hR
        go_wp2_with fail
        go_meet
        exact ⟨s, f, HD.out, HH.out, HR.out, HB.out⟩
  case rest =>
    obtain ⟨s, f, hD, hH, hR, hb⟩ := hcut
    have HDC := Lib.hid hD
    have HH := Lib.hid hH
    have HR := Lib.hid hR
    have HBC := Lib.hid hb
    clear hD hH hR hb HN HD0 HB0 HAN
    have HFL := Lib.hid (flush_yes wc HDC.out HH.out.dead)
    go_wp2_with fail
    refine (HFL.out).mono ?_
    rintro e x1 ⟨rfl, hD1, hG1⟩
    have HB1 := Lib.hid (HBC.out.trans (hG1.below HBC.out.size hdS.1 hdS.2.1 hdS.2.2))
    have HD1 := Lib.hid hD1
    have HR_1 := Lib.hid (HR.out.chg HAD.out.1 HAD.out.2.1 HAD.out.2.2 hG1)
    clear hD1 hG1
    have HWT := Lib.hid (waits_any x1 HD1.out)
    rw [St.flush_ks HH.out.ok] at HWT
    go_wp2_with fail
    refine (HWT.out).mono ?_
    rintro e x2 ⟨v2, rfl, ho2, hb2⟩
    obtain ⟨ga2, ca2, rfl, -⟩ := own_slice ho2
    clear ho2
    have HB2 := Lib.hid (HB1.out.trans (hb2.mono HB1.out.size))
    have HD2 := Lib.hid (HD1.out.below hb2)
    have HR_2 := Lib.hid (HR_1.out.below hb2)
    clear hb2
    have HCR := Lib.hid (show Calls Tryd.prog 13 #[.pointer (some ⟨d, 0, none⟩), .int .u64 (bits : Int)] x2 (NextD d S M (s.flush.crash bits) (.tuple #[]) x2) from crash_any x2 HD2.out bits hbits)
    go_wp2_with fail
    refine (HCR.out).mono ?_
    rintro e x3 ⟨rfl, hD3, hG3⟩
    have HB3 := Lib.hid (HB2.out.trans (hG3.below HB2.out.size hdS.1 hdS.2.1 hdS.2.2))
    have HD3 := Lib.hid hD3
    have HR_3 := Lib.hid (HR_2.out.chg HAD.out.1 HAD.out.2.1 HAD.out.2.2 hG3)
    clear hD3 hG3
    have HS := Lib.hid (HH.out.stored.crash (St.flush_wt HH.out.ok) bits)
    generalize s.flush.crash bits = t at *
    clear HFL HWT HCR HH
    go_upto_block 2 with (fail)
    go_cut [] (fun wx => CutF2 d S M A f w wx)
    case first =>
      go_wp2_with fail
      go_loopw [12] (fun c wr => RelF2 d S M A f w more.length c wr) (fun c _ => more.length - (RowKit.intOf c).toNat)
      case atStart => exact ⟨0, _, Nat.zero_le _, Nat.zero_le _, rfl, HD3.out, HS.out, HR_3.out, HB3.out⟩
      case round =>
        obtain ⟨k, u, hk, hk9, rfl, hD, hS, hR, hb⟩ := hrel
        have HD := Lib.hid hD
        have HU := Lib.hid hS
        have HR := Lib.hid hR
        have HB := Lib.hid hb
        by_cases hlt : k < more.length
        · by_cases hlt9 : k < 9
          · obtain ⟨b, o, rfl, hbl, hq⟩ := HA2.out.at_ (wr := wr) (fun b hb' => hb.block b hb') hlt
            have hqo := HOK2.out k hlt
            generalize more.getD k a0 = q at hq hqo
            have c1 := hq.i
            have c3 := hq.x
            have hbw : b < wr.heap.size := hq.lt
            have CW := Lib.hid (fun W' => within_int q.i 0 4 W' (by omega) (by omega) (by omega))
            have CS := Lib.hid (fun W' (hk : KC d S M wr W') (hd : DiskIn W' d S M u) => sector_by hqo.x hk hd)
            have CR := Lib.hid (fun W' (v : Value) (k : Int) (h0 : 0 ≤ k) (h1 : k ≤ 4) (hv : SlB W'.heap.size W' v (secL q.x)) (hd : DiskIn W' d S M u) (hk : KC d S M wr W') => write_by h0 (by rw [HU.out.num]; omega) HU.out.dead hv hd hk)
            have HMEM := Lib.hid (fun w' (h : KC d S M wr w') => show KC d S M wr w' ∧ w'.cell? ⟨b, o + k * 6 + 1, none⟩ = some (.int .i64 q.i) ∧ w'.cell? ⟨b, o + k * 6 + 3, none⟩ = some (.int .u8 (q.x : Int)) from
              ⟨h, (h.cell hbw (by omega) (by omega) (by omega)).trans c1, (h.cell hbw (by omega) (by omega) (by omega)).trans c3⟩)
            have hk0 : KC d S M wr wr := KC.refl _ _ _ _
            have hd0 : DiskIn wr d S M u := hD
            have i1 : (k : Int) < more.length := by omega
            have i2 : (0 : Int) ≤ k := by omega
            have i3 : (k : Int) < 9 := by omega
            clear hq hD hb hS hR
            go_wp2_with fail
            go_region_held3 (fun w' => KC d S M wr w' ∧ w'.cell? ⟨b, o + k * 6 + 1, none⟩ = some (.int .i64 q.i) ∧ w'.cell? ⟨b, o + k * 6 + 3, none⟩ = some (.int .u8 (q.x : Int))) (exact HMEM.out _ (by repeat (first | assumption | refine KC.drew ?_)))
              (first
                | (go_at_call 35; (with_reducible refine (CW.out _).mono ?_); rintro e w' ⟨kk, ⟨hk1, hk2⟩, rfl, rfl⟩)
                | (go_at_call 12; (with_reducible refine (CS.out _ ?_ ?_).mono ?_); (repeat (first | assumption | refine KC.drew ?_)); (repeat (first | assumption | refine DiskIn.drew ?_)); rintro e w2 ⟨v2, rfl, hv2, hd2, hc2⟩)
                | (go_at_call 11; (with_reducible refine (CR.out _ _ _ hk1 hk2 hv2 hd2 hc2).mono ?_); rintro e w3 ⟨rfl, hd3, hc3⟩))
            all_goals
              have HD3 := Lib.hid hd3
              have HR3 := Lib.hid (HR.out.chg HAD.out.1 HAD.out.2.1 HAD.out.2.2 hc3)
              have HB3 := Lib.hid (HB.out.trans (Chg.below hc3 HB.out.size hdS.1 hdS.2.1 hdS.2.2))
              have HS3 := Lib.hid (HU.out.write (x := q.x) (k := kk.toNat) (by omega))
              clear hc3 hd3 hd2 hc2 hv2 hd0 hk0 c1 c3 hk1 hk2
              go_wp2_with fail
              go_roundw
              case rel => exact ⟨k + 1, _, by omega, by omega, by go_num, HD3.out, HS3.out, HR3.out, HB3.out⟩
              case measure => simp [RowKit.intOf]; omega
          · have i1 : (k : Int) < more.length := by omega
            have i2 : ¬ (k : Int) < 9 := by omega
            clear hD hb hS hR
            go_wp2_with fail
            go_meet
            exact ⟨u, HD.out, HU.out, HR.out, HB.out⟩
        · have i1 : ¬ (k : Int) < more.length := by omega
          clear hD hb hS hR
          go_wp2_with fail
          go_meet
          exact ⟨u, HD.out, HU.out, HR.out, HB.out⟩
    case rest =>
      obtain ⟨u, hD, hS, hR, hb⟩ := hcut
      have HDC := Lib.hid hD
      have HU := Lib.hid hS
      have HR := Lib.hid hR
      have HBC := Lib.hid hb
      clear hD hS hR hb
      have HCR := Lib.hid (show Calls Tryd.prog 13 #[.pointer (some ⟨d, 0, none⟩), .int .u64 0] wc (NextD d S M (u.crash 0) (.tuple #[]) wc) from crash_any wc HDC.out 0 (by omega))
      go_wp2_with fail
      refine (HCR.out).mono ?_
      rintro e x1 ⟨rfl, hD1, hG1⟩
      have HB1 := Lib.hid (HBC.out.trans (hG1.below HBC.out.size hdS.1 hdS.2.1 hdS.2.2))
      have HD1 := Lib.hid hD1
      have HR_1 := Lib.hid (HR.out.chg HAD.out.1 HAD.out.2.1 HAD.out.2.2 hG1)
      clear hD1 hG1
      have HL := Lib.hid HU.out.lost
      generalize u.crash 0 = t2 at *
      go_wp2_with fail
      go_loopw [98] (fun c wr => RelF3 d S M A t2 f w c wr) (fun c _ => 5 - (RowKit.intOf c).toNat)
      case atStart => exact ⟨0, by omega, rfl, HD1.out, HR_1.out, HB1.out⟩
      case round =>
        obtain ⟨m, hm, rfl, hDm, hRm, hbm⟩ := hrel
        have HDm := Lib.hid hDm
        have HRm := Lib.hid hRm
        have HBm := Lib.hid hbm
        clear hDm hRm hbm
        by_cases hlt4 : m < 5
        · have hi1 : (m : Int) < 5 := by omega
          have HL301 := Lib.hid HDm.out.lt
          have HR301 := Lib.hid (show Calls Tryd.prog 14 #[.pointer (some ⟨d, 0, none⟩), .int .i64 (m : Int)] wr (Reads (secL (f m)) wr) from by have := read_yes wr HDm.out HL.out.dead m (by rw [HL.out.num]; exact hlt4); rwa [HL.out.read m hlt4] at this)
          go_wp2_with fail
          refine (HR301.out).mono ?_
          rintro e x301 ⟨v301, rfl, hv301, hb301⟩
          have HB301 := Lib.hid (HBm.out.trans (hb301.mono HBm.out.size))
          have HD301 := Lib.hid (HDm.out.below hb301)
          have HR_301 := Lib.hid (HRm.out.below hb301)
          clear hb301
          have HV301_0 := Lib.hid hv301
          clear hv301
          have hcm := HR_301.out.cell HL.out.lt hlt4
          have hfm := HL.out.lt m
          generalize f m = y at *
          go_wp2_with fail
          refine (sector_any y hfm _).mono ?_
          rintro e x302 ⟨v302, rfl, hv302, hb302⟩
          have HB302 := Lib.hid (HB301.out.trans (hb302.mono HB301.out.size))
          have HD302 := Lib.hid (HD301.out.below hb302)
          have HV301_302 := Lib.hid (HV301_0.out.below hb302)
          have HR_302 := Lib.hid (HR_301.out.below hb302)
          clear hb302
          have HV302_0 := Lib.hid hv302
          clear hv302
          have HS303 := Lib.hid (show Calls Tryd.prog 17 #[v301, v302] x302 (Bit true x302) by
              have := same_bytes x302.heap.size v301 v302 (secL y) (secL y) x302 HV301_302.out.slb HV302_0.out.slb (Nat.le_refl _) (by rw [secL_length]; omega)
              rwa [decide_eq_true (rfl)] at this)
          go_wp2_with fail
          refine (HS303.out).mono ?_
          rintro e x303 ⟨rfl, hb303⟩
          have HB303 := Lib.hid (HB302.out.trans (hb303.mono HB302.out.size))
          have HD303 := Lib.hid (HD302.out.below hb303)
          have HV301_303 := Lib.hid (HV301_302.out.below hb303)
          have HV302_303 := Lib.hid (HV302_0.out.below hb303)
          have HR_303 := Lib.hid (HR_302.out.below hb303)
          clear hb303
          go_wp2_with fail
          go_roundw
          case rel => exact ⟨m + 1, by omega, by go_num, HD303.out, HR_303.out, HB303.out⟩
          case measure => simp [RowKit.intOf]; omega
        · obtain rfl : m = 5 := by omega
          go_wp2_with fail
          refine (disk_runs wr (HT.out.below HBm.out)).mono ?_
          rintro e x401 ⟨rfl, hb401⟩
          have HB401 := Lib.hid (HBm.out.trans (hb401.mono HBm.out.size))
          have HD401 := Lib.hid (HDm.out.below hb401)
          clear hb401
          go_wp2_with fail
          go_ret
          exact ⟨rfl, HB401.out⟩
end Go.Proofs.YtfhkccldgbgelaaDoor
