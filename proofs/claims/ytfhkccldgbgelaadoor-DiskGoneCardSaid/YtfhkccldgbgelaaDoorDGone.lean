/-
  stavelaw6.DiskGone: the walk.
-/
import Derived.Test.YtfhkccldgbgelaaDoorDWr
namespace Go.Proofs.YtfhkccldgbgelaaDoor
open Go.RowKit Go.Deep Dk Go.Maps
theorem wipe_read (s : St) (b : Bool) (i : Nat) : (s.wipe b).read i = zer := rfl
theorem wipe_ks (s : St) (b : Bool) : (s.wipe b).ks = [] := ks_nil_of fun _ => rfl
theorem crash_n (s : St) (bits : Nat) : (s.crash bits).n = s.n := St.stores_n _ _
def RelG (d S M : Nat) (w0 : World) (len : Nat) (c : Value) (wr : World) : Prop :=
  ∃ (m : Nat) (s : St), m ≤ len ∧ m ≤ 12 ∧ c = .int .i64 m ∧ DiskIn wr d S M s ∧ s.n = 4 ∧ s.dead = false ∧ Below w0.heap.size w0 wr
def RelG2 (d S M : Nat) (s : St) (w0 : World) (c : Value) (wr : World) : Prop := ∃ m : Nat, m ≤ 4 ∧ c = .int .i64 m ∧ DiskIn wr d S M s ∧ Below w0.heap.size w0 wr
set_option maxHeartbeats 8000000 in
set_option maxRecDepth 100000 in
theorem gone_any (v0 : Value) (l : List Ak) (x : Nat) (i : Int) (w : World) (hT : Typ w) (hA : SlA w.heap.size w v0 l) (hok : ∀ q ∈ l, q.Ok) (hx : x < 256) :
    Calls Tryd.prog 8 #[v0, .int .u8 (x : Int), .int .i64 i] w (Bit true w) := by
  have HT := Lib.hid hT
  have HOK := Lib.hid (fun k (hk : k < l.length) => asks_ok hok hk)
  obtain ⟨a, cap, rfl⟩ := hA.len
  have HA := Lib.hid hA
  have HN := Lib.hid (show Calls Tryd.prog 10 #[.int .i64 4] w (NewDisk 4 w) from new_yes 4 w (by omega) (by omega))
  clear hT hA hok
  go_enter Tryd.func8, Tryd.ntmps8
  go_wp2_with fail
  refine HN.out.mono ?_
  rintro e x0 ⟨d, S, M, rfl, hD, h1, h2, h3, hb⟩
  have HD0 := Lib.hid hD
  have HB0 := Lib.hid hb
  have hdS : w.heap.size ≤ d ∧ w.heap.size ≤ S ∧ w.heap.size ≤ M := ⟨h1, h2, h3⟩
  clear hD hb h1 h2 h3
  go_wp2_with fail
  go_loopw [9] (fun c wr => RelG d S M w l.length c wr) (fun c _ => l.length - (RowKit.intOf c).toNat)
  case atStart => exact ⟨0, _, Nat.zero_le _, Nat.zero_le _, rfl, HD0.out, rfl, rfl, HB0.out⟩
  case round =>
    obtain ⟨k, s, hk, hk12, rfl, hD, hn4, hdead, hb⟩ := hrel
    have HD := Lib.hid hD
    have HB := Lib.hid hb
    have HN4 := Lib.hid hn4
    have HDD := Lib.hid hdead
    by_cases hlt : k < l.length ∧ k < 12
    · obtain ⟨hlt, hlt12⟩ := hlt
      obtain ⟨b, o, rfl, hbl, hq⟩ := HA.out.at_ (wr := wr) (fun b hb' => hb.block b hb') hlt
      have hqo := HOK.out k hlt
      generalize l.getD k a0 = q at hq hqo
      have c0 := hq.kind
      have c1 := hq.i
      have c3 := hq.x
      have hbw : b < wr.heap.size := hq.lt
      have hor : Go.bits .or .u8 (q.x : Int) 1 = ((q.x ||| 1 : Nat) : Int) := u8_or_nat q.x 1 hqo.x (by omega)
      have hy : q.x ||| 1 < 256 := Nat.or_lt_two_pow (n := 8) hqo.x (by omega)
      generalize q.x ||| 1 = y at hor hy
      have CW := Lib.hid (fun W' => within_int q.i 0 3 W' (by omega) (by omega) (by omega))
      have CS := Lib.hid (fun W' (hk : KC d S M wr W') (hd : DiskIn W' d S M s) => sector_by hy hk hd)
      have CR := Lib.hid (fun W' (v : Value) (k : Int) (h0 : 0 ≤ k) (h1 : k ≤ 3) (hv : SlB W'.heap.size W' v (secL y)) (hd : DiskIn W' d S M s) (hk : KC d S M wr W') => write_by h0 (by rw [HN4.out]; omega) HDD.out hv hd hk)
      have HMEM := Lib.hid (fun w' (h : KC d S M wr w') => show KC d S M wr w' ∧ w'.cell? ⟨b, o + k * 6 + 1, none⟩ = some (.int .i64 q.i) ∧ w'.cell? ⟨b, o + k * 6 + 3, none⟩ = some (.int .u8 (q.x : Int)) from
        ⟨h, (h.cell hbw (by omega) (by omega) (by omega)).trans c1, (h.cell hbw (by omega) (by omega) (by omega)).trans c3⟩)
      have HKIND := Lib.hid (fun w' (h : KC d S M wr w') => (h.cell hbw (by omega) (by omega) (by omega)).trans c0)
      have hk0 : KC d S M wr wr := KC.refl _ _ _ _
      have hd0 : DiskIn wr d S M s := hD
      have i1 : (k : Int) < l.length := by omega
      have i2 : (0 : Int) ≤ k := by omega
      clear hq hqo hD hb hn4 hdead c0
      go_wp2_with fail
      go_region_held3 (fun w' => KC d S M wr w' ∧ w'.cell? ⟨b, o + k * 6 + 1, none⟩ = some (.int .i64 q.i) ∧ w'.cell? ⟨b, o + k * 6 + 3, none⟩ = some (.int .u8 (q.x : Int))) (exact HMEM.out _ (by repeat (first | assumption | refine KC.drew ?_)))
        (first
          | (go_at_call 35; (with_reducible refine (CW.out _).mono ?_); rintro e w' ⟨kk, ⟨hk1, hk2⟩, rfl, rfl⟩)
          | (go_at_call 12; (with_reducible refine (CS.out _ ?_ ?_).mono ?_); (repeat (first | assumption | refine KC.drew ?_)); (repeat (first | assumption | refine DiskIn.drew ?_)); rintro e w2 ⟨v2, rfl, hv2, hd2, hc2⟩)
          | (go_at_call 11; (with_reducible refine (CR.out _ _ _ hk1 hk2 hv2 hd2 hc2).mono ?_); rintro e w3 ⟨rfl, hd3, hc3⟩))
      all_goals
        have HC3 := Lib.hid hc3
        have HD3 := Lib.hid hd3
        have hkind := HKIND.out w3 hc3
        clear hc3 hd3 hd2 hc2 hv2 hd0 hk0 c1 c3 hk1 hk2
        by_cases hq2 : q.kind = 2
        · have e2 : (q.kind == 2) = true := by simpa using hq2
          have HF := Lib.hid (flush_yes w3 HD3.out HDD.out)
          clear hq2
          go_wp2_with fail
          refine HF.out.mono ?_
          rintro e w4 ⟨rfl, hD4, hG4⟩
          have HD4 := Lib.hid hD4
          have HB4 := Lib.hid (HB.out.trans (Chg.below (Chg.trans HC3.out hG4) HB.out.size hdS.1 hdS.2.1 hdS.2.2))
          clear hD4 hG4
          go_wp2_with fail
          go_roundw
          case rel => exact ⟨k + 1, _, by omega, by omega, by go_num, HD4.out, by rw [flushed_n]; exact HN4.out, by rw [flushed_dead]; exact HDD.out, HB4.out⟩
          case measure => simp [RowKit.intOf]; omega
        · have e2 : (q.kind == 2) = false := by simpa using hq2
          have HB4 := Lib.hid (HB.out.trans (Chg.below HC3.out HB.out.size hdS.1 hdS.2.1 hdS.2.2))
          clear hq2
          go_wp2_with fail
          go_roundw
          case rel => exact ⟨k + 1, _, by omega, by omega, by go_num, HD3.out, HN4.out, HDD.out, HB4.out⟩
          case measure => simp [RowKit.intOf]; omega
    · clear hD hb hn4 hdead
      by_cases hl : k < l.length
      · have i1 : (k : Int) < l.length := by omega
        have i2 : ¬ (k : Int) < 12 := by omega
        clear hlt
        have HDI := Lib.hid (die_any wr HD.out)
        go_wp2_with fail
        refine (HDI.out).mono ?_
        rintro e x1 ⟨rfl, hD1, hG1⟩
        have HB1 := Lib.hid (HB.out.trans (hG1.below HB.out.size hdS.1 hdS.2.1 hdS.2.2))
        have HD1 := Lib.hid hD1
        clear hD1 hG1
        have HX := Lib.hid (show (s.wipe true).n = 4 from HN4.out)
        go_wp2_with fail
        refine (within_int i 0 3 _ (by omega) (by omega) (by omega)).mono ?_
        rintro e w' ⟨n0, ⟨hn1, hn2⟩, rfl, rfl⟩
        obtain ⟨n, rfl⟩ := Int.eq_ofNat_of_zero_le hn1
        have hn3 : n ≤ 3 := by omega
        clear hn1 hn2
        have HE1 := Lib.hid (read_dead x1 HD1.out rfl (n : Int))
        unfold Err2 wrapV errV at HE1
        go_wp2_with fail
        refine (HE1.out).mono ?_
        rintro e w' ⟨rfl, rfl⟩
        have HE2 := Lib.hid (dead_any x1 HD1.out)
        rw [show (s.wipe true).dead = true from rfl] at HE2
        go_wp2_with fail
        refine (HE2.out).mono ?_
        rintro e w' ⟨rfl, rfl⟩
        go_wp2_with fail
        refine (kind_err [(opRead, (n : Int))] 5 x1 _ rfl (HT.out.below HB1.out)).mono ?_
        rintro e x2 ⟨rfl, hb2⟩
        have HB2 := Lib.hid (HB1.out.trans (hb2.mono HB1.out.size))
        have HD2 := Lib.hid (HD1.out.below hb2)
        clear hb2
        go_wp2_with fail
        refine (sector_any x hx _).mono ?_
        rintro e x3 ⟨v3, rfl, hv3, hb3⟩
        have HB3 := Lib.hid (HB2.out.trans (hb3.mono HB2.out.size))
        have HD3 := Lib.hid (HD2.out.below hb3)
        clear hb3
        have HV3_0 := Lib.hid hv3
        clear hv3
        have HE3 := Lib.hid (write_dead x3 HD3.out rfl (n : Int) v3)
        unfold Err1 wrapV errV at HE3
        go_wp2_with fail
        refine (HE3.out).mono ?_
        rintro e w' ⟨rfl, rfl⟩
        go_wp2_with fail
        refine (kind_err [(opWrite, (n : Int))] 5 x3 _ rfl (HT.out.below HB3.out)).mono ?_
        rintro e x4 ⟨rfl, hb4⟩
        have HB4 := Lib.hid (HB3.out.trans (hb4.mono HB3.out.size))
        have HD4 := Lib.hid (HD3.out.below hb4)
        clear hb4
        have HE4 := Lib.hid (flush_dead x4 HD4.out rfl)
        unfold Err1 wrapV errV at HE4
        go_wp2_with fail
        refine (HE4.out).mono ?_
        rintro e w' ⟨rfl, rfl⟩
        go_wp2_with fail
        refine (kind_err [(opFlush, 0)] 5 x4 _ rfl (HT.out.below HB4.out)).mono ?_
        rintro e x5 ⟨rfl, hb5⟩
        have HB5 := Lib.hid (HB4.out.trans (hb5.mono HB4.out.size))
        have HD5 := Lib.hid (HD4.out.below hb5)
        clear hb5
        have HE5 := Lib.hid (show Calls Tryd.prog 15 #[.pointer (some ⟨d, 0, none⟩), .int .i64 (n : Int), .int .i64 0, .int .u32 1] x5 (BitSame false x5) from rot_no x5 HD5.out n 0 1 (fun h => by have := h.1; cases this))
        go_wp2_with fail
        refine (HE5.out).mono ?_
        rintro e w' ⟨rfl, rfl⟩
        have HWT := Lib.hid (waits_any x5 HD5.out)
        rw [wipe_ks] at HWT
        go_wp2_with fail
        refine (HWT.out).mono ?_
        rintro e x6 ⟨v6, rfl, ho6, hb6⟩
        obtain ⟨ga6, ca6, rfl, -⟩ := own_slice ho6
        clear ho6
        have HB6 := Lib.hid (HB5.out.trans (hb6.mono HB5.out.size))
        have HD6 := Lib.hid (HD5.out.below hb6)
        clear hb6
        have HCR := Lib.hid (show Calls Tryd.prog 13 #[.pointer (some ⟨d, 0, none⟩), .int .u64 18446744073709551615] x6 (NextD d S M ((s.wipe true).crash 18446744073709551615) (.tuple #[]) x6) from crash_any x6 HD6.out 18446744073709551615 (by omega))
        go_wp2_with fail
        refine (HCR.out).mono ?_
        rintro e x7 ⟨rfl, hD7, hG7⟩
        have HB7 := Lib.hid (HB6.out.trans (hG7.below HB6.out.size hdS.1 hdS.2.1 hdS.2.2))
        have HD7 := Lib.hid hD7
        clear hD7 hG7
        have HRP := Lib.hid (replace_any x7 HD7.out)
        go_wp2_with fail
        refine (HRP.out).mono ?_
        rintro e x8 ⟨rfl, hD8, hG8⟩
        have HB8 := Lib.hid (HB7.out.trans (hG8.below HB7.out.size hdS.1 hdS.2.1 hdS.2.2))
        have HD8 := Lib.hid hD8
        clear hD8 hG8
        have HX3 := Lib.hid (show (((s.wipe true).crash 18446744073709551615).wipe false).n = 4 from (crash_n _ _).trans HX.out)
        have HX4 := Lib.hid (show (((s.wipe true).crash 18446744073709551615).wipe false).dead = false from rfl)
        have HX5 := Lib.hid (wipe_read ((s.wipe true).crash 18446744073709551615) false)
        generalize ((s.wipe true).crash 18446744073709551615).wipe false = t at *
        go_wp2_with fail
        clear HE1 HE2 HE3 HE4 HE5 HWT HCR HRP HDI HX
        go_loopw [13] (fun c wr => RelG2 d S M t w c wr) (fun c _ => 4 - (RowKit.intOf c).toNat)
        case atStart => exact ⟨0, by omega, rfl, HD8.out, HB8.out⟩
        case round =>
          obtain ⟨m, hm, rfl, hDm, hbm⟩ := hrel
          have HDm := Lib.hid hDm
          have HBm := Lib.hid hbm
          clear hDm hbm
          by_cases hlt4 : m < 4
          · skip
            have HL101 := Lib.hid HDm.out.lt
            have HR101 := Lib.hid (show Calls Tryd.prog 14 #[.pointer (some ⟨d, 0, none⟩), .int .i64 (m : Int)] wr (Reads (zer) wr) from by have := read_yes wr HDm.out HX4.out m (by rw [HX3.out]; exact hlt4); rwa [HX5.out] at this)
            go_wp2_with fail
            refine (HR101.out).mono ?_
            rintro e x101 ⟨v101, rfl, hv101, hb101⟩
            have HB101 := Lib.hid (HBm.out.trans (hb101.mono HBm.out.size))
            have HD101 := Lib.hid (HDm.out.below hb101)
            clear hb101
            have HV101_0 := Lib.hid hv101
            clear hv101
            go_wp2_with fail
            refine (sector_any 0 (by omega) _).mono ?_
            rintro e x102 ⟨v102, rfl, hv102, hb102⟩
            have HB102 := Lib.hid (HB101.out.trans (hb102.mono HB101.out.size))
            have HD102 := Lib.hid (HD101.out.below hb102)
            have HV101_102 := Lib.hid (HV101_0.out.below hb102)
            clear hb102
            have HV102_0 := Lib.hid hv102
            clear hv102
            have HS103 := Lib.hid (show Calls Tryd.prog 17 #[v101, v102] x102 (Bit true x102) by
                have := same_bytes x102.heap.size v101 v102 (zer) (secL 0) x102 HV101_102.out.slb HV102_0.out.slb (Nat.le_refl _) (by rw [zer_length]; omega)
                rwa [decide_eq_true (secL_zer.symm)] at this)
            go_wp2_with fail
            refine (HS103.out).mono ?_
            rintro e x103 ⟨rfl, hb103⟩
            have HB103 := Lib.hid (HB102.out.trans (hb103.mono HB102.out.size))
            have HD103 := Lib.hid (HD102.out.below hb103)
            have HV101_103 := Lib.hid (HV101_102.out.below hb103)
            have HV102_103 := Lib.hid (HV102_0.out.below hb103)
            clear hb103
            go_wp2_with fail
            go_roundw
            case rel => exact ⟨m + 1, by omega, by go_num, HD103.out, HB103.out⟩
            case measure => simp [RowKit.intOf]; omega
          · obtain rfl : m = 4 := by omega
            have HE6 := Lib.hid (dead_any wr HDm.out)
            rw [HX4.out] at HE6
            go_wp2_with fail
            refine (HE6.out).mono ?_
            rintro e w' ⟨rfl, rfl⟩
            go_wp2_with fail
            refine (sector_any x hx _).mono ?_
            rintro e x201 ⟨v201, rfl, hv201, hb201⟩
            have HB201 := Lib.hid (HBm.out.trans (hb201.mono HBm.out.size))
            have HD201 := Lib.hid (HDm.out.below hb201)
            clear hb201
            have HV201_0 := Lib.hid hv201
            clear hv201
            have HW6 := Lib.hid (show Calls Tryd.prog 11 #[.pointer (some ⟨d, 0, none⟩), .int .i64 (n : Int), v201] x201 (NextD d S M (t.write n (secL x)) .nilIface x201) from write_yes x201 HD201.out HX4.out n v201 (secL x) (by rw [HX3.out]; omega) HV201_0.out.slb (secL_length x))
            go_wp2_with fail
            refine (HW6.out).mono ?_
            rintro e x202 ⟨rfl, hD202, hG202⟩
            have HB202 := Lib.hid (HB201.out.trans (hG202.below HB201.out.size hdS.1 hdS.2.1 hdS.2.2))
            have HD202 := Lib.hid hD202
            clear hD202 hG202
            have HF6 := Lib.hid (flush_yes x202 HD202.out HX4.out)
            go_wp2_with fail
            refine (HF6.out).mono ?_
            rintro e x203 ⟨rfl, hD203, hG203⟩
            have HB203 := Lib.hid (HB202.out.trans (hG203.below HB202.out.size hdS.1 hdS.2.1 hdS.2.2))
            have HD203 := Lib.hid hD203
            clear hD203 hG203
            go_wp2_with fail
            refine (disk_runs x203 (HT.out.below HB203.out)).mono ?_
            rintro e x204 ⟨rfl, hb204⟩
            have HB204 := Lib.hid (HB203.out.trans (hb204.mono HB203.out.size))
            have HD204 := Lib.hid (HD203.out.below hb204)
            clear hb204
            go_wp2_with fail
            go_ret
            exact ⟨rfl, HB204.out⟩
      · have i1 : ¬ (k : Int) < l.length := by omega
        clear hlt
        have HDI := Lib.hid (die_any wr HD.out)
        go_wp2_with fail
        refine (HDI.out).mono ?_
        rintro e x1 ⟨rfl, hD1, hG1⟩
        have HB1 := Lib.hid (HB.out.trans (hG1.below HB.out.size hdS.1 hdS.2.1 hdS.2.2))
        have HD1 := Lib.hid hD1
        clear hD1 hG1
        have HX := Lib.hid (show (s.wipe true).n = 4 from HN4.out)
        go_wp2_with fail
        refine (within_int i 0 3 _ (by omega) (by omega) (by omega)).mono ?_
        rintro e w' ⟨n0, ⟨hn1, hn2⟩, rfl, rfl⟩
        obtain ⟨n, rfl⟩ := Int.eq_ofNat_of_zero_le hn1
        have hn3 : n ≤ 3 := by omega
        clear hn1 hn2
        have HE1 := Lib.hid (read_dead x1 HD1.out rfl (n : Int))
        unfold Err2 wrapV errV at HE1
        go_wp2_with fail
        refine (HE1.out).mono ?_
        rintro e w' ⟨rfl, rfl⟩
        have HE2 := Lib.hid (dead_any x1 HD1.out)
        rw [show (s.wipe true).dead = true from rfl] at HE2
        go_wp2_with fail
        refine (HE2.out).mono ?_
        rintro e w' ⟨rfl, rfl⟩
        go_wp2_with fail
        refine (kind_err [(opRead, (n : Int))] 5 x1 _ rfl (HT.out.below HB1.out)).mono ?_
        rintro e x2 ⟨rfl, hb2⟩
        have HB2 := Lib.hid (HB1.out.trans (hb2.mono HB1.out.size))
        have HD2 := Lib.hid (HD1.out.below hb2)
        clear hb2
        go_wp2_with fail
        refine (sector_any x hx _).mono ?_
        rintro e x3 ⟨v3, rfl, hv3, hb3⟩
        have HB3 := Lib.hid (HB2.out.trans (hb3.mono HB2.out.size))
        have HD3 := Lib.hid (HD2.out.below hb3)
        clear hb3
        have HV3_0 := Lib.hid hv3
        clear hv3
        have HE3 := Lib.hid (write_dead x3 HD3.out rfl (n : Int) v3)
        unfold Err1 wrapV errV at HE3
        go_wp2_with fail
        refine (HE3.out).mono ?_
        rintro e w' ⟨rfl, rfl⟩
        go_wp2_with fail
        refine (kind_err [(opWrite, (n : Int))] 5 x3 _ rfl (HT.out.below HB3.out)).mono ?_
        rintro e x4 ⟨rfl, hb4⟩
        have HB4 := Lib.hid (HB3.out.trans (hb4.mono HB3.out.size))
        have HD4 := Lib.hid (HD3.out.below hb4)
        clear hb4
        have HE4 := Lib.hid (flush_dead x4 HD4.out rfl)
        unfold Err1 wrapV errV at HE4
        go_wp2_with fail
        refine (HE4.out).mono ?_
        rintro e w' ⟨rfl, rfl⟩
        go_wp2_with fail
        refine (kind_err [(opFlush, 0)] 5 x4 _ rfl (HT.out.below HB4.out)).mono ?_
        rintro e x5 ⟨rfl, hb5⟩
        have HB5 := Lib.hid (HB4.out.trans (hb5.mono HB4.out.size))
        have HD5 := Lib.hid (HD4.out.below hb5)
        clear hb5
        have HE5 := Lib.hid (show Calls Tryd.prog 15 #[.pointer (some ⟨d, 0, none⟩), .int .i64 (n : Int), .int .i64 0, .int .u32 1] x5 (BitSame false x5) from rot_no x5 HD5.out n 0 1 (fun h => by have := h.1; cases this))
        go_wp2_with fail
        refine (HE5.out).mono ?_
        rintro e w' ⟨rfl, rfl⟩
        have HWT := Lib.hid (waits_any x5 HD5.out)
        rw [wipe_ks] at HWT
        go_wp2_with fail
        refine (HWT.out).mono ?_
        rintro e x6 ⟨v6, rfl, ho6, hb6⟩
        obtain ⟨ga6, ca6, rfl, -⟩ := own_slice ho6
        clear ho6
        have HB6 := Lib.hid (HB5.out.trans (hb6.mono HB5.out.size))
        have HD6 := Lib.hid (HD5.out.below hb6)
        clear hb6
        have HCR := Lib.hid (show Calls Tryd.prog 13 #[.pointer (some ⟨d, 0, none⟩), .int .u64 18446744073709551615] x6 (NextD d S M ((s.wipe true).crash 18446744073709551615) (.tuple #[]) x6) from crash_any x6 HD6.out 18446744073709551615 (by omega))
        go_wp2_with fail
        refine (HCR.out).mono ?_
        rintro e x7 ⟨rfl, hD7, hG7⟩
        have HB7 := Lib.hid (HB6.out.trans (hG7.below HB6.out.size hdS.1 hdS.2.1 hdS.2.2))
        have HD7 := Lib.hid hD7
        clear hD7 hG7
        have HRP := Lib.hid (replace_any x7 HD7.out)
        go_wp2_with fail
        refine (HRP.out).mono ?_
        rintro e x8 ⟨rfl, hD8, hG8⟩
        have HB8 := Lib.hid (HB7.out.trans (hG8.below HB7.out.size hdS.1 hdS.2.1 hdS.2.2))
        have HD8 := Lib.hid hD8
        clear hD8 hG8
        have HX3 := Lib.hid (show (((s.wipe true).crash 18446744073709551615).wipe false).n = 4 from (crash_n _ _).trans HX.out)
        have HX4 := Lib.hid (show (((s.wipe true).crash 18446744073709551615).wipe false).dead = false from rfl)
        have HX5 := Lib.hid (wipe_read ((s.wipe true).crash 18446744073709551615) false)
        generalize ((s.wipe true).crash 18446744073709551615).wipe false = t at *
        go_wp2_with fail
        clear HE1 HE2 HE3 HE4 HE5 HWT HCR HRP HDI HX
        go_loopw [13] (fun c wr => RelG2 d S M t w c wr) (fun c _ => 4 - (RowKit.intOf c).toNat)
        case atStart => exact ⟨0, by omega, rfl, HD8.out, HB8.out⟩
        case round =>
          obtain ⟨m, hm, rfl, hDm, hbm⟩ := hrel
          have HDm := Lib.hid hDm
          have HBm := Lib.hid hbm
          clear hDm hbm
          by_cases hlt4 : m < 4
          · skip
            have HL101 := Lib.hid HDm.out.lt
            have HR101 := Lib.hid (show Calls Tryd.prog 14 #[.pointer (some ⟨d, 0, none⟩), .int .i64 (m : Int)] wr (Reads (zer) wr) from by have := read_yes wr HDm.out HX4.out m (by rw [HX3.out]; exact hlt4); rwa [HX5.out] at this)
            go_wp2_with fail
            refine (HR101.out).mono ?_
            rintro e x101 ⟨v101, rfl, hv101, hb101⟩
            have HB101 := Lib.hid (HBm.out.trans (hb101.mono HBm.out.size))
            have HD101 := Lib.hid (HDm.out.below hb101)
            clear hb101
            have HV101_0 := Lib.hid hv101
            clear hv101
            go_wp2_with fail
            refine (sector_any 0 (by omega) _).mono ?_
            rintro e x102 ⟨v102, rfl, hv102, hb102⟩
            have HB102 := Lib.hid (HB101.out.trans (hb102.mono HB101.out.size))
            have HD102 := Lib.hid (HD101.out.below hb102)
            have HV101_102 := Lib.hid (HV101_0.out.below hb102)
            clear hb102
            have HV102_0 := Lib.hid hv102
            clear hv102
            have HS103 := Lib.hid (show Calls Tryd.prog 17 #[v101, v102] x102 (Bit true x102) by
                have := same_bytes x102.heap.size v101 v102 (zer) (secL 0) x102 HV101_102.out.slb HV102_0.out.slb (Nat.le_refl _) (by rw [zer_length]; omega)
                rwa [decide_eq_true (secL_zer.symm)] at this)
            go_wp2_with fail
            refine (HS103.out).mono ?_
            rintro e x103 ⟨rfl, hb103⟩
            have HB103 := Lib.hid (HB102.out.trans (hb103.mono HB102.out.size))
            have HD103 := Lib.hid (HD102.out.below hb103)
            have HV101_103 := Lib.hid (HV101_102.out.below hb103)
            have HV102_103 := Lib.hid (HV102_0.out.below hb103)
            clear hb103
            go_wp2_with fail
            go_roundw
            case rel => exact ⟨m + 1, by omega, by go_num, HD103.out, HB103.out⟩
            case measure => simp [RowKit.intOf]; omega
          · obtain rfl : m = 4 := by omega
            have HE6 := Lib.hid (dead_any wr HDm.out)
            rw [HX4.out] at HE6
            go_wp2_with fail
            refine (HE6.out).mono ?_
            rintro e w' ⟨rfl, rfl⟩
            go_wp2_with fail
            refine (sector_any x hx _).mono ?_
            rintro e x201 ⟨v201, rfl, hv201, hb201⟩
            have HB201 := Lib.hid (HBm.out.trans (hb201.mono HBm.out.size))
            have HD201 := Lib.hid (HDm.out.below hb201)
            clear hb201
            have HV201_0 := Lib.hid hv201
            clear hv201
            have HW6 := Lib.hid (show Calls Tryd.prog 11 #[.pointer (some ⟨d, 0, none⟩), .int .i64 (n : Int), v201] x201 (NextD d S M (t.write n (secL x)) .nilIface x201) from write_yes x201 HD201.out HX4.out n v201 (secL x) (by rw [HX3.out]; omega) HV201_0.out.slb (secL_length x))
            go_wp2_with fail
            refine (HW6.out).mono ?_
            rintro e x202 ⟨rfl, hD202, hG202⟩
            have HB202 := Lib.hid (HB201.out.trans (hG202.below HB201.out.size hdS.1 hdS.2.1 hdS.2.2))
            have HD202 := Lib.hid hD202
            clear hD202 hG202
            have HF6 := Lib.hid (flush_yes x202 HD202.out HX4.out)
            go_wp2_with fail
            refine (HF6.out).mono ?_
            rintro e x203 ⟨rfl, hD203, hG203⟩
            have HB203 := Lib.hid (HB202.out.trans (hG203.below HB202.out.size hdS.1 hdS.2.1 hdS.2.2))
            have HD203 := Lib.hid hD203
            clear hD203 hG203
            go_wp2_with fail
            refine (disk_runs x203 (HT.out.below HB203.out)).mono ?_
            rintro e x204 ⟨rfl, hb204⟩
            have HB204 := Lib.hid (HB203.out.trans (hb204.mono HB203.out.size))
            have HD204 := Lib.hid (HD203.out.below hb204)
            clear hb204
            go_wp2_with fail
            go_ret
            exact ⟨rfl, HB204.out⟩
end Go.Proofs.YtfhkccldgbgelaaDoor
