/-
  stavelaw4.CodeBytes: the walk.
-/
import Derived.Test.YtoklknjnegpaaaaDoorCBytesL
namespace Go.Proofs.YtoklknjnegpaaaaDoor
open Go.RowKit Gf Cd
attribute [local go_sem ↓] Go.wp_at_zero Go.wp_at_succ
set_option maxHeartbeats 8000000 in
set_option maxRecDepth 100000 in
theorem bytes_any (k n size at_ : Int) (vb : Value) (bl : List UInt8) (x : Nat) (w : World) (hT : Typ w) (hv : SlB w.heap.size w vb bl) (hbl : bl.length ≤ maxLen) (hx : x < 256) :
    Calls Tryd.prog 9 #[.int .i64 k, .int .i64 n, .int .i64 size, .int .i64 at_, vb, .int .u8 x] w (Bit true w) := by
  unfold maxLen at hbl
  have HT := Lib.hid hT
  have HV := Lib.hid hv
  obtain ⟨av, cv, rfl, _⟩ := hv.len
  clear hT hv
  go_enter Tryd.func9, Tryd.ntmps9
  go_wp2_with fail
  refine (within_num k 1 8 _ (by omega) (by omega) (by omega)).mono ?_
  rintro e w' ⟨kk, ⟨hk1, hk8⟩, rfl, rfl⟩
  go_wp2_with fail
  refine (within_num n kk 8 _ (by omega) (by omega) (by omega)).mono ?_
  rintro e w' ⟨nn, ⟨hn1, hn8⟩, rfl, rfl⟩
  go_wp2_with fail
  refine (new_yes kk nn w (by omega) (by omega) (by omega)).mono ?_
  rintro e w1 ⟨c, rfl, hC, hb1⟩
  have HC := Lib.hid hC
  have HB1 := Lib.hid hb1
  clear hC hb1
  go_wp2_with fail
  refine (within_num size 1 12 _ (by omega) (by omega) (by omega)).mono ?_
  rintro e w' ⟨s, ⟨hs1, hs12⟩, rfl, rfl⟩
  go_wp2_with fail
  refine (made_any w.heap.size kk s _ bl w1 (HV.out.below HB1.out) HB1.out.size (by omega) (by omega) hbl).mono ?_
  rintro e w2 ⟨v2, us2, rfl, hO2, hb2⟩
  have HO2 := Lib.hid hO2
  have HB2 := Lib.hid hb2
  obtain ⟨a2, c2, rfl, _⟩ := hO2.slice
  have hml : (madeL kk s bl).length = kk := madeL_length ..
  have HML := Lib.hid hml
  have HLE := Lib.hid (show ∀ j, j < kk → ((madeL kk s bl).getD j []).length = s from madeL_len)
  clear hO2 hb2
  rw [HML.out] at HO2 ⊢
  clear hml
  generalize madeL kk s bl = bs at *
  go_wp2_with fail
  have hslb2 := HO2.out.slbs
  refine (encode_yes w1.heap.size w2.heap.size c kk nn s _ bs w2 (HC.out.below HB2.out) HB2.out.size hslb2 (Nat.le_refl _) HML.out HLE.out (by omega)).mono ?_
  rintro e w3 ⟨v3, us3, rfl, hO3, hb3⟩
  have HO3 := Lib.hid hO3
  have HB3 := Lib.hid hb3
  obtain ⟨a3, c3, rfl, _⟩ := hO3.slice
  clear hslb2 hO3 hb3
  have hs1' : (0 : Int) ≤ (s : Int) - 1 := by omega
  go_wp2_with fail
  refine (within_num at_ 0 ((s : Int) - 1) _ (by omega) (by omega) (by omega)).mono ?_
  rintro e w' ⟨p, ⟨hp0, hps⟩, rfl, rfl⟩
  have hp : p < s := by omega
  obtain ⟨q, hq⟩ : ∃ q : Nat, (kk : Int) - 1 = (q : Int) := ⟨kk - 1, by omega⟩
  have hqk : q < kk := by omega
  have HQ := Lib.hid (show q = kk - 1 by omega)
  have hO23 := HO2.out.below HB3.out
  obtain ⟨gq, cq, eq, hcq⟩ := own_slice (hO23.each q (by rw [HML.out]; exact hqk))
  have hrq := hO23.each q (by rw [HML.out]; exact hqk)
  rw [eq, HLE.out q hqk] at hrq
  rw [HLE.out q hqk] at eq
  obtain ⟨gb, rfl⟩ := own_addr hrq (by omega)
  have htop := hO23.top
  rw [HML.out] at htop
  obtain ⟨g2, rfl⟩ := own_addr htop (by omega)
  clear htop
  have y1 : w3.cell? ⟨g2, q, none⟩ = some (.slice (some ⟨gb, 0, none⟩) s cq) := by rw [← eq]; exact hO23.cell (by rw [HML.out]; exact hqk)
  have y2 : w3.cell? ⟨gb, p, none⟩ = some (.int .u8 ((bs.getD q []).getD p 0).toNat) := own_cell hrq (bytesV_at (by rw [HLE.out q hqk]; exact hp))
  have y3 := own_frozen hrq p
  have hgb := own_block (hO23.each q (by rw [HML.out]; exact hqk)) (k := gb) (by rw [eq]; rfl)
  have hgb2 : gb < w2.heap.size := by
    have h1 := HO2.out.each q (by rw [HML.out]; exact hqk)
    exact (own_block h1 (k := gb) (by rw [eq]; rfl)).2
  have hy8 : ((bs.getD q []).getD p 0).toNat < 256 := UInt8.toNat_lt _
  have hxr := u8_xor_nat ((bs.getD q []).getD p 0).toNat x hy8 hx
  have hz8 : ((bs.getD q []).getD p 0).toNat ^^^ x < 256 := xor_lt hy8 hx
  have HTU := Lib.hid (show ∀ W, W = w3.setCell ⟨gb, p, none⟩ (.int .u8 (((bs.getD q []).getD p 0).toNat ^^^ x : Nat)) →
      OwnLs w1.heap.size W (.slice (some ⟨g2, 0, none⟩) kk c2) us2 (turnL kk p x bs) ∧ OwnLs w2.heap.size W (.slice a3 (encL kk nn bs s).length c3) us3 (encL kk nn bs s) ∧ Below w1.heap.size w3 W from fun W hW => by
    have hg : Grew w3 (some gb) W (some gb) := by rw [hW]; exact ⟨grownBy_set _ _ _ _, Or.inl rfl⟩
    refine ⟨?_, HO3.out.grew hg (fun k hk => by injection hk with hk; omega), by rw [hW]; exact (Below.refl _ _).setCell (by exact hgb.1) _⟩
    have h1 := own_set hrq p (.int .u8 (((bs.getD q []).getD p 0).toNat ^^^ x : Nat))
    rw [bytesV_set _ _ _ hz8, ← hW] at h1
    have h2 := hO23.bytes (i := q) (l := (bs.getD q []).set p (UInt8.ofNat (((bs.getD q []).getD p 0).toNat ^^^ x))) (by rw [HML.out]; exact hqk) (by rw [eq, List.length_set, HLE.out q hqk]; exact h1) (by rw [eq]; exact hg)
    unfold turnL
    rw [← HQ.out]
    exact h2)
  clear hO23 hrq eq hgb hgb2
  generalize ((bs.getD q []).getD p 0).toNat ^^^ x = z at *
  generalize ((bs.getD q []).getD p 0).toNat = y at *
  have hps' : (p : Int) < s := by omega
  have hqk' : (q : Int) < kk := by omega
  go_wp2_with fail
  obtain ⟨w4, hw4⟩ : ∃ w4, w4 = w3.setCell ⟨gb, p, none⟩ (.int .u8 (z : Nat)) := ⟨_, rfl⟩
  obtain ⟨hO4, hL4, hb4⟩ := HTU.out w4 hw4
  rw [← hw4]
  have HO4 := Lib.hid hO4
  have HL4 := Lib.hid hL4
  have HB4 := Lib.hid hb4
  have HB14 := Lib.hid (show Below w1.heap.size w1 w4 from (bthen HB2.out HB3.out).trans hb4)
  clear hw4 hO4 hL4 hb4 y1 y2 y3 HTU
  have hslb4 := HO4.out.slbs
  refine (encode_yes w1.heap.size w4.heap.size c kk nn s _ (turnL kk p x bs) w4 (HC.out.below HB14.out) HB14.out.size hslb4 (Nat.le_refl _) (by rw [turnL_length]; exact HML.out) (turnL_len HML.out HLE.out) (by omega)).mono ?_
  rintro e w5 ⟨v5, us5, rfl, hO5, hb5⟩
  have HL5 := Lib.hid ((HL4.out.below hb5).slbs)
  have HM5 := Lib.hid hO5.slbs
  have HB5 := Lib.hid (show Below w.heap.size w w5 from HB1.out.trans ((HB14.out.trans (Below.mono hb5 HB14.out.size)).mono HB1.out.size))
  obtain ⟨a5, c5, rfl, _⟩ := hO5.slice
  clear hslb4 hO5 hb5
  rw [encL_length] at HL5 HM5
  have he1 : (encL kk nn bs s).length = nn := encL_length ..
  have he2 : (encL kk nn (turnL kk p x bs) s).length = nn := encL_length ..
  rw [he1, he2]
  have HEQ := Lib.hid (fun i y (hi : i < nn) (hy : y < s) => enc_turn (k := kk) (n := nn) (s := s) (i := i) (p := p) (x := x) (y := y) (bs := bs) (by omega) HML.out HLE.out hp hx hi hy)
  have HLL := Lib.hid (fun i (hi : i < nn) => encL_len (k := kk) (n := nn) (s := s) (bs := bs) i hi)
  have HMM := Lib.hid (fun i (hi : i < nn) => encL_len (k := kk) (n := nn) (s := s) (bs := turnL kk p x bs) i hi)
  have HE1 := Lib.hid he1
  have HE2 := Lib.hid he2
  clear he1 he2
  generalize encL kk nn bs s = ll at *
  generalize encL kk nn (turnL kk p x bs) s = mm at *
  go_wp2_with fail
  go_loopw [96] (fun c wr => RelBo nn w5 c wr) (fun c _ => nn - (intOf c).toNat)
  case atStart => exact ⟨0, Nat.zero_le _, rfl, Below.refl _ _⟩
  case round =>
    obtain ⟨i, hi, rfl, hb⟩ := hrel
    by_cases hin : i < nn
    · obtain ⟨bb, oo, cap, b2, o2, cc, e1, x1, -⟩ := HL5.out.byte (Nat.le_refl _) hb (i := i) (y := 0) (by rw [HE1.out]; exact hin) (by rw [HLL.out i hin]; omega)
      rw [HE1.out] at e1
      injection e1 with e1 _ e2
      subst e1 e2
      rw [HLL.out i hin] at x1
      have HB := Lib.hid hb
      clear hb
      obtain ⟨wo, rfl⟩ : ∃ wo : World, wo = wr := ⟨_, rfl⟩
      go_wp2_with fail
      go_loopw [104] (fun c wr => RelBo s wo c wr) (fun c _ => s - (intOf c).toNat)
      case atStart => exact ⟨0, Nat.zero_le _, rfl, Below.refl _ _⟩
      case round =>
        obtain ⟨y, hy, rfl, hb2⟩ := hrel
        have hb5 := bthen HB.out hb2
        clear x1
        by_cases hys : y < s
        · obtain ⟨l1, l2, l3, b3, o3, c6, e3, x2, x3⟩ := HL5.out.byte (Nat.le_refl _) hb5 (i := i) (y := y) (by rw [HE1.out]; exact hin) (by rw [HLL.out i hin]; exact hys)
          rw [HE1.out] at e3
          injection e3 with e3 _ e4
          injection e3 with e3
          injection e3 with e3 e5 _
          subst e3 e4 e5
          rw [HLL.out i hin] at x2
          obtain ⟨m1, m2, m3, b4, o4, c7, e6, x4, x5⟩ := HM5.out.byte (Nat.le_refl _) hb5 (i := i) (y := y) (by rw [HE2.out]; exact hin) (by rw [HMM.out i hin]; exact hys)
          rw [HE2.out] at e6
          injection e6 with e6 _ e7
          subst e6 e7
          rw [HMM.out i hin] at x4
          obtain ⟨hq1, hq2⟩ := HEQ.out i y hin hys
          have hl8 : ((ll.getD i []).getD y 0).toNat < 256 := UInt8.toNat_lt _
          have hm8 : ((mm.getD i []).getD y 0).toNat < 256 := UInt8.toNat_lt _
          have HB5' := Lib.hid hb2
          have hin' : (i : Int) < nn := by omega
          have hys' : (y : Int) < s := by omega
          generalize ((ll.getD i []).getD y 0).toNat = L at *
          generalize ((mm.getD i []).getD y 0).toNat = M at *
          clear hb2 hb5
          by_cases hyp : y = p
          · subst hyp
            by_cases hqi : q ≤ i
            · have hiff := hq2 rfl (by have := HQ.out; omega)
              have hqi' : (q : Int) ≤ i := by omega
              clear hq1 hq2
              by_cases hx0 : x = 0
              · obtain rfl : L = M := hiff.2 hx0
                have h1 : ((x : Int) == 0) = true := by simpa using hx0
                clear hiff hx0
                go_wp2_with fail
                go_quiet (fail)
                go_wp2_with fail
                go_roundw
                case rel => exact ⟨y + 1, by omega, by go_num, below_drewN HB5'.out _⟩
                case measure => simp [intOf]; omega
              · have h1 : ((x : Int) == 0) = false := by simpa using hx0
                have h2 : ((L : Int) == M) = false := by simpa using fun e : (L : Int) = M => hx0 (hiff.1 (by omega))
                clear hiff hx0
                go_wp2_with fail
                go_quiet (fail)
                go_wp2_with fail
                go_roundw
                case rel => exact ⟨y + 1, by omega, by go_num, below_drewN HB5'.out _⟩
                case measure => simp [intOf]; omega
            · have hqi' : (i : Int) < q := by omega
              have hqd : decide (q ≤ i) = false := decide_eq_false hqi
              clear hq1 hq2
              go_wp2_with fail
              go_quiet (fail)
              go_wp2_with fail
              go_roundw
              case rel => exact ⟨y + 1, by omega, by go_num, below_drewN HB5'.out _⟩
              case measure => simp [intOf]; omega
          · obtain rfl : L = M := hq1 hyp
            have h1 : ((y : Int) != p) = true := by simpa using (by omega : ¬ (y : Int) = p)
            have h2 : ((y : Int) == p) = false := by simpa using (by omega : ¬ (y : Int) = p)
            clear hq1 hq2 hyp
            go_wp2_with fail
            go_quiet (fail)
            go_wp2_with fail
            go_roundw
            case rel => exact ⟨y + 1, by omega, by go_num, below_drewN HB5'.out _⟩
            case measure => simp [intOf]; omega
        · obtain rfl : y = s := by omega
          have HB5' := Lib.hid (bthen HB.out hb2)
          clear hb2 hb5
          go_wp2_with fail
          go_roundw
          case rel => exact ⟨i + 1, by omega, by go_num, HB5'.out⟩
          case measure => simp [intOf]; omega
    · obtain rfl : i = nn := by omega
      have HB := Lib.hid (bthen HB5.out hb)
      clear hb
      go_wp2_with fail
      refine (code_runs wr (HT.out.below HB.out)).mono ?_
      rintro e w6 ⟨rfl, hb6⟩
      have HB6 := Lib.hid (bthen HB.out hb6)
      clear hb6
      go_wp2_with fail
      go_ret
      exact ⟨rfl, HB6.out⟩
end Go.Proofs.YtoklknjnegpaaaaDoor
