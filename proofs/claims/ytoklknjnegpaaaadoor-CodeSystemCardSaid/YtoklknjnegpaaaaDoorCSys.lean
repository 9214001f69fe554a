/-
  stavelaw4.CodeSystem: the walk.
-/
import Derived.Test.YtoklknjnegpaaaaDoorCSysL
namespace Go.Proofs.YtoklknjnegpaaaaDoor
open Go.RowKit Gf Cd
attribute [local go_sem ↓] Go.wp_at_zero Go.wp_at_succ
set_option maxHeartbeats 4000000 in
set_option maxRecDepth 100000 in
theorem system_any (k n size : Int) (va vb : Value) (al bl : List UInt8) (w : World) (hT : Typ w) (hva : SlB w.heap.size w va al) (hvb : SlB w.heap.size w vb bl) (hal : al.length ≤ maxLen) (hbl : bl.length ≤ maxLen) :
    Calls Tryd.prog 8 #[.int .i64 k, .int .i64 n, .int .i64 size, va, vb] w (Bit true w) := by
  unfold maxLen at hal hbl
  have HT := Lib.hid hT
  have HVA := Lib.hid hva
  have HVB := Lib.hid hvb
  obtain ⟨av, cv, rfl, _⟩ := hva.len
  obtain ⟨av', cv', rfl, _⟩ := hvb.len
  clear hT hva hvb
  go_enter Tryd.func8, Tryd.ntmps8
  go_wp2_with fail
  refine (within_num k 1 8 _ (by omega) (by omega) (by omega)).mono ?_
  rintro e w' ⟨kk, ⟨hk1, hk8⟩, rfl, rfl⟩
  go_wp2_with fail
  refine (within_num n kk 8 _ (by omega) (by omega) (by omega)).mono ?_
  rintro e w' ⟨nn, ⟨hn1, hn8⟩, rfl, rfl⟩
  go_wp2_with fail
  refine (new_yes kk nn w (by omega) (by omega) (by omega)).mono ?_
  rintro e w1 ⟨c, rfl, hC, hb1⟩
  have HC := Lib.hid hC
  have HB1 := Lib.hid hb1
  clear hC hb1
  go_wp2_with fail
  refine (within_num size 0 12 _ (by omega) (by omega) (by omega)).mono ?_
  rintro e w' ⟨s, ⟨hs1, hs12⟩, rfl, rfl⟩
  go_wp2_with fail
  refine (made_any w.heap.size kk s _ al w1 (HVA.out.below HB1.out) HB1.out.size (by omega) (by omega) hal).mono ?_
  rintro e w2 ⟨v2, us2, rfl, hO2, hb2⟩
  have HO2 := Lib.hid hO2
  have HB2 := Lib.hid hb2
  obtain ⟨a2, c2, rfl, _⟩ := hO2.slice
  have HMLX := Lib.hid (madeL_length kk s al)
  have HLEX := Lib.hid (show ∀ j, j < kk → ((madeL kk s al).getD j []).length = s from madeL_len)
  clear hO2 hb2
  rw [HMLX.out] at HO2 ⊢
  generalize madeL kk s al = X at *
  go_wp2_with fail
  refine (made_any w.heap.size kk s _ bl w2 ((HVB.out.below HB1.out).below (HB2.out.mono HB1.out.size)) (Nat.le_trans HB1.out.size HB2.out.size) (by omega) (by omega) hbl).mono ?_
  rintro e w3 ⟨v3, us3, rfl, hO3, hb3⟩
  have HO3 := Lib.hid hO3
  have HB3 := Lib.hid hb3
  obtain ⟨a3, c3, rfl, _⟩ := hO3.slice
  have HMLY := Lib.hid (madeL_length kk s bl)
  have HLEY := Lib.hid (show ∀ j, j < kk → ((madeL kk s bl).getD j []).length = s from madeL_len)
  clear hO3 hb3
  rw [HMLY.out] at HO3 ⊢
  generalize madeL kk s bl = Y at *
  go_wp2_with fail
  refine (made_any 0 kk s _ [] w3 (Or.inl ⟨rfl, _, _, rfl⟩) (Nat.zero_le _) (by omega) (by omega) (by simp)).mono ?_
  rintro e w4 ⟨v4, us4, rfl, hO4, hb4⟩
  rw [zL_start X Y] at hO4
  have HO4 := Lib.hid hO4
  have HB4 := Lib.hid hb4
  obtain ⟨a4, c4, rfl, _⟩ := hO4.slice
  clear hO4 hb4
  rw [zL_length] at HO4 ⊢
  have HX4 := Lib.hid ((HO2.out.slbs.below HB3.out).below (HB4.out.mono HB3.out.size))
  have HY4 := Lib.hid (HO3.out.slbs.below HB4.out)
  go_wp2_with fail
  go_loopw [61] (fun c wr => RelZ X Y kk s w3 (.slice a4 kk c4) us4 w4 c wr) (fun c _ => kk - (intOf c).toNat)
  case atStart => exact ⟨0, Nat.zero_le _, rfl, HO4.out, Below.refl _ _⟩
  case round =>
    obtain ⟨i, hi, rfl, hO, hb⟩ := hrel
    by_cases hin : i < kk
    · have hrow := hO.each i (by rw [zL_length]; exact hin)
      obtain ⟨gz, cz, hz, hcz⟩ := own_slice hrow
      rw [zL_len i hin] at hz hcz
      have htop := hO.top
      rw [zL_length] at htop
      obtain ⟨g4, rfl⟩ := own_addr htop (by omega)
      have hcell := hO.cell (i := i) (by rw [zL_length]; exact hin)
      rw [hz] at hcell
      have HO := Lib.hid hO
      have HB := Lib.hid hb
      have HZ := Lib.hid hz
      have hin' : (i : Int) < kk := by omega
      clear hO hb hz hrow htop
      obtain ⟨wo, rfl⟩ : ∃ wo : World, wo = wr := ⟨_, rfl⟩
      go_wp2_with fail
      go_loopw [69] (fun c wr => RelZj X Y kk s i w3 (.slice (some ⟨g4, 0, none⟩) kk c4) us4 w4 c wr) (fun c _ => s - (intOf c).toNat)
      case atStart => exact ⟨0, Nat.zero_le _, rfl, HO.out, HB.out⟩
      case round =>
        obtain ⟨j, hj, rfl, hO, hb⟩ := hrel
        clear hcell
        by_cases hjs : j < s
        · have hcell := hO.cell (i := i) (by rw [zL_length]; exact hin)
          rw [HZ.out] at hcell
          have hrow := hO.each i (by rw [zL_length]; exact hin)
          rw [HZ.out, zL_len i hin] at hrow
          obtain ⟨gb, rfl⟩ := own_addr hrow (by omega)
          have hz1 := own_cell hrow (bytesV_at (i := j) (by rw [zL_len i hin]; exact hjs))
          have hz2 := own_frozen hrow j
          have hO' := hO
          have HNX := Lib.hid (relZj_next (X := X) (Y := Y) (w4 := w4) hin hjs hO' hb HZ.out rfl)
          obtain ⟨xb, xo, xc, xg, xp, xq, e1, d1, d2⟩ := (HX4.out.below (hb.mono HB3.out.size)).byte (wr := wr) (Nat.le_trans (Nat.le_trans HB3.out.size HB4.out.size) hb.size) (Below.refl _ _) (i := i) (y := j) (by rw [HMLX.out]; exact hin) (by rw [HLEX.out i hin]; exact hjs)
          obtain ⟨yb, yo, yc, yg, yp, yq, e2, d3, d4⟩ := (HY4.out.below hb).byte (wr := wr) (Nat.le_trans HB4.out.size hb.size) (Below.refl _ _) (i := i) (y := j) (by rw [HMLY.out]; exact hin) (by rw [HLEY.out i hin]; exact hjs)
          rw [HMLX.out] at e1
          rw [HMLY.out] at e2
          injection e1 with e1 _ e1'
          injection e2 with e2 _ e2'
          subst e1 e1' e2 e2'
          rw [HLEX.out i hin] at d1
          rw [HLEY.out i hin] at d3
          rw [show ((X.getD i []).getD j 0).toNat = mat X i j from rfl] at d2
          rw [show ((Y.getD i []).getD j 0).toNat = mat Y i j from rfl] at d4
          have m1 := mat_lt X i j
          have m2 := mat_lt Y i j
          have hx := u8_xor_nat _ _ m1 m2
          have hjs' : (j : Int) < s := by omega
          generalize mat X i j ^^^ mat Y i j = z at *
          generalize mat X i j = za at *
          generalize mat Y i j = zb at *
          generalize ((zL X Y kk s i j).getD i []).getD j 0 = zo at *
          clear hO hO' hb hrow
          go_wp2_with fail
          go_region
          go_wp2_with fail
          go_roundw
          case rel => exact HNX.out 1
          case measure => simp [intOf]; omega
        · obtain rfl : j = s := by omega
          have HOE := Lib.hid hO
          have HBE := Lib.hid hb
          clear hO hb
          go_wp2_with fail
          go_roundw
          case rel => exact ⟨i + 1, by omega, by go_num, by have := HOE.out; rwa [zL_wrap] at this, HBE.out⟩
          case measure => simp [intOf]; omega
    · obtain rfl : i = kk := by omega
      have hz5 := hb.size
      have HX5 := Lib.hid (HX4.out.below (hb.mono HB3.out.size))
      have HY5 := Lib.hid (HY4.out.below hb)
      have HZ5 := Lib.hid hO.slbs
      have HB5 := Lib.hid (show Below w1.heap.size w1 wr from (bthen (bthen HB2.out HB3.out) HB4.out).trans (hb.mono (Nat.le_trans HB2.out.size HB3.out.size)))
      have hz12 : w1.heap.size ≤ wr.heap.size := HB5.out.size
      have hz25 : w2.heap.size ≤ wr.heap.size := Nat.le_trans (Nat.le_trans HB3.out.size HB4.out.size) hz5
      have hz35 : w3.heap.size ≤ wr.heap.size := Nat.le_trans HB4.out.size hz5
      clear hO hb
      go_wp2_with fail
      refine (encode_yes w1.heap.size w2.heap.size c i nn s _ X wr (HC.out.below HB5.out) hz12 HX5.out hz25 HMLX.out HLEX.out (by omega)).mono ?_
      rintro e w6 ⟨v6, us6, rfl, hO6, hb6⟩
      have HX6 := Lib.hid (HX5.out.below (hb6.mono hz25))
      have HY6 := Lib.hid (HY5.out.below (hb6.mono hz35))
      have HZ6 := Lib.hid (HZ5.out.below hb6)
      have HB6 := Lib.hid (show Below w1.heap.size w1 w6 from HB5.out.trans (hb6.mono hz12))
      have HP6 := Lib.hid hO6.slbs
      have hz6 := hb6.size
      obtain ⟨a6, c6, rfl, _⟩ := hO6.slice
      clear hO6 hb6
      go_wp2_with fail
      refine (encode_yes w1.heap.size w3.heap.size c i nn s _ Y w6 (HC.out.below HB6.out) (by omega) HY6.out (by omega) HMLY.out HLEY.out (by omega)).mono ?_
      rintro e w7 ⟨v7, us7, rfl, hO7, hb7⟩
      have HX7 := Lib.hid (HX6.out.below (hb7.mono (by omega)))
      have HZ7 := Lib.hid (HZ6.out.below (hb7.mono (by omega)))
      have HP7 := Lib.hid (HP6.out.below hb7)
      have HB7 := Lib.hid (show Below w1.heap.size w1 w7 from HB6.out.trans (hb7.mono (by omega)))
      have HQ7 := Lib.hid hO7.slbs
      have hz7 := hb7.size
      obtain ⟨a7, c7, rfl, _⟩ := hO7.slice
      clear hO7 hb7
      go_wp2_with fail
      refine (encode_yes w1.heap.size wr.heap.size c i nn s _ (zL X Y i s i 0) w7 (HC.out.below HB7.out) (by omega) HZ7.out (by omega) (zL_length ..) zL_len (by omega)).mono ?_
      rintro e w8 ⟨v8, us8, rfl, hO8, hb8⟩
      have HX8 := Lib.hid ((HX7.out.below (hb8.mono (by omega))).wider (show w2.heap.size ≤ w8.heap.size by have := hb8.size; omega))
      have HP8 := Lib.hid ((HP7.out.below (hb8.mono (by omega))).wider (show w6.heap.size ≤ w8.heap.size by have := hb8.size; omega))
      have HQ8 := Lib.hid ((HQ7.out.below hb8).wider hb8.size)
      have HB8 := Lib.hid (show Below w.heap.size w w8 from bthen HB1.out (HB7.out.trans (hb8.mono (by omega))))
      have HR8 := Lib.hid hO8.slbs
      obtain ⟨a8, c8, rfl, _⟩ := hO8.slice
      clear hO8 hb8
      have HTAKE := Lib.hid (enc_take (n := nn) HMLX.out HLEX.out (by omega))
      have HSUM := Lib.hid (fun r y (hr : r < nn) (hy : y < s) => enc_sum (X := X) (Y := Y) (k := i) (n := nn) (s := s) (i := r) (y := y) HLEX.out HLEY.out hr hy)
      have he1 : (encL i nn X s).length = nn := encL_length ..
      have he2 : (encL i nn Y s).length = nn := encL_length ..
      have he3 : (encL i nn (zL X Y i s i 0) s).length = nn := encL_length ..
      have HPT := Lib.hid (slbs_take HP8.out (show i ≤ (encL i nn X s).length by omega))
      rw [HTAKE.out] at HPT
      rw [he1, he2, he3]
      have HLP := Lib.hid (fun r (hr : r < nn) => encL_len (k := i) (n := nn) (s := s) (bs := X) r hr)
      have HLQ := Lib.hid (fun r (hr : r < nn) => encL_len (k := i) (n := nn) (s := s) (bs := Y) r hr)
      have HLR := Lib.hid (fun r (hr : r < nn) => encL_len (k := i) (n := nn) (s := s) (bs := zL X Y i s i 0) r hr)
      have HE1 := Lib.hid he1
      have HE2 := Lib.hid he2
      have HE3 := Lib.hid he3
      have HXL := Lib.hid (show ∀ l ∈ X, l.length ≤ 100000 from fun l hl => by
        obtain ⟨r, hr, rfl⟩ := List.getElem_of_mem hl
        have h2 : (X[r]).length = s := by simpa [List.getD, hr] using HLEX.out r (by have := HMLX.out; omega)
        rw [h2]; omega)
      clear he1 he2 he3
      generalize encL i nn X s = P at *
      generalize encL i nn Y s = Q at *
      generalize encL i nn (zL X Y i s i 0) s = R at *
      have i1 : (i : Int) ≤ c6 := by have := HE1.out; omega
      go_wp2_with fail
      refine (same_any w8.heap.size _ _ X X w8 HPT.out HX8.out (Nat.le_refl _) (by have := HMLX.out; omega) HXL.out).mono ?_
      rw [decide_eq_true rfl]
      rintro e w9 ⟨rfl, hb9⟩
      have HP9 := Lib.hid (HP8.out.below hb9)
      have HQ9 := Lib.hid (HQ8.out.below hb9)
      have HR9 := Lib.hid (HR8.out.below hb9)
      have HB9 := Lib.hid (bthen HB8.out hb9)
      have hz9 := hb9.size
      clear hb9
      go_wp2_with fail
      go_loopw [151] (fun c wr => RelBo nn w9 c wr) (fun c _ => nn - (intOf c).toNat)
      case atStart => exact ⟨0, Nat.zero_le _, rfl, Below.refl _ _⟩
      case round =>
        obtain ⟨r, hr, rfl, hb⟩ := hrel
        by_cases hrn : r < nn
        · obtain ⟨xb, xo, xc, u, e1, _, _, d1, hu⟩ := (HR9.out.below (hb.mono hz9)).row (i := r) (by rw [HE3.out]; exact hrn)
          obtain ⟨ua, uc, rfl, _⟩ := hu.len
          rw [HLR.out r hrn] at d1
          rw [HE3.out] at e1
          injection e1 with e1 _ e1'
          subst e1 e1'
          have HB := Lib.hid hb
          have hrn' : (r : Int) < nn := by omega
          clear hb hu
          obtain ⟨wo, rfl⟩ : ∃ wo : World, wo = wr := ⟨_, rfl⟩
          go_wp2_with fail
          go_loopw [159] (fun c wr => RelBo s wo c wr) (fun c _ => s - (intOf c).toNat)
          case atStart => exact ⟨0, Nat.zero_le _, rfl, Below.refl _ _⟩
          case round =>
            obtain ⟨y, hy, rfl, hb2⟩ := hrel
            have hb5 := bthen HB.out hb2
            clear d1
            by_cases hys : y < s
            · obtain ⟨rb, ro, rc, rg, rp, rq, e1, d1, d2⟩ := (HR9.out.below (hb5.mono hz9)).byte (wr := wr) (Nat.le_trans hz9 hb5.size) (Below.refl _ _) (i := r) (y := y) (by rw [HE3.out]; exact hrn) (by rw [HLR.out r hrn]; exact hys)
              obtain ⟨pb, po, pc, pg, pp, pq, e2, d3, d4⟩ := (HP9.out.below (hb5.mono hz9)).byte (wr := wr) (Nat.le_trans hz9 hb5.size) (Below.refl _ _) (i := r) (y := y) (by rw [HE1.out]; exact hrn) (by rw [HLP.out r hrn]; exact hys)
              obtain ⟨qb, qo, qc, qg, qp, qq, e3, d5, d6⟩ := (HQ9.out.below (hb5.mono hz9)).byte (wr := wr) (Nat.le_trans hz9 hb5.size) (Below.refl _ _) (i := r) (y := y) (by rw [HE2.out]; exact hrn) (by rw [HLQ.out r hrn]; exact hys)
              rw [HE3.out] at e1
              rw [HE1.out] at e2
              rw [HE2.out] at e3
              injection e1 with e1 _ e1'
              injection e1 with e1
              injection e1 with e1 e1'' _
              injection e2 with e2 _ e2'
              injection e3 with e3 _ e3'
              subst e1 e1' e1'' e2 e2' e3 e3'
              rw [HLR.out r hrn] at d1
              rw [HLP.out r hrn] at d3
              rw [HLQ.out r hrn] at d5
              have hsum := HSUM.out r y hrn hys
              have m1 : ((P.getD r []).getD y 0).toNat < 256 := UInt8.toNat_lt _
              have m2 : ((Q.getD r []).getD y 0).toNat < 256 := UInt8.toNat_lt _
              have hx := u8_xor_nat _ _ m1 m2
              rw [← hsum] at hx
              have HB5 := Lib.hid hb2
              have hys' : (y : Int) < s := by omega
              generalize ((R.getD r []).getD y 0).toNat = rv at *
              generalize ((P.getD r []).getD y 0).toNat = pv at *
              generalize ((Q.getD r []).getD y 0).toNat = qv at *
              clear hb2 hb5 hsum
              go_wp2_with fail
              go_quiet (fail)
              go_wp2_with fail
              go_roundw
              case rel => exact ⟨y + 1, by omega, by go_num, below_drewN HB5.out _⟩
              case measure => simp [intOf]; omega
            · obtain rfl : y = s := by omega
              have HB5 := Lib.hid hb5
              clear hb2 hb5
              go_wp2_with fail
              go_roundw
              case rel => exact ⟨r + 1, by omega, by go_num, HB5.out⟩
              case measure => simp [intOf]; omega
        · obtain rfl : r = nn := by omega
          have HB10 := Lib.hid (bthen HB9.out hb)
          clear hb
          go_wp2_with fail
          refine (code_runs _ (HT.out.below HB10.out)).mono ?_
          rintro e w11 ⟨rfl, hb11⟩
          go_wp2_with fail
          go_ret
          exact bit rfl (bthen HB10.out hb11)
end Go.Proofs.YtoklknjnegpaaaaDoor
