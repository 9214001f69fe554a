/-
  stavelaw4.CodeDelta: the walk.
-/
import Derived.Test.YtoklknjnegpaaaaDoorCDelL
namespace Go.Proofs.YtoklknjnegpaaaaDoor
open Go.RowKit Gf Cd
attribute [local go_sem ↓] Go.wp_at_zero Go.wp_at_succ
set_option maxHeartbeats 4000000 in
set_option maxRecDepth 100000 in
theorem delta_any (k n size block : Int) (vb vn : Value) (bl nl : List UInt8) (w : World) (hT : Typ w) (hvb : SlB w.heap.size w vb bl) (hvn : SlB w.heap.size w vn nl) (hbl : bl.length ≤ maxLen) (_hnl : nl.length ≤ maxLen) :
    Calls Tryd.prog 7 #[.int .i64 k, .int .i64 n, .int .i64 size, .int .i64 block, vb, vn] w (Bit true w) := by
  unfold maxLen at hbl
  have HT := Lib.hid hT
  have HVB := Lib.hid hvb
  have HVN := Lib.hid hvn
  obtain ⟨av, cv, rfl, _⟩ := hvb.len
  obtain ⟨av', cv', rfl, _⟩ := hvn.len
  clear hT hvb hvn
  go_enter Tryd.func7, Tryd.ntmps7
  go_wp2_with fail
  refine (within_num k 1 8 _ (by omega) (by omega) (by omega)).mono ?_
  rintro e w' ⟨kk, ⟨hk1, hk8⟩, rfl, rfl⟩
  go_wp2_with fail
  refine (within_num n kk 8 _ (by omega) (by omega) (by omega)).mono ?_
  rintro e w' ⟨nn, ⟨hn1, hn8⟩, rfl, rfl⟩
  go_wp2_with fail
  refine (new_yes kk nn w (by omega) (by omega) (by omega)).mono ?_
  rintro e w1 ⟨c, rfl, hC, hb1⟩
  have HC := Lib.hid hC
  have HB1 := Lib.hid hb1
  clear hC hb1
  go_wp2_with fail
  refine (within_num size 1 12 _ (by omega) (by omega) (by omega)).mono ?_
  rintro e w' ⟨s, ⟨hs1, hs12⟩, rfl, rfl⟩
  go_wp2_with fail
  refine (made_any w.heap.size kk s _ bl w1 (HVB.out.below HB1.out) HB1.out.size (by omega) (by omega) hbl).mono ?_
  rintro e w2 ⟨v2, us2, rfl, hO2, hb2⟩
  have HO2 := Lib.hid hO2
  have HB2 := Lib.hid hb2
  have hz2 := hb2.size
  obtain ⟨a2, c2, rfl, _⟩ := hO2.slice
  have HMLX := Lib.hid (madeL_length kk s bl)
  have HLEX := Lib.hid (show ∀ j, j < kk → ((madeL kk s bl).getD j []).length = s from madeL_len)
  clear hO2 hb2
  rw [HMLX.out] at HO2 ⊢
  generalize madeL kk s bl = X at *
  have hkm : (0 : Int) ≤ (kk : Int) - 1 := by omega
  go_wp2_with fail
  refine (within_num block 0 ((kk : Int) - 1) _ (by omega) (by omega) (by omega)).mono ?_
  rintro e w' ⟨x, ⟨hx0, hx1⟩, rfl, rfl⟩
  have hx : x < kk := by omega
  have hx' : (x : Int) < kk := by omega
  have htop := HO2.out.top
  rw [HMLX.out] at htop
  obtain ⟨g2, rfl⟩ := own_addr htop (by omega)
  have hrow := HO2.out.each x (by rw [HMLX.out]; exact hx)
  rw [HLEX.out x hx] at hrow
  obtain ⟨gx, cx, ex, hcx⟩ := own_slice hrow
  have hcell := HO2.out.cell (i := x) (by rw [HMLX.out]; exact hx)
  rw [ex] at hcell hrow
  obtain ⟨gx, rfl⟩ := own_addr hrow (by omega)
  have HEX := Lib.hid ex
  have HRX := Lib.hid hrow
  have HSX := Lib.hid (show SlB w2.heap.size w2 (.slice (some ⟨gx, 0, none⟩) s cx) (X.getD x []) from row_src hrow (HLEX.out x hx).symm)
  clear htop ex hrow
  have HLX := Lib.hid (HLEX.out x hx)
  have HVN2 := Lib.hid (HVN.out.below (bthen HB1.out HB2.out))
  have hz1 := HB1.out.size
  go_wp2_with (first
    | (at_builtin; refine wpList_append_bytes (o := ⟨some 68, _, _, _, _, _⟩) _ rfl (.tmp 66) (.tmp 67) rfl w2.heap.size _ _ _ rfl (own_new w2 w2.heap.size #[] 5 1 0 (Nat.le_refl _) rfl (by decide)) _ _ (X.getD x []) rfl (HSX.out.below (one_below _ _)) (by rw [HLX.out]; omega) (by simp) ?_; intro v3 w3 hown hg; rw [Nat.zero_add, List.nil_append] at hown; obtain ⟨g3, c3, rfl, hc3⟩ := own_slice hown; rw [HLX.out] at hown hc3 ⊢; obtain ⟨g3, rfl⟩ := own_addr hown (by omega); have HO3 := Lib.hid hown; have HB3 := Lib.hid (grew_new0 hg); have hz3 := HB3.out.size; clear hown hg)
    | (with_reducible refine wpList_copy_bytes (o := ⟨some 71, _, _, _, _, _⟩) rfl (.tmp 69) (.tmp 70) rfl w2.heap.size g3 s c3 (X.getD x []) HO3.out rfl w.heap.size av' nl.length cv' nl rfl rfl (HVN2.out.below (HB3.out.mono (by omega))) ?_; intro w4 hown hb hg; have HO4 := Lib.hid hown; have HB4 := Lib.hid hb; have hz4 := hb.size; clear hown hb hg))
  have HN := Lib.hid (show (nextL (X.getD x []) nl).length = s by rw [nextL_length, HLX.out])
  have HB24 := Lib.hid (HB3.out.trans HB4.out)
  have HO24 := Lib.hid (HO2.out.below HB24.out)
  have HX4 := Lib.hid HO24.out.slbs
  have HSN := Lib.hid (row_src HO4.out HN.out.symm)
  have HB14 := Lib.hid (show Below w1.heap.size w1 w4 from HB2.out.trans (HB24.out.mono hz2))
  have hz24 := HB24.out.size
  generalize nextL (X.getD x []) nl = N at *
  refine (encode_yes w1.heap.size w4.heap.size c kk nn s _ X w4 (HC.out.below HB14.out) HB14.out.size HX4.out (Nat.le_refl _) HMLX.out HLEX.out (by omega)).mono ?_
  rintro e w5 ⟨v5, us5, rfl, hO5, hb5⟩
  have HO25 := Lib.hid (HO24.out.below hb5)
  have HSN5 := Lib.hid (HSN.out.below hb5)
  have HB15 := Lib.hid (HB14.out.trans (hb5.mono HB14.out.size))
  have HL5 := Lib.hid hO5.slbs
  have HB45 := Lib.hid hb5
  have hz5 := hb5.size
  obtain ⟨a5, c5, rfl, _⟩ := hO5.slice
  clear hO5 hb5 hcell
  have he1 : (encL kk nn X s).length = nn := encL_length ..
  rw [he1]
  have HE1 := Lib.hid he1
  clear he1
  go_wp2_with (at_builtin; refine wpList_append_rows _ rfl (.tmp 78) (.tmp 79) rfl w5.heap.size _ _ _ rfl (own_new w5 w5.heap.size #[] 24 1 0 (Nat.le_refl _) rfl (by decide)) _ kk us2 rfl (src_rows (HO25.out.below (one_below _ _)) HMLX.out) (by omega) (by simp) ?_; intro v6 w6 hown hg; rw [Nat.zero_add, List.nil_append] at hown; obtain ⟨g6, c6, rfl, hc6⟩ := own_slice hown; obtain ⟨g6, rfl⟩ := own_addr hown (by omega); have HO6 := Lib.hid hown; have HB6 := Lib.hid (grew_new0 hg); have hz6 := HB6.out.size; have hx6 := own_cell hown (i := x) (u := us2.getD x nilB) (by have := HO25.out.ulen; simp [List.getD, show x < us2.length by rw [this, HMLX.out]; exact hx]); have hf6 := own_frozen hown x; clear hown hg)
  obtain ⟨w7, hw7⟩ : ∃ w7, w7 = w6.setCell ⟨g6, x, none⟩ (.slice (some ⟨g3, 0, none⟩) s c3) := ⟨_, rfl⟩
  rw [← hw7]
  have HO7 := Lib.hid (show w7.ownsRow w5.heap.size 24 1 (.slice (some ⟨g6, 0, none⟩) kk c6) kk (us2.set x (.slice (some ⟨g3, 0, none⟩) s c3)) by rw [hw7]; exact own_set HO6.out x _)
  have HB7 := Lib.hid (show Below w5.heap.size w5 w7 by rw [hw7]; exact HB6.out.setCell (own_lt HO6.out).1 _)
  clear hw7 hx6 hf6
  have hz7 := HB7.out.size
  have HM7 := Lib.hid (slbs_set (C := w5.heap.size) (us := us2) (ls := X) HO7.out HMLX.out hx hz7 (fun j hj _ => (HO25.out.slb (i := j) (by rw [HMLX.out]; exact hj)).below HB7.out) ((HSN5.out.wider hz5).below HB7.out))
  have HB17 := Lib.hid (HB15.out.trans (HB7.out.mono HB15.out.size))
  refine (encode_yes w1.heap.size w7.heap.size c kk nn s _ (X.set x N) w7 (HC.out.below HB17.out) HB17.out.size HM7.out (Nat.le_refl _) (by rw [List.length_set]; exact HMLX.out) (set_len HMLX.out HLEX.out HN.out) (by omega)).mono ?_
  rintro e w8 ⟨v8, us8, rfl, hO8, hb8⟩
  have HM8 := Lib.hid hO8.slbs
  have HB58 := Lib.hid (HB7.out.trans (hb8.mono hz7))
  have HL8 := Lib.hid (HL5.out.below HB58.out)
  have HSX8 := Lib.hid (HSX.out.below ((HB24.out.trans ((HB45.out.trans (HB58.out.mono hz5)).mono hz24))))
  have HSN8 := Lib.hid (HSN5.out.below (HB58.out.mono hz5))
  have HB18 := Lib.hid (HB17.out.trans (hb8.mono HB17.out.size))
  have hz8 := HB58.out.size
  obtain ⟨a8, c8, rfl, _⟩ := hO8.slice
  clear hO8 hb8
  have he2 : (encL kk nn (X.set x N) s).length = nn := encL_length ..
  rw [he2]
  have HE2 := Lib.hid he2
  have HLL := Lib.hid (fun r (hr : r < nn) => encL_len (k := kk) (n := nn) (s := s) (bs := X) r hr)
  have HLM := Lib.hid (fun r (hr : r < nn) => encL_len (k := kk) (n := nn) (s := s) (bs := X.set x N) r hr)
  have HEQ := Lib.hid (fun i y (hi : i < nn) (hy : y < s) => enc_delta (k := kk) (n := nn) (s := s) (i := i) (x := x) (y := y) (bs := X) (m := N) HMLX.out HLEX.out HN.out hx hi hy)
  clear he2
  generalize encL kk nn X s = L at *
  generalize encL kk nn (X.set x N) s = M at *
  generalize X.getD x [] = xs at *
  go_wp2_with fail
  go_loopw [111] (fun c wr => RelBo nn w8 c wr) (fun c _ => nn - (intOf c).toNat)
  case atStart => exact ⟨0, Nat.zero_le _, rfl, Below.refl _ _⟩
  case round =>
    obtain ⟨i, hi, rfl, hb⟩ := hrel
    by_cases hin : i < nn
    · have hin' : (i : Int) < nn := by omega
      have HD := Lib.hid (delta_yes w1.heap.size w8.heap.size c kk nn i x (.slice (some ⟨gx, 0, none⟩) s cx) (.slice (some ⟨g3, 0, none⟩) s c3) xs N wr ((HC.out.below HB18.out).below (hb.mono HB18.out.size)) (Nat.le_trans HB18.out.size hb.size) hin hx ((HSX8.out.wider (by omega)).below hb) ((HSN8.out.wider (by omega)).below hb) hb.size (by rw [HLX.out, HN.out]) (by rw [HLX.out]; omega))
      have hdl := deltaL_length kk i x xs N
      have HDL := Lib.hid (hdl.trans HLX.out)
      have HB := Lib.hid hb
      clear hb hdl
      go_wp2_with fail
      refine HD.out.mono ?_
      rintro e w9 ⟨u, rfl, hown, hb9⟩
      rw [HDL.out] at hown
      obtain ⟨gu, cu, rfl, _⟩ := own_slice hown
      have HO9 := Lib.hid hown
      have HB9 := Lib.hid (bthen HB.out hb9)
      clear hown hb9
      go_wp2_with fail
      go_loopw [134] (fun c wr => RelBo s w9 c wr) (fun c _ => s - (intOf c).toNat)
      case atStart => exact ⟨0, Nat.zero_le _, rfl, Below.refl _ _⟩
      case round =>
        obtain ⟨y, hy, rfl, hb2⟩ := hrel
        have hb5 := bthen HB9.out hb2
        by_cases hys : y < s
        · obtain ⟨rb, ro, rc, rg, rp, rq, e1, d1, d2⟩ := (HL8.out.below (hb5.mono (by omega))).byte (wr := wr) (Nat.le_trans (by omega) hb5.size) (Below.refl _ _) (i := i) (y := y) (by rw [HE1.out]; exact hin) (by rw [HLL.out i hin]; exact hys)
          obtain ⟨pb, po, pc, pg, pp, pq, e2, d3, d4⟩ := (HM8.out.below hb5).byte (wr := wr) hb5.size (Below.refl _ _) (i := i) (y := y) (by rw [HE2.out]; exact hin) (by rw [HLM.out i hin]; exact hys)
          rw [HE1.out] at e1
          rw [HE2.out] at e2
          injection e1 with e1 _ e1'
          injection e2 with e2 _ e2'
          subst e1 e1' e2 e2'
          rw [HLL.out i hin] at d1
          rw [HLM.out i hin] at d3
          have hown := own_below HO9.out hb2
          obtain ⟨gu, rfl⟩ := own_addr hown (by omega)
          have d5 := own_cell hown (bytesV_at (i := y) (l := deltaL kk i x xs N) (by rw [HDL.out]; exact hys))
          have hsum := HEQ.out i y hin hys
          have m1 : ((L.getD i []).getD y 0).toNat < 256 := UInt8.toNat_lt _
          have m2 : ((deltaL kk i x xs N).getD y 0).toNat < 256 := UInt8.toNat_lt _
          have hxr := u8_xor_nat _ _ m1 m2
          rw [hsum] at hxr
          have HB5 := Lib.hid hb2
          have hys' : (y : Int) < s := by omega
          generalize ((L.getD i []).getD y 0).toNat = lv at *
          generalize ((M.getD i []).getD y 0).toNat = mv at *
          generalize ((deltaL kk i x xs N).getD y 0).toNat = dv at *
          clear hb2 hb5 hsum hown
          go_wp2_with fail
          go_quiet (fail)
          go_wp2_with fail
          go_roundw
          case rel => exact ⟨y + 1, by omega, by go_num, below_drewN HB5.out _⟩
          case measure => simp [intOf]; omega
        · obtain rfl : y = s := by omega
          have HB5 := Lib.hid hb5
          clear hb2 hb5
          go_wp2_with fail
          go_roundw
          case rel => exact ⟨i + 1, by omega, by go_num, HB5.out⟩
          case measure => simp [intOf]; omega
    · obtain rfl : i = nn := by omega
      have HC9 := Lib.hid ((HC.out.below HB18.out).below (hb.mono HB18.out.size))
      have HB9 := Lib.hid (show Below w.heap.size w wr from bthen (bthen HB1.out HB18.out) hb)
      have hz19 := HB18.out.size
      have hz9 := hb.size
      clear hb
      go_wp2_with fail
      refine (delta_no w1.heap.size c kk i s s cx c3 _ _ i x wr HC9.out (by omega)).mono ?_
      rintro e w10 ⟨rfl, hb10⟩
      have HB10 := Lib.hid (bthen HB9.out hb10)
      have HC10 := Lib.hid (HC9.out.below (hb10.mono (by omega)))
      have hz10 := hb10.size
      clear hb10
      unfold wrapV errV
      go_wp2_with fail
      refine (delta_no w1.heap.size c kk i s s cx c3 _ _ 0 kk w10 HC10.out (by omega)).mono ?_
      rintro e w11 ⟨rfl, hb11⟩
      have HB11 := Lib.hid (bthen HB10.out hb11)
      have HC11 := Lib.hid (HC10.out.below (hb11.mono (by omega)))
      have hz11 := hb11.size
      clear hb11
      unfold wrapV errV
      have hs1' : (1 : Int) ≤ s := by omega
      go_wp2_with fail
      all_goals
        refine (delta_no w1.heap.size c kk i s (s - 1) cx _ _ _ 0 x w11 HC11.out (by omega)).mono ?_
        rintro e w12 ⟨rfl, hb12⟩
        have HB12 := Lib.hid (bthen HB11.out hb12)
        clear hb12
        unfold wrapV errV
        go_wp2_with fail
        refine (kind_err [(opDelta, (i : Int))] 1 w12 _ rfl (HT.out.below HB12.out)).mono ?_
        rintro e w13 ⟨rfl, hb13⟩
        have HB13 := Lib.hid (bthen HB12.out hb13)
        clear hb13
        go_wp2_with fail
        refine (kind_err [(opDelta, 0)] 1 w13 _ rfl (HT.out.below HB13.out)).mono ?_
        rintro e w14 ⟨rfl, hb14⟩
        have HB14 := Lib.hid (bthen HB13.out hb14)
        clear hb14
        go_wp2_with fail
        refine (kind_err [(opDelta, 0)] 1 w14 _ rfl (HT.out.below HB14.out)).mono ?_
        rintro e w15 ⟨rfl, hb15⟩
        have HB15 := Lib.hid (bthen HB14.out hb15)
        clear hb15
        go_wp2_with fail
        refine (code_runs _ (HT.out.below HB15.out)).mono ?_
        rintro e w16 ⟨rfl, hb16⟩
        go_wp2_with fail
        go_ret
        exact bit rfl (bthen HB15.out hb16)
end Go.Proofs.YtoklknjnegpaaaaDoor
