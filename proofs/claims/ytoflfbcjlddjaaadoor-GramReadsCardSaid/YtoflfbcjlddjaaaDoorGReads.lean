/-
  stavelaw2.GramReads: the walk.
-/
import Derived.Test.YtoflfbcjlddjaaaDoorGReadsL
import Derived.Deep.RegionHeld3
namespace Go.Proofs.YtoflfbcjlddjaaaDoor
open Go.RowKit
set_option maxHeartbeats 16000000 in
set_option maxRecDepth 100000 in
theorem reads_any (fv xv bv : Value) (at_ : Int) (x : Nat) (fs : List Fl) (xs : List Vl) (bs : List UInt8) (w : World) (hT : Typ w) (hx8 : x < 256) (hf : SlF w.heap.size w fv fs) (hfl : fs.length ≤ maxLen) (hh : ∀ f ∈ fs, f.hi ≤ 9223372036854775807)
    (hx : SlV w.heap.size w xv xs) (hxl : xs.length ≤ maxLen) (hbig : ∀ x ∈ xs, x.big) (hb : SlB w.heap.size w bv bs) :
    Calls Tryd.prog 3 #[fv, xv, bv, .int .i64 at_, .int .u8 (x : Int)] w (Bit true w) := by
  have HT := Lib.hid hT
  have HH := Lib.hid (show ∀ f ∈ fs.take 6, f.hi ≤ 9223372036854775807 from fun f hf => hh f (List.mem_of_mem_take hf))
  have HFEW := Lib.hid (few_any fv xv fs xs w hf hx (by unfold maxLen at hfl; omega) (by unfold maxLen at hxl; omega) hbig)
  have HXF := Lib.hid (few_all xs)
  clear hT hf hh hfl hx hxl hbig
  have hl6 : (fs.take 6).length ≤ 6 := by rw [List.length_take]; omega
  generalize fs.take 6 = fa at *
  generalize (xs.take 6).map fewV = xa at *
  clear xs
  obtain ⟨a0, cap0, rfl, hc0⟩ := hb.len
  have HSC := Lib.hid (slb_take (m := min bs.length 80) hb (by omega))
  have hm : (if (80 : Int) < bs.length then 80 else (bs.length : Int)) = ((min bs.length 80 : Nat) : Int) := by split <;> omega
  have hlt : (bs.take (min bs.length 80)).length = min bs.length 80 := by rw [List.length_take]; omega
  have hb80 : min bs.length 80 ≤ 80 := by omega
  have hbc : min bs.length 80 ≤ cap0 := by omega
  have hll : min bs.length 80 ≤ bs.length := by omega
  clear hb hc0
  generalize bs.take (min bs.length 80) = cs at *
  generalize min bs.length 80 = m at *
  subst hlt
  go_enter Tryd.func3, Tryd.ntmps3
  go_wp2_with fail
  refine HFEW.out.mono ?_
  rintro e w1 ⟨v1, u1, rfl, hown1, hvals1, hb1⟩
  have HF1 := Lib.hid (slf_own hown1)
  have HV1 := Lib.hid (slv_own hvals1)
  obtain ⟨a1, cap1, rfl⟩ := slf_len (slf_own hown1)
  obtain ⟨a2, cap2, rfl⟩ := slv_len (slv_own hvals1)
  have HB1 := Lib.hid hb1
  have HSRC := Lib.hid ((HSC.out.below hb1).below ((Below.refl w.heap.size w1).alloc hb1.size (.cells #[] 5)))
  have hz1 := hb1.size
  clear hown1 hvals1 hb1
  go_wp2_with (at_builtin; refine wpList_append_bytes _ rfl _ _ rfl w1.heap.size _ _ _ rfl (own_new w1 w1.heap.size #[] 5 1 0 (Nat.le_refl _) rfl (by decide)) w.heap.size _ cs rfl HSRC.out (by omega) (by simp) ?_; intro v2 w2 hown hg; have hb2 := app_below1 hg; have Hw := Lib.hid hown; clear hown hg)
  have HB2 := Lib.hid (bthen HB1.out hb2)
  have HF2 := Lib.hid ((HF1.out.below hb2).wider hb2.size)
  have HV2 := Lib.hid ((HV1.out.below hb2).wider hb2.size)
  clear hb2
  rw [Nat.zero_add, List.nil_append] at Hw
  obtain ⟨g2, c2, rfl, hc2⟩ := own_slice Hw.out
  have CP := Lib.hid (refPut_any _ _ fa xa w2 HF2.out HV2.out hl6 HH.out HXF.out)
  cases hp : putErr fa xa with
  | some q =>
    obtain ⟨q1, q2⟩ := q
    rw [hp] at CP
    have hq := putErr_kind hp
    have hq1 : (q1 != 0) = true := by simpa using hq
    have hq2 : (q1 == 0) = false := beq_ff hq
    clear hp
    refine CP.out.mono ?_
    rintro e w3 ⟨rfl, hb3⟩
    have HB3 := Lib.hid (bthen HB2.out hb3)
    have HF3 := Lib.hid ((HF2.out.below hb3).wider hb3.size)
    have HSL := Lib.hid (slb_own (own_below Hw.out hb3))
    have HL := Lib.hid (show cs.length ≤ 1000 by omega)
    clear hb3 Hw HSC HSRC HFEW
    generalize hLc : cs = L at *
    go_wp2_with fail
    refine (roomy_bytes w3.heap.size _ L 7 w3 HSL.out (Nat.le_refl _) (by omega) (by have := HL.out; omega)).mono ?_
    rintro e w4 ⟨rfl, hown4, hb4⟩
    have HO4 := Lib.hid hown4
    have HB4 := Lib.hid (bthen HB3.out hb4)
    have HF4 := Lib.hid ((HF3.out.below hb4).wider hb4.size)
    have HS4 := Lib.hid ((HSL.out.below hb4).wider hb4.size)
    have HR4 := Lib.hid (room_head hown4)
    have i4 : (L.length : Int) ≤ ((L.length + 80 : Nat) : Int) := by omega
    clear hown4 hb4
    go_wp2_with fail
    by_cases hw : 0 ≤ firstAt wrongF fa 0
    · refine (get_wrong w4.heap.size _ _ fa w4 HF4.out (Nat.le_refl _) (by omega) HH.out hw).mono ?_
      rintro e w5 ⟨rfl, hb5⟩
      have HB5 := Lib.hid (bthen HB4.out hb5)
      have HF5 := Lib.hid ((HF4.out.below hb5).wider hb5.size)
      have HO5 := Lib.hid (own_below HO4.out hb5)
      have HS5 := Lib.hid ((HS4.out.below hb5).wider hb5.size)
      clear hb5
      unfold wrapV errV
      go_wp2_with fail
      refine (refGetF_wrong _ _ fa w5 HF5.out (by omega) HH.out hw).mono ?_
      rintro e w6 ⟨rfl, hb6⟩
      have HB6 := Lib.hid (bthen HB5.out hb6)
      have HO6 := Lib.hid (own_below HO5.out hb6)
      have HS6 := Lib.hid ((HS5.out.below hb6).wider hb6.size)
      clear hb6
      go_wp2_with fail
      refine (where_err [(gramGet, firstAt wrongF fa 0)] 1 w6 _ rfl (HT.out.below HB6.out)).mono ?_
      rintro e w7 ⟨rfl, hb7⟩
      have HB7 := Lib.hid (bthen HB6.out hb7)
      have HO7 := Lib.hid (own_below HO6.out hb7)
      have HS7 := Lib.hid ((HS6.out.below hb7).wider hb7.size)
      clear hb7
      simp only [show lastS [(gramGet, firstAt wrongF fa 0)] = gramGet from rfl, show lastN [(gramGet, firstAt wrongF fa 0)] = firstAt wrongF fa 0 from rfl, List.isEmpty_cons, Bool.not_false]
      go_wp2_with fail
      refine (same_vals w7.heap.size _ _ [] w7 (Or.inl ⟨rfl, _, _, rfl⟩) (Or.inl ⟨rfl, _, _, rfl⟩) (by simp) (by simp)).mono ?_
      intro e w8 h8
      obtain ⟨rfl, d8, h8⟩ := h8
      have hb8 : Below w7.heap.size w7 w8 := by rw [h8]; exact below_drewN (Below.refl _ _) d8
      have HB8 := Lib.hid (bthen HB7.out hb8)
      have HO8 := Lib.hid (own_below HO7.out hb8)
      have HS8 := Lib.hid ((HS7.out.below hb8).wider hb8.size)
      clear h8 hb8
      go_wp2_with fail
      refine (kind_err [(gramGet, firstAt wrongF fa 0)] 1 w8 _ rfl (HT.out.below HB8.out)).mono ?_
      rintro e w9 ⟨rfl, hb9⟩
      have HB9 := Lib.hid (bthen HB8.out hb9)
      have HO9 := Lib.hid (own_below HO8.out hb9)
      have HS9 := Lib.hid ((HS8.out.below hb9).wider hb9.size)
      clear hb9
      unfold gramGet
      go_wp2_with fail
      refine (intact_bytes w9.heap.size _ _ L 7 w9 (room_whole HO9.out) HS9.out (Nat.le_refl _) (by omega) (by have := HL.out; omega)).mono ?_
      rintro e w10 ⟨rfl, hb10⟩
      have HB10 := Lib.hid (bthen HB9.out hb10)
      clear hb10
      go_wp2_with fail
      refine (runs _ (HT.out.below HB10.out)).mono ?_
      rintro e w11 ⟨rfl, hb11⟩
      go_wp2_with fail
      go_ret
      exact ⟨rfl, bthen HB10.out hb11⟩
    · have CG := Lib.hid (get_any _ _ fa L w4 HF4.out HR4.out (by omega) (by have := HL.out; omega) HH.out (by omega))
      have CR := Lib.hid (fun W fv bv (hF : SlF W.heap.size W fv fa) (hB : SlB W.heap.size W bv L) => refGetF_any fv bv fa L W hF hB (by omega) (by have := HL.out; omega) HH.out (by omega))
      cases hg : getM fa L with
      | no k p =>
        rw [hg] at CG CR
        have hk := getM_ne hg
        have hk1 : (k != 0) = true := by simpa using hk
        have hk2 : (k == 0) = false := beq_ff hk
        clear hg hw
        refine CG.out.mono ?_
        rintro e w5 ⟨rfl, hb5⟩
        have HB5 := Lib.hid (bthen HB4.out hb5)
        have HF5 := Lib.hid ((HF4.out.below hb5).wider hb5.size)
        have HO5 := Lib.hid (own_below HO4.out hb5)
        have HS5 := Lib.hid ((HS4.out.below hb5).wider hb5.size)
        clear hb5
        unfold wrapV errV
        go_wp2_with fail
        refine (CR.out w5 _ _ HF5.out HS5.out).mono ?_
        rintro e w6 ⟨rfl, hb6⟩
        have HB6 := Lib.hid (bthen HB5.out hb6)
        have HO6 := Lib.hid (own_below HO5.out hb6)
        have HS6 := Lib.hid ((HS5.out.below hb6).wider hb6.size)
        clear hb6
        go_wp2_with fail
        refine (where_err [(gramGet, p)] k w6 _ rfl (HT.out.below HB6.out)).mono ?_
        rintro e w7 ⟨rfl, hb7⟩
        have HB7 := Lib.hid (bthen HB6.out hb7)
        have HO7 := Lib.hid (own_below HO6.out hb7)
        have HS7 := Lib.hid ((HS6.out.below hb7).wider hb7.size)
        clear hb7
        simp only [show lastS [(gramGet, p)] = gramGet from rfl, show lastN [(gramGet, p)] = p from rfl, List.isEmpty_cons, Bool.not_false]
        go_wp2_with fail
        refine (same_vals w7.heap.size _ _ [] w7 (Or.inl ⟨rfl, _, _, rfl⟩) (Or.inl ⟨rfl, _, _, rfl⟩) (by simp) (by simp)).mono ?_
        intro e w8 h8
        obtain ⟨rfl, d8, h8⟩ := h8
        have hb8 : Below w7.heap.size w7 w8 := by rw [h8]; exact below_drewN (Below.refl _ _) d8
        have HB8 := Lib.hid (bthen HB7.out hb8)
        have HO8 := Lib.hid (own_below HO7.out hb8)
        have HS8 := Lib.hid ((HS7.out.below hb8).wider hb8.size)
        clear h8 hb8
        go_wp2_with fail
        refine (kind_err [(gramGet, p)] k w8 _ rfl (HT.out.below HB8.out)).mono ?_
        rintro e w9 ⟨rfl, hb9⟩
        have HB9 := Lib.hid (bthen HB8.out hb9)
        have HO9 := Lib.hid (own_below HO8.out hb9)
        have HS9 := Lib.hid ((HS8.out.below hb9).wider hb9.size)
        clear hb9
        unfold gramGet
        go_wp2_with fail
        refine (intact_bytes w9.heap.size _ _ L 7 w9 (room_whole HO9.out) HS9.out (Nat.le_refl _) (by omega) (by have := HL.out; omega)).mono ?_
        rintro e w10 ⟨rfl, hb10⟩
        have HB10 := Lib.hid (bthen HB9.out hb10)
        clear hb10
        go_wp2_with fail
        refine (runs _ (HT.out.below HB10.out)).mono ?_
        rintro e w11 ⟨rfl, hb11⟩
        go_wp2_with fail
        go_ret
        exact ⟨rfl, bthen HB10.out hb11⟩
      | yes xs e0 =>
        rw [hg] at CG CR
        have HXL := Lib.hid (show xs.length ≤ 1000 ∧ ∀ x ∈ xs, x.l.length ≤ 1000 from ⟨by have := (getM_len hg).1; omega, (getM_len hg).2⟩)
        clear hg hw
        refine CG.out.mono ?_
        rintro e w5 ⟨v5, rfl, hv5, hb5⟩
        have HB5 := Lib.hid (bthen HB4.out hb5)
        have HF5 := Lib.hid ((HF4.out.below hb5).wider hb5.size)
        have HO5 := Lib.hid (own_below HO4.out hb5)
        have HS5 := Lib.hid ((HS4.out.below hb5).wider hb5.size)
        have HG5 := Lib.hid (slv_own hv5)
        clear hv5 hb5
        go_wp2_with fail
        refine (CR.out w5 _ _ HF5.out HS5.out).mono ?_
        rintro e w6 ⟨v6, rfl, hv6, hb6⟩
        have HB6 := Lib.hid (bthen HB5.out hb6)
        have HO6 := Lib.hid (own_below HO5.out hb6)
        have HS6 := Lib.hid ((HS5.out.below hb6).wider hb6.size)
        have HH6 := Lib.hid (slv_own hv6)
        have HG6 := Lib.hid ((HG5.out.below hb6).wider hb6.size)
        clear hv6 hb6
        go_wp2_with fail
        refine (where_nil w6).mono ?_
        rintro e w7 ⟨rfl, hb7⟩
        have HB7 := Lib.hid (bthen HB6.out hb7)
        have HO7 := Lib.hid (own_below HO6.out hb7)
        have HS7 := Lib.hid ((HS6.out.below hb7).wider hb7.size)
        have HG7 := Lib.hid ((HG6.out.below hb7).wider hb7.size)
        have HH7 := Lib.hid ((HH6.out.below hb7).wider hb7.size)
        clear hb7
        go_wp2_with fail
        refine (same_vals w7.heap.size _ _ xs w7 HG7.out HH7.out HXL.out.1 HXL.out.2).mono ?_
        intro e w8 h8
        obtain ⟨rfl, d8, h8⟩ := h8
        have hb8 : Below w7.heap.size w7 w8 := by rw [h8]; exact below_drewN (Below.refl _ _) d8
        have HB8 := Lib.hid (bthen HB7.out hb8)
        have HO8 := Lib.hid (own_below HO7.out hb8)
        have HS8 := Lib.hid ((HS7.out.below hb8).wider hb8.size)
        clear h8 hb8
        go_wp2_with fail
        refine (kind_nil w8).mono ?_
        rintro e w9 ⟨rfl, hb9⟩
        have HB9 := Lib.hid (bthen HB8.out hb9)
        have HO9 := Lib.hid (own_below HO8.out hb9)
        have HS9 := Lib.hid ((HS8.out.below hb9).wider hb9.size)
        clear hb9
        go_wp2_with fail
        refine (intact_bytes w9.heap.size _ _ L 7 w9 (room_whole HO9.out) HS9.out (Nat.le_refl _) (by omega) (by have := HL.out; omega)).mono ?_
        rintro e w10 ⟨rfl, hb10⟩
        have HB10 := Lib.hid (bthen HB9.out hb10)
        clear hb10
        go_wp2_with fail
        refine (runs _ (HT.out.below HB10.out)).mono ?_
        rintro e w11 ⟨rfl, hb11⟩
        go_wp2_with fail
        go_ret
        exact ⟨rfl, bthen HB10.out hb11⟩
  | none =>
    have hrl := putB_few (putErr_none hp).1 HXF.out 6 hl6
    rw [hp] at CP
    clear hp
    refine CP.out.mono ?_
    rintro e w3 ⟨v3, rfl, hown3, hb3⟩
    by_cases h0 : (putB fa xa).length = 0
    · rw [h0] at hown3
      obtain ⟨g3, c3, rfl, hc3⟩ := own_slice hown3
      have HB3 := Lib.hid (bthen HB2.out hb3)
      have HF3 := Lib.hid ((HF2.out.below hb3).wider hb3.size)
      have HSL := Lib.hid (slb_own (own_below Hw.out hb3))
      have HL := Lib.hid (show cs.length ≤ 1000 by omega)
      clear hb3 hown3 hrl Hw HSC HSRC HFEW h0
      generalize hLc : cs = L at *
      go_wp2_with fail
      refine (roomy_bytes w3.heap.size _ L 7 w3 HSL.out (Nat.le_refl _) (by omega) (by have := HL.out; omega)).mono ?_
      rintro e w4 ⟨rfl, hown4, hb4⟩
      have HO4 := Lib.hid hown4
      have HB4 := Lib.hid (bthen HB3.out hb4)
      have HF4 := Lib.hid ((HF3.out.below hb4).wider hb4.size)
      have HS4 := Lib.hid ((HSL.out.below hb4).wider hb4.size)
      have HR4 := Lib.hid (room_head hown4)
      have i4 : (L.length : Int) ≤ ((L.length + 80 : Nat) : Int) := by omega
      clear hown4 hb4
      go_wp2_with fail
      by_cases hw : 0 ≤ firstAt wrongF fa 0
      · refine (get_wrong w4.heap.size _ _ fa w4 HF4.out (Nat.le_refl _) (by omega) HH.out hw).mono ?_
        rintro e w5 ⟨rfl, hb5⟩
        have HB5 := Lib.hid (bthen HB4.out hb5)
        have HF5 := Lib.hid ((HF4.out.below hb5).wider hb5.size)
        have HO5 := Lib.hid (own_below HO4.out hb5)
        have HS5 := Lib.hid ((HS4.out.below hb5).wider hb5.size)
        clear hb5
        unfold wrapV errV
        go_wp2_with fail
        refine (refGetF_wrong _ _ fa w5 HF5.out (by omega) HH.out hw).mono ?_
        rintro e w6 ⟨rfl, hb6⟩
        have HB6 := Lib.hid (bthen HB5.out hb6)
        have HO6 := Lib.hid (own_below HO5.out hb6)
        have HS6 := Lib.hid ((HS5.out.below hb6).wider hb6.size)
        clear hb6
        go_wp2_with fail
        refine (where_err [(gramGet, firstAt wrongF fa 0)] 1 w6 _ rfl (HT.out.below HB6.out)).mono ?_
        rintro e w7 ⟨rfl, hb7⟩
        have HB7 := Lib.hid (bthen HB6.out hb7)
        have HO7 := Lib.hid (own_below HO6.out hb7)
        have HS7 := Lib.hid ((HS6.out.below hb7).wider hb7.size)
        clear hb7
        simp only [show lastS [(gramGet, firstAt wrongF fa 0)] = gramGet from rfl, show lastN [(gramGet, firstAt wrongF fa 0)] = firstAt wrongF fa 0 from rfl, List.isEmpty_cons, Bool.not_false]
        go_wp2_with fail
        refine (same_vals w7.heap.size _ _ [] w7 (Or.inl ⟨rfl, _, _, rfl⟩) (Or.inl ⟨rfl, _, _, rfl⟩) (by simp) (by simp)).mono ?_
        intro e w8 h8
        obtain ⟨rfl, d8, h8⟩ := h8
        have hb8 : Below w7.heap.size w7 w8 := by rw [h8]; exact below_drewN (Below.refl _ _) d8
        have HB8 := Lib.hid (bthen HB7.out hb8)
        have HO8 := Lib.hid (own_below HO7.out hb8)
        have HS8 := Lib.hid ((HS7.out.below hb8).wider hb8.size)
        clear h8 hb8
        go_wp2_with fail
        refine (kind_err [(gramGet, firstAt wrongF fa 0)] 1 w8 _ rfl (HT.out.below HB8.out)).mono ?_
        rintro e w9 ⟨rfl, hb9⟩
        have HB9 := Lib.hid (bthen HB8.out hb9)
        have HO9 := Lib.hid (own_below HO8.out hb9)
        have HS9 := Lib.hid ((HS8.out.below hb9).wider hb9.size)
        clear hb9
        unfold gramGet
        go_wp2_with fail
        refine (intact_bytes w9.heap.size _ _ L 7 w9 (room_whole HO9.out) HS9.out (Nat.le_refl _) (by omega) (by have := HL.out; omega)).mono ?_
        rintro e w10 ⟨rfl, hb10⟩
        have HB10 := Lib.hid (bthen HB9.out hb10)
        clear hb10
        go_wp2_with fail
        refine (runs _ (HT.out.below HB10.out)).mono ?_
        rintro e w11 ⟨rfl, hb11⟩
        go_wp2_with fail
        go_ret
        exact ⟨rfl, bthen HB10.out hb11⟩
      · have CG := Lib.hid (get_any _ _ fa L w4 HF4.out HR4.out (by omega) (by have := HL.out; omega) HH.out (by omega))
        have CR := Lib.hid (fun W fv bv (hF : SlF W.heap.size W fv fa) (hB : SlB W.heap.size W bv L) => refGetF_any fv bv fa L W hF hB (by omega) (by have := HL.out; omega) HH.out (by omega))
        cases hg : getM fa L with
        | no k p =>
          rw [hg] at CG CR
          have hk := getM_ne hg
          have hk1 : (k != 0) = true := by simpa using hk
          have hk2 : (k == 0) = false := beq_ff hk
          clear hg hw
          refine CG.out.mono ?_
          rintro e w5 ⟨rfl, hb5⟩
          have HB5 := Lib.hid (bthen HB4.out hb5)
          have HF5 := Lib.hid ((HF4.out.below hb5).wider hb5.size)
          have HO5 := Lib.hid (own_below HO4.out hb5)
          have HS5 := Lib.hid ((HS4.out.below hb5).wider hb5.size)
          clear hb5
          unfold wrapV errV
          go_wp2_with fail
          refine (CR.out w5 _ _ HF5.out HS5.out).mono ?_
          rintro e w6 ⟨rfl, hb6⟩
          have HB6 := Lib.hid (bthen HB5.out hb6)
          have HO6 := Lib.hid (own_below HO5.out hb6)
          have HS6 := Lib.hid ((HS5.out.below hb6).wider hb6.size)
          clear hb6
          go_wp2_with fail
          refine (where_err [(gramGet, p)] k w6 _ rfl (HT.out.below HB6.out)).mono ?_
          rintro e w7 ⟨rfl, hb7⟩
          have HB7 := Lib.hid (bthen HB6.out hb7)
          have HO7 := Lib.hid (own_below HO6.out hb7)
          have HS7 := Lib.hid ((HS6.out.below hb7).wider hb7.size)
          clear hb7
          simp only [show lastS [(gramGet, p)] = gramGet from rfl, show lastN [(gramGet, p)] = p from rfl, List.isEmpty_cons, Bool.not_false]
          go_wp2_with fail
          refine (same_vals w7.heap.size _ _ [] w7 (Or.inl ⟨rfl, _, _, rfl⟩) (Or.inl ⟨rfl, _, _, rfl⟩) (by simp) (by simp)).mono ?_
          intro e w8 h8
          obtain ⟨rfl, d8, h8⟩ := h8
          have hb8 : Below w7.heap.size w7 w8 := by rw [h8]; exact below_drewN (Below.refl _ _) d8
          have HB8 := Lib.hid (bthen HB7.out hb8)
          have HO8 := Lib.hid (own_below HO7.out hb8)
          have HS8 := Lib.hid ((HS7.out.below hb8).wider hb8.size)
          clear h8 hb8
          go_wp2_with fail
          refine (kind_err [(gramGet, p)] k w8 _ rfl (HT.out.below HB8.out)).mono ?_
          rintro e w9 ⟨rfl, hb9⟩
          have HB9 := Lib.hid (bthen HB8.out hb9)
          have HO9 := Lib.hid (own_below HO8.out hb9)
          have HS9 := Lib.hid ((HS8.out.below hb9).wider hb9.size)
          clear hb9
          unfold gramGet
          go_wp2_with fail
          refine (intact_bytes w9.heap.size _ _ L 7 w9 (room_whole HO9.out) HS9.out (Nat.le_refl _) (by omega) (by have := HL.out; omega)).mono ?_
          rintro e w10 ⟨rfl, hb10⟩
          have HB10 := Lib.hid (bthen HB9.out hb10)
          clear hb10
          go_wp2_with fail
          refine (runs _ (HT.out.below HB10.out)).mono ?_
          rintro e w11 ⟨rfl, hb11⟩
          go_wp2_with fail
          go_ret
          exact ⟨rfl, bthen HB10.out hb11⟩
        | yes xs e0 =>
          rw [hg] at CG CR
          have HXL := Lib.hid (show xs.length ≤ 1000 ∧ ∀ x ∈ xs, x.l.length ≤ 1000 from ⟨by have := (getM_len hg).1; omega, (getM_len hg).2⟩)
          clear hg hw
          refine CG.out.mono ?_
          rintro e w5 ⟨v5, rfl, hv5, hb5⟩
          have HB5 := Lib.hid (bthen HB4.out hb5)
          have HF5 := Lib.hid ((HF4.out.below hb5).wider hb5.size)
          have HO5 := Lib.hid (own_below HO4.out hb5)
          have HS5 := Lib.hid ((HS4.out.below hb5).wider hb5.size)
          have HG5 := Lib.hid (slv_own hv5)
          clear hv5 hb5
          go_wp2_with fail
          refine (CR.out w5 _ _ HF5.out HS5.out).mono ?_
          rintro e w6 ⟨v6, rfl, hv6, hb6⟩
          have HB6 := Lib.hid (bthen HB5.out hb6)
          have HO6 := Lib.hid (own_below HO5.out hb6)
          have HS6 := Lib.hid ((HS5.out.below hb6).wider hb6.size)
          have HH6 := Lib.hid (slv_own hv6)
          have HG6 := Lib.hid ((HG5.out.below hb6).wider hb6.size)
          clear hv6 hb6
          go_wp2_with fail
          refine (where_nil w6).mono ?_
          rintro e w7 ⟨rfl, hb7⟩
          have HB7 := Lib.hid (bthen HB6.out hb7)
          have HO7 := Lib.hid (own_below HO6.out hb7)
          have HS7 := Lib.hid ((HS6.out.below hb7).wider hb7.size)
          have HG7 := Lib.hid ((HG6.out.below hb7).wider hb7.size)
          have HH7 := Lib.hid ((HH6.out.below hb7).wider hb7.size)
          clear hb7
          go_wp2_with fail
          refine (same_vals w7.heap.size _ _ xs w7 HG7.out HH7.out HXL.out.1 HXL.out.2).mono ?_
          intro e w8 h8
          obtain ⟨rfl, d8, h8⟩ := h8
          have hb8 : Below w7.heap.size w7 w8 := by rw [h8]; exact below_drewN (Below.refl _ _) d8
          have HB8 := Lib.hid (bthen HB7.out hb8)
          have HO8 := Lib.hid (own_below HO7.out hb8)
          have HS8 := Lib.hid ((HS7.out.below hb8).wider hb8.size)
          clear h8 hb8
          go_wp2_with fail
          refine (kind_nil w8).mono ?_
          rintro e w9 ⟨rfl, hb9⟩
          have HB9 := Lib.hid (bthen HB8.out hb9)
          have HO9 := Lib.hid (own_below HO8.out hb9)
          have HS9 := Lib.hid ((HS8.out.below hb9).wider hb9.size)
          clear hb9
          go_wp2_with fail
          refine (intact_bytes w9.heap.size _ _ L 7 w9 (room_whole HO9.out) HS9.out (Nat.le_refl _) (by omega) (by have := HL.out; omega)).mono ?_
          rintro e w10 ⟨rfl, hb10⟩
          have HB10 := Lib.hid (bthen HB9.out hb10)
          clear hb10
          go_wp2_with fail
          refine (runs _ (HT.out.below HB10.out)).mono ?_
          rintro e w11 ⟨rfl, hb11⟩
          go_wp2_with fail
          go_ret
          exact ⟨rfl, bthen HB10.out hb11⟩
    · have hpos : 0 < (putB fa xa).length := by omega
      obtain ⟨g3, c3, rfl, hc3⟩ := own_slice hown3
      obtain ⟨gb, rfl⟩ := own_addr hown3 hpos
      have HB3a := Lib.hid (bthen HB2.out hb3)
      have HF3a := Lib.hid ((HF2.out.below hb3).wider hb3.size)
      have HO3 := Lib.hid hown3
      have HBW := Lib.hid hb3
      clear hb3 hown3 Hw HSC HSRC HFEW h0
      generalize putB fa xa = P at *
      have hpos' : (0 : Int) < P.length := by omega
      go_wp2_with fail
      refine (within_int at_ 0 ((P.length : Int) - 1) w3 (by omega) (by omega) (by omega)).mono ?_
      rintro e w' ⟨k, ⟨hk0, hk1⟩, rfl, rfl⟩
      obtain ⟨k, rfl⟩ := Int.eq_ofNat_of_zero_le hk0
      have hk : k < P.length := by omega
      have hki : (k : Int) < P.length := by omega
      have c1 := own_cell HO3.out (bytesV_at hk)
      have c2 := own_frozen HO3.out k
      have hv := turn_valR (P.getD k 0) x hx8
      have HTR := Lib.hid (own_turn HO3.out k (P.getD k 0 ^^^ UInt8.ofNat x))
      have HLL := Lib.hid (show (P.set k (P.getD k 0 ^^^ UInt8.ofNat x)).length = P.length from List.length_set ..)
      have HKB := Lib.hid (show Below w2.heap.size w2 (w3.setCell ⟨gb, k, none⟩ (.int .u8 ((P.getD k 0 ^^^ UInt8.ofNat x).toNat : Int))) from HBW.out.setCell (own_lt HO3.out).1 _)
      rw [← hv] at HTR HKB
      clear hv hk0 hk1
      generalize P.set k (P.getD k 0 ^^^ UInt8.ofNat x) = L at *
      generalize (P.getD k 0).toNat = y at *
      generalize hw4 : w3.setCell ⟨gb, k, none⟩ (.int .u8 (bits .xor .u8 (y : Int) (x : Int))) = wz at *
      have HL := Lib.hid (show L.length ≤ 1000 by have := HLL.out; omega)
      have hPL := HLL.out
      generalize P.length = np at *
      subst hPL
      have HSL := Lib.hid (slb_own HTR.out)
      have HB3 := Lib.hid (bthen HB2.out HKB.out)
      have HF3 := Lib.hid ((HF2.out.below HKB.out).wider HKB.out.size)
      clear HTR HKB HO3 HBW HB3a HF3a hki hpos' hpos HLL
      go_wp2_with fail
      refine (roomy_bytes wz.heap.size _ L 7 wz HSL.out (Nat.le_refl _) (by omega) (by have := HL.out; omega)).mono ?_
      rintro e w4 ⟨rfl, hown4, hb4⟩
      have HO4 := Lib.hid hown4
      have HB4 := Lib.hid (bthen HB3.out hb4)
      have HF4 := Lib.hid ((HF3.out.below hb4).wider hb4.size)
      have HS4 := Lib.hid ((HSL.out.below hb4).wider hb4.size)
      have HR4 := Lib.hid (room_head hown4)
      have i4 : (L.length : Int) ≤ ((L.length + 80 : Nat) : Int) := by omega
      clear hown4 hb4
      go_wp2_with fail
      by_cases hw : 0 ≤ firstAt wrongF fa 0
      · refine (get_wrong w4.heap.size _ _ fa w4 HF4.out (Nat.le_refl _) (by omega) HH.out hw).mono ?_
        rintro e w5 ⟨rfl, hb5⟩
        have HB5 := Lib.hid (bthen HB4.out hb5)
        have HF5 := Lib.hid ((HF4.out.below hb5).wider hb5.size)
        have HO5 := Lib.hid (own_below HO4.out hb5)
        have HS5 := Lib.hid ((HS4.out.below hb5).wider hb5.size)
        clear hb5
        unfold wrapV errV
        go_wp2_with fail
        refine (refGetF_wrong _ _ fa w5 HF5.out (by omega) HH.out hw).mono ?_
        rintro e w6 ⟨rfl, hb6⟩
        have HB6 := Lib.hid (bthen HB5.out hb6)
        have HO6 := Lib.hid (own_below HO5.out hb6)
        have HS6 := Lib.hid ((HS5.out.below hb6).wider hb6.size)
        clear hb6
        go_wp2_with fail
        refine (where_err [(gramGet, firstAt wrongF fa 0)] 1 w6 _ rfl (HT.out.below HB6.out)).mono ?_
        rintro e w7 ⟨rfl, hb7⟩
        have HB7 := Lib.hid (bthen HB6.out hb7)
        have HO7 := Lib.hid (own_below HO6.out hb7)
        have HS7 := Lib.hid ((HS6.out.below hb7).wider hb7.size)
        clear hb7
        simp only [show lastS [(gramGet, firstAt wrongF fa 0)] = gramGet from rfl, show lastN [(gramGet, firstAt wrongF fa 0)] = firstAt wrongF fa 0 from rfl, List.isEmpty_cons, Bool.not_false]
        go_wp2_with fail
        refine (same_vals w7.heap.size _ _ [] w7 (Or.inl ⟨rfl, _, _, rfl⟩) (Or.inl ⟨rfl, _, _, rfl⟩) (by simp) (by simp)).mono ?_
        intro e w8 h8
        obtain ⟨rfl, d8, h8⟩ := h8
        have hb8 : Below w7.heap.size w7 w8 := by rw [h8]; exact below_drewN (Below.refl _ _) d8
        have HB8 := Lib.hid (bthen HB7.out hb8)
        have HO8 := Lib.hid (own_below HO7.out hb8)
        have HS8 := Lib.hid ((HS7.out.below hb8).wider hb8.size)
        clear h8 hb8
        go_wp2_with fail
        refine (kind_err [(gramGet, firstAt wrongF fa 0)] 1 w8 _ rfl (HT.out.below HB8.out)).mono ?_
        rintro e w9 ⟨rfl, hb9⟩
        have HB9 := Lib.hid (bthen HB8.out hb9)
        have HO9 := Lib.hid (own_below HO8.out hb9)
        have HS9 := Lib.hid ((HS8.out.below hb9).wider hb9.size)
        clear hb9
        unfold gramGet
        go_wp2_with fail
        refine (intact_bytes w9.heap.size _ _ L 7 w9 (room_whole HO9.out) HS9.out (Nat.le_refl _) (by omega) (by have := HL.out; omega)).mono ?_
        rintro e w10 ⟨rfl, hb10⟩
        have HB10 := Lib.hid (bthen HB9.out hb10)
        clear hb10
        go_wp2_with fail
        refine (runs _ (HT.out.below HB10.out)).mono ?_
        rintro e w11 ⟨rfl, hb11⟩
        go_wp2_with fail
        go_ret
        exact ⟨rfl, bthen HB10.out hb11⟩
      · have CG := Lib.hid (get_any _ _ fa L w4 HF4.out HR4.out (by omega) (by have := HL.out; omega) HH.out (by omega))
        have CR := Lib.hid (fun W fv bv (hF : SlF W.heap.size W fv fa) (hB : SlB W.heap.size W bv L) => refGetF_any fv bv fa L W hF hB (by omega) (by have := HL.out; omega) HH.out (by omega))
        cases hg : getM fa L with
        | no k p =>
          rw [hg] at CG CR
          have hk := getM_ne hg
          have hk1 : (k != 0) = true := by simpa using hk
          have hk2 : (k == 0) = false := beq_ff hk
          clear hg hw
          refine CG.out.mono ?_
          rintro e w5 ⟨rfl, hb5⟩
          have HB5 := Lib.hid (bthen HB4.out hb5)
          have HF5 := Lib.hid ((HF4.out.below hb5).wider hb5.size)
          have HO5 := Lib.hid (own_below HO4.out hb5)
          have HS5 := Lib.hid ((HS4.out.below hb5).wider hb5.size)
          clear hb5
          unfold wrapV errV
          go_wp2_with fail
          refine (CR.out w5 _ _ HF5.out HS5.out).mono ?_
          rintro e w6 ⟨rfl, hb6⟩
          have HB6 := Lib.hid (bthen HB5.out hb6)
          have HO6 := Lib.hid (own_below HO5.out hb6)
          have HS6 := Lib.hid ((HS5.out.below hb6).wider hb6.size)
          clear hb6
          go_wp2_with fail
          refine (where_err [(gramGet, p)] k w6 _ rfl (HT.out.below HB6.out)).mono ?_
          rintro e w7 ⟨rfl, hb7⟩
          have HB7 := Lib.hid (bthen HB6.out hb7)
          have HO7 := Lib.hid (own_below HO6.out hb7)
          have HS7 := Lib.hid ((HS6.out.below hb7).wider hb7.size)
          clear hb7
          simp only [show lastS [(gramGet, p)] = gramGet from rfl, show lastN [(gramGet, p)] = p from rfl, List.isEmpty_cons, Bool.not_false]
          go_wp2_with fail
          refine (same_vals w7.heap.size _ _ [] w7 (Or.inl ⟨rfl, _, _, rfl⟩) (Or.inl ⟨rfl, _, _, rfl⟩) (by simp) (by simp)).mono ?_
          intro e w8 h8
          obtain ⟨rfl, d8, h8⟩ := h8
          have hb8 : Below w7.heap.size w7 w8 := by rw [h8]; exact below_drewN (Below.refl _ _) d8
          have HB8 := Lib.hid (bthen HB7.out hb8)
          have HO8 := Lib.hid (own_below HO7.out hb8)
          have HS8 := Lib.hid ((HS7.out.below hb8).wider hb8.size)
          clear h8 hb8
          go_wp2_with fail
          refine (kind_err [(gramGet, p)] k w8 _ rfl (HT.out.below HB8.out)).mono ?_
          rintro e w9 ⟨rfl, hb9⟩
          have HB9 := Lib.hid (bthen HB8.out hb9)
          have HO9 := Lib.hid (own_below HO8.out hb9)
          have HS9 := Lib.hid ((HS8.out.below hb9).wider hb9.size)
          clear hb9
          unfold gramGet
          go_wp2_with fail
          refine (intact_bytes w9.heap.size _ _ L 7 w9 (room_whole HO9.out) HS9.out (Nat.le_refl _) (by omega) (by have := HL.out; omega)).mono ?_
          rintro e w10 ⟨rfl, hb10⟩
          have HB10 := Lib.hid (bthen HB9.out hb10)
          clear hb10
          go_wp2_with fail
          refine (runs _ (HT.out.below HB10.out)).mono ?_
          rintro e w11 ⟨rfl, hb11⟩
          go_wp2_with fail
          go_ret
          exact ⟨rfl, bthen HB10.out hb11⟩
        | yes xs e0 =>
          rw [hg] at CG CR
          have HXL := Lib.hid (show xs.length ≤ 1000 ∧ ∀ x ∈ xs, x.l.length ≤ 1000 from ⟨by have := (getM_len hg).1; omega, (getM_len hg).2⟩)
          clear hg hw
          refine CG.out.mono ?_
          rintro e w5 ⟨v5, rfl, hv5, hb5⟩
          have HB5 := Lib.hid (bthen HB4.out hb5)
          have HF5 := Lib.hid ((HF4.out.below hb5).wider hb5.size)
          have HO5 := Lib.hid (own_below HO4.out hb5)
          have HS5 := Lib.hid ((HS4.out.below hb5).wider hb5.size)
          have HG5 := Lib.hid (slv_own hv5)
          clear hv5 hb5
          go_wp2_with fail
          refine (CR.out w5 _ _ HF5.out HS5.out).mono ?_
          rintro e w6 ⟨v6, rfl, hv6, hb6⟩
          have HB6 := Lib.hid (bthen HB5.out hb6)
          have HO6 := Lib.hid (own_below HO5.out hb6)
          have HS6 := Lib.hid ((HS5.out.below hb6).wider hb6.size)
          have HH6 := Lib.hid (slv_own hv6)
          have HG6 := Lib.hid ((HG5.out.below hb6).wider hb6.size)
          clear hv6 hb6
          go_wp2_with fail
          refine (where_nil w6).mono ?_
          rintro e w7 ⟨rfl, hb7⟩
          have HB7 := Lib.hid (bthen HB6.out hb7)
          have HO7 := Lib.hid (own_below HO6.out hb7)
          have HS7 := Lib.hid ((HS6.out.below hb7).wider hb7.size)
          have HG7 := Lib.hid ((HG6.out.below hb7).wider hb7.size)
          have HH7 := Lib.hid ((HH6.out.below hb7).wider hb7.size)
          clear hb7
          go_wp2_with fail
          refine (same_vals w7.heap.size _ _ xs w7 HG7.out HH7.out HXL.out.1 HXL.out.2).mono ?_
          intro e w8 h8
          obtain ⟨rfl, d8, h8⟩ := h8
          have hb8 : Below w7.heap.size w7 w8 := by rw [h8]; exact below_drewN (Below.refl _ _) d8
          have HB8 := Lib.hid (bthen HB7.out hb8)
          have HO8 := Lib.hid (own_below HO7.out hb8)
          have HS8 := Lib.hid ((HS7.out.below hb8).wider hb8.size)
          clear h8 hb8
          go_wp2_with fail
          refine (kind_nil w8).mono ?_
          rintro e w9 ⟨rfl, hb9⟩
          have HB9 := Lib.hid (bthen HB8.out hb9)
          have HO9 := Lib.hid (own_below HO8.out hb9)
          have HS9 := Lib.hid ((HS8.out.below hb9).wider hb9.size)
          clear hb9
          go_wp2_with fail
          refine (intact_bytes w9.heap.size _ _ L 7 w9 (room_whole HO9.out) HS9.out (Nat.le_refl _) (by omega) (by have := HL.out; omega)).mono ?_
          rintro e w10 ⟨rfl, hb10⟩
          have HB10 := Lib.hid (bthen HB9.out hb10)
          clear hb10
          go_wp2_with fail
          refine (runs _ (HT.out.below HB10.out)).mono ?_
          rintro e w11 ⟨rfl, hb11⟩
          go_wp2_with fail
          go_ret
          exact ⟨rfl, bthen HB10.out hb11⟩
end Go.Proofs.YtoflfbcjlddjaaaDoor
