/-
  stavelaw2.GramBack: the walk.
-/
import Derived.Test.YtfmelofeedgaiaaDoorGBackM
import Derived.Test.YtfmelofeedgaiaaDoorGSame
import Derived.Test.YtfmelofeedgaiaaDoorGOnly
import Derived.Test.YtfmelofeedgaiaaDoorWithin
namespace Go.Proofs.YtfmelofeedgaiaaDoor
open Go.RowKit
theorem TrueDrew.below {w : World} {e : Ending} {w' : World} (h : TrueDrew w e w') : e = .returned (.bool true) ∧ Below w.heap.size w w' := by
  obtain ⟨h1, d, rfl⟩ := h
  exact ⟨h1, below_drewN (Below.refl _ _) d⟩
theorem app_below0' {w1 w2 : World} {o : Obj} {r : Option Nat} (hg : Grew (w1.alloc o) (some w1.heap.size) w2 r) : Below w1.heap.size w1 w2 :=
  Below.trans (b := w1.alloc o) (one_below w1 o) (hg.below (by simp) (fun k hk => by injection hk with hk; omega))
/-- Two appends behind each other, the second one's source made between. -/
theorem app_below3 {w1 w2 w3 : World} {o o2 : Obj} {r r' : Option Nat} (hg : Grew (w1.alloc o) (some w1.heap.size) w2 r) (hg2 : Grew (w2.alloc o2) r w3 r') : Below w1.heap.size w1 w3 := by
  have h1 := app_below0' hg
  have h2 : ∀ k, r = some k → w1.heap.size ≤ k := fun k hk => by
    rcases hg.own with e | e
    · rw [e] at hk; injection hk with hk; omega
    · have := e k hk; simp at this; omega
  exact (h1.alloc h1.size o2).trans (hg2.below (by have := h1.size; simp; omega) h2)
theorem more_slb (w : World) (more : Nat) (hm : more < 256) : SlB (w.heap.size + 1) (w.alloc (.cells #[.int .u8 more] 5)) (.slice (some ⟨w.heap.size, 0, none⟩) 1 1) [UInt8.ofNat more] := by
  have e : (UInt8.ofNat more).toNat = more := by rw [UInt8.toNat_ofNat']; omega
  exact slb_lit (l := [UInt8.ofNat more]) (holds_new w #[.int .u8 more] 5 _ (by simp [bytesV, e])) (by omega) (by simp)
set_option maxHeartbeats 4000000 in
set_option maxRecDepth 100000 in
theorem back_any (fv xv : Value) (fs : List Fl) (xs : List Vl) (cut : Int) (more : Nat) (w : World) (hT : Typ w) (hm : more < 256) (hf : SlF w.heap.size w fv fs) (hfl : fs.length ≤ 9223372036854775807) (hh : ∀ f ∈ fs, f.hi ≤ 9223372036854775807)
    (hx : SlV w.heap.size w xv xs) (hxl : xs.length ≤ 9223372036854775807) (hbig : ∀ x ∈ xs, x.big) :
    Calls Tryd.prog 5 #[fv, xv, .int .i64 cut, .int .u8 more] w (Bit true w) := by
  have HT := Lib.hid hT
  have HH := Lib.hid (show ∀ f ∈ fs.take 6, f.hi ≤ 9223372036854775807 from fun f hf => hh f (List.mem_of_mem_take hf))
  have HFEW := Lib.hid (few_any fv xv fs xs w hf hx hfl hxl hbig)
  have HXF := Lib.hid (few_all xs)
  clear hT hf hh hfl hx hxl hbig
  have hl6 : (fs.take 6).length ≤ 6 := by rw [List.length_take]; omega
  have hx6 : ((xs.take 6).map fewV).length ≤ 6 := by rw [List.length_map, List.length_take]; omega
  generalize fs.take 6 = fa at *
  generalize (xs.take 6).map fewV = xa at *
  have HOK := Lib.hid (fun x hx => (HXF.out x hx).ok)
  go_enter Tryd.func5, Tryd.ntmps5
  go_wp2_with fail
  refine HFEW.out.mono ?_
  rintro e w1 ⟨v1, u1, rfl, hown1, hvals1, hb1⟩
  have HF1 := Lib.hid (slf_own hown1)
  have HV1 := Lib.hid (slv_own hvals1)
  obtain ⟨a1, cap1, rfl⟩ := slf_len (slf_own hown1)
  obtain ⟨a2, cap2, rfl⟩ := slv_len (slv_own hvals1)
  have HB1 := Lib.hid hb1
  clear hown1 hvals1 hb1
  cases hp : putErr fa xa with
  | some q =>
    obtain ⟨k, a⟩ := q
    have HP := Lib.hid hp
    clear hp
    go_wp2_with fail
    refine (put_err _ _ fa xa w1 HF1.out HV1.out (by omega) HH.out HOK.out k a HP.out).mono ?_
    rintro e w2 ⟨rfl, hb2⟩
    have HB2 := Lib.hid (bthen HB1.out hb2)
    clear hb2
    unfold wrapV errV
    go_wp2_with fail
    refine (runs _ (HT.out.below HB2.out)).mono ?_
    rintro e w3 ⟨rfl, hb3⟩
    go_wp2_with fail
    go_ret
    exact ⟨rfl, bthen HB2.out hb3⟩
  | none =>
    obtain ⟨p1, p2, p3⟩ := putErr_none hp
    have hrl := putB_few p1 HXF.out 6 hl6
    obtain ⟨hl1, hl2⟩ := least_le p2 p1 p3
    have HG := Lib.hid (getM_put p2 p1 p3 HH.out)
    have HSH := Lib.hid (getM_short p2 p1 p3 HH.out)
    have HPUT := Lib.hid (fun (wx : World) (fv xv : Value) (h1 : SlF wx.heap.size wx fv fa) (h2 : SlV wx.heap.size wx xv xa) => put_ok fv xv fa xa wx h1 h2 (by omega) HH.out (by omega) p2 HOK.out (by omega) (by omega))
    have HP1 := Lib.hid p1
    clear hp p1 p2 p3
    generalize putB fa xa = rb at *
    have hl2' : ¬ leastM fa < 0 := by omega
    have hl1' : ¬ (rb.length : Int) < leastM fa := by omega
    clear hl1 hl2
    go_wp2_with fail
    refine (HPUT.out w1 _ _ HF1.out HV1.out).mono ?_
    rintro e w2 ⟨v2, rfl, hown2, hb2⟩
    have HO2 := Lib.hid hown2
    have HB2 := Lib.hid hb2
    have HF2 := Lib.hid ((HF1.out.below hb2).wider hb2.size)
    have HV2 := Lib.hid ((HV1.out.below hb2).wider hb2.size)
    have HS2 := Lib.hid (slb_own hown2)
    obtain ⟨a3, cap3, rfl, hc3⟩ := own_slice hown2
    clear hown2 hb2
    go_wp2_with fail
    refine (get_any _ _ fa rb w2 HF2.out HS2.out (by omega) (by omega) HH.out (by have := HP1.out; omega)).mono ?_
    have hg0 := HG.out []
    rw [List.append_nil, if_pos rfl] at hg0
    rw [hg0]
    clear hg0
    rintro e w3 ⟨v3, rfl, hv3, hb3⟩
    have HV3 := Lib.hid (slv_own hv3)
    obtain ⟨a4, cap4, rfl⟩ := slv_len (slv_own hv3)
    have HB3 := Lib.hid hb3
    have HF3 := Lib.hid ((HF2.out.below hb3).wider hb3.size)
    have HX3 := Lib.hid ((HV2.out.below hb3).wider hb3.size)
    have HO3 := Lib.hid (own_below HO2.out hb3)
    clear hv3 hb3
    go_wp2_with fail
    refine (same_vals w3.heap.size _ _ xa w3 HV3.out HX3.out (by omega) (fun x hx => by have := (HXF.out x hx).l; omega)).mono ?_
    intro e w4 h4
    obtain ⟨rfl, hb4⟩ := h4.below
    have HB4 := Lib.hid hb4
    have HF4 := Lib.hid ((HF3.out.below hb4).wider hb4.size)
    have HO4 := Lib.hid (own_below HO3.out hb4)
    clear h4 hb4
    go_wp2_with fail
    refine (least_any _ fa w4 HF4.out (by omega) HH.out).mono ?_
    rintro e w5 ⟨rfl, hb5⟩
    have HB5 := Lib.hid hb5
    have HF5 := Lib.hid ((HF4.out.below hb5).wider hb5.size)
    have HO5 := Lib.hid (own_below HO4.out hb5)
    clear hb5
    go_wp2_with fail
    refine (least_any _ fa w5 HF5.out (by omega) HH.out).mono ?_
    rintro e w6 ⟨rfl, hb6⟩
    have HB6 := Lib.hid (bthen (bthen (bthen (bthen (bthen HB1.out HB2.out) HB3.out) HB4.out) HB5.out) hb6)
    have HF6 := Lib.hid ((HF5.out.below hb6).wider hb6.size)
    have HO6 := Lib.hid (own_below HO5.out hb6)
    clear hb6
    go_wp2_with (first
      | (at_builtin; refine wpList_append_bytes _ rfl (.tmp 68) (.tmp 69) rfl w6.heap.size _ _ _ rfl (own_new w6 w6.heap.size #[] 5 1 0 (Nat.le_refl _) rfl (by decide)) w6.heap.size _ rb rfl ((slb_own HO6.out).below (one_below _ _)) (by omega) (by simp) ?_; intro v7 w7 hown hg; have G7 := Lib.hid hg; have O7 := Lib.hid hown; have b7 := app_below0' hg; have B7 := Lib.hid (bthen HB6.out b7); have HF7 := Lib.hid ((HF6.out.below b7).wider b7.size); have HO7 := Lib.hid (own_below HO6.out b7); have HM := Lib.hid (more_slb w7 more hm); have S7 := Lib.hid (Nat.le_trans b7.size (Nat.le_refl _)); clear hown hg b7)
      | (at_builtin; refine wpList_append_bytes _ rfl (.tmp 70) (.tmp 72) rfl w6.heap.size _ _ _ rfl (own_below O7.out (one_below _ _)) (w7.heap.size + 1) _ [UInt8.ofNat more] rfl HM.out (by simp; omega) (by simp; have := S7.out; omega) ?_; intro v8 w8 hown hg; have O8 := Lib.hid hown; have b8 := app_below3 G7.out hg; have B8 := Lib.hid (bthen HB6.out b8); have HF8 := Lib.hid ((HF6.out.below b8).wider b8.size); have HO8 := Lib.hid (own_below HO6.out b8); clear hown hg b8))
    have HS8 := Lib.hid (show SlB w8.heap.size w8 v8 (rb ++ [UInt8.ofNat more]) from slb_own (B := w6.heap.size) (by have := O8.out; rw [bytesV_append, List.length_append]; simpa using this))
    have HG4 := Lib.hid ((HG.out [UInt8.ofNat more]).trans (if_neg (by simp)))
    refine (get_any _ _ fa (rb ++ [UInt8.ofNat more]) w8 HF8.out HS8.out (by omega) (by rw [List.length_append]; simp; omega) HH.out (by have := HP1.out; omega)).mono ?_
    rw [HG4.out]
    rintro e w9 ⟨rfl, hb9⟩
    have B9 := Lib.hid (bthen B8.out hb9)
    have HF9 := Lib.hid ((HF8.out.below hb9).wider hb9.size)
    have HO9 := Lib.hid (own_below HO8.out hb9)
    clear hb9
    unfold wrapV errV
    go_wp2_with fail
    refine (within_num cut 0 rb.length w9 (by omega) (by omega) (by omega)).mono ?_
    rintro e w' ⟨k, ⟨k0, k1⟩, rfl, rfl⟩
    by_cases hk : k < rb.length
    · obtain ⟨p, hp⟩ := HSH.out k hk
      have HP := Lib.hid hp
      clear hp
      have HSK := Lib.hid (slb_take (slb_own HO9.out) (Nat.le_of_lt hk))
      have hkl : (rb.take k).length ≤ 600 := by rw [List.length_take]; omega
      have hkc : (k : Int) ≤ cap3 := by omega
      go_wp2_with fail
      refine (get_any _ _ fa (rb.take k) w9 HF9.out HSK.out (by omega) (by omega) HH.out (by have := HP1.out; omega)).mono ?_
      rw [HP.out]
      rintro e w10 ⟨rfl, hb10⟩
      have B10 := Lib.hid (bthen B9.out hb10)
      clear hb10
      unfold wrapV errV
      go_wp2_with fail
      refine (kind_err [(gramGet, p)] 3 w10 _ rfl (HT.out.below B10.out)).mono ?_
      rintro e w11 ⟨rfl, hb11⟩
      have B11 := Lib.hid (bthen B10.out hb11)
      clear hb11
      go_wp2_with fail
      refine (kind_err [(gramGet, (rb.length : Int))] 4 w11 _ rfl (HT.out.below B11.out)).mono ?_
      rintro e w12 ⟨rfl, hb12⟩
      have B12 := Lib.hid (bthen B11.out hb12)
      clear hb12
      go_wp2_with fail
      refine (runs _ (HT.out.below B12.out)).mono ?_
      rintro e w13 ⟨rfl, hb13⟩
      go_wp2_with fail
      go_ret
      exact ⟨rfl, bthen B12.out hb13⟩
    · go_wp2_with fail
      refine (kind_err [(gramGet, (rb.length : Int))] 4 w9 _ rfl (HT.out.below B9.out)).mono ?_
      rintro e w12 ⟨rfl, hb12⟩
      have B12 := Lib.hid (bthen B9.out hb12)
      clear hb12
      go_wp2_with fail
      refine (runs _ (HT.out.below B12.out)).mono ?_
      rintro e w13 ⟨rfl, hb13⟩
      go_wp2_with fail
      go_ret
      exact ⟨rfl, bthen B12.out hb13⟩
end Go.Proofs.YtfmelofeedgaiaaDoor
