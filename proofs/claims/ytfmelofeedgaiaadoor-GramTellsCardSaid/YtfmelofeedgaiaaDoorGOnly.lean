/-
  stavelaw2.GramOnly: the walk.
-/
import Derived.Test.YtfmelofeedgaiaaDoorGOnlyM
import Derived.Test.YtfmelofeedgaiaaDoorGFewNil
import Derived.Test.YtfmelofeedgaiaaDoorGRuns
namespace Go.Proofs.YtfmelofeedgaiaaDoor
open Go.RowKit
theorem slf_len {B : Nat} {w : World} {v : Value} {fs : List Fl} (h : SlF B w v fs) : ∃ a cap, v = .slice a fs.length cap := by
  rcases h with ⟨rfl, a, cap, h⟩ | ⟨b, o, cap, h, _⟩
  · exact ⟨a, cap, h⟩
  · exact ⟨_, cap, h⟩
theorem slv_len {B : Nat} {w : World} {v : Value} {xs : List Vl} (h : SlV B w v xs) : ∃ a cap, v = .slice a xs.length cap := by
  rcases h with ⟨rfl, a, cap, h⟩ | ⟨b, o, cap, h, _⟩
  · exact ⟨a, cap, h⟩
  · exact ⟨_, cap, h⟩
set_option maxHeartbeats 2000000 in
set_option maxRecDepth 100000 in
theorem only_any (fv bv : Value) (fs : List Fl) (bs : List UInt8) (w : World) (hT : Typ w) (hf : SlF w.heap.size w fv fs) (hfl : fs.length ≤ maxLen) (hh : ∀ f ∈ fs, f.hi ≤ 9223372036854775807) (hb : SlB w.heap.size w bv bs) (hbl : bs.length ≤ maxLen) :
    Calls Tryd.prog 6 #[fv, bv] w (Bit true w) := by
  have HT := Lib.hid hT
  have HH := Lib.hid (show ∀ f ∈ fs.take 6, f.hi ≤ 9223372036854775807 from fun f hf => hh f (List.mem_of_mem_take hf))
  have HFEW := Lib.hid (few_nil fv fs w hf hfl)
  have HB := Lib.hid hb
  obtain ⟨a2, cap2, rfl, hc2⟩ := hb.len
  unfold maxLen at hbl
  clear hT hf hh hb hfl
  have hl6 : (fs.take 6).length ≤ 6 := by rw [List.length_take]; omega
  generalize fs.take 6 = fa at *
  have hm1 : (if (60 : Int) < bs.length then (60 : Int) else bs.length) = ((min bs.length 60 : Nat) : Int) := by split <;> omega
  have b1 : min bs.length 60 ≤ bs.length ∧ min bs.length 60 ≤ 60 ∧ min bs.length 60 ≤ cap2 := by omega
  generalize min bs.length 60 = n1 at *
  obtain ⟨b11, b12, b13⟩ := b1
  have HS := Lib.hid (slb_take HB.out b11)
  have hrl : (bs.take n1).length = n1 := by rw [List.length_take]; omega
  generalize bs.take n1 = rb at *
  have HRL := Lib.hid hrl
  have i1 : (n1 : Int) ≤ cap2 := by omega
  have i0 : (0 : Int) ≤ n1 := by omega
  clear hrl
  go_enter Tryd.func6, Tryd.ntmps6
  go_wp2_with fail
  refine HFEW.out.mono ?_
  rintro e w1 ⟨v1, rfl, hown1, hb1⟩
  have HF1 := Lib.hid (slf_own hown1)
  obtain ⟨a1, cap1, rfl⟩ := slf_len (slf_own hown1)
  have HB1 := Lib.hid hb1
  clear hown1 hb1
  have HS1 := Lib.hid (show SlB w1.heap.size w1 (.slice a2 n1 cap2) rb from (HS.out.below HB1.out).wider HB1.out.size)
  by_cases hw : 0 ≤ firstAt wrongF fa 0
  · go_wp2_with fail
    refine (get_wrong w1.heap.size _ _ fa w1 HF1.out (Nat.le_refl _) (by omega) HH.out hw).mono ?_
    rintro e w2 ⟨rfl, hb2⟩
    have HB2 := Lib.hid (bthen HB1.out hb2)
    clear hb2
    unfold wrapV errV
    go_wp2_with fail
    refine (runs _ (HT.out.below HB2.out)).mono ?_
    rintro e w3 ⟨rfl, hb3⟩
    go_wp2_with fail
    go_ret
    exact ⟨rfl, bthen HB2.out hb3⟩
  · cases hg : getM fa rb with
    | no k p =>
      go_wp2_with fail
      refine (get_any _ _ fa rb w1 HF1.out HS1.out (by omega) (by have := HRL.out; omega) HH.out (by omega)).mono ?_
      rw [hg]
      rintro e w2 ⟨rfl, hb2⟩
      have HB2 := Lib.hid (bthen HB1.out hb2)
      clear hb2 hg
      unfold wrapV errV
      go_wp2_with fail
      refine (runs _ (HT.out.below HB2.out)).mono ?_
      rintro e w3 ⟨rfl, hb3⟩
      go_wp2_with fail
      go_ret
      exact ⟨rfl, bthen HB2.out hb3⟩
    | yes xs e0 =>
      obtain ⟨m1, m2, m3, m4, m5, m6⟩ := getM_back hw (by have := HRL.out; omega) hg
      have HM1 := Lib.hid m1
      have HM2 := Lib.hid m2
      have HM4 := Lib.hid m4
      have HG := Lib.hid hg
      have m7 : leastM fa ≤ (n1 : Int) := by have := HRL.out; omega
      have m8 : ((xs.length : Int) == (fa.length : Int)) = true := by rw [m1]; simp
      clear hg m1 m2 m4 m5
      go_wp2_with fail
      refine (get_any _ _ fa rb w1 HF1.out HS1.out (by omega) (by have := HRL.out; omega) HH.out (by omega)).mono ?_
      rw [HG.out]
      rintro e w2 ⟨v2, rfl, hv2, hb2⟩
      have HV2 := Lib.hid (slv_own hv2)
      obtain ⟨a3, cap3, rfl⟩ := slv_len (slv_own hv2)
      have HB2 := Lib.hid hb2
      have HF2 := Lib.hid ((HF1.out.below HB2.out).wider HB2.out.size)
      clear hv2 hb2
      go_wp2_with fail
      refine (put_ok _ _ fa xs w2 HF2.out HV2.out (by omega) HH.out (by omega) HM1.out HM4.out m3 (by rw [HM2.out, HRL.out]; omega)).mono ?_
      rw [HM2.out]
      rintro e w3 ⟨v3, rfl, hown3, hb3⟩
      have HO3 := Lib.hid hown3
      have HB3 := Lib.hid hb3
      have HS3 := Lib.hid (((HS1.out.below HB2.out).wider HB2.out.size).below HB3.out)
      have HF3 := Lib.hid ((HF2.out.below HB3.out).wider HB3.out.size)
      obtain ⟨a4, cap4, rfl, _⟩ := own_slice hown3
      clear hown3 hb3
      go_wp2_with fail
      refine (same_bytes w3.heap.size _ _ rb rb w3 (slb_own HO3.out) (HS3.out.wider HB3.out.size) (Nat.le_refl _) (by have := HRL.out; omega)).mono ?_
      rw [decide_eq_true rfl]
      rintro e w4 ⟨rfl, hb4⟩
      have HB4 := Lib.hid hb4
      clear hb4
      go_wp2_with fail
      refine (least_any _ fa w4 ((HF3.out.below HB4.out).wider HB4.out.size) (by omega) HH.out).mono ?_
      rintro e w5 ⟨rfl, hb5⟩
      have HB5 := Lib.hid (bthen (bthen (bthen (bthen HB1.out HB2.out) HB3.out) HB4.out) hb5)
      clear hb5
      go_wp2_with fail
      refine (runs _ (HT.out.below HB5.out)).mono ?_
      rintro e w6 ⟨rfl, hb6⟩
      go_wp2_with fail
      go_ret
      exact ⟨rfl, bthen HB5.out hb6⟩
end Go.Proofs.YtfmelofeedgaiaaDoor
