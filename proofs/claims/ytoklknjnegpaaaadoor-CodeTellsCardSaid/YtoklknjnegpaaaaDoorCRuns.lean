/-
  stavelaw4.CodeRuns: the walk.
-/
import Derived.Test.YtoklknjnegpaaaaDoorCUniq
import Derived.Test.YtoklknjnegpaaaaDoorBase
import Derived.Test.YtoklknjnegpaaaaDoorFRef
namespace Go.Proofs.YtoklknjnegpaaaaDoor
open Go.RowKit Gf Cd
attribute [local go_sem ↓] Go.wp_at_zero Go.wp_at_succ
theorem one_12 : ([[1], [2]] : List (List UInt8)).length = 2 := rfl
theorem inv_2 : inv 2 = 142 := by decide +kernel
theorem inv_3 : inv 3 = 244 := by decide +kernel
theorem mul_3 : mul 244 2 = 245 := by decide +kernel
def KR (W w' : World) : Prop := Below W.heap.size W w'
theorem KR.drew {W w' : World} (h : KR W w') : KR W w'.drew := Below.drew h
theorem KR.alloc {W w' : World} (h : KR W w') (o : Obj) : KR W (w'.alloc o) := balloc h o
theorem KR.call {W w' w'' : World} (h : KR W w') (hb : Below w'.heap.size w' w'') : KR W w'' := bthen h hb
theorem lit_rows {W : World} {b : Nat} (b1 b2 : Nat) (h1 : W.cell? ⟨b1, 0, none⟩ = some (.int .u8 1)) (h2 : W.cell? ⟨b2, 0, none⟩ = some (.int .u8 2)) (h3 : W.cell? ⟨b, 0, none⟩ = some (.slice (some ⟨b1, 0, none⟩) 1 1)) (h4 : W.cell? ⟨b, 1, none⟩ = some (.slice (some ⟨b2, 0, none⟩) 1 1)) : SlBs W.heap.size W (.slice (some ⟨b, 0, none⟩) 2 2) [[1], [2]] :=
  two_rows h3 h4 (World.block_lt_of_cell? W _ h3) (slb_one (x := 1) h1 (World.block_lt_of_cell? W _ h1) (by omega)) (slb_one (x := 2) h2 (World.block_lt_of_cell? W _ h2) (by omega))
theorem lit_a (w : World) : SlBs (((w.alloc (.cells #[.int .u8 1] 5)).alloc (.cells #[.int .u8 2] 5)).alloc (.cells #[.slice (some ⟨w.heap.size, 0, none⟩) 1 1, .slice (some ⟨w.heap.size + 1, 0, none⟩) 1 1] 24)).heap.size (((w.alloc (.cells #[.int .u8 1] 5)).alloc (.cells #[.int .u8 2] 5)).alloc (.cells #[.slice (some ⟨w.heap.size, 0, none⟩) 1 1, .slice (some ⟨w.heap.size + 1, 0, none⟩) 1 1] 24)) (.slice (some ⟨w.heap.size + 1 + 1, 0, none⟩) 2 2) [[1], [2]] :=
  lit_rows (w.heap.size) (w.heap.size + 1) (by simp [go_sem]) (by simp [go_sem]) (by simp [go_sem]) (by simp [go_sem])
theorem lit_b (w : World) : SlBs (((w.alloc (.cells #[.int .u8 2] 5)).alloc (.cells #[.int .u8 1] 5)).alloc (.cells #[.slice (some ⟨w.heap.size + 1, 0, none⟩) 1 1, .slice (some ⟨w.heap.size, 0, none⟩) 1 1] 24)).heap.size (((w.alloc (.cells #[.int .u8 2] 5)).alloc (.cells #[.int .u8 1] 5)).alloc (.cells #[.slice (some ⟨w.heap.size + 1, 0, none⟩) 1 1, .slice (some ⟨w.heap.size, 0, none⟩) 1 1] 24)) (.slice (some ⟨w.heap.size + 1 + 1, 0, none⟩) 2 2) [[1], [2]] :=
  lit_rows (w.heap.size + 1) (w.heap.size) (by simp [go_sem]) (by simp [go_sem]) (by simp [go_sem]) (by simp [go_sem])
theorem lit_ad (w : World) : SlBs (((w.alloc (.cells #[.int .u8 1] 5)).alloc (.cells #[.int .u8 2] 5)).alloc (.cells #[.slice (some ⟨w.heap.size, 0, none⟩) 1 1, .slice (some ⟨w.heap.size + 1, 0, none⟩) 1 1] 24)).drew.heap.size (((w.alloc (.cells #[.int .u8 1] 5)).alloc (.cells #[.int .u8 2] 5)).alloc (.cells #[.slice (some ⟨w.heap.size, 0, none⟩) 1 1, .slice (some ⟨w.heap.size + 1, 0, none⟩) 1 1] 24)).drew (.slice (some ⟨w.heap.size + 1 + 1, 0, none⟩) 2 2) [[1], [2]] :=
  lit_rows (w.heap.size) (w.heap.size + 1) (by simp [go_sem]) (by simp [go_sem]) (by simp [go_sem]) (by simp [go_sem])
theorem lit_bd (w : World) : SlBs (((w.alloc (.cells #[.int .u8 2] 5)).alloc (.cells #[.int .u8 1] 5)).alloc (.cells #[.slice (some ⟨w.heap.size + 1, 0, none⟩) 1 1, .slice (some ⟨w.heap.size, 0, none⟩) 1 1] 24)).drew.heap.size (((w.alloc (.cells #[.int .u8 2] 5)).alloc (.cells #[.int .u8 1] 5)).alloc (.cells #[.slice (some ⟨w.heap.size + 1, 0, none⟩) 1 1, .slice (some ⟨w.heap.size, 0, none⟩) 1 1] 24)).drew (.slice (some ⟨w.heap.size + 1 + 1, 0, none⟩) 2 2) [[1], [2]] :=
  lit_rows (w.heap.size + 1) (w.heap.size) (by simp [go_sem]) (by simp [go_sem]) (by simp [go_sem]) (by simp [go_sem])
/-- What the decoding of the run tells. -/
def Dec12 (w : World) (e : Ending) (w' : World) : Prop := ∃ v, e = .returned (.tuple #[v, .nilIface]) ∧ SlBs w'.heap.size w' v [[1], [2]] ∧ Below w.heap.size w w'
set_option maxHeartbeats 4000000 in
set_option maxRecDepth 100000 in
theorem code_runs (w : World) (hT : Typ w) : Calls Tryd.prog 23 #[] w (Bit true w) := by
  have HT := Lib.hid hT
  have HN1 := Lib.hid (show Calls Tryd.prog 22 #[.int .i64 2, .int .i64 3] w (NewCode 2 3 w) from new_yes 2 3 w (by omega) (by omega) (by omega))
  have HN2 := Lib.hid (fun w => show Calls Tryd.prog 22 #[.int .i64 3, .int .i64 2] w (Err2 (.pointer none) opNew 1 0 w) from new_no 3 2 w (by omega))
  clear hT
  go_enter Tryd.func23, Tryd.ntmps23
  go_wp2_with fail
  refine HN1.out.mono ?_
  rintro e w1 ⟨c, rfl, hC, hb1⟩
  have HC := Lib.hid hC
  have HB1 := Lib.hid hb1
  clear hC hb1
  go_wp2_with fail
  refine (HN2.out w1).mono ?_
  rintro e w2 ⟨rfl, hb2⟩
  have HB2 := Lib.hid (bthen HB1.out hb2)
  have HC2 := Lib.hid (HC.out.below hb2)
  have HW12 := Lib.hid hb2.size
  clear hb2
  unfold wrapV errV
  go_wp2_with fail
  refine (kind_err [(opNew, 0)] 1 w2 _ rfl (HT.out.below HB2.out)).mono ?_
  rintro e w3 ⟨rfl, hb3⟩
  have HB3 := Lib.hid (bthen HB2.out hb3)
  have HC3 := Lib.hid ((HC2.out.below (Below.mono hb3 HW12.out)).wider (Nat.le_trans HW12.out hb3.size))
  clear hb3
  have HENC := Lib.hid (fun (Wx : World) (h : Below w3.heap.size w3 Wx) (v : Value) (hv : SlBs Wx.heap.size Wx v [[1], [2]]) => show Calls Tryd.prog 24 #[.pointer (some ⟨c, 0, none⟩), v] Wx (Rows2 (encL 2 3 [[1], [2]] 1) Wx) from
    encode_yes w3.heap.size Wx.heap.size c 2 3 1 v _ Wx (HC3.out.below h) h.size hv (Nat.le_refl _) rfl (fun i hi => by match i, hi with | 0, _ => rfl | 1, _ => rfl) (by omega))
  go_wp2_with fail
  refine (HENC.out _ (balloc (balloc (one_below _ _) _) _) _ (lit_rows w3.heap.size (w3.heap.size + 1) (by simp [go_sem]) (by simp [go_sem]) (by simp [go_sem]) (by simp [go_sem]))).mono ?_
  rintro e w4 ⟨v4, us4, rfl, hO4, hb4⟩
  have HB4 := Lib.hid (show Below w3.heap.size w3 w4 from bthen (balloc (balloc (one_below _ _) _) _) hb4)
  obtain ⟨a4, c4, rfl, hc4⟩ := hO4.slice
  obtain ⟨g4, rfl⟩ := hO4.addr (by show 0 < 3; omega)
  have hl4 : (encL 2 3 [[1], [2]] 1).length = 3 := rfl
  rw [hl4] at hc4
  have hrow : ∀ i, i < 3 → ∃ gi ci, us4.getD i nilB = .slice gi 1 ci ∧ w4.cell? ⟨g4, i, none⟩ = some (.slice gi 1 ci) ∧ SlB w4.heap.size w4 (.slice gi 1 ci) (combo (cf 2 i) [[1], [2]] 1 2) := fun i hi => by
    obtain ⟨gi, ci, e, _⟩ := own_slice (hO4.each i (by rw [hl4]; exact hi))
    have hs := hO4.slb (i := i) (by rw [hl4]; exact hi)
    have hg : (encL 2 3 [[1], [2]] 1).getD i [] = combo (cf 2 i) [[1], [2]] 1 2 := tabL_getD _ hi
    rw [hg, combo_length] at e
    rw [hg, e] at hs
    exact ⟨gi, ci, e, e ▸ hO4.cell (by rw [hl4]; exact hi), hs⟩
  obtain ⟨g1, c1, -, x1, s1⟩ := hrow 1 (by omega)
  obtain ⟨g2, c2, -, x2, s2⟩ := hrow 2 (by omega)
  have HTOP := Lib.hid (show SlBs w4.heap.size w4 (.slice (some ⟨g4, 0, none⟩) 2 c4) [[1], [2]] from
    Or.inr ⟨g4, 0, c4, rfl, (own_lt hO4.top).2.1, fun i hi => by
      obtain ⟨gi, ci, -, x, s⟩ := hrow i (by simp at hi; omega)
      refine ⟨_, by rw [Nat.zero_add]; exact x, ?_⟩
      have he : combo (cf 2 i) [[1], [2]] 1 2 = [[1], [2]].getD i [] := by
        match i, hi with
        | 0, _ => decide +kernel
        | 1, _ => decide +kernel
      rw [← he]; exact s, by simp, by simp; omega⟩)
  have HS1 := Lib.hid s1
  have HS2 := Lib.hid s2
  clear hrow hO4 hb4 s1 s2
  rw [hl4]
  clear hl4
  have HDEC := Lib.hid (fun (Wx : World) (h : KR w4 Wx) (v : Value) (hv : SlP Wx.heap.size Wx v [((1 : Int), combo (cf 2 1) [[1], [2]] 1 2), ((2 : Int), combo (cf 2 2) [[1], [2]] 1 2)]) => show Calls Tryd.prog 27 #[.pointer (some ⟨c, 0, none⟩), v] Wx (Dec12 Wx) from
    (decode_yes w3.heap.size Wx.heap.size c 2 3 1 v _ Wx (HC3.out.below (bthen HB4.out h)) (bthen HB4.out h).size hv (Nat.le_refl _) (by simp) (by decide +kernel) (by decide +kernel) (by decide +kernel) (by omega)).mono fun e w' ⟨v', bs, h1, h2, h3, h4⟩ => by
      have e1 : bs = [[1], [2]] := decoded_eq (k := 2) (s := 1) (by omega) (by decide +kernel) (by decide +kernel) (by decide +kernel) h4 rfl (fun i hi => by match i, hi with | 0, _ => rfl | 1, _ => rfl) (by decide +kernel)
      rw [e1] at h2
      exact ⟨v', h1, h2, h3⟩)
  have hkr : KR w4 w4 := Below.refl _ _
  have HMEM := Lib.hid (fun w' (h : KR w4 w') => show KR w4 w' ∧ w'.cell? ⟨g4, 1, none⟩ = some (.slice g1 1 c1) ∧ w'.cell? ⟨g4, 2, none⟩ = some (.slice g2 1 c2) from ⟨h, (Below.cell h (p := ⟨g4, 1, none⟩) (World.block_lt_of_cell? w4 _ x1)).trans x1, (Below.cell h (p := ⟨g4, 2, none⟩) (World.block_lt_of_cell? w4 _ x2)).trans x2⟩)
  have HSW := Lib.hid (fun w' (h : KR w4 w') => show SlB w'.heap.size w' (.slice g1 1 c1) (combo (cf 2 1) [[1], [2]] 1 2) ∧ SlB w'.heap.size w' (.slice g2 1 c2) (combo (cf 2 2) [[1], [2]] 1 2) from ⟨(HS1.out.below h).wider (Below.size h), (HS2.out.below h).wider (Below.size h)⟩)
  go_wp2_with fail
  go_region_held3 (fun w' => KR w4 w' ∧ w'.cell? ⟨g4, 1, none⟩ = some (.slice g1 1 c1) ∧ w'.cell? ⟨g4, 2, none⟩ = some (.slice g2 1 c2)) (exact HMEM.out _ (by repeat (first | assumption | refine KR.drew ?_ | refine KR.alloc ?_ _))) ((go_at_call 27; (with_reducible refine (HDEC.out _ (KR.drew (KR.alloc hkr _)) _ (slp_two (by simp) (by simp) (by simp) (by simp) (by simp) (HSW.out _ (KR.drew (KR.alloc hkr _))).1 (HSW.out _ (KR.drew (KR.alloc hkr _))).2)).mono ?_); rintro e w5 ⟨v5, rfl, hs5, hb5⟩; have hk5 := KR.call (KR.drew (KR.alloc hkr _)) hb5; have HV5 := Lib.hid hs5; obtain ⟨a5, c5, rfl, _⟩ := hs5.len; clear hs5 hb5))
  have HK5 := Lib.hid hk5
  have HV4 := Lib.hid ((HTOP.out.below hk5).wider (Below.size hk5))
  have HX2 := Lib.hid (HMEM.out _ hk5).2.2
  have HS25 := Lib.hid (HSW.out _ hk5).2
  clear hk5 hkr x1 x2
  have hf2 : combo (cf 2 2) [[1], [2]] 1 2 = [123] := by decide +kernel
  rw [hf2] at HS25
  clear hf2
  rcases HS25.out with ⟨h0, _⟩ | ⟨b2, o2, cc2, e2, hb2, hby, _, _⟩
  · cases h0
  injection e2 with e2 e3 e2'
  subst e2 e2'
  clear e3
  have x3 : w5.cell? ⟨b2, o2, none⟩ = some (.int .u8 123) := hby 0 (by simp)
  have x2 := HX2.out
  clear hby hb2
  have hkr5 : KR w5 w5 := Below.refl _ _
  have HMEM5 := Lib.hid (fun w' (h : KR w5 w') => show KR w5 w' ∧ w'.cell? ⟨g4, 2, none⟩ = some (.slice (some ⟨b2, o2, none⟩) 1 c2) ∧ w'.cell? ⟨b2, o2, none⟩ = some (.int .u8 123) from ⟨h, (Below.cell h (p := ⟨g4, 2, none⟩) (World.block_lt_of_cell? w5 _ x2)).trans x2, (Below.cell h (p := ⟨b2, o2, none⟩) (World.block_lt_of_cell? w5 _ x3)).trans x3⟩)
  have HSM := Lib.hid (fun (Wx : World) (h : KR w5 Wx) (vb : Value) (hv : SlBs Wx.heap.size Wx vb [[1], [2]]) => show Calls Tryd.prog 26 #[.slice a5 2 c5, vb] Wx (Bit true Wx) ∧ Calls Tryd.prog 26 #[.slice (some ⟨g4, 0, none⟩) 2 c4, vb] Wx (Bit true Wx) from
    ⟨by have := same_any Wx.heap.size _ vb _ _ Wx ((HV5.out.below h).wider (Below.size h)) hv (Nat.le_refl _) (by simp) (by decide); rwa [decide_eq_true rfl] at this, by have := same_any Wx.heap.size _ vb _ _ Wx ((HV4.out.below h).wider (Below.size h)) hv (Nat.le_refl _) (by simp) (by decide); rwa [decide_eq_true rfl] at this⟩)
  have HI2 := Lib.hid (fun w => show Calls Tryd.prog 50 #[.int .u8 2] w (U8Same 142 w) from refInv_any 2 w (by omega))
  have HI3 := Lib.hid (fun w => show Calls Tryd.prog 50 #[.int .u8 3] w (U8Same 244 w) from refInv_any 3 w (by omega))
  have HM3 := Lib.hid (fun w => show Calls Tryd.prog 51 #[.int .u8 244, .int .u8 2] w (U8Same 245 w) from refMul_any 244 2 w (by omega) (by omega))
  have hc4' : (2 : Int) ≤ (c4 : Int) := by omega
  have hxx : bits .xor .u8 142 245 = 123 := by decide +kernel
  go_wp2_with fail
  go_region_held3 (fun w' => KR w5 w' ∧ w'.cell? ⟨g4, 2, none⟩ = some (.slice (some ⟨b2, o2, none⟩) 1 c2) ∧ w'.cell? ⟨b2, o2, none⟩ = some (.int .u8 123)) (exact HMEM5.out _ (by repeat (first | assumption | refine KR.drew ?_ | refine KR.alloc ?_ _)))
    (first
      | (go_at_call 50; (with_reducible refine (HI2.out _).mono ?_); rintro e w' ⟨rfl, rfl⟩)
      | (go_at_call 50; (with_reducible refine (HI3.out _).mono ?_); rintro e w' ⟨rfl, rfl⟩)
      | (go_at_call 51; (with_reducible refine (HM3.out _).mono ?_); rintro e w' ⟨rfl, rfl⟩)
      | (go_at_call 26; (with_reducible refine (HSM.out _ (KR.drew (KR.alloc (KR.alloc (KR.alloc hkr5 _) _) _)) _ (lit_ad _)).1.mono ?_); rintro e w6 ⟨rfl, hbw6⟩; have hkr6 : KR w5 w6 := KR.call (KR.drew (KR.alloc (KR.alloc (KR.alloc hkr5 _) _) _)) hbw6; clear hbw6)
      | (go_at_call 26; (with_reducible refine (HSM.out _ (KR.drew (KR.alloc (KR.alloc (KR.alloc hkr5 _) _) _)) _ (lit_bd _)).1.mono ?_); rintro e w6 ⟨rfl, hbw6⟩; have hkr6 : KR w5 w6 := KR.call (KR.drew (KR.alloc (KR.alloc (KR.alloc hkr5 _) _) _)) hbw6; clear hbw6)
      | (go_at_call 26; (with_reducible refine (HSM.out _ (KR.alloc (KR.alloc (KR.alloc hkr6 _) _) _) _ (lit_a _)).2.mono ?_); rintro e w7 ⟨rfl, hbw7⟩; have hkr7 : KR w5 w7 := KR.call (KR.alloc (KR.alloc (KR.alloc hkr6 _) _) _) hbw7; clear hbw7)
      | (go_at_call 26; (with_reducible refine (HSM.out _ (KR.alloc (KR.alloc (KR.alloc hkr6 _) _) _) _ (lit_b _)).2.mono ?_); rintro e w7 ⟨rfl, hbw7⟩; have hkr7 : KR w5 w7 := KR.call (KR.alloc (KR.alloc (KR.alloc hkr6 _) _) _) hbw7; clear hbw7))
  all_goals
    go_wp2_with fail
    go_ret
    exact ⟨rfl, bthen (bthen (bthen HB3.out HB4.out) HK5.out) (show KR w5 _ by repeat (first | assumption | refine KR.drew ?_ | refine KR.alloc ?_ _))⟩
end Go.Proofs.YtoklknjnegpaaaaDoor
