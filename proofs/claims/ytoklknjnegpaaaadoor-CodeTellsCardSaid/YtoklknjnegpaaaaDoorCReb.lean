/-
  code.Rebuild, code.Delta.
-/
import Derived.Test.YtoklknjnegpaaaaDoorCDec
namespace Go.Proofs.YtoklknjnegpaaaaDoor
open Go.RowKit Gf Cd
/-- A new row of bytes, no error. -/
def NewB2 (l : List UInt8) (w : World) (e : Ending) (w' : World) : Prop := ∃ u, e = .returned (.tuple #[u, .nilIface]) ∧ w'.ownsRow w.heap.size 5 1 u l.length (bytesV l) ∧ Below w.heap.size w w'
/-- A fragment of the blocks that the parts tell. -/
def RebR (k s a : Nat) (qs : List Pt) (w : World) (e : Ending) (w' : World) : Prop := ∃ bs, BlocksOf k s qs bs ∧ NewB2 (combo (cf k a) bs s k) w e w'
set_option maxHeartbeats 2000000 in
set_option maxRecDepth 100000 in
theorem rebuild_bad (B c k n : Nat) (a : Int) (v : Value) (w : World) (hC : CodeIn B w c k n) (ha : ¬ (0 ≤ a ∧ a < n)) :
    Calls Tryd.prog 29 #[.pointer (some ⟨c, 0, none⟩), .int .i64 a, v] w (Err2 (.slice none 0 0) opRebuild 1 a w) := by
  have HH := Lib.hid (has_any B c k n a w hC)
  rw [decide_eq_false ha] at HH
  clear hC ha
  unfold Err2 opRebuild wrapV errV
  go_enter Tryd.func29, Tryd.ntmps29
  go_wp2_with fail
  refine HH.out.mono ?_
  rintro e w1 ⟨rfl, rfl⟩
  go_wp2
  exact bodyPost_ret (v := .tuple #[.slice none 0 0, wrapV opRebuild a (errV 1)]) (by simp [results, Tryd.results29, go_sem, wrapV, errV, opRebuild]) rfl ⟨rfl, Below.refl _ _⟩
set_option maxHeartbeats 2000000 in
set_option maxRecDepth 100000 in
theorem rebuild_err (B c k n : Nat) (a q x : Int) (v : Value) (w : World) (hC : CodeIn B w c k n) (ha : 0 ≤ a ∧ a < n) (hd : Calls Tryd.prog 27 #[.pointer (some ⟨c, 0, none⟩), v] w (Err2 (.slice none 0 0) opDecode q x w)) :
    Calls Tryd.prog 29 #[.pointer (some ⟨c, 0, none⟩), .int .i64 a, v] w (Err2 (.slice none 0 0) opDecode q x w) := by
  have HH := Lib.hid (has_any B c k n a w hC)
  rw [decide_eq_true ha] at HH
  have HD := Lib.hid hd
  clear hC ha hd
  unfold Err2 opDecode wrapV errV at *
  go_enter Tryd.func29, Tryd.ntmps29
  go_wp2_with fail
  refine HH.out.mono ?_
  rintro e w1 ⟨rfl, rfl⟩
  go_wp2_with fail
  refine HD.out.mono ?_
  rintro e w1 ⟨rfl, hb⟩
  have HB := Lib.hid hb
  clear hb
  go_wp2
  exact bodyPost_ret (v := .tuple #[.slice none 0 0, wrapV opDecode x (errV q)]) (by simp [results, Tryd.results29, go_sem, wrapV, errV, opDecode]) rfl ⟨rfl, HB.out⟩
set_option maxHeartbeats 2000000 in
set_option maxRecDepth 100000 in
theorem rebuild_yes (B c k n s a : Nat) (v : Value) (qs : List Pt) (w : World) (hC : CodeIn B w c k n) (hB : B ≤ w.heap.size) (ha : a < n) (hsz : s ≤ 1000) (hd : Calls Tryd.prog 27 #[.pointer (some ⟨c, 0, none⟩), v] w (DecR k s qs w)) :
    Calls Tryd.prog 29 #[.pointer (some ⟨c, 0, none⟩), .int .i64 a, v] w (RebR k s a qs w) := by
  have HH := Lib.hid (has_any B c k n a w hC)
  rw [decide_eq_true ⟨by omega, by omega⟩] at HH
  have HD := Lib.hid hd
  have HC := Lib.hid hC
  clear hC hd
  go_enter Tryd.func29, Tryd.ntmps29
  go_wp2_with fail
  refine HH.out.mono ?_
  rintro e w1 ⟨rfl, rfl⟩
  go_wp2_with fail
  refine HD.out.mono ?_
  rintro e w1 ⟨v1, bs, rfl, hbs, hb, hp⟩
  have HF := Lib.hid (fragment_any B w1.heap.size c k n a s v1 bs w1 (HC.out.below (Below.mono hb hB)) (Nat.le_trans hB hb.size) ha hbs (Nat.le_refl _) hp.1 hp.2.1 hsz)
  obtain ⟨a1, c1, rfl, _⟩ := hbs.len
  have HB := Lib.hid hb
  have HP := Lib.hid hp
  clear hb hp hbs
  go_wp2_with fail
  refine HF.out.mono ?_
  rintro e w2 ⟨u, rfl, hu, hb2⟩
  obtain ⟨gu, cu, rfl, _⟩ := own_slice hu
  have HU := Lib.hid hu
  have HB2 := Lib.hid hb2
  clear hu hb2
  go_wp2_with fail
  exact bodyPost_ret (v := .tuple #[.slice gu (combo (cf k a) bs s k).length cu, .nilIface]) (by simp [results, Tryd.results29, go_sem]) rfl ⟨bs, HP.out, _, rfl, own_rebase HU.out HB.out.size, bthen HB.out HB2.out⟩
set_option maxHeartbeats 2000000 in
set_option maxRecDepth 100000 in
theorem delta_no (B c k n lx ly cx cy : Nat) (ax ay : Option Addr) (a b : Int) (w : World) (hC : CodeIn B w c k n) (hno : ¬ ((0 ≤ a ∧ a < n) ∧ 0 ≤ b ∧ b < k ∧ lx = ly)) :
    Calls Tryd.prog 32 #[.pointer (some ⟨c, 0, none⟩), .int .i64 a, .int .i64 b, .slice ax lx cx, .slice ay ly cy] w (Err2 (.slice none 0 0) opDelta 1 a w) := by
  have HH := Lib.hid (has_any B c k n a w hC)
  have hk := hC.k_
  unfold Err2 opDelta wrapV errV
  by_cases ha : 0 ≤ a ∧ a < n
  · rw [decide_eq_true ha] at HH
    by_cases hb0 : 0 ≤ b
    · by_cases hbk : b < k
      · have hxy : ((lx : Int) != ly) = true := by simpa using (by omega : ¬ (lx : Int) = ly)
        clear hno hC ha
        go_enter Tryd.func32, Tryd.ntmps32
        go_wp2_with fail
        refine HH.out.mono ?_
        rintro e w1 ⟨rfl, rfl⟩
        go_wp2
        exact bodyPost_ret (v := .tuple #[.slice none 0 0, wrapV opDelta a (errV 1)]) (by simp [results, Tryd.results32, go_sem, wrapV, errV, opDelta]) rfl ⟨rfl, Below.refl _ _⟩
      · clear hno hC ha
        go_enter Tryd.func32, Tryd.ntmps32
        go_wp2_with fail
        refine HH.out.mono ?_
        rintro e w1 ⟨rfl, rfl⟩
        go_wp2
        exact bodyPost_ret (v := .tuple #[.slice none 0 0, wrapV opDelta a (errV 1)]) (by simp [results, Tryd.results32, go_sem, wrapV, errV, opDelta]) rfl ⟨rfl, Below.refl _ _⟩
    · clear hno hC ha
      go_enter Tryd.func32, Tryd.ntmps32
      go_wp2_with fail
      refine HH.out.mono ?_
      rintro e w1 ⟨rfl, rfl⟩
      go_wp2
      exact bodyPost_ret (v := .tuple #[.slice none 0 0, wrapV opDelta a (errV 1)]) (by simp [results, Tryd.results32, go_sem, wrapV, errV, opDelta]) rfl ⟨rfl, Below.refl _ _⟩
  · rw [decide_eq_false ha] at HH
    clear hno hC ha
    go_enter Tryd.func32, Tryd.ntmps32
    go_wp2_with fail
    refine HH.out.mono ?_
    rintro e w1 ⟨rfl, rfl⟩
    go_wp2
    exact bodyPost_ret (v := .tuple #[.slice none 0 0, wrapV opDelta a (errV 1)]) (by simp [results, Tryd.results32, go_sem, wrapV, errV, opDelta]) rfl ⟨rfl, Below.refl _ _⟩
/-- What Delta tells. -/
def deltaL (k a b : Nat) (l m : List UInt8) : List UInt8 := addB (addB (zeros l.length) l (cf k a b)) m (cf k a b)
theorem deltaL_length (k a b : Nat) (l m : List UInt8) : (deltaL k a b l m).length = l.length := by unfold deltaL; rw [addB_length, addB_length, zeros_length]
set_option maxHeartbeats 2000000 in
set_option maxRecDepth 100000 in
theorem delta_yes (B B' c k n a b : Nat) (v u : Value) (l m : List UInt8) (w : World) (hC : CodeIn B w c k n) (hB : B ≤ w.heap.size) (ha : a < n) (hb : b < k) (hv : SlB B' w v l) (hu : SlB B' w u m) (hB' : B' ≤ w.heap.size) (hlm : l.length = m.length) (hl : l.length ≤ 1000) :
    Calls Tryd.prog 32 #[.pointer (some ⟨c, 0, none⟩), .int .i64 a, .int .i64 b, v, u] w (NewB2 (deltaL k a b l m) w) := by
  have HH := Lib.hid (has_any B c k n a w hC)
  rw [decide_eq_true ⟨by omega, by omega⟩] at HH
  have HC := Lib.hid hC
  have HV := Lib.hid hv
  have HU := Lib.hid hu
  obtain ⟨k0, ⟨rv, c1, hrows⟩, ⟨fb, c2, hF, hfb⟩, hcB, hk1, hkn, hn8⟩ := hC
  obtain ⟨b2, o2, cap2, ur, rfl, hcap2, hb2B, hr1, hr2⟩ := hrows.row (i := a) (by rw [rowsL_length]; exact ha)
  rw [rowsL_getD ha] at hr2
  rw [rowsL_length] at c1 hcap2
  obtain ⟨b3, o3, cap3, rfl, hby⟩ := hr2.byte hB (Below.refl _ w) (k := b) (by rw [rowB_length]; exact hb)
  rw [rowB_nat hb] at hby
  rw [rowB_length] at hr1
  obtain ⟨a1, cap1, rfl, _⟩ := hv.len
  obtain ⟨a4, cap4, rfl, _⟩ := hu.len
  have hf := cf_lt k a b
  have HLM := Lib.hid hlm
  have HF := Lib.hid hF
  have hDL : deltaL k a b l m = addB (addB (zeros l.length) l (cf k a b)) m (cf k a b) := rfl
  have HT := Lib.hid (times_any B B' c k n (cf k a b) _ l w HC.out hB hv hB' (by omega) hf)
  rw [hDL]
  clear hv hu hrows hr2 hF hDL
  rw [← HLM.out]
  have ha' : (a : Int) < n := by omega
  have hb' : (b : Int) < k := by omega
  clear hlm
  generalize cf k a b = f at *
  go_enter Tryd.func32, Tryd.ntmps32
  go_wp2_with fail
  refine HH.out.mono ?_
  rintro e w1 ⟨rfl, rfl⟩
  go_wp2_with fail
  refine HT.out.mono ?_
  rintro e w1 ⟨u1, rfl, hu1, hb1⟩
  have hcc := (hb1.cell (p := ⟨c, 2, none⟩) (World.block_lt_of_cell? w _ c2)).trans c2
  have HO := Lib.hid hu1
  have HB1 := Lib.hid hb1
  have hal : (addB (zeros l.length) l f).length = l.length := by rw [addB_length, zeros_length]
  rw [hal] at hu1
  obtain ⟨gu, cu, rfl, _⟩ := own_slice hu1
  have HAL := Lib.hid hal
  clear hu1 hb1 hal c2
  go_wp2_with fail
  refine (add_any fb w.heap.size B' _ _ (addB (zeros l.length) l f) m f w1 (HF.out.at (Below.mono HB1.out hB) hfb) hf HO.out (by have := HU.out.below (Below.mono HB1.out hB'); rwa [← HLM.out] at this) (Nat.le_trans hB' HB1.out.size) (fun e => by have := (own_block HO.out e).1; omega) (by rw [HAL.out]; omega) (by rw [← HLM.out]; omega)).mono ?_
  rintro e w2 ⟨rfl, ho2, hg2⟩
  have HO2 := Lib.hid ho2
  have HG2 := Lib.hid hg2
  clear ho2 hg2
  go_wp2_with fail
  exact bodyPost_ret (v := .tuple #[.slice gu l.length cu, .nilIface]) (by simp [results, Tryd.results32, go_sem]) rfl ⟨_, rfl, HO2.out, HB1.out.trans (HG2.out.below HB1.out.size fun q hq => (own_block HO.out hq).1)⟩
end Go.Proofs.YtoklknjnegpaaaaDoor
