/-
  code.Encode: the fragments, or the error.
-/
import Derived.Test.YtoklknjnegpaaaaDoorCFrag
namespace Go.Proofs.YtoklknjnegpaaaaDoor
open Go.RowKit Gf Cd
def tabL (n : Nat) (f : Nat → List UInt8) : List (List UInt8) := (List.range n).map f
theorem tabL_length (n : Nat) (f : Nat → List UInt8) : (tabL n f).length = n := by simp [tabL]
theorem tabL_getD {n i : Nat} (f : Nat → List UInt8) (h : i < n) : (tabL n f).getD i [] = f i := by simp [tabL, List.getD, h]
theorem tabL_congr {n : Nat} {f g : Nat → List UInt8} (h : ∀ i, i < n → f i = g i) : tabL n f = tabL n g := List.map_congr_left fun i hi => h i (List.mem_range.1 hi)
theorem tabL_set {n : Nat} {f g : Nat → List UInt8} {i : Nat} {l : List UInt8} (h : ∀ j, j < n → j ≠ i → g j = f j) (hi : g i = l) : (tabL n f).set i l = tabL n g := by
  refine List.ext_getElem (by simp [tabL]) fun j h1 h2 => ?_
  have hj : j < n := by simpa [tabL] using h2
  rw [List.getElem_set]
  by_cases e : i = j
  · subst e; rw [if_pos rfl]; simp [tabL, hi]
  · rw [if_neg e]; simp [tabL, h j hj (fun q => e q.symm)]
theorem tabL_nils (n : Nat) : List.replicate n ([] : List UInt8) = tabL n fun _ => [] := List.ext_getElem (by simp [tabL]) fun i h1 h2 => by simp [tabL]
/-- All fragments. -/
def encL (k n : Nat) (bs : List (List UInt8)) (s : Nat) : List (List UInt8) := tabL n fun a => combo (cf k a) bs s k
/-- A new slice of new rows, no error. -/
def Rows2 (ls : List (List UInt8)) (w : World) (e : Ending) (w' : World) : Prop := ∃ v us, e = .returned (.tuple #[v, .nilIface]) ∧ OwnLs w.heap.size w' v us ls ∧ Below w.heap.size w w'
def RelEn (k n : Nat) (bs : List (List UInt8)) (s g cg : Nat) (w : World) (i : Value) (wr : World) : Prop :=
  ∃ (j : Nat) (us : List Value), j ≤ n ∧ i = .int .i64 j ∧ OwnLs w.heap.size wr (.slice (some ⟨g, 0, none⟩) n cg) us (tabL n fun a => if a < j then combo (cf k a) bs s k else []) ∧ Below w.heap.size w wr
theorem relEn_next {k n s g cg j : Nat} {bs : List (List UInt8)} {w wr w2 : World} {us : List Value} {u : Value} (hO : OwnLs w.heap.size wr (.slice (some ⟨g, 0, none⟩) n cg) us (tabL n fun a => if a < j then combo (cf k a) bs s k else [])) (hb : Below w.heap.size w wr)
    (hj : j < n) (hu : w2.ownsRow wr.heap.size 5 1 u (combo (cf k j) bs s k).length (bytesV (combo (cf k j) bs s k))) (hb2 : Below wr.heap.size wr w2) : RelEn k n bs s g cg w (.int .i64 ((j : Int) + 1)) (w2.setCell ⟨g, j, none⟩ u) := by
  have hn : (tabL n fun a => if a < j then combo (cf k a) bs s k else []).length = n := tabL_length ..
  have hO' : OwnLs w.heap.size wr (.slice (some ⟨g, 0, none⟩) (tabL n fun a => if a < j then combo (cf k a) bs s k else []).length cg) us (tabL n fun a => if a < j then combo (cf k a) bs s k else []) := by rw [hn]; exact hO
  have := hO'.put_new hb2 (i := j) (by rw [hn]; exact hj) hb.size hu
  rw [hn, tabL_set (g := fun a => if a < j + 1 then combo (cf k a) bs s k else []) (fun i _ hi => by simp only [show i < j + 1 ↔ i < j by omega]) (by simp only [show j < j + 1 by omega, if_pos])] at this
  exact ⟨j + 1, _, by omega, by go_num, this, bthen hb hb2 |>.setCell (by exact (own_block hO.top (k := g) rfl).1) _⟩
set_option maxHeartbeats 2000000 in
set_option maxRecDepth 100000 in
theorem encode_yes (B B' c k n s : Nat) (v : Value) (bs : List (List UInt8)) (w : World) (hC : CodeIn B w c k n) (hB : B ≤ w.heap.size) (hv : SlBs B' w v bs) (hB' : B' ≤ w.heap.size) (hk : bs.length = k)
    (hs : ∀ i, i < k → (bs.getD i []).length = s) (hsz : s ≤ 1000) : Calls Tryd.prog 24 #[.pointer (some ⟨c, 0, none⟩), v] w (Rows2 (encL k n bs s) w) := by
  have HC := Lib.hid hC
  have HV := Lib.hid hv
  have HS := Lib.hid hs
  obtain ⟨c0, ⟨rv, c1, hrows⟩, -, hcB, hk1, hkn, hn8⟩ := hC
  obtain ⟨a1, cap1, rfl, _⟩ := hrows.len
  rw [rowsL_length] at c1
  obtain ⟨a2, cap2, rfl, _⟩ := hv.len
  have hsame : sameLen bs = true := by
    unfold sameLen
    rw [Bool.not_eq_true', List.any_eq_false]
    intro l hl
    obtain ⟨i, hi, rfl⟩ := List.mem_iff_getElem.1 hl
    have e1 := HS.out i (by omega)
    have e2 := HS.out 0 (by omega)
    rw [show bs.getD i [] = bs[i] by simp [List.getD, hi]] at e1
    unfold unlike
    rw [e1, e2]
    simp
  have HSL := Lib.hid (sameLength_any B' (.slice a2 bs.length cap2) bs w hv hB' (by omega))
  rw [hsame] at HSL
  have HK := Lib.hid hk
  have HCL := Lib.hid (show c < w.heap.size by omega)
  rw [HK.out] at HSL HV
  clear hv hrows hs hsame hk
  rw [HK.out]
  go_enter Tryd.func24, Tryd.ntmps24
  go_wp2_with fail
  refine HSL.out.mono ?_
  rintro e w1 ⟨rfl, hb1⟩
  have hd1 := (hb1.cell (p := ⟨c, 1, none⟩) HCL.out).trans c1
  have HB1 := Lib.hid hb1
  have hmk := make_rows n (by omega)
  have HMO := Lib.hid (ownLs_made w1 w.heap.size n hb1.size (by omega))
  rw [tabL_nils] at HMO
  clear hb1 c0 c1
  go_wp2_with fail
  go_loopw [30] (fun i wr => RelEn k n bs s w1.heap.size n w i wr) (fun i _ => n - (intOf i).toNat)
  case atStart => exact ⟨0, _, Nat.zero_le _, rfl, by rw [tabL_congr (g := fun _ => []) fun i _ => by rw [if_neg (by omega)]]; exact HMO.out, bthen HB1.out (one_below _ _)⟩
  case round =>
    obtain ⟨j, us, hj, rfl, hO, hb⟩ := hrel
    clear hmk hd1
    by_cases hlt : j < n
    · have hx := hO.cell (i := j) (by rw [tabL_length]; exact hlt)
      have hy := hO.frozen j
      have hgl := (own_block hO.top (k := w1.heap.size) rfl).2
      have HO := Lib.hid hO
      have HB := Lib.hid hb
      have HFR := Lib.hid (fragment_any B B' c k n j s _ bs wr (HC.out.below (Below.mono hb hB)) (Nat.le_trans hB hb.size) hlt (HV.out.below (Below.mono hb hB')) (Nat.le_trans hB' hb.size) HK.out HS.out hsz)
      clear hO hb
      go_wp2_with fail
      refine HFR.out.mono ?_
      rintro e w2 ⟨u, rfl, hu, hb2⟩
      have hx2 := (hb2.cell (p := ⟨w1.heap.size, j, none⟩) hgl).trans hx
      have hy2 := (hb2.frozen (p := ⟨w1.heap.size, j, none⟩) hgl).trans hy
      have HU := Lib.hid hu
      have HB2 := Lib.hid hb2
      obtain ⟨gu, cu, rfl, _⟩ := own_slice hu
      clear hu hb2 hx hy
      go_wp2_with fail
      go_roundw
      case rel => exact relEn_next HO.out HB.out hlt HU.out HB2.out
      case measure => simp [intOf]; omega
    · obtain rfl : j = n := by omega
      have HO := Lib.hid hO
      have HB := Lib.hid hb
      clear hO hb
      go_wp2_with fail
      refine bodyPost_ret (v := .tuple #[.slice (some ⟨w1.heap.size, 0, none⟩) j j, .nilIface]) (by simp [results, Tryd.results24, go_sem]) rfl ⟨_, us, rfl, ?_, HB.out⟩
      have := HO.out
      rwa [tabL_congr (g := fun a => combo (cf k a) bs s k) fun i hi => by rw [if_pos hi]] at this
set_option maxHeartbeats 2000000 in
set_option maxRecDepth 100000 in
theorem encode_no (B B' c k n : Nat) (v : Value) (bs : List (List UInt8)) (w : World) (hC : CodeIn B w c k n) (_hB : B ≤ w.heap.size) (hv : SlBs B' w v bs) (hB' : B' ≤ w.heap.size) (hl : bs.length ≤ 1000)
    (hno : ¬ (bs.length = k ∧ sameLen bs = true)) : Calls Tryd.prog 24 #[.pointer (some ⟨c, 0, none⟩), v] w (Err2 (.slice none 0 0) opEncode 1 0 w) := by
  have HSL := Lib.hid (sameLength_any B' v bs w hv hB' (by omega))
  obtain ⟨c0, -, -, hcB, -⟩ := hC
  obtain ⟨a2, cap2, rfl, _⟩ := hv.len
  clear hv
  unfold Err2 opEncode wrapV errV
  by_cases h : bs.length = k
  · have hs : sameLen bs = false := by
      cases hx : sameLen bs
      · rfl
      · exact absurd ⟨h, hx⟩ hno
    rw [hs] at HSL
    subst h
    clear hno hs
    go_enter Tryd.func24, Tryd.ntmps24
    go_wp2_with fail
    refine HSL.out.mono ?_
    rintro e w1 ⟨rfl, hb1⟩
    have HB1 := Lib.hid hb1
    clear hb1
    go_wp2
    exact bodyPost_ret (v := .tuple #[.slice none 0 0, wrapV opEncode 0 (errV 1)]) (by simp [results, Tryd.results24, go_sem, wrapV, errV, opEncode]) rfl ⟨rfl, HB1.out⟩
  · have h1 : ((bs.length : Int) != k) = true := by simpa using (by omega : ¬ (bs.length : Int) = k)
    clear hno h HSL
    go_enter Tryd.func24, Tryd.ntmps24
    go_wp2
    exact bodyPost_ret (v := .tuple #[.slice none 0 0, wrapV opEncode 0 (errV 1)]) (by simp [results, Tryd.results24, go_sem, wrapV, errV, opEncode]) rfl ⟨rfl, Below.refl _ _⟩
end Go.Proofs.YtoklknjnegpaaaaDoor
