/-
  stavelaw4.CodeTells: the walk.
-/
import Derived.Test.YtoklknjnegpaaaaDoorCRefEnc
import Derived.Test.YtoklknjnegpaaaaDoorCRuns
import Derived.Deep.RegionHeld3
import Derived.Deep.CutBlock
import Derived.Deep.DeepCutAuto
namespace Go.Proofs.YtoklknjnegpaaaaDoor
open Go.RowKit Gf Cd
attribute [local go_sem ↓] Go.wp_at_zero Go.wp_at_succ
def piece (l : List UInt8) : List UInt8 := l.take (min l.length 20)
theorem piece_length (l : List UInt8) : (piece l).length = min l.length 20 := by unfold piece; rw [List.length_take]; omega
def pieces (ls : List (List UInt8)) (n : Nat) : List (List UInt8) := tabL n fun i => piece (ls.getD i [])
def KW (W w' : World) : Prop := Below W.heap.size W w'
theorem KW.drew {W w' : World} (h : KW W w') : KW W w'.drew := Below.drew h
theorem KW.alloc {W w' : World} (h : KW W w') (o : Obj) : KW W (w'.alloc o) := balloc h o
theorem empty_at (w wx : World) (h : wx.heap = (w.alloc (.cells #[] 5)).heap) : wx.ownsRow w.heap.size 5 1 (.slice (some ⟨w.heap.size, 0, none⟩) 0 0) 0 [] := by
  refine ⟨rfl, Or.inr ⟨w.heap.size, 0, #[], rfl, Nat.le_refl _, ?_, Nat.le_refl _, Nat.zero_le _, rfl, rfl⟩⟩
  rw [h]; exact heap_alloc_new w _
theorem own_push {w wx : World} {B e size n : Nat} {v : Value} {xs : List Value} (h : w.ownsRow B e size v n xs) (o : Obj) (hx : wx.heap = (w.alloc o).heap) : wx.ownsRow B e size v n xs := by
  have h1 := own_below h (one_below w o)
  obtain ⟨a, b⟩ := h1
  exact ⟨a, by rw [hx]; exact b⟩
theorem slb_push {B : Nat} {w wx : World} {v : Value} {l : List UInt8} (h : SlB B w v l) (hB : B ≤ w.heap.size) (o : Obj) (hx : wx.heap = (w.alloc o).heap) : SlB B wx v l := h.mono fun b o' hb => by
  have := (one_below w o).cell (p := ⟨b, o', none⟩) (show b < w.heap.size by omega)
  unfold World.cell? at *
  rw [hx]; exact this
theorem grew_back {w wx w2 : World} {o : Obj} {r r2 : Option Nat} (hg : Grew wx r w2 r2) (h1 : wx.heap = (w.alloc o).heap) (h2 : wx.os = w.os) (h3 : wx.tape = w.tape) (h4 : wx.output = w.output) : Grew (w.alloc o) r w2 r2 :=
  ⟨⟨hg.by_.os.trans h2, hg.by_.tape.trans h3, hg.by_.output.trans h4, by rw [← h1]; exact hg.by_.size, fun k hk hr => by rw [← h1] at hk ⊢; exact hg.by_.block k hk hr⟩, by rw [← h1]; exact hg.own⟩
/-- Behind an append onto a new row. -/
theorem grew_new0 {w1 w2 : World} {o : Obj} {r : Option Nat} (hg : Grew (w1.alloc o) (some w1.heap.size) w2 r) : Below w1.heap.size w1 w2 :=
  (one_below w1 o).trans (hg.below (by simp) (fun k hk => by injection hk with hk; omega))
theorem new_at {v : Value} (w wx : World) (T : TypeId) (h : wx.heap = (w.alloc (.cells #[v] T)).heap) : wx.cell? ⟨w.heap.size, 0, none⟩ = some v := by
  have := new_cells w #[v] T 0 v rfl
  unfold World.cell? at *
  rw [h]; exact this
theorem own_unit {w : World} {B e n : Nat} {v : Value} {xs : List Value} (h : w.ownsRow B e 1 v n xs) : v.oneCell' = true := by
  obtain ⟨a, c, rfl, _⟩ := own_slice h
  rfl
theorem size_push {w wx : World} {o : Obj} {B : Nat} (h : wx.heap = (w.alloc o).heap) (hB : B ≤ w.heap.size) : B ≤ wx.heap.size := by rw [h]; simp; omega
theorem snoc_at {ls : List (List UInt8)} {i : Nat} {w wr w2 w3 : World} {v v2 v3 : Value} {us : List Value} {pc : List UInt8} {o : Obj} (hO : OwnLs w.heap.size wr v us (pieces ls i)) (hb : Below w.heap.size w wr)
    (hu : w2.ownsRow wr.heap.size 5 1 v2 pc.length (bytesV pc)) (hb2 : Below wr.heap.size wr w2) (ho3 : w3.ownsRow w.heap.size 24 1 v3 ((pieces ls i).length + 1) (us ++ [v2])) (hg : Grew (w2.alloc o) v.ownBlock w3 v3.ownBlock) (hpc : pieces ls (i + 1) = pieces ls i ++ [pc]) :
    OwnLs w.heap.size w3 v3 (us ++ [v2]) (pieces ls (i + 1)) ∧ KW w w3 := by
  refine ⟨by rw [hpc]; exact hO.snoc_new hb.size hb2 hu (one_below w2 o) ho3 hg, ?_⟩
  have h1 : Below w.heap.size w (w2.alloc o) := balloc (bthen hb hb2) o
  exact h1.trans (hg.below h1.size fun q hq => (own_block hO.top hq).1)
theorem sameLen_all {ls : List (List UInt8)} (h : sameLen ls = true) : ∀ j, j < ls.length → (ls.getD j []).length = (ls.getD 0 []).length := fun j hj => by
  unfold sameLen at h
  rw [Bool.not_eq_true', List.any_eq_false] at h
  have h1 := h (ls.getD j []) (by simp [List.getD, hj])
  unfold unlike at h1
  simpa using h1
/-- The own rows so far. -/
def RelT1 (ls : List (List UInt8)) (w : World) (v c : Value) (wr : World) : Prop := ∃ (i : Nat) (us : List Value), i ≤ 9 ∧ i ≤ ls.length ∧ c = .int .i64 i ∧ OwnLs w.heap.size wr v us (pieces ls i) ∧ Below w.heap.size w wr
def CutT (ls : List (List UInt8)) (w : World) (v : Value) (wx : World) : Prop := ∃ (i : Nat) (us : List Value), i ≤ 9 ∧ i ≤ ls.length ∧ OwnLs w.heap.size wx v us (pieces ls i) ∧ Below w.heap.size w wx
set_option maxHeartbeats 8000000 in
set_option maxRecDepth 100000 in
theorem tells_any (k n : Int) (v : Value) (ls : List (List UInt8)) (w : World) (hT : Typ w) (h : SlBs w.heap.size w v ls) (hl : ls.length ≤ maxLen) (hls : ∀ l ∈ ls, l.length ≤ maxLen) :
    Calls Tryd.prog 5 #[.int .i64 k, .int .i64 n, v] w (Bit true w) := by
  obtain ⟨a, cap, rfl, hcap⟩ := h.len
  have H := Lib.hid h
  have HT := Lib.hid hT
  have HLS := Lib.hid hls
  unfold maxLen at hl
  clear h hT hls
  go_enter Tryd.func5, Tryd.ntmps5
  go_upto_block 0 with (fail)
  go_cut [7] (fun v wx => CutT ls w v wx)
  case first =>
    go_wp2_with fail
    go_loopw [7, 8] (fun v c wr => RelT1 ls w v c wr) (fun _ c _ => ls.length - (intOf c).toNat)
    case atStart => exact ⟨0, [], by omega, by omega, rfl, ownLs_nil _ _, Below.refl _ _⟩
    case round =>
      obtain ⟨i, us, hi9, hi, rfl, hO, hb⟩ := hrel
      have HO := Lib.hid hO
      have HB := Lib.hid hb
      have hz := hb.size
      have hsl := hO.slice
      rw [show (pieces ls i).length = i from tabL_length ..] at hsl
      obtain ⟨gx, cx, rfl, _⟩ := hsl
      by_cases hlt : i < ls.length
      · by_cases hlt9 : i < 9
        · obtain ⟨b, o, cap', u, e1, _, hbl, hu1, hu2⟩ := (H.out.below hb).row hlt
          injection e1 with e1 _ e1'
          subst e1 e1'
          obtain ⟨a2, c2, rfl, hc2⟩ := hu2.len
          have hll := HLS.out _ (show ls.getD i [] ∈ ls by simp [List.getD, hlt])
          unfold maxLen at hll
          have HP := Lib.hid (slb_take (m := min (ls.getD i []).length 20) hu2 (by omega))
          rw [show (ls.getD i []).take (min (ls.getD i []).length 20) = piece (ls.getD i []) from rfl] at HP
          have hpl := piece_length (ls.getD i [])
          have HPI := Lib.hid (show pieces ls (i + 1) = pieces ls i ++ [piece (ls.getD i [])] from tabL_succ ..)
          have hm : (if (20 : Int) < (ls.getD i []).length then 20 else ((ls.getD i []).length : Int)) = ((min (ls.getD i []).length 20 : Nat) : Int) := by split <;> omega
          have hp1 : min (ls.getD i []).length 20 ≤ 20 := by omega
          have hp2 : min (ls.getD i []).length 20 ≤ c2 := by omega
          generalize piece (ls.getD i []) = pc at *
          generalize (ls.getD i []).length = n2 at *
          generalize min n2 20 = mm at *
          subst hpl
          have i1 : (0 : Int) ≤ pc.length := by omega
          have i2 : (pc.length : Int) ≤ c2 := by omega
          have i3 : (i : Int) < ls.length := by omega
          have i4 : (0 : Int) ≤ i := by omega
          have hmem : ∀ w', KW w w' → KW w w' ∧ w'.cell? ⟨b, o + i, none⟩ = some (.slice a2 n2 c2) := fun w' hk => ⟨hk, by
            rw [Below.cell hk (p := ⟨b, o + i, none⟩) hbl, ← hb.cell (p := ⟨b, o + i, none⟩) hbl]; exact hu1⟩
          have HMEM := Lib.hid hmem
          have hk0 : KW w wr := hb
          clear hO hb hu2 hmem
          go_wp2_with fail
          go_region_held3 (fun w' => KW w w' ∧ w'.cell? ⟨b, o + i, none⟩ = some (.slice a2 n2 c2)) (exact HMEM.out _ (by (repeat (first | assumption | refine KW.drew ?_ | refine KW.alloc ?_ _)))) (first | (refine step_append_bytes (o := ⟨some 38, _, _, _, _, _⟩) _ rfl (.tmp 26) (.tmp 37) (by rfl) wr.heap.size _ 0 [] (by rfl) ?_ w.heap.size _ pc (by rfl) ?_ ?_ ?_ ?_; exact empty_at wr _ (by rfl); exact slb_push HP.out hz (.cells #[] 5) (by rfl); omega; exact size_push (w := wr) (o := .cells #[] 5) (by rfl) (Nat.le_refl _); intro v2 w2 hown hg; rw [Nat.zero_add, List.nil_append] at hown; obtain ⟨g2, q2, rfl, _⟩ := own_slice hown; have HU2 := Lib.hid hown; have HB2 := Lib.hid (grew_new0 (grew_back (w := wr) (o := .cells #[] 5) hg (by rfl) (by rfl) (by rfl) (by rfl))); have hk2 : KW w w2 := bthen HB.out HB2.out; have hz2 := HB2.out.size; have HO2 := Lib.hid (HO.out.below HB2.out); clear hown hg) | ((refine step_append_row (o := ⟨some 40, _, _, _, _, _⟩) _ rfl (.tmp 25) (.tmp 39) rfl w.heap.size (.slice gx i cx) (pieces ls i).length us ?_ ?_ w2.heap.size (.slice g2 pc.length q2) ?_ ?_ ?_ ?_ ?_ ?_); go_loud (rfl); go_loud (exact own_push HO2.out.top (.cells #[.slice g2 pc.length q2] 24) (by rfl)); go_loud (rfl); go_loud (exact new_at w2 _ 24 (by rfl)); go_loud (exact own_unit HU2.out); (first | omega | (rw [show (pieces ls i).length = i from tabL_length ..]; omega)); exact size_push (w := w2) (o := .cells #[.slice g2 pc.length q2] 24) (by rfl) (Nat.le_trans hz hz2); intro v3 w3 hown hg; go_loud (have hgb := grew_back (w := w2) (o := .cells #[.slice g2 pc.length q2] 24) hg (by rfl) (by rfl) (by rfl) (by rfl)); go_loud (have HN := Lib.hid (snoc_at HO.out HB.out HU2.out HB2.out hown hgb HPI.out)); have hk3 : KW w w3 := HN.out.2; clear hown hg hgb))
          all_goals
            go_wp2_with fail
            refine ⟨⟨i + 1, _, by omega, by omega, by go_num, HN.out.1, HN.out.2⟩, by simp [intOf]; omega⟩
        · clear hO hb
          go_wp2_with fail
          go_meet
          exact ⟨i, us, hi9, hi, HO.out, HB.out⟩
      · clear hO hb
        by_cases hlt9 : i < 9
        · go_wp2_with fail
          go_meet
          exact ⟨i, us, hi9, hi, HO.out, HB.out⟩
        · go_wp2_with fail
          go_meet
          exact ⟨i, us, hi9, hi, HO.out, HB.out⟩
  case rest =>
    obtain ⟨i, us, hi9, hi, hO, hb⟩ := hcut
    have HB := Lib.hid hb
    have HS := Lib.hid hO.slbs
    have HLEN := Lib.hid (show (pieces ls i).length = i from tabL_length ..)
    have HPL := Lib.hid (show ∀ l ∈ pieces ls i, l.length ≤ 20 from fun l hl' => by
      obtain ⟨j, _, rfl⟩ := List.mem_map.1 hl'
      rw [piece_length]; omega)
    have hsl := hO.slice
    rw [HLEN.out] at hsl
    obtain ⟨gx, cx, rfl, _⟩ := hsl
    generalize pieces ls i = L at *
    have hzx := hb.size
    clear hO hb
    by_cases hv : 1 ≤ k ∧ k ≤ n ∧ n ≤ 8
    · obtain ⟨hk1, hkn, hn8⟩ := hv
      obtain ⟨kk, rfl⟩ := Int.eq_ofNat_of_zero_le (show 0 ≤ k by omega)
      obtain ⟨nn, rfl⟩ := Int.eq_ofNat_of_zero_le (show 0 ≤ n by omega)
      have j1 : 1 ≤ kk := by omega
      have j2 : kk ≤ nn := by omega
      have j3 : nn ≤ 8 := by omega
      go_wp2_with fail
      refine (new_yes kk nn wc (by omega) (by omega) (by omega)).mono ?_
      rintro e w2 ⟨c, rfl, hC, hb2⟩
      have HC := Lib.hid hC
      have HB2 := Lib.hid (bthen HB.out hb2)
      have HS2 := Lib.hid (HS.out.below hb2)
      have hz2 := hb2.size
      clear hC hb2
      by_cases hok : L.length = kk ∧ sameLen L = true
      · obtain ⟨hlk, hsm⟩ := hok
        have HLE := Lib.hid (fun j (hj : j < kk) => sameLen_all hsm j (by omega))
        have HLK := Lib.hid hlk
        have hs20 : (L.getD 0 []).length ≤ 20 := by
          refine HPL.out _ ?_
          have h0 : 0 < L.length := by omega
          simp [List.getD, h0]
        generalize (L.getD 0 []).length = s at *
        have HYES := Lib.hid (encode_yes w2.heap.size wc.heap.size c kk nn s _ L w2 HC.out (Nat.le_refl _) HS2.out hz2 HLK.out HLE.out (by omega))
        have HREF := Lib.hid (fun w3 (hb3 : Below w2.heap.size w2 w3) => refEnc_yes wc.heap.size kk nn s _ L w3 (HS2.out.below (hb3.mono hz2)) (Nat.le_trans hz2 hb3.size) j1 j2 j3 HLK.out HLE.out (by omega))
        have HEL := Lib.hid (show (encL kk nn L s).length = nn from tabL_length ..)
        have HEB := Lib.hid (show ∀ l ∈ encL kk nn L s, l.length ≤ 100000 from fun l hl' => by
          obtain ⟨j, _, rfl⟩ := List.mem_map.1 hl'
          rw [combo_length]; omega)
        clear hlk hsm
        generalize encL kk nn L s = E at *
        go_wp2_with fail
        refine HYES.out.mono ?_
        rintro e w3 ⟨v3, us3, rfl, hO3, hb3⟩
        have HREF3 := Lib.hid (HREF.out w3 hb3)
        have HB3 := Lib.hid (bthen HB2.out hb3)
        have HE3 := Lib.hid hO3.slbs
        obtain ⟨a3, c3, rfl, _⟩ := hO3.slice
        clear hO3 hb3
        go_wp2_with fail
        refine HREF3.out.mono ?_
        rintro e w4 ⟨v4, us4, rfl, hO4, hb4⟩
        have HB4 := Lib.hid (bthen HB3.out hb4)
        have HE4 := Lib.hid ((HE3.out.below hb4).wider hb4.size)
        have HF4 := Lib.hid hO4.slbs
        obtain ⟨a4, c4, rfl, _⟩ := hO4.slice
        clear hO4 hb4
        go_wp2_with fail
        refine (same_any w4.heap.size _ _ E E w4 HE4.out HF4.out (Nat.le_refl _) (by have := HEL.out; omega) HEB.out).mono ?_
        rw [decide_eq_true rfl]
        rintro e w5 ⟨rfl, hb5⟩
        have HB5 := Lib.hid (bthen HB4.out hb5)
        clear hb5
        go_wp2_with fail
        refine (kind_nil w5).mono ?_
        rintro e w6 ⟨rfl, hb6⟩
        have HB6 := Lib.hid (bthen HB5.out hb6)
        clear hb6
        go_wp2_with fail
        refine (code_runs _ (HT.out.below HB6.out)).mono ?_
        rintro e w7 ⟨rfl, hb7⟩
        go_wp2_with fail
        go_ret
        exact bit rfl (bthen HB6.out hb7)
      · have HNO := Lib.hid (encode_no w2.heap.size wc.heap.size c kk nn _ L w2 HC.out (Nat.le_refl _) HS2.out hz2 (by have := HLEN.out; omega) hok)
        have HREF := Lib.hid (fun w3 (hb3 : Below w2.heap.size w2 w3) => show Calls Tryd.prog 25 #[.int .i64 kk, .int .i64 nn, .slice gx i cx] w3 (RefErr 1 w3) from by
          by_cases hkk : i = kk
          · exact refEnc_unlike wc.heap.size kk nn _ L w3 (HS2.out.below (hb3.mono hz2)) (Nat.le_trans hz2 hb3.size) j1 j2 j3 (by rw [HLEN.out]; exact hkk) (by
              cases hsl : sameLen L
              · rfl
              · exact absurd ⟨by rw [HLEN.out]; exact hkk, hsl⟩ hok)
          · exact refEnc_len kk nn gx i cx w3 j1 j2 j3 hkk)
        clear hok
        go_wp2_with fail
        refine HNO.out.mono ?_
        rintro e w3 ⟨rfl, hb3⟩
        have HREF3 := Lib.hid (HREF.out w3 hb3)
        have HB3 := Lib.hid (bthen HB2.out hb3)
        clear hb3
        unfold wrapV errV
        go_wp2_with fail
        refine HREF3.out.mono ?_
        rintro e w4 ⟨rfl, hb4⟩
        have HB4 := Lib.hid (bthen HB3.out hb4)
        clear hb4
        go_wp2_with fail
        refine (same_any w4.heap.size _ _ [] [] w4 (Or.inl ⟨rfl, _, _, rfl⟩) (Or.inl ⟨rfl, _, _, rfl⟩) (Nat.le_refl _) (by simp) (by simp)).mono ?_
        rw [decide_eq_true rfl]
        rintro e w5 ⟨rfl, hb5⟩
        have HB5 := Lib.hid (bthen HB4.out hb5)
        clear hb5
        go_wp2_with fail
        refine (kind_err [(opEncode, 0)] 1 w5 _ rfl (HT.out.below HB5.out)).mono ?_
        rintro e w6 ⟨rfl, hb6⟩
        have HB6 := Lib.hid (bthen HB5.out hb6)
        clear hb6
        go_wp2_with fail
        refine (code_runs _ (HT.out.below HB6.out)).mono ?_
        rintro e w7 ⟨rfl, hb7⟩
        go_wp2_with fail
        go_ret
        exact bit rfl (bthen HB6.out hb7)
    · have HNEW := Lib.hid (new_no k n wc hv)
      by_cases h1 : k < 1
      · have d1 : decide ((1 : Int) ≤ k) = false := decide_eq_false (by omega)
        clear hv
        go_wp2_with fail
        refine HNEW.out.mono ?_
        rintro e w2 ⟨rfl, hb2⟩
        have HB2 := Lib.hid (bthen HB.out hb2)
        clear hb2
        unfold wrapV errV
        go_wp2_with fail
        refine (kind_err [(opNew, 0)] 1 w2 _ rfl (HT.out.below HB2.out)).mono ?_
        rintro e w3 ⟨rfl, hb3⟩
        have HB3 := Lib.hid (bthen HB2.out hb3)
        clear hb3
        go_wp2_with fail
        refine (code_runs _ (HT.out.below HB3.out)).mono ?_
        rintro e w4 ⟨rfl, hb4⟩
        go_wp2_with fail
        go_ret
        exact bit rfl (bthen HB3.out hb4)
      · by_cases h2 : n < k
        · have d1 : decide ((1 : Int) ≤ k) = true := decide_eq_true (by omega)
          have d2 : decide (k ≤ n) = false := decide_eq_false (by omega)
          clear hv
          go_wp2_with fail
          refine HNEW.out.mono ?_
          rintro e w2 ⟨rfl, hb2⟩
          have HB2 := Lib.hid (bthen HB.out hb2)
          clear hb2
          unfold wrapV errV
          go_wp2_with fail
          refine (kind_err [(opNew, 0)] 1 w2 _ rfl (HT.out.below HB2.out)).mono ?_
          rintro e w3 ⟨rfl, hb3⟩
          have HB3 := Lib.hid (bthen HB2.out hb3)
          clear hb3
          go_wp2_with fail
          refine (code_runs _ (HT.out.below HB3.out)).mono ?_
          rintro e w4 ⟨rfl, hb4⟩
          go_wp2_with fail
          go_ret
          exact bit rfl (bthen HB3.out hb4)
        · have d1 : decide ((1 : Int) ≤ k) = true := decide_eq_true (by omega)
          have d2 : decide (k ≤ n) = true := decide_eq_true (by omega)
          have d3 : decide (n ≤ (8 : Int)) = false := decide_eq_false (by omega)
          clear hv
          go_wp2_with fail
          refine HNEW.out.mono ?_
          rintro e w2 ⟨rfl, hb2⟩
          have HB2 := Lib.hid (bthen HB.out hb2)
          clear hb2
          unfold wrapV errV
          go_wp2_with fail
          refine (kind_err [(opNew, 0)] 1 w2 _ rfl (HT.out.below HB2.out)).mono ?_
          rintro e w3 ⟨rfl, hb3⟩
          have HB3 := Lib.hid (bthen HB2.out hb3)
          clear hb3
          go_wp2_with fail
          refine (code_runs _ (HT.out.below HB3.out)).mono ?_
          rintro e w4 ⟨rfl, hb4⟩
          go_wp2_with fail
          go_ret
          exact bit rfl (bthen HB3.out hb4)
end Go.Proofs.YtoklknjnegpaaaaDoor
