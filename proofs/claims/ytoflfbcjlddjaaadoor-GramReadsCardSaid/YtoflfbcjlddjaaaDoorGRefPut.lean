/-
  staveref1.PutFields: what Put answers.
-/
import Derived.Test.YtoflfbcjlddjaaaDoorGRefNum
import Derived.Test.YtoflfbcjlddjaaaDoorGBackM
namespace Go.Proofs.YtoflfbcjlddjaaaDoor
open Go.RowKit
def RefPut (o : Option (Int × Int)) (l : List UInt8) (w : World) (e : Ending) (w' : World) : Prop :=
  match o with
  | some q => e = .returned (.tuple #[.slice none 0 0, .int .i64 q.1, .int .i64 q.2]) ∧ Below w.heap.size w w'
  | none => ∃ v, e = .returned (.tuple #[v, .int .i64 0, .int .i64 0]) ∧ w'.ownsRow w.heap.size 5 1 v l.length (bytesV l) ∧ Below w.heap.size w w'
theorem refFits_any (B : Nat) (f : Fl) (x : Vl) (lv : Value) (w : World) (hr : rightF f = true) (hlv : SlT B w lv x.l) (hB : B ≤ w.heap.size) (hl : x.l.length ≤ 1000) :
    Calls Tryd.prog 27 #[.agg #[.int .i64 f.k, .int .i64 f.sz, .int .i64 f.lo, .int .i64 f.hi, .int .i64 f.mo], .agg #[.int .i64 x.n, .string x.s, lv]] w (Bit (fitsF f x) w) := by
  obtain ⟨k, sz, lo, hi, mo⟩ := f
  obtain ⟨n, s, l⟩ := x
  rcases right_kind hr with h | h | h <;> (simp only at h; subst h)
  · exact refFits1 B sz lo hi mo n s lv l w hlv
  · exact refFits2 B sz lo hi mo n s lv l w hlv
  · exact refFits3 B sz lo hi mo n s lv l w hlv hB hl
def RelRP (fs : List Fl) (xs : List Vl) (w : World) (v c : Value) (wr : World) : Prop :=
  ∃ k : Nat, k ≤ fs.length ∧ c = .int .i64 k ∧ (∀ y, y < k → misfit ((fs.zip xs).getD y (f0, v0)) = false) ∧ wr.ownsRow w.heap.size 5 1 v (((fs.zip xs).take k).flatMap encP).length (bytesV (((fs.zip xs).take k).flatMap encP)) ∧ Below w.heap.size w wr
def RelRT (pre : List UInt8) (l : List ByteArray) (w wi : World) (v c : Value) (wr : World) : Prop :=
  ∃ j : Nat, j ≤ l.length ∧ c = .int .i64 j ∧ wr.ownsRow w.heap.size 5 1 v (pre ++ (l.take j).flatMap textB).length (bytesV (pre ++ (l.take j).flatMap textB)) ∧ Below wi.heap.size wi wr
set_option maxHeartbeats 4000000 in
set_option maxRecDepth 100000 in
theorem refPut_any (fv xv : Value) (fs : List Fl) (xs : List Vl) (w : World) (hf : SlF w.heap.size w fv fs) (hx : SlV w.heap.size w xv xs) (hl : fs.length ≤ 6) (hh : ∀ f ∈ fs, f.hi ≤ 9223372036854775807) (hfew : ∀ x ∈ xs, x.few) :
    Calls Tryd.prog 7 #[fv, xv] w (RefPut (putErr fs xs) (putB fs xs) w) := by
  have HFW := Lib.hid (refFields_any w.heap.size fv fs w hf (Nat.le_refl _) hh (by omega))
  have HH := Lib.hid hh
  have HFEW := Lib.hid hfew
  have HF := Lib.hid hf
  have HX := Lib.hid hx
  obtain ⟨a, cap, rfl⟩ := slf_len hf
  obtain ⟨a2, cap2, rfl⟩ := slv_len hx
  clear hf hx hh hfew
  by_cases hw : 0 ≤ firstAt wrongF fs 0
  · have hp : putErr fs xs = some (1, firstAt wrongF fs 0) := by unfold putErr; rw [if_pos hw]
    rw [hp]
    clear hp
    generalize firstAt wrongF fs 0 = n at *
    go_enter Tryd.func7, Tryd.ntmps7
    go_wp2_with fail
    refine HFW.out.mono ?_
    rintro e w1 ⟨rfl, hb1⟩
    have HB1 := Lib.hid hb1
    clear hb1
    go_wp2_with fail
    go_ret3
    exact ⟨rfl, HB1.out⟩
  by_cases he : xs.length = fs.length
  · have hpe : putErr fs xs = if 0 ≤ firstAt misfit (fs.zip xs) 0 then some (2, firstAt misfit (fs.zip xs) 0) else none := by unfold putErr; rw [if_neg hw, if_neg (by omega)]
    have HRA := Lib.hid (right_all fs hw)
    have hpb := putB_few hw HFEW.out 6 hl
    have hzl : (fs.zip xs).length = fs.length := by rw [List.length_zip]; omega
    have HZ := Lib.hid hzl
    have HE := Lib.hid he
    have HPE := Lib.hid hpe
    generalize hpo : putErr fs xs = po
    have HPO := Lib.hid hpo
    generalize hpbb : putB fs xs = pb at *
    have HPB := Lib.hid hpbb
    have hn : firstAt wrongF fs 0 < 0 := by omega
    clear hpe hzl hpo hpbb hw
    rw [he]
    clear he
    generalize firstAt wrongF fs 0 = n at *
    go_enter Tryd.func7, Tryd.ntmps7
    go_wp2_with fail
    refine HFW.out.mono ?_
    rintro e w1 ⟨rfl, hb1⟩
    have HB1 := Lib.hid hb1
    clear hb1
    go_wp2_with fail
    go_loopw [8, 27] (fun v c wr => RelRP fs xs w v c wr) (fun _ c _ => fs.length - (intOf c).toNat)
    case atStart => exact ⟨0, Nat.zero_le _, rfl, fun y hy => absurd hy (by omega), by simpa [bytesV] using World.ownsRow_nil _ _ _ _, HB1.out⟩
    case round =>
      obtain ⟨k, hk, rfl, hno, hown, hB⟩ := hrel
      have HNO := Lib.hid hno
      have HB := Lib.hid hB
      clear hno
      by_cases hlt : k < fs.length
      · rcases HF.out.below hB with ⟨h0, _⟩ | ⟨b, o, cap', h1, h2, h3, h4⟩
        · simp [h0] at hlt
        injection h1 with h1 h1' h1''
        subst h1 h1''
        rcases HX.out.below hB with ⟨h0, _⟩ | ⟨b', o', cap'', h5, h6, h7, h8⟩
        · have := HE.out; rw [h0] at this; simp at this; omega
        rw [HE.out] at h5
        injection h5 with h5 h5' h5''
        subst h5 h5''
        obtain ⟨d0, d1, d2, d3, d4⟩ := h3 k hlt
        obtain ⟨e0, e1, lv, e2, e3⟩ := h7 k (by have := HE.out; omega)
        have hrf := HRA.out _ (getD_mem fs k f0 hlt)
        have hxf := HFEW.out _ (getD_mem xs k v0 (by have := HE.out; omega))
        have hhi := HH.out _ (getD_mem fs k f0 hlt)
        obtain ⟨al, cl, rfl⟩ := e3.len
        have hz := zip_getD fs xs k hlt (by have := HE.out; omega)
        have hts := take_snoc (fs.zip xs) k (f0, v0) (by rw [HZ.out]; omega)
        have hpre := flat_take_le encP (fs.zip xs) k
        have hpre2 : (((fs.zip xs).take k).flatMap encP).length ≤ 600 := by have := HPB.out; unfold putB at this; rw [this] at hpre; omega
        have HHERE := Lib.hid (fun h => firstAt_here misfit (f0, v0) (fs.zip xs) k (by rw [HZ.out]; omega) HNO.out h)
        have HNEXT := Lib.hid (show misfit ((fs.zip xs).getD k (f0, v0)) = false → ∀ y, y < k + 1 → misfit ((fs.zip xs).getD y (f0, v0)) = false from fun h y hy => by
          rcases Nat.lt_or_ge y k with h2 | h2
          · exact HNO.out y h2
          · obtain rfl : y = k := by omega
            exact h)
        rw [hz] at HHERE HNEXT hts
        generalize fs.getD k f0 = f at *
        generalize xs.getD k v0 = x at *
        have HTS := Lib.hid (show ((fs.zip xs).take (k + 1)).flatMap encP = ((fs.zip xs).take k).flatMap encP ++ encF f x by rw [hts, List.flatMap_append]; simp [encP])
        generalize hpr : ((fs.zip xs).take k).flatMap encP = pre at *
        have HOWN := Lib.hid hown
        have HFIT := Lib.hid (fun W (hW : Below w.heap.size wr W) => refFits_any w.heap.size f x _ W hrf (e3.below hW) (Nat.le_trans HB.out.size hW.size) (by have := hxf.l; omega))
        have HRF := Lib.hid hrf
        have HXF := Lib.hid hxf
        have HLV := Lib.hid e3
        have HU8 := Lib.hid (fun q hq => (World.ownsRow.lt hown q hq).1)
        clear h3 h7 h1' h5' hrf hxf e3 hz hts hpre hpr hown
        go_wp2_with fail
        obtain ⟨W, hW⟩ : ∃ W, W = wr.alloc (.cells #[.int .i64 f.k, .int .i64 f.sz, .int .i64 f.lo, .int .i64 f.hi, .int .i64 f.mo] 46) := ⟨_, rfl⟩
        have q := fun (i : Nat) (v : Value) (h : (wr.alloc (.cells #[.int .i64 f.k, .int .i64 f.sz, .int .i64 f.lo, .int .i64 f.hi, .int .i64 f.mo] 46)).cell? ⟨wr.heap.size, i, none⟩ = some v) => (show W.cell? ⟨wr.heap.size, i, none⟩ = some v by rw [hW]; exact h)
        have q0 := q 0 (.int .i64 f.k) (by simp)
        have q1 := q 1 (.int .i64 f.sz) (by simp)
        have q2 := q 2 (.int .i64 f.lo) (by simp)
        have q3 := q 3 (.int .i64 f.hi) (by simp)
        have q4 := q 4 (.int .i64 f.mo) (by simp)
        have qb : Below wr.heap.size wr W := by rw [hW]; exact one_below _ _
        have qs : W.heap.size = wr.heap.size + 1 := by rw [hW]; simp
        have hb' : b' < wr.heap.size := Nat.lt_of_lt_of_le h6 HB.out.size
        replace e0 := (qb.cell (p := ⟨b', o' + k * 3, none⟩) hb').trans e0
        replace e1 := (qb.cell (p := ⟨b', o' + k * 3 + 1, none⟩) hb').trans e1
        replace e2 := (qb.cell (p := ⟨b', o' + k * 3 + 2, none⟩) hb').trans e2
        rw [← hW]
        have Qb := Lib.hid qb
        have QS := Lib.hid qs
        have hbw : b' < W.heap.size := by omega
        have htw : wr.heap.size < W.heap.size := by omega
        clear q hW qb qs d0 d1 d2 d3 d4 hB
        go_still_tail 5, (by kernel_rfl)
        go_wp2_with fail
        refine (HFIT.out _ (Qb.out.mono HB.out.size).drew).mono ?_
        rintro e w2 ⟨rfl, hb2⟩
        have HB2 := Lib.hid (show Below W.heap.size W w2 from (Below.refl W.heap.size W).drew.trans hb2)
        have HBW := Lib.hid (bthen HB.out (bthen Qb.out HB2.out))
        have j0 := (HB2.out.cell (p := ⟨wr.heap.size, 0, none⟩) htw).trans q0
        have j1 := (HB2.out.cell (p := ⟨wr.heap.size, 1, none⟩) htw).trans q1
        have t0 := (HB2.out.cell (p := ⟨b', o' + k * 3, none⟩) hbw).trans e0
        have t1 := (HB2.out.cell (p := ⟨b', o' + k * 3 + 1, none⟩) hbw).trans e1
        have t2 := (HB2.out.cell (p := ⟨b', o' + k * 3 + 2, none⟩) hbw).trans e2
        clear hb2 q0 q1 q2 q3 q4 e0 e1 e2
        cases hfx : fitsF f x with
        | false =>
          have HM := Lib.hid (HHERE.out (by unfold misfit; rw [hfx]; rfl))
          have HFX := Lib.hid hfx
          clear hfx
          go_wp2_with fail
          go_ret3
          rw [← HPO.out, HPE.out, HM.out, if_pos (by omega)]
          exact ⟨rfl, HBW.out⟩
        | true =>
          have HNX := Lib.hid (HNEXT.out (by unfold misfit; rw [hfx]; rfl))
          have HO2 := Lib.hid (own_below HOWN.out (Qb.out.trans (HB2.out.mono (by have := Qb.out.size; omega))))
          have hlo : 0 ≤ f.lo := by have h := HRF.out; simp only [rightF, decide_eq_true_eq] at h; omega
          rcases right_kind HRF.out with hk1 | hk2 | hk3
          · have hfit : 0 ≤ x.n ∧ x.n ≤ 9223372036854775807 := by
              have h := hfx
              unfold fitsF at h
              rw [if_pos hk1, decide_eq_true_eq] at h
              omega
            obtain ⟨sn, s1, s2, _⟩ := right_size HRF.out hk1
            have HENC := Lib.hid (show encF f x = numB sn x.n by unfold encF; rw [if_pos hk1, s1]; rfl)
            rw [hk1] at j0
            rw [s1] at j1
            have HNUM := Lib.hid (fun W' (hW' : Below w2.heap.size w2 W') => refNum_any W'.heap.size u8 pre x.n sn W' (slb_own (own_below HO2.out hW')) (Nat.le_refl _) (by omega) s2 hfit.1 hfit.2)
            have hwrap : IntKind.u64.wrap x.n = x.n := by rw [IntKind.wrap_u64]; exact Int.emod_eq_of_lt hfit.1 (by omega)
            clear hfx hk1 s1 hfit hlo t1 t2
            go_wp2_with fail
            go_still_tail 9, (by kernel_rfl)
            go_wp2_with fail
            have HBX := Lib.hid (show Below w.heap.size w w2.drew from HBW.out.drew)
            refine (HNUM.out _ ((Below.refl w2.heap.size w2).drew)).mono ?_
            rintro e w3 ⟨v3, rfl, hown3, hb3⟩
            have HO3 := Lib.hid hown3
            have HB3 := Lib.hid hb3
            clear hown3 hb3
            go_wp2_with fail
            go_roundw
            case rel => exact ⟨k + 1, by omega, by go_num, HNX.out, by rw [HTS.out, HENC.out]; exact own_base HO3.out HBX.out.size, bthen HBX.out HB3.out⟩
            case measure => simp [intOf]; omega
          · have HENC := Lib.hid (show encF f x = textB x.s by unfold encF; rw [if_neg (by omega), if_pos hk2])
            rw [hk2] at j0
            have HTX := Lib.hid (refText_any w2.heap.size u8 pre x.s w2 (slb_own HO2.out) (Nat.le_refl _) (by omega) (by have := HXF.out.s; omega))
            have HBX := Lib.hid HBW.out
            clear hfx hk2 hlo t0 t2 j1
            go_wp2_with fail
            refine HTX.out.mono ?_
            rintro e w3 ⟨v3, rfl, hown3, hb3⟩
            have HO3 := Lib.hid hown3
            have HB3 := Lib.hid hb3
            clear hown3 hb3
            go_wp2_with fail
            go_roundw
            case rel => exact ⟨k + 1, by omega, by go_num, HNX.out, by rw [HTS.out, HENC.out]; exact own_base HO3.out HBX.out.size, bthen HBX.out HB3.out⟩
            case measure => simp [intOf]; omega
          · have HENC := Lib.hid (show encF f x = numB 1 x.l.length ++ x.l.flatMap textB by unfold encF; rw [if_neg (by omega), if_neg (by omega)]; rfl)
            rw [hk3] at j0
            have hll := HXF.out.l
            have HNUM := Lib.hid (refNum_any w2.heap.size u8 pre x.l.length 1 w2 (slb_own HO2.out) (Nat.le_refl _) (by omega) (by omega) (by omega) (by omega))
            have HBX := Lib.hid HBW.out
            have HT2 := Lib.hid (show SlT w.heap.size w2 (.slice al x.l.length cl) x.l from (HLV.out.below (Qb.out.mono HB.out.size)).below (HB2.out.mono (by have := HB.out.size; have := QS.out; omega)))
            clear hfx hk3 hlo t0 t1 j1
            go_wp2_with fail
            refine HNUM.out.mono ?_
            rintro e w3 ⟨v3, rfl, hown3, hb3⟩
            have HO3 := Lib.hid hown3
            have HB3 := Lib.hid hb3
            have t3 := (hb3.cell (p := ⟨b', o' + k * 3 + 2, none⟩) (by have := HB2.out.size; show b' < _; omega)).trans t2
            have HT3 := Lib.hid (HT2.out.below (hb3.mono HBW.out.size))
            have hl3 : (pre ++ numB 1 (x.l.length : Int)).length = pre.length + 1 := by rw [List.length_append, numB_length]
            generalize hq3 : pre ++ numB 1 (x.l.length : Int) = pre2 at *
            have HQ3 := Lib.hid hq3
            have HFT := Lib.hid (texts_few x.l HXF.out.t)
            clear hown3 hb3 t2 hq3
            go_wp2_with fail
            go_loopw [8, 80] (fun v c wi => RelRT pre2 x.l w w3 v c wi) (fun _ c _ => x.l.length - (intOf c).toNat)
            case atStart => exact ⟨0, Nat.zero_le _, rfl, by simpa using own_base HO3.out HBW.out.size, Below.refl _ _⟩
            case round =>
              obtain ⟨j, hj, rfl, hownj, hbj⟩ := hrel
              have HOJ := Lib.hid hownj
              have HBJ := Lib.hid hbj
              clear hownj hbj
              by_cases hjl : j < x.l.length
              · obtain ⟨bt, ot, ct, h1, h2⟩ := (HT3.out.below (HBJ.out.mono (by have := HBW.out.size; have := HB3.out.size; omega))).text hjl
                injection h1 with h1 _ h1'
                subst h1 h1'
                have hts2 := take_snoc x.l j ByteArray.empty hjl
                have hms := HXF.out.t _ (getD_mem x.l j ByteArray.empty hjl)
                generalize x.l.getD j ByteArray.empty = t at *
                have HTS2 := Lib.hid (show pre2 ++ (x.l.take (j + 1)).flatMap textB = pre2 ++ (x.l.take j).flatMap textB ++ textB t by rw [hts2, List.flatMap_append, List.append_assoc]; simp)
                have hlen2 : (pre2 ++ (x.l.take j).flatMap textB).length ≤ 5000 := by
                  have h1 := flat_take_le textB x.l j
                  have h2 := HFT.out
                  rw [List.length_append]; omega
                have hjk : (j : Int) < x.l.length := by omega
                have HTX := Lib.hid (refText_any wr.heap.size u8 (pre2 ++ (x.l.take j).flatMap textB) t wr (slb_own HOJ.out) (Nat.le_refl _) (by omega) (by omega))
                have hsz : w.heap.size ≤ wr.heap.size := by have := HBW.out.size; have := HB3.out.size; have := HBJ.out.size; omega
                have HSZ := Lib.hid hsz
                clear hts2 hms hlen2 hsz
                go_wp2_with fail
                refine HTX.out.mono ?_
                rintro e w4 ⟨v4, rfl, hown4, hb4⟩
                have HO4 := Lib.hid hown4
                have HB4 := Lib.hid hb4
                clear hown4 hb4
                go_wp2_with fail
                go_roundw
                case rel => exact ⟨j + 1, by omega, by go_num, by rw [HTS2.out]; exact own_base HO4.out HSZ.out, HBJ.out.trans (HB4.out.mono HBJ.out.size)⟩
                case measure => simp [intOf]; omega
              · obtain rfl : j = x.l.length := by omega
                have HEND := Lib.hid (show wr.ownsRow w.heap.size 5 1 u8 (((fs.zip xs).take (k + 1)).flatMap encP).length (bytesV (((fs.zip xs).take (k + 1)).flatMap encP)) from by
                  have h := HOJ.out
                  rw [List.take_length] at h
                  rw [HTS.out, HENC.out, ← List.append_assoc, HQ3.out]
                  exact h)
                go_wp2_with fail
                go_roundw
                case rel => exact ⟨k + 1, by omega, by go_num, HNX.out, HEND.out, bthen (bthen HBX.out HB3.out) HBJ.out⟩
                case measure => simp [intOf]; omega
      · obtain rfl : k = fs.length := by omega
        have HOWN := Lib.hid hown
        have HNN := Lib.hid (firstAt_none misfit (f0, v0) (fs.zip xs) (by rw [HZ.out]; exact HNO.out))
        have HTK := Lib.hid (show (fs.zip xs).take fs.length = fs.zip xs from List.take_of_length_le (by rw [HZ.out]; omega))
        clear hown
        go_wp2_with fail
        go_ret3
        rw [← HPO.out, HPE.out, HNN.out, if_neg (by omega), ← HPB.out]
        have h := HOWN.out
        rw [HTK.out] at h
        exact ⟨_, rfl, h, HB.out⟩
  · have hp : putErr fs xs = some (1, (xs.length : Int)) := by unfold putErr; rw [if_neg hw, if_pos he]
    rw [hp]
    have hne : ((xs.length : Int) != (fs.length : Int)) = true := by simp; omega
    clear hp he
    have hw' : firstAt wrongF fs 0 < 0 := by omega
    clear hw
    generalize firstAt wrongF fs 0 = n at *
    go_enter Tryd.func7, Tryd.ntmps7
    go_wp2_with fail
    refine HFW.out.mono ?_
    rintro e w1 ⟨rfl, hb1⟩
    have HB1 := Lib.hid hb1
    clear hb1
    go_wp2_with fail
    go_ret3
    exact ⟨rfl, HB1.out⟩
end Go.Proofs.YtoflfbcjlddjaaaDoor
