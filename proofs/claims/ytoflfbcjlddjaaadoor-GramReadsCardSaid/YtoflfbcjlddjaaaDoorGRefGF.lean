/-
  staveref1.GetFields: what gram.Get answers, the document's way.
-/
import Derived.Test.YtoflfbcjlddjaaaDoorGRefOne
import Derived.Test.YtoflfbcjlddjaaaDoorGRefRight
import Derived.Test.YtoflfbcjlddjaaaDoorGGet
import Derived.Deep.RegionWith
import Derived.IntWalk
import Derived.Deep.CutBlock
import Derived.Deep.DeepCutAuto
namespace Go.Proofs.YtoflfbcjlddjaaaDoor
open Go.RowKit
def RefGot (A : Ans) (w : World) (e : Ending) (w' : World) : Prop :=
  match A with
  | .no k p => e = .returned (.tuple #[.slice none 0 0, .int .i64 k, .int .i64 p]) ∧ Below w.heap.size w w'
  | .yes xs _ => ∃ v, e = .returned (.tuple #[v, .int .i64 0, .int .i64 0]) ∧ ValsV w.heap.size w' xs v ∧ Below w.heap.size w w'
set_option maxHeartbeats 1000000 in
set_option maxRecDepth 100000 in
theorem refGetF_wrong (fv bv : Value) (fs : List Fl) (w : World) (hf : SlF w.heap.size w fv fs) (hl : fs.length ≤ 100) (hh : ∀ f ∈ fs, f.hi ≤ 9223372036854775807)
    (h : 0 ≤ firstAt wrongF fs 0) : Calls Tryd.prog 11 #[fv, bv] w (RefGot (.no 1 (firstAt wrongF fs 0)) w) := by
  have HFW := Lib.hid (refFields_any w.heap.size fv fs w hf (Nat.le_refl _) hh (by omega))
  clear hf hh
  generalize firstAt wrongF fs 0 = n at *
  go_enter Tryd.func11, Tryd.ntmps11
  go_wp2_with fail
  refine HFW.out.mono ?_
  rintro e w1 ⟨rfl, hb⟩
  go_wp2_with fail
  go_ret3
  exact ⟨rfl, hb⟩
def RelGF (fs : List Fl) (bs : List UInt8) (A : Ans) (w : World) (v at_ c : Value) (wr : World) : Prop :=
  ∃ (k a : Nat) (pre : List Vl), k ≤ fs.length ∧ c = .int .i64 k ∧ at_ = .int .i64 a ∧ pre.length = k ∧ A = ended bs (onV pre (getL bs (fs.drop k) a)) ∧ a ≤ bs.length ∧ ValsV w.heap.size wr pre v ∧ Below w.heap.size w wr
theorem num_right {f : Fl} (h : rightF f = true) (h1 : f.k = 1) : ∃ s : Nat, f.sz = s ∧ s ≤ 8 ∧ 1 ≤ s ∧ 0 ≤ f.lo ∧ f.lo ≤ f.hi := by
  obtain ⟨s, e, h8, h0⟩ := right_size h h1
  simp only [rightF, decide_eq_true_eq] at h
  exact ⟨s, e, h8, h0, h.1, h.2.1⟩
theorem textG_ne {lo hi : Int} {bs : List UInt8} {at_ : Nat} {k : Int} (h : textG lo hi bs at_ = .bad k) : k ≠ 0 := by
  unfold textG numG at h
  split at h
  · rename_i h2
    split at h2
    · injection h2 with h2; injection h with h; omega
    · split at h2
      · injection h2 with h2; injection h with h; omega
      · cases h2
  · split at h
    · injection h with h; omega
    · cases h
/-- A value in the making lies in block vb. -/
structure VB (vb : Nat) (lv : Value) (wx : World) : Prop where
  c0 : wx.cell? ⟨vb, 0, none⟩ = some (.int .i64 0)
  c1 : wx.cell? ⟨vb, 1, none⟩ = some (.string ⟨#[]⟩)
  c2 : wx.cell? ⟨vb, 2, none⟩ = some lv
  f2 : wx.frozen? ⟨vb, 2, none⟩ = false
  lt : vb < wx.heap.size
theorem own_setOther {w : World} {B e size n vb i : Nat} {v u : Value} {xs : List Value} (h : w.ownsRow B e size v n xs) (hB : vb < B) : (w.setCell ⟨vb, i, none⟩ u).ownsRow B e size v n xs := by
  obtain ⟨h1, h2⟩ := h
  refine ⟨h1, ?_⟩
  rcases h2 with h2 | ⟨g, cap, cur, hv, hgB, hh, r⟩
  · exact Or.inl h2
  · refine Or.inr ⟨g, cap, cur, hv, hgB, ?_, r⟩
    show (w.heap.modify vb _)[g]? = _
    rw [Array.getElem?_modify, if_neg (by omega)]; exact hh
theorem vb_next {wx w5 : World} {vb : Nat} {lv v5 : Value} {tp : List ByteArray} {s : ByteArray} {o : Obj} (hv : VB vb lv wx) (ht : TextsV (vb + 1) wx tp lv)
    (hown : w5.ownsRow (vb + 1) 9 1 v5 (tp.length + 1) (tp.map Value.string ++ [.string s])) (hg : Grew (wx.alloc o) lv.ownBlock w5 v5.ownBlock) :
    w5.cell? ⟨vb, 2, none⟩ = some lv ∧ w5.frozen? ⟨vb, 2, none⟩ = false ∧ VB vb v5 (w5.setCell ⟨vb, 2, none⟩ v5) ∧ TextsV (vb + 1) (w5.setCell ⟨vb, 2, none⟩ v5) (tp ++ [s]) v5 ∧ Below vb wx (w5.setCell ⟨vb, 2, none⟩ v5) := by
  have hne : some vb ≠ lv.ownBlock := fun e => by have := (World.ownsRow.lt ht vb e.symm).1; omega
  have hlt : vb < (wx.alloc o).heap.size := by have := hv.lt; simp; omega
  have ce : ∀ i, w5.cell? ⟨vb, i, none⟩ = wx.cell? ⟨vb, i, none⟩ := fun i => by
    rw [hg.cell (a := ⟨vb, i, none⟩) hlt hne, World.cell?_alloc_lt _ _ ⟨vb, i, none⟩ hv.lt]
  have fe : w5.frozen? ⟨vb, 2, none⟩ = false := by
    rw [hg.frozen (a := ⟨vb, 2, none⟩) hlt hne, World.frozen?_alloc_past _ _ _ hv.lt]; exact hv.f2
  have c2 : w5.cell? ⟨vb, 2, none⟩ = some lv := by rw [ce]; exact hv.c2
  have hb5 : Below vb wx w5 := ((one_below wx o).mono (Nat.le_of_lt hv.lt)).trans (hg.below (Nat.le_of_lt hlt) fun q hq => by have := (World.ownsRow.lt ht q hq).1; omega)
  refine ⟨c2, fe, ⟨?_, ?_, ?_, ?_, ?_⟩, ?_, hb5.setCell (Nat.le_refl _) _⟩
  · rw [World.cell?_setCell_other _ _ _ _ (by simp), ce]; exact hv.c0
  · rw [World.cell?_setCell_other _ _ _ _ (by simp), ce]; exact hv.c1
  · exact World.cell?_setCell_same _ _ _ c2
  · rw [World.frozen?_setCell]; exact fe
  · have := hb5.size; have := hv.lt; simp; omega
  · have := own_setOther (i := 2) (u := v5) hown (Nat.lt_succ_self vb)
    unfold TextsV
    rw [List.length_append, List.map_append]
    exact this
def RelTL (bs : List UInt8) (mo : Int) (y a0 : Nat) (wr : World) (v13 v14 v17 : Value) (wx : World) : Prop :=
  ∃ (j a : Nat) (tp : List ByteArray) (lv : Value), j ≤ y ∧ v17 = .int .i64 j ∧ v13 = .int .i64 a ∧ a ≤ bs.length ∧ tp.length = j ∧
    ((v14 = .int .i64 0 ∧ goOn tp (textsLoop mo bs (y - j) a) = textsLoop mo bs y a0) ∨ ∃ e : Int, e ≠ 0 ∧ v14 = .int .i64 e ∧ textsLoop mo bs y a0 = .bad e) ∧
    VB (wr.heap.size + 1) lv wx ∧ TextsV (wr.heap.size + 2) wx tp lv ∧ Below wr.heap.size wr wx
theorem cut_one {bs : List UInt8} {at_ : Nat} (h : at_ < bs.length) : leN (cut bs at_ 1) = (bs.getD at_ 0).toNat := by
  unfold cut
  rw [List.drop_eq_getElem_cons h, List.take_succ_cons, List.take_zero]
  simp [leN, List.getD, h]
set_option maxHeartbeats 8000000 in
set_option maxRecDepth 100000 in
theorem refGetF_any (fv bv : Value) (fs : List Fl) (bs : List UInt8) (w : World) (hf : SlF w.heap.size w fv fs) (hb : SlB w.heap.size w bv bs) (hl : fs.length ≤ 100) (hbl : bs.length ≤ 100000) (hh : ∀ f ∈ fs, f.hi ≤ 9223372036854775807)
    (h : firstAt wrongF fs 0 < 0) : Calls Tryd.prog 11 #[fv, bv] w (RefGot (getM fs bs) w) := by
  have HFW := Lib.hid (refFields_any w.heap.size fv fs w hf (Nat.le_refl _) hh (by omega))
  have Hra := Lib.hid (right_all fs (by omega))
  have HF := Lib.hid hf
  have HBv := Lib.hid hb
  have Hh := Lib.hid hh
  obtain ⟨i0, hi0, hz0, hz1, hz2⟩ := info_parts Tryd.info51
  generalize firstAt wrongF fs 0 = n at *
  have HA : Hid (getM fs bs = ended bs (getL bs fs 0)) := Lib.hid rfl
  generalize getM fs bs = A at *
  obtain ⟨a, cap, rfl⟩ := hf.len
  obtain ⟨a2, cap2, rfl, hcap⟩ := hb.len
  clear hf hb hh
  go_enter Tryd.func11, Tryd.ntmps11
  go_wp2_with fail
  refine HFW.out.mono ?_
  rintro e w1 ⟨rfl, hb⟩
  have Hb := Lib.hid hb; clear hb
  go_wp2_with fail
  go_loopw [8, 9, 26] (fun v a c wr => RelGF fs bs A w v a c wr) (fun _ _ c _ => fs.length - (intOf c).toNat)
  case atStart => exact ⟨0, 0, [], Nat.zero_le _, rfl, rfl, rfl, by rw [onV_nil]; exact HA.out, Nat.zero_le _, ValsV.nil _ _, Hb.out⟩
  case round =>
    obtain ⟨k, at_, pre, hk, rfl, rfl, hpre, hAk, hal, hvs, hbel⟩ := hrel
    have Hbel := Lib.hid hbel
    have HAk := Lib.hid hAk
    have Hpre := Lib.hid hpre
    have Hvs := Lib.hid hvs
    by_cases hlt : k < fs.length
    · rcases HF.out.below hbel with ⟨h0, _⟩ | ⟨b, o, cap', h1, h2, h3, h4⟩
      · simp [h0] at hlt
      injection h1 with h1 h1' h1''
      subst h1 h1''
      obtain ⟨d0, d1, d2, d3, d4⟩ := h3 k hlt
      have hrf := Hra.out _ (getD_mem fs k f0 hlt)
      have hhf := Hh.out _ (getD_mem fs k f0 hlt)
      have hdrop : fs.drop k = fs.getD k f0 :: fs.drop (k + 1) := by rw [List.drop_eq_getElem_cons hlt]; simp [List.getD, hlt]
      generalize fs.getD k f0 = f at *
      have Hdrop := Lib.hid hdrop
      clear h3 h1' hdrop hvs hbel hAk hpre
      rcases right_kind hrf with hk1 | hk1 | hk1
      · obtain ⟨sz, hsz, hs8, hs1, hlo0, hlohi⟩ := num_right hrf hk1
        rw [hk1] at d0
        rw [hsz] at d1
        by_cases hshort : bs.length < at_ + sz
        · have HV := Lib.hid (show valG f bs at_ = .bad 3 by unfold valG numG; rw [if_pos hk1, hsz, Int.toNat_natCast, if_pos hshort])
          have hcmp : (bs.length : Int) - at_ < sz := by omega
          clear hrf hhf hk1 hsz
          go_wp2_with fail
          go_ret3
          have hA := HAk.out
          rw [Hdrop.out, onV_bad HV.out] at hA
          simp only [ended] at hA
          subst hA
          exact ⟨rfl, balloc (balloc Hbel.out _) _⟩
        · rcases HBv.out with ⟨h0, _⟩ | ⟨b2, o2, cap3, e1, e2, e3, e4, e5⟩
          · rw [h0] at hshort; simp at hshort; omega
          injection e1 with e1 _ e1'
          subst e1 e1'
          have HS1 := Lib.hid (slb_cut (n := sz) e3 e2 (by omega : at_ + sz ≤ bs.length) e5)
          have HBIG := Lib.hid (fun (W : World) (hb : Below w.heap.size w W) => big_any w.heap.size _ (cut bs at_ sz) W (HS1.out.below hb) hb.size (by rw [cut_length _ _ _ (by omega)]; omega))
          have hVV : valG f bs at_ = if (leN (cut bs at_ sz) : Int) < f.lo ∨ f.hi < (leN (cut bs at_ sz) : Int) then .bad 2 else .good ⟨(leN (cut bs at_ sz) : Int), ByteArray.empty, []⟩ (at_ + sz) := by
            unfold valG numG
            rw [if_pos hk1, hsz, Int.toNat_natCast, if_neg hshort]
            by_cases c : (leN (cut bs at_ sz) : Int) < f.lo ∨ f.hi < (leN (cut bs at_ sz) : Int)
            · rw [if_pos c, if_pos c]
            · rw [if_neg c, if_neg c]
          have HVV := Lib.hid hVV
          have hu : leN (cut bs at_ sz) < 18446744073709551616 := by
            have h1 := leN_lt (cut bs at_ sz)
            rw [cut_length _ _ _ (by omega)] at h1
            exact Nat.lt_of_lt_of_le h1 (Nat.le_trans (Nat.pow_le_pow_right (by decide) hs8) (by decide))
          have hcc : ¬ cap2 = at_ := by omega
          have j0 : ¬ (bs.length : Int) - at_ < sz := by omega
          have j1 : (at_ : Int) + sz ≤ bs.length := by omega
          have j2 : (bs.length : Int) ≤ cap2 := by omega
          have w1' : IntKind.u64.wrap f.lo = f.lo := by rw [IntKind.wrap_u64]; omega
          have w2' : IntKind.u64.wrap f.hi = f.hi := by rw [IntKind.wrap_u64]; omega
          generalize leN (cut bs at_ sz) = u at *
          clear e3 hVV hsz hk1 hrf
          by_cases c1 : (u : Int) < f.lo
          · have HV := Lib.hid (show valG f bs at_ = .bad 2 by rw [HVV.out, if_pos (Or.inl c1)])
            clear hu
            go_wp2_with ((with_reducible refine (HBIG.out _ (balloc (balloc Hbel.out _) _)).mono ?_); rintro e w' ⟨rfl, rfl⟩)
            go_ret3
            have hA := HAk.out
            rw [Hdrop.out, onV_bad HV.out] at hA
            simp only [ended] at hA
            subst hA
            exact ⟨rfl, balloc (balloc Hbel.out _) _⟩
          by_cases c2 : f.hi < (u : Int)
          · have HV := Lib.hid (show valG f bs at_ = .bad 2 by rw [HVV.out, if_pos (Or.inr c2)])
            have d1 : decide ((u : Int) < f.lo) = false := decide_eq_false c1
            clear hu
            go_wp2_with ((with_reducible refine (HBIG.out _ (balloc (balloc Hbel.out _) _)).mono ?_); rintro e w' ⟨rfl, rfl⟩)
            go_ret3
            have hA := HAk.out
            rw [Hdrop.out, onV_bad HV.out] at hA
            simp only [ended] at hA
            subst hA
            exact ⟨rfl, balloc (balloc Hbel.out _) _⟩
          have HV := Lib.hid (show valG f bs at_ = .good ⟨(u : Int), ByteArray.empty, []⟩ (at_ + sz) by rw [HVV.out, if_neg (by omega)])
          have d1 : decide ((u : Int) < f.lo) = false := decide_eq_false c1
          have d2 : decide (f.hi < (u : Int)) = false := decide_eq_false c2
          have w3' : IntKind.i64.wrap (u : Int) = u := IntWalk.i64_in _ (by omega)
          clear hu
          go_wp2_with ((with_reducible refine (HBIG.out _ (balloc (balloc Hbel.out _) _)).mono ?_); rintro e w' ⟨rfl, rfl⟩)
          go_region
          have HBW := Lib.hid (show Below wr.heap.size wr ((wr.alloc (.cells #[.int .i64 1, .int .i64 sz, .int .i64 f.lo, .int .i64 f.hi, .int .i64 f.mo] 46)).alloc (.cells #[.int .i64 u, .string ⟨#[]⟩, .slice none 0 0] 51)).drew from (balloc (one_below _ _) _).drew)
          have n0 : ((wr.alloc (.cells #[.int .i64 1, .int .i64 sz, .int .i64 f.lo, .int .i64 f.hi, .int .i64 f.mo] 46)).alloc (.cells #[.int .i64 u, .string ⟨#[]⟩, .slice none 0 0] 51)).drew.cell? ⟨wr.heap.size + 1, 0, none⟩ = some (.int .i64 u) := by simp
          have n1 : ((wr.alloc (.cells #[.int .i64 1, .int .i64 sz, .int .i64 f.lo, .int .i64 f.hi, .int .i64 f.mo] 46)).alloc (.cells #[.int .i64 u, .string ⟨#[]⟩, .slice none 0 0] 51)).drew.cell? ⟨wr.heap.size + 1, 1, none⟩ = some (.string ⟨#[]⟩) := by simp
          have n2 : ((wr.alloc (.cells #[.int .i64 1, .int .i64 sz, .int .i64 f.lo, .int .i64 f.hi, .int .i64 f.mo] 46)).alloc (.cells #[.int .i64 u, .string ⟨#[]⟩, .slice none 0 0] 51)).drew.cell? ⟨wr.heap.size + 1, 2, none⟩ = some (.slice none 0 0) := by simp
          generalize ((wr.alloc (.cells #[.int .i64 1, .int .i64 sz, .int .i64 f.lo, .int .i64 f.hi, .int .i64 f.mo] 46)).alloc (.cells #[.int .i64 u, .string ⟨#[]⟩, .slice none 0 0] 51)).drew = WV at *
          have HTX := Lib.hid (show TextsV w.heap.size WV [] (.slice none 0 0) from World.ownsRow_nil _ _ _ _)
          have HNE := Lib.hid (show (Value.slice none 0 0).ownBlock = none ∨ (Value.slice none 0 0).ownBlock ≠ u8.ownBlock from Or.inl rfl)
          obtain ⟨ps, p1, p2, p3⟩ := Hvs.out
          have Hp1 := Lib.hid p1
          have Hp2 := Lib.hid (own_below p2 HBW.out)
          have Hp3 := Lib.hid (fun p hp => (⟨own_below (p3 p hp).1 HBW.out, (p3 p hp).2⟩ : _ ∧ _))
          have hpsl : ps.length ≤ 100 := by
            have : (ps.map (·.1)).length = pre.length := by rw [p1]
            have := Hpre.out
            simp at *; omega
          have HvB := Lib.hid (fun k hk => p2.lt k hk)
          have hszw := HBW.out.size
          have hszr := Hbel.out.size
          clear p1 p2 p3 d0 d1 d2 d3 d4
          go_wp2_with (at_builtin; refine wpList_append_src _ rfl _ _ 23 23 rfl w.heap.size 51 i0 (.agg #[.int .i64 0, .string ⟨#[]⟩, .slice none 0 0]) 3 48 Tryd.underlying23 hi0 hz0 hz1 hz2 rfl _ _ _ rfl (Hp2.out.alloc _) _ 1 _ rfl (Src.ofSlice _ Tryd.underlying23 ⟨WV.heap.size, 0, none⟩ 1 1 [.int .i64 u, .string ⟨#[]⟩, .slice none 0 0] rfl (cells3_new _ _ _ _ _ _ rfl) (fun y hy => by simp at hy; rcases hy with rfl | rfl | rfl <;> rfl)) (by unfold maxLen; omega) (by omega) (by simp; omega) ?_; intro v4 w4 hown4 hg4 hnil; have Hown4 := Lib.hid hown4; have Hg4 := Lib.hid hg4; clear hown4 hg4 hnil)
          go_roundw
          case rel =>
            refine ⟨k + 1, at_ + sz, pre ++ [⟨(u : Int), ByteArray.empty, []⟩], by omega, by go_num, by go_num, by simp [Hpre.out], ?_, by omega, ?_, ?_⟩
            · rw [HAk.out, Hdrop.out, onV_good HV.out]
            · exact ValsV.snoc Hp1.out (fun p hp => ⟨own_below (Hp3.out p hp).1 (one_below _ _), (Hp3.out p hp).2⟩) (own_below HTX.out (one_below _ _)) HNE.out Hg4.out Hown4.out
            · exact (balloc (bthen Hbel.out HBW.out) _).trans (Hg4.out.below (Nat.le_trans hszr (Nat.le_trans hszw (by simp))) (fun q hq => (HvB.out q hq).1))
          case measure => simp [intOf]; omega
      · rw [hk1] at d0
        have HONE := Lib.hid (fun (W : World) (hb : Below w.heap.size w W) => one_any w.heap.size at_ f.lo f.hi _ bs W (HBv.out.below hb) hb.size hbl hal)
        cases hT : textG f.lo f.hi bs at_ with
        | bad e =>
          have hke := textG_ne hT
          have HV := Lib.hid (show valG f bs at_ = .bad e by unfold valG; rw [if_neg (by omega), if_pos hk1, hT])
          have H1 := Lib.hid (fun (W : World) (hb : Below w.heap.size w W) => show Calls Tryd.prog 34 #[.slice a2 bs.length cap2, .int .i64 at_, .int .i64 f.lo, .int .i64 f.hi] W (fun e' w' => W = w' ∧ e' = .returned (.tuple #[.string ⟨#[]⟩, .int .i64 at_, .int .i64 e])) from by have := HONE.out W hb; rw [hT] at this; exact this)
          have q1 : (e != 0) = true := by simpa using hke
          clear hrf hhf hk1 hT
          go_wp2_with ((with_reducible refine (H1.out _ (balloc (balloc Hbel.out _) _)).mono ?_); rintro e w' ⟨rfl, rfl⟩)
          go_ret3
          have hA := HAk.out
          rw [Hdrop.out, onV_bad HV.out] at hA
          simp only [ended] at hA
          subst hA
          exact ⟨rfl, balloc (balloc Hbel.out _) _⟩
        | good st a' =>
          have HV := Lib.hid (show valG f bs at_ = .good ⟨0, st, []⟩ a' by unfold valG; rw [if_neg (by omega), if_pos hk1, hT])
          have H1 := Lib.hid (fun (W : World) (hb : Below w.heap.size w W) => show Calls Tryd.prog 34 #[.slice a2 bs.length cap2, .int .i64 at_, .int .i64 f.lo, .int .i64 f.hi] W (fun e' w' => W = w' ∧ e' = .returned (.tuple #[.string st, .int .i64 a', .int .i64 0])) from by have := HONE.out W hb; rw [hT] at this; exact this)
          clear hrf hhf hk1 hT
          go_upto_region 34 with ((with_reducible refine (H1.out _ (balloc (balloc Hbel.out _) _)).mono ?_); rintro e w' ⟨rfl, rfl⟩)
          have HBW := Lib.hid (show Below wr.heap.size wr ((wr.alloc (.cells #[.int .i64 2, .int .i64 f.sz, .int .i64 f.lo, .int .i64 f.hi, .int .i64 f.mo] 46)).alloc (.cells #[.int .i64 0, .string st, .slice none 0 0] 51)) from balloc (one_below _ _) _)
          have n0 : ((wr.alloc (.cells #[.int .i64 2, .int .i64 f.sz, .int .i64 f.lo, .int .i64 f.hi, .int .i64 f.mo] 46)).alloc (.cells #[.int .i64 0, .string st, .slice none 0 0] 51)).cell? ⟨wr.heap.size + 1, 0, none⟩ = some (.int .i64 0) := by simp
          have n1 : ((wr.alloc (.cells #[.int .i64 2, .int .i64 f.sz, .int .i64 f.lo, .int .i64 f.hi, .int .i64 f.mo] 46)).alloc (.cells #[.int .i64 0, .string st, .slice none 0 0] 51)).cell? ⟨wr.heap.size + 1, 1, none⟩ = some (.string st) := by simp
          have n2 : ((wr.alloc (.cells #[.int .i64 2, .int .i64 f.sz, .int .i64 f.lo, .int .i64 f.hi, .int .i64 f.mo] 46)).alloc (.cells #[.int .i64 0, .string st, .slice none 0 0] 51)).cell? ⟨wr.heap.size + 1, 2, none⟩ = some (.slice none 0 0) := by simp
          generalize ((wr.alloc (.cells #[.int .i64 2, .int .i64 f.sz, .int .i64 f.lo, .int .i64 f.hi, .int .i64 f.mo] 46)).alloc (.cells #[.int .i64 0, .string st, .slice none 0 0] 51)) = WV at *
          have HTX := Lib.hid (show TextsV w.heap.size WV [] (.slice none 0 0) from World.ownsRow_nil _ _ _ _)
          have HNE := Lib.hid (show (Value.slice none 0 0).ownBlock = none ∨ (Value.slice none 0 0).ownBlock ≠ u8.ownBlock from Or.inl rfl)
          obtain ⟨ps, p1, p2, p3⟩ := Hvs.out
          have Hp1 := Lib.hid p1
          have Hp2 := Lib.hid (own_below p2 HBW.out)
          have Hp3 := Lib.hid (fun p hp => (⟨own_below (p3 p hp).1 HBW.out, (p3 p hp).2⟩ : _ ∧ _))
          have hpsl : ps.length ≤ 100 := by
            have : (ps.map (·.1)).length = pre.length := by rw [p1]
            have := Hpre.out
            simp at *; omega
          have HvB := Lib.hid (fun k hk => p2.lt k hk)
          have hszw := HBW.out.size
          have hszr := Hbel.out.size
          clear p1 p2 p3 d0 d1 d2 d3 d4
          go_wp2_with (at_builtin; refine wpList_append_src _ rfl _ _ 23 23 rfl w.heap.size 51 i0 (.agg #[.int .i64 0, .string ⟨#[]⟩, .slice none 0 0]) 3 48 Tryd.underlying23 hi0 hz0 hz1 hz2 rfl _ _ _ rfl (Hp2.out.alloc _) _ 1 _ rfl (Src.ofSlice _ Tryd.underlying23 ⟨WV.heap.size, 0, none⟩ 1 1 [.int .i64 0, .string st, .slice none 0 0] rfl (cells3_new _ _ _ _ _ _ rfl) (fun y hy => by simp at hy; rcases hy with rfl | rfl | rfl <;> rfl)) (by unfold maxLen; omega) (by omega) (by simp; omega) ?_; intro v4 w4 hown4 hg4 hnil; have Hown4 := Lib.hid hown4; have Hg4 := Lib.hid hg4; clear hown4 hg4 hnil)
          go_roundw
          case rel =>
            refine ⟨k + 1, a', pre ++ [⟨0, st, []⟩], by omega, by go_num, by go_num, by simp [Hpre.out], ?_, valG_le HV.out, ?_, ?_⟩
            · rw [HAk.out, Hdrop.out, onV_good HV.out]
            · exact ValsV.snoc Hp1.out (fun p hp => ⟨own_below (Hp3.out p hp).1 (one_below _ _), (Hp3.out p hp).2⟩) (own_below HTX.out (one_below _ _)) HNE.out Hg4.out Hown4.out
            · exact (balloc (bthen Hbel.out HBW.out) _).trans (Hg4.out.below (Nat.le_trans hszr (Nat.le_trans hszw (by simp))) (fun q hq => (HvB.out q hq).1))
          case measure => simp [intOf]; omega
      · rw [hk1] at d0
        by_cases hshort : bs.length < at_ + 1
        · have HV := Lib.hid (show valG f bs at_ = .bad 3 by unfold valG textsG numG; rw [if_neg (by omega), if_neg (by omega), if_pos hshort])
          have hcmp : (bs.length : Int) - at_ < 1 := by omega
          clear hrf hhf hk1
          go_wp2_with fail
          go_ret3
          have hA := HAk.out
          rw [Hdrop.out, onV_bad HV.out] at hA
          simp only [ended] at hA
          subst hA
          exact ⟨rfl, balloc (balloc Hbel.out _) _⟩
        · rcases HBv.out with ⟨h0, _⟩ | ⟨b2, o2, cap3, e1, e2, e3, e4, e5⟩
          · rw [h0] at hshort; simp at hshort
          injection e1 with e1 _ e1'
          subst e1 e1'
          have hcell : wr.cell? ⟨b2, o2 + at_, none⟩ = some (.int .u8 ((bs.getD at_ 0).toNat : Int)) := by rw [Hbel.out.cell (p := ⟨b2, o2 + at_, none⟩) e2]; exact e3 at_ (by omega)
          have hb2 : b2 < wr.heap.size := Nat.lt_of_lt_of_le e2 Hbel.out.size
          have hVV : valG f bs at_ = if ((bs.getD at_ 0).toNat : Int) < f.lo ∨ f.hi < ((bs.getD at_ 0).toNat : Int) then .bad 2 else match textsLoop f.mo bs (bs.getD at_ 0).toNat (at_ + 1) with | .bad k => .bad k | .good l a => .good ⟨0, ByteArray.empty, l⟩ a := by
            unfold valG textsG numG
            rw [if_neg (by omega), if_neg (by omega), if_neg hshort, cut_one (by omega)]
            by_cases c : ((bs.getD at_ 0).toNat : Int) < f.lo ∨ f.hi < ((bs.getD at_ 0).toNat : Int)
            · rw [if_pos c, if_pos c]
            · rw [if_neg c, if_neg c]
              simp only [Int.toNat_natCast]
              cases textsLoop f.mo bs (bs.getD at_ 0).toNat (at_ + 1) <;> rfl
          have HVV := Lib.hid hVV
          have hy : (bs.getD at_ 0).toNat < 256 := UInt8.toNat_lt _
          have j0 : ¬ (bs.length : Int) - at_ < 1 := by omega
          have j1 : (at_ : Int) < bs.length := by omega
          have w0' : IntKind.i64.wrap ((bs.getD at_ 0).toNat : Int) = (bs.getD at_ 0).toNat := IntWalk.i64_in _ (by omega)
          generalize (bs.getD at_ 0).toNat = y at *
          clear e3 hVV hk1 hrf hhf
          by_cases c1 : (y : Int) < f.lo
          · have HV := Lib.hid (show valG f bs at_ = .bad 2 by rw [HVV.out, if_pos (Or.inl c1)])
            go_wp2_with fail
            go_ret3
            have hA := HAk.out
            rw [Hdrop.out, onV_bad HV.out] at hA
            simp only [ended] at hA
            subst hA
            exact ⟨rfl, balloc (balloc Hbel.out _) _⟩
          by_cases c2 : f.hi < (y : Int)
          · have HV := Lib.hid (show valG f bs at_ = .bad 2 by rw [HVV.out, if_pos (Or.inr c2)])
            have d1' : decide ((y : Int) < f.lo) = false := decide_eq_false c1
            go_wp2_with fail
            go_ret3
            have hA := HAk.out
            rw [Hdrop.out, onV_bad HV.out] at hA
            simp only [ended] at hA
            subst hA
            exact ⟨rfl, balloc (balloc Hbel.out _) _⟩
          have d1' : decide ((y : Int) < f.lo) = false := decide_eq_false c1
          have d2' : decide (f.hi < (y : Int)) = false := decide_eq_false c2
          have HVW := Lib.hid (show valG f bs at_ = match textsLoop f.mo bs y (at_ + 1) with | .bad k => .bad k | .good l a => .good ⟨0, ByteArray.empty, l⟩ a by rw [HVV.out, if_neg (by omega)])
          clear HVV
          obtain ⟨i1, hi1, hy0, hy1, hy2⟩ := info_parts Tryd.info9
          have HBW0 := Lib.hid (show Below wr.heap.size wr ((wr.alloc (.cells #[.int .i64 3, .int .i64 f.sz, .int .i64 f.lo, .int .i64 f.hi, .int .i64 f.mo] 46)).alloc (.cells #[.int .i64 0, .string ⟨#[]⟩, .slice none 0 0] 51)) from balloc (one_below _ _) _)
          have HVB0 := Lib.hid (show VB (wr.heap.size + 1) (.slice none 0 0) ((wr.alloc (.cells #[.int .i64 3, .int .i64 f.sz, .int .i64 f.lo, .int .i64 f.hi, .int .i64 f.mo] 46)).alloc (.cells #[.int .i64 0, .string ⟨#[]⟩, .slice none 0 0] 51)) from ⟨by simp, by simp, by simp, by simp, by simp⟩)
          have HMO := Lib.hid (show ((wr.alloc (.cells #[.int .i64 3, .int .i64 f.sz, .int .i64 f.lo, .int .i64 f.hi, .int .i64 f.mo] 46)).alloc (.cells #[.int .i64 0, .string ⟨#[]⟩, .slice none 0 0] 51)).cell? ⟨wr.heap.size, 4, none⟩ = some (.int .i64 f.mo) by simp)
          go_wp2_with fail
          go_loopw [13, 14, 17] (fun a e i wx => RelTL bs f.mo y (at_ + 1) wr a e i wx ∧ wx.cell? ⟨wr.heap.size, 4, none⟩ = some (.int .i64 f.mo)) (fun _ _ i _ => y - (intOf i).toNat)
          case atStart => exact ⟨⟨0, at_ + 1, [], .slice none 0 0, Nat.zero_le _, rfl, rfl, by omega, rfl, Or.inl ⟨rfl, by cases textsLoop f.mo bs y (at_ + 1) <;> rfl⟩, HVB0.out, World.ownsRow_nil _ _ _ _, HBW0.out⟩, HMO.out⟩
          case round =>
            obtain ⟨⟨j, a, tp, lv, hj, rfl, rfl, ha, htl, hcase, hvb, htx, hbw⟩, hmo⟩ := hrel
            have HVB := Lib.hid hvb
            have HTX := Lib.hid htx
            have HBW := Lib.hid hbw
            have Htl := Lib.hid htl
            have HMO := Lib.hid hmo
            have c0 := hvb.c0
            have c1' := hvb.c1
            have c2' := hvb.c2
            have f2' := hvb.f2
            have hvlt := hvb.lt
            rcases hcase with ⟨rfl, hgo⟩ | ⟨e, hene, rfl, hbad⟩
            · by_cases hjy : j < y
              · have HGO := Lib.hid hgo
                have Hj := Lib.hid (show y - j = (y - (j + 1)) + 1 by omega)
                clear hgo hvb htx hbw
                cases hT : textG 0 f.mo bs a with
                | bad e =>
                  have hke := textG_ne hT
                  have H1 := Lib.hid (fun (W : World) (hb : Below w.heap.size w W) => show Calls Tryd.prog 34 #[.slice (some ⟨b2, o2, none⟩) bs.length cap2, .int .i64 a, .int .i64 0, .int .i64 f.mo] W (fun e' w' => W = w' ∧ e' = .returned (.tuple #[.string ⟨#[]⟩, .int .i64 a, .int .i64 e])) from by have := one_any w.heap.size a 0 f.mo _ bs W (HBv.out.below hb) hb.size hbl ha; rw [hT] at this; exact this)
                  have HT := Lib.hid hT
                  clear hT
                  go_wp2_with (first | (with_reducible refine (H1.out _ (bthen Hbel.out HBW.out)).mono ?_; rintro e' w' ⟨rfl, rfl⟩) | (at_builtin; refine wpList_append_src _ rfl _ _ 49 49 rfl _ 9 i1 (.string ⟨#[]⟩) 1 16 Tryd.underlying49 hi1 hy0 hy1 hy2 rfl _ _ _ rfl (HTX.out.alloc _) _ 1 _ rfl (Src.ofSlice _ Tryd.underlying49 ⟨wr.heap.size, 0, none⟩ 1 1 [.string ⟨#[]⟩] rfl (cell_one_new _ _ _) (fun x hx => by simp at hx; subst hx; rfl)) (by unfold maxLen; omega) (by omega) (by simp; omega) ?_; intro v3 w3 hown3 hg3 hnil; obtain ⟨v3a, v3c, rfl⟩ := own_sl hown3; obtain ⟨n2', m2', hvb5, htx5, hbw5⟩ := vb_next HVB.out HTX.out hown3 hg3; rw [htl] at hvb5 htx5 hbw5; have HVB5 := Lib.hid hvb5; have HTX5 := Lib.hid htx5; have HBW5 := Lib.hid hbw5; clear hown3 hg3 hnil hvb5 htx5 hbw5))
                  go_roundw
                  case rel =>
                    refine ⟨⟨j + 1, a, tp ++ [⟨#[]⟩], _, by omega, by go_num, by go_num, ha, by simp [htl], Or.inr ⟨e, hke, by go_num, ?_⟩, HVB5.out, HTX5.out, HBW.out.trans (HBW5.out.mono (Nat.le_succ _))⟩, ?_⟩
                    · rw [← HGO.out, Hj.out, goOn_bad HT.out]
                    · refine (HBW5.out.cell ?_).trans HMO.out; exact Nat.lt_succ_self _
                  case measure => simp [intOf]; omega
                | good st a' =>
                  have H1 := Lib.hid (fun (W : World) (hb : Below w.heap.size w W) => show Calls Tryd.prog 34 #[.slice (some ⟨b2, o2, none⟩) bs.length cap2, .int .i64 a, .int .i64 0, .int .i64 f.mo] W (fun e' w' => W = w' ∧ e' = .returned (.tuple #[.string st, .int .i64 a', .int .i64 0])) from by have := one_any w.heap.size a 0 f.mo _ bs W (HBv.out.below hb) hb.size hbl ha; rw [hT] at this; exact this)
                  have hgd := textG_good hT
                  have HT := Lib.hid hT
                  clear hT
                  go_wp2_with (first | (with_reducible refine (H1.out _ (bthen Hbel.out HBW.out)).mono ?_; rintro e' w' ⟨rfl, rfl⟩) | (at_builtin; refine wpList_append_src _ rfl _ _ 49 49 rfl _ 9 i1 (.string ⟨#[]⟩) 1 16 Tryd.underlying49 hi1 hy0 hy1 hy2 rfl _ _ _ rfl (HTX.out.alloc _) _ 1 _ rfl (Src.ofSlice _ Tryd.underlying49 ⟨wr.heap.size, 0, none⟩ 1 1 [.string st] rfl (cell_one_new _ _ _) (fun x hx => by simp at hx; subst hx; rfl)) (by unfold maxLen; omega) (by omega) (by simp; omega) ?_; intro v3 w3 hown3 hg3 hnil; obtain ⟨v3a, v3c, rfl⟩ := own_sl hown3; obtain ⟨n2', m2', hvb5, htx5, hbw5⟩ := vb_next HVB.out HTX.out hown3 hg3; rw [htl] at hvb5 htx5 hbw5; have HVB5 := Lib.hid hvb5; have HTX5 := Lib.hid htx5; have HBW5 := Lib.hid hbw5; clear hown3 hg3 hnil hvb5 htx5 hbw5))
                  go_roundw
                  case rel =>
                    refine ⟨⟨j + 1, a', tp ++ [st], _, by omega, by go_num, by go_num, hgd.2.1, by simp [htl], Or.inl ⟨by go_num, ?_⟩, HVB5.out, HTX5.out, HBW.out.trans (HBW5.out.mono (Nat.le_succ _))⟩, ?_⟩
                    · rw [← HGO.out, Hj.out, goOn_good HT.out, show y - (j + 1) = y - (j + 1) from rfl]
                    · refine (HBW5.out.cell ?_).trans HMO.out; exact Nat.lt_succ_self _
                  case measure => simp [intOf]; omega
              · obtain rfl : j = y := by omega
                subst htl
                have HV := Lib.hid (show valG f bs at_ = .good ⟨0, ByteArray.empty, tp⟩ a by rw [HVW.out, ← hgo, Nat.sub_self]; simp [textsLoop, goOn])
                obtain ⟨sa, scap, rfl⟩ := own_sl htx
                obtain ⟨ps, p1, p2, p3⟩ := Hvs.out
                have HNE := Lib.hid (show (Value.slice sa tp.length scap).ownBlock = none ∨ (Value.slice sa tp.length scap).ownBlock ≠ u8.ownBlock by
                  cases hb : (Value.slice sa tp.length scap).ownBlock with
                  | none => exact Or.inl rfl
                  | some k => exact Or.inr fun e => by have := (p2.lt k e.symm).2; have := (World.ownsRow.lt htx k hb).1; omega)
                have Hp1 := Lib.hid p1
                have Hp2 := Lib.hid (own_below p2 HBW.out)
                have Hp3 := Lib.hid (fun p hp => (⟨own_below (p3 p hp).1 HBW.out, (p3 p hp).2⟩ : _ ∧ _))
                have hpsl : ps.length ≤ 100 := by
                  have : (ps.map (·.1)).length = pre.length := by rw [p1]
                  have := Hpre.out
                  simp at *; omega
                have HvB := Lib.hid (fun k hk => p2.lt k hk)
                have hszw := HBW.out.size
                have hszr := Hbel.out.size
                clear p1 p2 p3 d0 d1 d2 d3 d4 hgo hvb htx hbw hcell
                go_wp2_with (at_builtin; refine wpList_append_src _ rfl _ _ 23 23 rfl w.heap.size 51 i0 (.agg #[.int .i64 0, .string ⟨#[]⟩, .slice none 0 0]) 3 48 Tryd.underlying23 hi0 hz0 hz1 hz2 rfl _ _ _ rfl (Hp2.out.alloc _) _ 1 _ rfl (Src.ofSlice _ Tryd.underlying23 ⟨wr.heap.size, 0, none⟩ 1 1 [.int .i64 0, .string ⟨#[]⟩, .slice sa tp.length scap] rfl (cells3_new _ _ _ _ _ _ (by simp)) (fun y hy => by simp at hy; rcases hy with rfl | rfl | rfl <;> rfl)) (by unfold maxLen; omega) (by omega) (by simp; omega) ?_; intro v4 w4 hown4 hg4 hnil; have Hown4 := Lib.hid hown4; have Hg4 := Lib.hid hg4; clear hown4 hg4 hnil)
                go_roundw
                case rel =>
                  refine ⟨k + 1, a, pre ++ [⟨0, ByteArray.empty, tp⟩], by omega, by go_num, by go_num, by simp [Hpre.out], ?_, valG_le HV.out, ?_, ?_⟩
                  · rw [HAk.out, Hdrop.out, onV_good HV.out]
                  · exact ValsV.snoc Hp1.out (fun p hp => ⟨own_below (Hp3.out p hp).1 (one_below _ _), (Hp3.out p hp).2⟩) (own_below (own_base HTX.out (by omega)) (one_below _ _)) HNE.out Hg4.out Hown4.out
                  · exact (balloc (bthen Hbel.out HBW.out) _).trans (Hg4.out.below (Nat.le_trans hszr (Nat.le_trans hszw (by simp))) (fun q hq => (HvB.out q hq).1))
                case measure => simp [intOf]; omega
            · have q1 : (e != 0) = true := by simpa using hene
              have HV := Lib.hid (show valG f bs at_ = .bad e by rw [HVW.out, hbad])
              clear hbad hvb htx hbw hmo
              have hA := HAk.out
              rw [Hdrop.out, onV_bad HV.out] at hA
              simp only [ended] at hA
              have HAA := Lib.hid hA
              clear hA
              go_wp2_with fail
              all_goals
                go_ret3
                have hA := HAA.out
                subst hA
                exact ⟨rfl, bthen Hbel.out HBW.out⟩
    · obtain rfl : k = fs.length := by omega
      have hA := HAk.out
      rw [List.drop_length] at hA
      simp only [getL, onV, List.append_nil, ended] at hA
      have Hvs := Lib.hid hvs
      by_cases hend : at_ < bs.length
      · rw [if_pos hend] at hA
        have HAA := Lib.hid hA
        clear hvs hbel hAk hpre hA
        go_wp2_with fail
        go_ret3
        have hA := HAA.out
        subst hA
        exact ⟨rfl, Hbel.out⟩
      · rw [if_neg hend] at hA
        have HAA := Lib.hid hA
        clear hvs hbel hAk hpre hA
        go_wp2_with fail
        go_ret3
        have hA := HAA.out
        subst hA
        exact ⟨_, rfl, Hvs.out, Hbel.out⟩
end Go.Proofs.YtoflfbcjlddjaaaDoor
