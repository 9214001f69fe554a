/-
  stavelaw3.GfAdds: the walk.
-/
import Derived.Test.YtdpjbemhgcdeoaaFAdd
import Derived.Test.YtdpjbemhgcdeoaaFField
import Derived.Test.YtdpjbemhgcdeoaaIntact
import Derived.Test.YtdpjbemhgcdeoaaOpenB
import Derived.Deep.RegionHeld3
import Derived.Deep.DeepCutAuto
namespace Go.Proofs.Ytdpjbemhgcdeoaa
open Go.RowKit Gf
def CutAdds (w1 : World) (s8 s9 : Value) (wx : World) : Prop := ∃ l1 l2 : List UInt8, l1.length ≤ 40 ∧ l2.length ≤ 40 ∧ wx.ownsRow w1.heap.size 5 1 s8 l1.length (bytesV l1) ∧ SlB w1.heap.size wx s9 l2 ∧ Below w1.heap.size w1 wx
theorem app_below {w1 w2 : World} {o : Obj} {r : Option Nat} (hg : Grew (w1.alloc o).drew (some w1.heap.size) w2 r) : Below w1.heap.size w1 w2 :=
  Below.trans (b := (w1.alloc o).drew) (one_below w1 o).drew (hg.below (by show _ ≤ (w1.alloc o).heap.size; simp) (fun k hk => by injection hk with hk; omega))
def RelAds (w4 : World) (n : Nat) (i : Value) (wr : World) : Prop := ∃ k d : Nat, k ≤ n ∧ i = .int .i64 k ∧ wr = w4.drewN d
theorem app_below0 {w1 w2 : World} {o : Obj} {r : Option Nat} (hg : Grew (w1.alloc o) (some w1.heap.size) w2 r) : Below w1.heap.size w1 w2 :=
  Below.trans (b := w1.alloc o) (one_below w1 o) (hg.below (by simp) (fun k hk => by injection hk with hk; omega))
set_option maxHeartbeats 2000000 in
set_option maxRecDepth 100000 in
theorem adds_any (tv fv : Value) (ts fs : List UInt8) (x : Nat) (w : World) (ht : SlB w.heap.size w tv ts) (hf : SlB w.heap.size w fv fs) (hx : x < 256) (hlt : ts.length ≤ maxLen) (hlf : fs.length ≤ maxLen) :
    Calls Try.prog 7 #[tv, fv, .int .u8 x] w (Bit true w) := by
  unfold maxLen at hlt hlf
  have HT := Lib.hid ht
  have HFR := Lib.hid hf
  obtain ⟨a1, cap1, rfl, hc1⟩ := ht.len
  obtain ⟨a2, cap2, rfl, hc2⟩ := hf.len
  clear ht hf
  go_enter Try.func7, Try.ntmps7
  go_wp2_with fail
  go_at_call 10
  refine (make_any _).mono ?_
  rintro e w1 ⟨rfl, hF, hz, hbl⟩
  have HF := Lib.hid hF
  have HZ := Lib.hid hz
  clear hF hz
  have HT1 := Lib.hid (HT.out.below hbl)
  have HF1 := Lib.hid (HFR.out.below hbl)
  have hm1 : (if (40 : Int) < ts.length then (40 : Int) else ts.length) = ((min ts.length 40 : Nat) : Int) := by split <;> omega
  have hm2 : (if (40 : Int) < fs.length then (40 : Int) else fs.length) = ((min fs.length 40 : Nat) : Int) := by split <;> omega
  have b1 : min ts.length 40 ≤ ts.length ∧ min ts.length 40 ≤ 40 ∧ min ts.length 40 ≤ cap1 := by omega
  have b2 : min fs.length 40 ≤ fs.length ∧ min fs.length 40 ≤ 40 ∧ min fs.length 40 ≤ cap2 := by omega
  generalize min ts.length 40 = n1 at *
  generalize min fs.length 40 = n2 at *
  obtain ⟨b11, b12, b13⟩ := b1
  obtain ⟨b21, b22, b23⟩ := b2
  have HSRC := Lib.hid (show ∀ o : Obj, SlB w.heap.size (w1.alloc o).drew (.slice a1 n1 cap1) (ts.take n1) from fun o => SlB.mono (slb_take HT1.out b11) (fun b o' hb => (one_below w1 o).cell (p := ⟨b, o', none⟩) (by have := HZ.out; show b < _; omega)))
  go_upto_region 4 with fail
  go_cut [8, 9] (fun s8 s9 wx => CutAdds w1 s8 s9 wx)
  case first =>
    go_region_held3 (fun w' => Below w1.heap.size w1 w') (repeat (first | assumption | exact Below.refl _ _ | apply Below.drew | apply below_drewN | refine Below.alloc ?_ (Nat.le_refl _) _)) ((refine step_append_bytes (o := ⟨some 23, _, _, _, _, _⟩) _ rfl (.tmp 17) (.tmp 22) (by rfl) w1.heap.size _ 0 [] (by rfl) (own_new w1 w1.heap.size #[] 5 1 0 (Nat.le_refl _) rfl (by decide)) w.heap.size _ (ts.take n1) (by rfl) (HSRC.out _) (by rw [List.length_take]; omega) (by simp) ?_; intro v2 w2 hown hg; have hb2 := app_below hg; have Hown := Lib.hid hown; clear hown hg))
    all_goals
      go_wp2_with fail
      go_meet
      have hn1 : (ts.take n1).length = n1 := by rw [List.length_take]; omega
      have hn2 : (fs.take n2).length = n2 := by rw [List.length_take]; omega
      exact ⟨ts.take n1, fs.take n2, by omega, by omega, by have := Hown.out; rwa [Nat.zero_add, List.nil_append] at this, ((slb_take HF1.out b21).wider (by have := HZ.out; omega)).below hb2, hb2⟩
  case rest =>
    obtain ⟨l1, l2, hl1, hl2, hown, hsl, hbx⟩ := hcut
    obtain ⟨g8, c8, rfl, hc8⟩ := own_slice hown
    obtain ⟨g9, c9, rfl, hc9⟩ := hsl.len
    have HO8 := Lib.hid hown
    have HS9 := Lib.hid hsl
    have HBX := Lib.hid hbx
    clear hown hsl hbx
    go_wp2_with (at_builtin; refine wpList_append_bytes _ rfl _ _ rfl wc.heap.size _ _ _ rfl (own_new wc wc.heap.size #[] 5 1 0 (Nat.le_refl _) rfl (by decide)) wc.heap.size _ l1 rfl ((slb_own HO8.out).below ((Below.refl _ _).alloc (Nat.le_refl _) _)) (by omega) (by simp) ?_; intro v2 w2 hown hg; have hb2 := app_below0 hg; have Hw := Lib.hid hown; clear hown hg)
    have HB2 := Lib.hid hb2
    clear hb2
    rw [Nat.zero_add, List.nil_append] at Hw
    have HA2 := Lib.hid (own_below HO8.out HB2.out)
    have HS2 := Lib.hid (HS9.out.below (HB2.out.mono HBX.out.size))
    obtain ⟨g10, c10, rfl, hc10⟩ := own_slice Hw.out
    -- Roomy
    go_at_call 19
    refine (roomy_bytes w1.heap.size _ l2 7 w2 HS2.out (Nat.le_trans HBX.out.size HB2.out.size) (by omega) (by omega)).mono ?_
    rintro e w3 ⟨rfl, hroom, hb3⟩
    have HB3 := Lib.hid hb3
    have HR3 := Lib.hid hroom
    clear hb3 hroom
    have HA3 := Lib.hid (own_below HA2.out HB3.out)
    have HW3 := Lib.hid (own_below Hw.out HB3.out)
    have hfb : w.heap.size < w1.heap.size := by have := HZ.out; omega
    have HF3 := Lib.hid (((HF.out.below hfb HBX.out).below (Nat.lt_of_lt_of_le hfb HBX.out.size) HB2.out).below (Nat.lt_of_lt_of_le hfb (Nat.le_trans HBX.out.size HB2.out.size)) HB3.out)
    have HT3 := Lib.hid (room_head HR3.out)
    have HNE := Lib.hid (show (Value.slice g8 l1.length c8).ownBlock ≠ some w.heap.size from fun e => by have := (own_block HA3.out e).1; omega)
    go_wp2_with fail
    go_at_call 20
    refine (add_any w.heap.size w1.heap.size w3.heap.size _ _ l1 l2 x w3 HF3.out hx HA3.out HT3.out (Nat.le_refl _) HNE.out (by omega) (by omega)).mono ?_
    rintro e w4 ⟨rfl, ha4, hg4⟩
    rw [addB_length] at ha4
    have HA4 := Lib.hid ha4
    have HG4 := Lib.hid hg4
    have HF4 := Lib.hid (HF3.out.grew hg4 HNE.out)
    have HW4 := Lib.hid (World.ownsRow.kept HW3.out hg4.by_ (own_apart HO8.out Hw.out (Nat.le_refl _)))
    have HR4 := Lib.hid (World.ownsRow.kept HR3.out hg4.by_ (own_apart HA2.out HR3.out (Nat.le_refl _)))
    have HS4 := Lib.hid (show SlB w1.heap.size w4 (.slice g9 l2.length c9) l2 from ((HS2.out.below (HB3.out.mono (Nat.le_trans HBX.out.size HB2.out.size))).below (hg4.below (Nat.le_trans HBX.out.size (Nat.le_trans HB2.out.size HB3.out.size)) fun k hk => (own_block HA3.out hk).1)))
    have HZ4 := Lib.hid ((((hbl.trans (HBX.out.mono (by omega))).trans (HB2.out.mono (by have := HBX.out.size; omega))).trans (HB3.out.mono (by have := HBX.out.size; have := HB2.out.size; omega))).trans (hg4.below (by have := HBX.out.size; have := HB2.out.size; have := HB3.out.size; omega) fun k hk => by have := (own_block HA3.out hk).1; omega))
    have hs4 := hg4.by_.size
    have HS4H := Lib.hid hs4
    clear ha4 hg4 hs4
    go_wp2_with fail
    go_loopw [44] (fun i wr => RelAds w4 l1.length i wr) (fun i _ => l1.length - (intOf i).toNat)
    case atStart => exact ⟨0, 0, by omega, rfl, drewN_0 _⟩
    case round =>
      obtain ⟨k, d, hk, rfl, rfl⟩ := hrel
      by_cases hkm : k < l1.length
      · obtain ⟨gb, rfl⟩ := own_addr HA4.out (by omega)
        obtain ⟨gw, rfl⟩ := own_addr HW4.out (by omega)
        have c1 := own_cell HA4.out (i := k) (u := .int .u8 ((addB l1 l2 x).getD k 0).toNat) (bytesV_at (by rw [addB_length]; exact hkm))
        have c2 := own_cell HW4.out (i := k) (bytesV_at hkm)
        rw [addB_getD _ _ _ _ hkm] at c1
        have hl1 : (l1.getD k 0).toNat < 256 := UInt8.toNat_lt _
        by_cases hk2 : k < l2.length
        · rw [if_pos hk2] at c1
          have hl2 : (l2.getD k 0).toNat < 256 := UInt8.toNat_lt _
          obtain ⟨b3, o3, cap3, h3, c3⟩ := HS4.out.byte (by have := HBX.out.size; have := HB2.out.size; have := HB3.out.size; have := HS4H.out; omega) (Below.refl _ _) hk2
          injection h3 with h3 _ h3'
          subst h3 h3'
          have hx1 := u8_xor_nat (l1.getD k 0).toNat (mul (l2.getD k 0).toNat x) hl1 (mul_lt _ _)
          generalize (l1.getD k 0).toNat = lk at *
          generalize (l2.getD k 0).toNat = mk at *
          go_wp2_with (go_at_call 11; refine (mul_as _ _ (by repeat (first | exact HF4.out | apply FieldIn.drewN)) x mk (mul mk x) hx hl2 (mul_comm _ _)).mono ?_; rintro e w' ⟨rfl, d1, rfl⟩)
          go_roundw
          case rel => exact ⟨k + 1, d + d1, by omega, by go_num, rfl⟩
          case measure => simp [intOf]; omega
        · rw [if_neg hk2] at c1
          generalize (l1.getD k 0).toNat = lk at *
          go_wp2_with fail
          go_roundw
          case rel => exact ⟨k + 1, d, by omega, by go_num, rfl⟩
          case measure => simp [intOf]; omega
      · obtain rfl : k = l1.length := by omega
        have HS9X := Lib.hid HS4.out
        go_wp2_with fail
        go_at_call 20
        refine (add_any w.heap.size w1.heap.size (w4.drewN d).heap.size _ _ (addB l1 l2 x) l2 x (w4.drewN d) (HF4.out.drewN d) hx (by rw [addB_length]; exact HA4.out) (room_head (w := w4.drewN d) HR4.out) (Nat.le_refl _) HNE.out (by rw [addB_length]; omega) (by omega)).mono ?_
        rintro e w5 ⟨rfl, ha5, hg5⟩
        rw [addB_twice] at ha5
        have HA5 := Lib.hid ha5
        have HW5 := Lib.hid (World.ownsRow.kept (w := w4.drewN d) HW4.out hg5.by_ (own_apart HO8.out Hw.out (Nat.le_refl _)))
        have HR5 := Lib.hid (World.ownsRow.kept (w := w4.drewN d) HR4.out hg5.by_ (own_apart HA2.out HR3.out (Nat.le_refl _)))
        have hw14 : w1.heap.size ≤ w4.heap.size := by have := HBX.out.size; have := HB2.out.size; have := HB3.out.size; have := HS4H.out; omega
        have hb45 : Below w1.heap.size (w4.drewN d) w5 := hg5.below hw14 fun k hk => (own_block HA3.out hk).1
        have HS5 := Lib.hid (SlB.below (w := w4.drewN d) HS4.out hb45)
        have HZ5 := Lib.hid ((below_drewN HZ4.out d).trans (hb45.mono (by omega)))
        have hw5 := Nat.le_trans hw14 hb45.size
        have HW5S := Lib.hid hw5
        clear ha5 hg5 hb45 hw14 hw5
        go_wp2_with fail
        go_at_call 21
        refine (same_bytes w5.heap.size _ _ l1 l1 w5 (slb_own HA5.out) (slb_own HW5.out) (Nat.le_refl _) (by omega)).mono ?_
        rw [decide_eq_true rfl]
        rintro e w6 ⟨rfl, hb6⟩
        have HB6 := Lib.hid hb6
        clear hb6
        go_wp2_with fail
        go_at_call 22
        refine (intact_bytes w5.heap.size _ _ l2 7 w6 ((room_whole HR5.out).below HB6.out) ((HS5.out.wider HW5S.out).below HB6.out) HB6.out.size (by omega) (by omega)).mono ?_
        rintro e w7 ⟨rfl, hb7⟩
        have HB7 := Lib.hid hb7
        clear hb7
        go_wp2_with fail
        go_at_call 3
        refine (runs_any _).mono ?_
        rintro e w8 ⟨rfl, hb8⟩
        go_wp2
        go_ret
        exact bit rfl (bthen (bthen (bthen HZ5.out HB6.out) HB7.out) hb8)
end Go.Proofs.Ytdpjbemhgcdeoaa
