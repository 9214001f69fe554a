/-
  frame.write.
-/
import Derived.Test.YtjkponhdpeelpaaHNum
import Derived.Test.YtjkponhdpeelpaaHIn
namespace Go.Proofs.Ytjkponhdpeelpaa
open Go.RowKit Crc Hf
theorem two_lit {a b : Int} (ha : 0 ≤ a) (hb : 0 ≤ b) (ha' : a < 256) (hb' : b < 256) : (#[.int .u8 a, .int .u8 b] : Array Value).toList = bytesV [UInt8.ofNat a.toNat, UInt8.ofNat b.toNat] := by
  show [_, _] = [Value.int .u8 ((UInt8.ofNat a.toNat).toNat : Nat), Value.int .u8 ((UInt8.ofNat b.toNat).toNat : Nat)]
  rw [ofNat_toNat, ofNat_toNat, show ((a.toNat % 256 : Nat) : Int) = a by omega, show ((b.toNat % 256 : Nat) : Int) = b by omega]
theorem own_base {w : World} {B B' e size n : Nat} {v : Value} {xs : List Value} (h : w.ownsRow B e size v n xs) (hB : B' ≤ B) : w.ownsRow B' e size v n xs := by
  obtain ⟨h1, h2⟩ := h
  refine ⟨h1, ?_⟩
  rcases h2 with h2 | ⟨g, cap, cur, hv, hg, r⟩
  · exact Or.inl h2
  · exact Or.inr ⟨g, cap, cur, hv, Nat.le_trans hB hg, r⟩
theorem appNum_int {B : Nat} {w0 : World} {v : Value} {l : List UInt8} {n : Int} (size : Nat) {m : Int} {w : World} (hm : m = (size : Int)) (h : Laid B w0 v l w) (hl : l.length ≤ 10000) (hs : size ≤ 8) (hn : 0 ≤ n) :
    Calls Try.prog 29 #[v, .int .i64 n, .int .i64 m] w (fun e w' => ∃ v', e = .returned v' ∧ Laid B w0 v' (l ++ le size n.toNat) w') := by
  subst hm
  obtain ⟨k, rfl⟩ := Int.eq_ofNat_of_zero_le hn
  refine (appNum_any B v l k size w h.1 h.2.2 hl hs).mono ?_
  rintro e w' ⟨v', rfl, ho, hg⟩
  exact ⟨v', rfl, laid_num h ho hg⟩
set_option maxHeartbeats 1000000 in
set_option maxRecDepth 100000 in
theorem write_any (tb : Nat) (f : Fr) (w : World) (hT : TableIn w tb) (ht : tb < w.heap.size) (hi : f.is) (hr : Hf.Right f) :
    Calls Try.prog 20 #[.pointer (some ⟨tb, 0, none⟩), .agg (frA f)] w (MadeB (body f) w) := by
  have hmk := make_room
  have hc : (Value.agg (frA f)).cells = frA f := rfl
  obtain ⟨k1, k2, s1, s2, t1, t2, g1, g2⟩ := hr
  have HF := Lib.hid (frIn_new w f hi)
  have HM := Lib.hid (show Laid (w.heap.size + 1) (w.alloc (.cells (frA f) 24)) (.slice (some ⟨w.heap.size + 1, 0, none⟩) 0 128) [] ((w.alloc (.cells (frA f) 24)).alloc (.cells (madeCells #[.int .u8 0] 128) 5)) from ⟨made_own (by simp), Below.alloc (Below.refl _ _) (by simp) _, by simp⟩)
  have HT := Lib.hid (hT.below ht (one_below w (.cells (frA f) 24)))
  have HLIT := Lib.hid (two_lit (a := f.k) (b := f.s) (by omega) (by omega) (by omega) (by omega))
  clear hT
  go_enter Try.func20, Try.ntmps20
  go_wp2_with (first
    | (at_builtin; refine wpList_append_str (o := ⟨some 8, _, _, _, _, _⟩) _ rfl (.tmp 7) (.const _) rfl (w.heap.size + 1) _ _ _ rfl HM.out.1 _ rfl (by decide) (by simp) ?_; intro v2 w2 hown hg; have H2 := Lib.hid (laid_str (m := [83, 84]) HM.out rfl rfl hown hg); have F2 := Lib.hid (HF.out.below (by omega) H2.out.2.1); have c0 := F2.out.c0; have c1 := F2.out.c1; have z2 := H2.out.2.2; clear hown hg)
    | (at_builtin; go_loud (refine wpList_append_bytes (o := ⟨some 17, _, _, _, _, _⟩) _ rfl (.tmp 9) (.tmp 16) rfl (w.heap.size + 1) _ _ _ rfl (own_below H2.out.1 (one_below _ _)) (w2.heap.size + 1) _ [UInt8.ofNat f.k.toNat, UInt8.ofNat f.s.toNat] rfl (new_slb _ rfl HLIT.out) (by simp) (by simp; omega) ?_; intro v3 w3 hown hg; have H3 := Lib.hid (laid_lit H2.out (one_below _ _) hown hg); clear c0 c1; have F3 := Lib.hid (HF.out.below (by omega) H3.out.2.1); have c2 := F3.out.c2; have z3 := H3.out.2.2; clear hown hg)))
  refine (appNum_int 4 rfl H3.out (by simp) (by omega) t1).mono ?_
  rintro e w4 ⟨v4, rfl, h4⟩
  have H4 := Lib.hid h4
  clear c2 h4
  have F4 := Lib.hid (HF.out.below (by omega) H4.out.2.1)
  have c3 := F4.out.c3
  have z4 := H4.out.2.2
  go_wp2_with fail
  refine (appNum_int 8 rfl H4.out (by simp [Hf.le_length]) (by omega) g1).mono ?_
  rintro e w5 ⟨v5, rfl, h5⟩
  have H5 := Lib.hid h5
  clear c3 h5
  have F5 := Lib.hid (HF.out.below (by omega) H5.out.2.1)
  have z5 := H5.out.2.2
  have D5 := Lib.hid F5.out.data
  have L5 := Lib.hid hi
  clear hi
  go_wp2_with (at_builtin; go_loud (refine wpList_append_bytes (o := ⟨some 29, _, _, _, _, _⟩) _ rfl (.tmp 26) (.tmp 28) rfl (w.heap.size + 1) _ _ _ rfl H5.out.1 (w.heap.size + 1) _ f.d rfl D5.out (by have := L5.out; unfold Fr.is at this; simp [Hf.le_length]; omega) z5 ?_; intro v6 w6 hown hg; have H6 := Lib.hid (laid_lit H5.out (Below.refl _ _) hown hg); clear hown hg))
  have HS := Lib.hid (show Laid (w.heap.size + 1) (w.alloc (.cells (frA f) 24)) v6 (head f) w6 from H6.out)
  have HL := Lib.hid (head_length L5.out)
  have HT6 := Lib.hid (HT.out.below (by simp; omega) (HS.out.2.1.mono (by simp)))
  refine (sum_any _ tb _ (head f) _ HT6.out (slb_own HS.out.1) (by have := HL.out; omega)).mono ?_
  rintro e w' ⟨rfl, rfl⟩
  have hq := sum_lt (head f)
  have HE := Lib.hid (show head f ++ le 4 ((sum (head f) : Nat) : Int).toNat = body f from rfl)
  generalize sum (head f) = q at *
  clear H6 D5 F5 H5 H4 H3 H2 F4 F3 F2 HM
  go_wp2_with fail
  refine (appNum_int 4 rfl HS.out (by have := HL.out; omega) (by omega) (by omega)).mono ?_
  rintro e w7 ⟨v7, rfl, h7⟩
  rw [HE.out] at h7
  have H7 := Lib.hid h7
  clear h7
  go_wp2_with fail
  go_ret
  refine ⟨_, rfl, own_base (B' := w.heap.size) H7.out.1 (Nat.le_succ _), (one_below _ _).trans (H7.out.2.1.mono (Nat.le_succ _))⟩
end Go.Proofs.Ytjkponhdpeelpaa
