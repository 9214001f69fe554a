/-
  stavelaw7.FrameOnly: the walk.
-/
import Derived.Test.YtjkponhdpeelpaaHRuns
import Derived.Test.YtjkponhdpeelpaaWithinI
import Derived.Test.YtjkponhdpeelpaaKTurnL
namespace Go.Proofs.Ytjkponhdpeelpaa
open Go.RowKit Crc Hf
theorem same_yes {va vb : Value} {l : List UInt8} (w : World) (ha : SlB w.heap.size w va l) (hb : SlB w.heap.size w vb l) (hl : l.length ≤ 100000) : Calls Try.prog 11 #[va, vb] w (Bit true w) := by
  have := same_bytes w.heap.size va vb l l w ha hb (Nat.le_refl _) hl
  rwa [decide_eq_true rfl] at this
theorem empty_own {W : World} {g : Nat} (h : W.heap.size = g) : (W.alloc (.cells #[] 5)).ownsRow g 5 1 (.slice (some ⟨g, 0, none⟩) 0 0) ([] : List UInt8).length (bytesV []) := by
  subst h
  exact own_new W W.heap.size #[] 5 1 0 (Nat.le_refl _) rfl (by decide)
theorem laid_empty {W : World} {g : Nat} (h : W.heap.size = g) : Laid g W (.slice (some ⟨g, 0, none⟩) 0 0) [] (W.alloc (.cells #[] 5)) := ⟨empty_own h, by subst h; exact one_below _ _, by subst h; simp⟩
/-- A row's byte turned. -/
theorem laid_turn {B : Nat} {w0 w : World} {g c n : Nat} {l : List UInt8} (h : Laid B w0 (.slice (some ⟨g, 0, none⟩) n c) l w) (hn : n = l.length) (k x : Nat) (hx : x < 256) (v : Int) (hv : v = bits .xor .u8 ((l.getD k 0).toNat : Int) (x : Int)) :
    Laid B w0 (.slice (some ⟨g, 0, none⟩) n c) (l.set k (l.getD k 0 ^^^ UInt8.ofNat x)) (w.setCell ⟨g, k, none⟩ (.int .u8 v)) := by
  subst hn
  have hv' := turn_val (l.getD k 0) x (x : Int) (by omega)
  refine ⟨?_, h.2.1.setCell (own_lt h.1).1 _, by simpa using h.2.2⟩
  rw [List.length_set, ← bytesV_set, hv, hv']
  exact own_set h.1 k _
set_option maxHeartbeats 4000000 in
set_option maxRecDepth 100000 in
theorem only_yes (f : Fr) (v : Value) (n : Int) (x : Nat) (w : World) (hi : f.is) (hr : rightB f = true) (hx : x < 256) :
    Calls Try.prog 8 #[.agg (frA f), v, .int .i64 n, .int .u8 x] w (Bit true w) := by
  have hc : (Value.agg (frA f)).cells = frA f := rfl
  have hz := szFr_run
  have hz0 := zero_frame
  have hsz : (frC zeroF).length = szFr := frC_length zeroF_is
  have hc0 : (Value.agg (frA zeroF)).cells = frA zeroF := rfl
  have CX := Lib.hid (fun w => runs_any w)
  have F0 := Lib.hid (frIn_new w f hi)
  have HPL := Lib.hid (put_len hi hr)
  have HM := Lib.hid (laid_empty (W := w.alloc (.cells (frA f) 24)) (g := w.heap.size + 1) (by simp))
  have F1 := Lib.hid (F0.out.below (by simp) (one_below _ (.cells #[] 5)))
  have CP := Lib.hid (put_any f ((w.alloc (.cells (frA f) 24)).alloc (.cells #[] 5)) hi)
  clear hr
  generalize Hf.put f = L at *
  go_enter Try.func8, Try.ntmps8
  go_wp2_with (first
    | (refine wpList_load_fr (op := ⟨some 13, _, _, _, _, _⟩) rfl (.tmp 4) rfl rfl F1.out ?_)
    | ((with_reducible refine CP.out.mono ?_); rintro e w2 ⟨v2, rfl, ho, hb⟩; have HS2 := Lib.hid (slb_own ho); have HBB := Lib.hid hb; have HK := Lib.hid (show w.heap.size + 1 ≤ w2.heap.size from Nat.le_trans (by simp) hb.size); clear ho hb)
    | (at_builtin; (refine wpList_append_bytes (o := ⟨some 15, _, _, _, _, _⟩) _ rfl (.tmp 12) (.tmp 14) rfl (w.heap.size + 1) _ _ _ rfl (own_below HM.out.1 HBB.out) w2.heap.size _ L rfl HS2.out (by rw [HPL.out]; decide) HK.out ?_; intro v3 w3 hown hg; have H3 := Lib.hid (show Laid (w.heap.size + 1) _ v3 L w3 from laid_lit HM.out HBB.out hown hg); have ho3 := H3.out.1; rw [HPL.out] at ho3; obtain ⟨g3, c3, rfl, hc3⟩ := own_slice ho3; obtain ⟨gb, rfl⟩ := own_addr ho3 (by decide); clear hown hg ho3)))
  have hws : Below w.heap.size w (w.alloc (.cells (frA f) 24)) := one_below _ _
  have HWS := Lib.hid hws
  clear hws HM F1 CP HBB HS2
  refine (within_int n 0 127 w3 (by omega) (by omega) (by omega)).mono ?_
  rintro e w' ⟨k, ⟨hk0, hk1⟩, rfl, rfl⟩
  obtain ⟨k, rfl⟩ := Int.eq_ofNat_of_zero_le hk0
  have hk : k < 128 := by omega
  clear hk0 hk1
  have hlen : k < L.length := by rw [HPL.out]; exact hk
  have HO := Lib.hid (show w3.ownsRow (w.heap.size + 1) 5 1 (.slice (some ⟨gb, 0, none⟩) 128 c3) 128 (bytesV L) by have := H3.out.1; rwa [HPL.out] at this)
  have c1 := own_cell HO.out (bytesV_at hlen)
  have c2 := own_frozen HO.out k
  have HT := Lib.hid (fun v hv => laid_turn H3.out HPL.out.symm k x hx v hv)
  have HTL := Lib.hid (show (L.set k (L.getD k 0 ^^^ UInt8.ofNat x)).length = 128 by rw [List.length_set]; exact HPL.out)
  generalize L.set k (L.getD k 0 ^^^ UInt8.ofNat x) = T at *
  generalize (L.getD k 0).toNat = y at *
  have HT2 := Lib.hid (HT.out _ rfl)
  have HSL := Lib.hid (show SlB (w3.setCell ⟨gb, k, none⟩ (.int .u8 (bits .xor .u8 (y : Int) (x : Int)))).heap.size (w3.setCell ⟨gb, k, none⟩ (.int .u8 (bits .xor .u8 (y : Int) (x : Int)))) (.slice (some ⟨gb, 0, none⟩) 128 c3) T from slb_own HT2.out.1)
  have HB := Lib.hid (show Below w.heap.size w (w3.setCell ⟨gb, k, none⟩ (.int .u8 (bits .xor .u8 (y : Int) (x : Int)))) from HWS.out.trans (HT2.out.2.1.mono (Nat.le_succ _)))
  have HLT := Lib.hid (show T.length ≤ 100000 by rw [HTL.out]; decide)
  clear HT HT2 H3 HO hlen
  generalize hw4 : w3.setCell ⟨gb, k, none⟩ (.int .u8 (bits .xor .u8 (y : Int) (x : Int))) = w4 at *
  by_cases hgd0 : goodB T = true
  · obtain ⟨hr2, hp2⟩ := good_only hgd0
    have hig := got_is T
    have CG := Lib.hid (show Calls Try.prog 10 #[.slice (some ⟨gb, 0, none⟩) 128 c3] w4 (FrameBit (got T) true w4) by
      have := get_any _ _ _ _ HSL.out (Nat.le_refl _)
      rwa [hgd0] at this)
    clear hgd0
    generalize got T = g at *
    have CR := Lib.hid (fun w => show Calls Try.prog 12 #[.agg (frA g)] w (Bit true w) from hr2 ▸ right_any g w)
    have CP2 := Lib.hid (fun w => show Calls Try.prog 9 #[.agg (frA g)] w (MadeB T w) from hp2 ▸ put_any g w hig)
    have hsg : (frC g).length = szFr := frC_length hig
    have hst : ∀ W : World, (storeCells ⟨W.heap.size, 0, none⟩ (frC g) 0).run Try.prog (W.alloc (.cells (frA zeroF) 24)) = .ok () (W.alloc (.cells (frA g) 24)) := fun W => storeCells_frame zeroF_is hig W
    clear hr2 hp2
    go_wp2_with (first
      | ((with_reducible refine CG.out.mono ?_); rintro e w5 ⟨rfl, hb5⟩; have hfa := frIn_new w5 g hig; have hlg : ∀ w', FrIn g w5.heap.size w' → (loadCellsFrom ⟨w5.heap.size, 0, none⟩ 0 szFr #[]).run Try.prog w' = .ok (frA g) w' := (fun w' h => h.load); have HB5 := Lib.hid (balloc (bthen HB.out hb5) (.cells (frA g) 24)); have HS5 := Lib.hid (((HSL.out.below hb5).wider hb5.size).below (one_below w5 (.cells (frA g) 24))); clear hb5)
      | ((with_reducible refine (CR.out _).mono ?_); rintro e w6 ⟨rfl, hb⟩; have hfb := hfa.below (by simp) hb; have HB6 := Lib.hid (bthen HB5.out hb); have HS6 := Lib.hid ((HS5.out.below (hb.mono (by simp))).wider (Nat.le_trans (by simp) hb.size)); clear hb)
      | ((with_reducible refine (CP2.out _).mono ?_); rintro e w7 ⟨v7, rfl, ho, hb⟩; have HS7 := Lib.hid (slb_own ho); have HB7 := Lib.hid (bthen HB6.out hb); have HS8 := Lib.hid ((HS6.out.below hb).wider hb.size); clear ho hb)
      | ((with_reducible refine (same_yes _ HS7.out HS8.out HLT.out).mono ?_); rintro e w8 ⟨rfl, hb⟩; have HB8 := Lib.hid (bthen HB7.out hb); clear hb)
      | ((with_reducible refine (CX.out _).mono ?_); rintro e w9 ⟨rfl, hb⟩; have HB9 := Lib.hid (bthen HB8.out hb); clear hb))
    go_ret
    exact bit rfl HB9.out
  · have hgf : goodB T = false := by simpa using hgd0
    have CG := Lib.hid (show Calls Try.prog 10 #[.slice (some ⟨gb, 0, none⟩) 128 c3] w4 (FrameBit zeroF false w4) by
      have := get_any _ _ _ _ HSL.out (Nat.le_refl _)
      rwa [hgf, got_no hgf] at this)
    have hst : ∀ W : World, (storeCells ⟨W.heap.size, 0, none⟩ (frC zeroF) 0).run Try.prog (W.alloc (.cells (frA zeroF) 24)) = .ok () (W.alloc (.cells (frA zeroF) 24)) := fun W => storeCells_frame zeroF_is zeroF_is W
    have hgd := guard_frame
    have heq := eql_yes zeroF_is zeroF_is rfl
    clear hgf hgd0
    go_wp2_with (first
      | ((with_reducible refine CG.out.mono ?_); rintro e w5 ⟨rfl, hb5⟩; have hfa := frIn_new w5 zeroF zeroF_is; have hlg : ∀ w', FrIn zeroF w5.heap.size w' → (loadCellsFrom ⟨w5.heap.size, 0, none⟩ 0 szFr #[]).run Try.prog w' = .ok (frA zeroF) w' := (fun w' h => h.load); have HB5 := Lib.hid (balloc (bthen HB.out hb5) (.cells (frA zeroF) 24)); clear hb5)
      | ((with_reducible refine (CX.out _).mono ?_); rintro e w9 ⟨rfl, hb⟩; have HB9 := Lib.hid (bthen HB5.out hb); clear hb))
    go_ret
    exact bit rfl HB9.out
set_option maxHeartbeats 4000000 in
set_option maxRecDepth 100000 in
theorem only_no (f : Fr) (v : Value) (bs : List UInt8) (n : Int) (x : Int) (w : World) (hi : f.is) (hr : rightB f = false) (h : SlB w.heap.size w v bs) :
    Calls Try.prog 8 #[.agg (frA f), v, .int .i64 n, .int .u8 x] w (Bit true w) := by
  have hc : (Value.agg (frA f)).cells = frA f := rfl
  have hz := szFr_run
  have hz0 := zero_frame
  have hsz : (frC zeroF).length = szFr := frC_length zeroF_is
  have hc0 : (Value.agg (frA zeroF)).cells = frA zeroF := rfl
  have CX := Lib.hid (fun w => runs_any w)
  have F0 := Lib.hid (frIn_new w f hi)
  have HM := Lib.hid (laid_empty (W := w.alloc (.cells (frA f) 24)) (g := w.heap.size + 1) (by simp))
  have F1 := Lib.hid (F0.out.below (by simp) (one_below _ (.cells #[] 5)))
  have CP := Lib.hid (by have := put_any f ((w.alloc (.cells (frA f) 24)).alloc (.cells #[] 5)) hi; rwa [put_no hr] at this)
  obtain ⟨a, cap, rfl, hcap⟩ := h.len
  have H := Lib.hid (slb_take (m := min bs.length 128) h (by omega))
  have hm : (if (128 : Int) < bs.length then 128 else (bs.length : Int)) = ((min bs.length 128 : Nat) : Int) := by split <;> omega
  have hlt : (bs.take (min bs.length 128)).length = min bs.length 128 := by rw [List.length_take]; omega
  have hb200 : min bs.length 128 ≤ 128 := by omega
  have hbc : min bs.length 128 ≤ cap := by omega
  clear h hr hcap
  generalize bs.take (min bs.length 128) = ms at *
  generalize min bs.length 128 = m at *
  subst hlt
  have hws : Below w.heap.size w (w.alloc (.cells (frA f) 24)) := one_below _ _
  have HWS := Lib.hid hws
  clear hws
  go_enter Try.func8, Try.ntmps8
  go_wp2_with (first
    | (refine wpList_load_fr (op := ⟨some 13, _, _, _, _, _⟩) rfl (.tmp 4) rfl rfl F1.out ?_)
    | ((with_reducible refine CP.out.mono ?_); rintro e w2 ⟨v2, rfl, ho, hb⟩; have HS2 := Lib.hid (slb_own ho); have HBB := Lib.hid hb; have HK := Lib.hid (show w.heap.size + 1 ≤ w2.heap.size from Nat.le_trans (by simp) hb.size); clear ho hb)
    | (at_builtin; (refine wpList_append_bytes (o := ⟨some 15, _, _, _, _, _⟩) _ rfl (.tmp 12) (.tmp 14) rfl (w.heap.size + 1) _ _ _ rfl (own_below HM.out.1 HBB.out) w2.heap.size _ ([] : List UInt8) rfl HS2.out (by decide) HK.out ?_; intro v3 w3 hown hg; have H3 := Lib.hid (show Laid (w.heap.size + 1) _ v3 ([] : List UInt8) w3 from laid_lit HM.out HBB.out hown hg); obtain ⟨g3, c3, rfl, hc3⟩ := own_slice (show w3.ownsRow (w.heap.size + 1) 5 1 v3 0 (bytesV []) from H3.out.1); have HB3 := Lib.hid (HWS.out.trans (H3.out.2.1.mono (Nat.le_succ _))); have HM3 := Lib.hid (laid_empty (W := w3) (g := w3.heap.size) rfl); have HS3 := Lib.hid ((H.out.below HB3.out).below ((one_below w3 (.cells #[] 5)).mono HB3.out.size)); have HK3 := Lib.hid HB3.out.size; clear hown hg))
    | (at_builtin; (refine wpList_append_bytes (o := ⟨some 25, _, _, _, _, _⟩) _ rfl (.tmp 19) (.tmp 24) rfl w3.heap.size _ _ _ rfl HM3.out.1 w.heap.size _ ms rfl HS3.out (by simp; omega) (by simp) ?_; intro v4 w4 hown hg; have H4 := Lib.hid (show Laid w3.heap.size w3 v4 ms w4 from laid_lit HM3.out (Below.refl _ _) hown hg); obtain ⟨g4, c4, rfl, hc4⟩ := own_slice H4.out.1; clear hown hg)))
  have HSL := Lib.hid (slb_own H4.out.1)
  have HB := Lib.hid (bthen HB3.out H4.out.2.1)
  have hms : ms.length ≤ 100000 := by omega
  have HLT := Lib.hid hms
  clear hms HM F1 CP HBB HS2 H3 HM3 HS3 H4 H
  by_cases hgd0 : goodB ms = true
  · obtain ⟨hr2, hp2⟩ := good_only hgd0
    have hig := got_is ms
    have CG := Lib.hid (show Calls Try.prog 10 #[.slice g4 ms.length c4] w4 (FrameBit (got ms) true w4) by
      have := get_any _ _ _ _ HSL.out (Nat.le_refl _)
      rwa [hgd0] at this)
    clear hgd0
    generalize got ms = g at *
    have CR := Lib.hid (fun w => show Calls Try.prog 12 #[.agg (frA g)] w (Bit true w) from hr2 ▸ right_any g w)
    have CP2 := Lib.hid (fun w => show Calls Try.prog 9 #[.agg (frA g)] w (MadeB ms w) from hp2 ▸ put_any g w hig)
    have hsg : (frC g).length = szFr := frC_length hig
    have hst : ∀ W : World, (storeCells ⟨W.heap.size, 0, none⟩ (frC g) 0).run Try.prog (W.alloc (.cells (frA zeroF) 24)) = .ok () (W.alloc (.cells (frA g) 24)) := fun W => storeCells_frame zeroF_is hig W
    clear hr2 hp2
    go_wp2_with (first
      | ((with_reducible refine CG.out.mono ?_); rintro e w5 ⟨rfl, hb5⟩; have hfa := frIn_new w5 g hig; have hlg : ∀ w', FrIn g w5.heap.size w' → (loadCellsFrom ⟨w5.heap.size, 0, none⟩ 0 szFr #[]).run Try.prog w' = .ok (frA g) w' := (fun w' h => h.load); have HB5 := Lib.hid (balloc (bthen HB.out hb5) (.cells (frA g) 24)); have HS5 := Lib.hid (((HSL.out.below hb5).wider hb5.size).below (one_below w5 (.cells (frA g) 24))); clear hb5)
      | ((with_reducible refine (CR.out _).mono ?_); rintro e w6 ⟨rfl, hb⟩; have hfb := hfa.below (by simp) hb; have HB6 := Lib.hid (bthen HB5.out hb); have HS6 := Lib.hid ((HS5.out.below (hb.mono (by simp))).wider (Nat.le_trans (by simp) hb.size)); clear hb)
      | ((with_reducible refine (CP2.out _).mono ?_); rintro e w7 ⟨v7, rfl, ho, hb⟩; have HS7 := Lib.hid (slb_own ho); have HB7 := Lib.hid (bthen HB6.out hb); have HS8 := Lib.hid ((HS6.out.below hb).wider hb.size); clear ho hb)
      | ((with_reducible refine (same_yes _ HS7.out HS8.out HLT.out).mono ?_); rintro e w8 ⟨rfl, hb⟩; have HB8 := Lib.hid (bthen HB7.out hb); clear hb)
      | ((with_reducible refine (CX.out _).mono ?_); rintro e w9 ⟨rfl, hb⟩; have HB9 := Lib.hid (bthen HB8.out hb); clear hb))
    go_ret
    exact bit rfl HB9.out
  · have hgf : goodB ms = false := by simpa using hgd0
    have CG := Lib.hid (show Calls Try.prog 10 #[.slice g4 ms.length c4] w4 (FrameBit zeroF false w4) by
      have := get_any _ _ _ _ HSL.out (Nat.le_refl _)
      rwa [hgf, got_no hgf] at this)
    have hst : ∀ W : World, (storeCells ⟨W.heap.size, 0, none⟩ (frC zeroF) 0).run Try.prog (W.alloc (.cells (frA zeroF) 24)) = .ok () (W.alloc (.cells (frA zeroF) 24)) := fun W => storeCells_frame zeroF_is zeroF_is W
    have hgd := guard_frame
    have heq := eql_yes zeroF_is zeroF_is rfl
    clear hgf hgd0
    go_wp2_with (first
      | ((with_reducible refine CG.out.mono ?_); rintro e w5 ⟨rfl, hb5⟩; have hfa := frIn_new w5 zeroF zeroF_is; have hlg : ∀ w', FrIn zeroF w5.heap.size w' → (loadCellsFrom ⟨w5.heap.size, 0, none⟩ 0 szFr #[]).run Try.prog w' = .ok (frA zeroF) w' := (fun w' h => h.load); have HB5 := Lib.hid (balloc (bthen HB.out hb5) (.cells (frA zeroF) 24)); clear hb5)
      | ((with_reducible refine (CX.out _).mono ?_); rintro e w9 ⟨rfl, hb⟩; have HB9 := Lib.hid (bthen HB5.out hb); clear hb))
    go_ret
    exact bit rfl HB9.out
theorem only_any (f : Fr) (v : Value) (bs : List UInt8) (n : Int) (x : Nat) (w : World) (hi : f.is) (hx : x < 256) (h : SlB w.heap.size w v bs) :
    Calls Try.prog 8 #[.agg (frA f), v, .int .i64 n, .int .u8 x] w (Bit true w) := by
  by_cases hr : rightB f = true
  · exact only_yes f v n x w hi hr hx
  · exact only_no f v bs n x w hi (by simpa using hr) h
end Go.Proofs.Ytjkponhdpeelpaa
