/-
  stavelaw7.FrameTells: the walk.
-/
import Derived.Test.YtjkponhdpeelpaaHOnly
import Derived.Test.YtjkponhdpeelpaaHRefRest
import Derived.Test.YtjkponhdpeelpaaHRefPut
import Derived.Test.YtjkponhdpeelpaaIntact
namespace Go.Proofs.Ytjkponhdpeelpaa
open Go.RowKit Crc Hf
theorem slb_then {W w' : World} {v : Value} {l : List UInt8} (h : SlB W.heap.size W v l) (hb : Below W.heap.size W w') (o : Obj) : SlB (w'.alloc o).heap.size (w'.alloc o) v l :=
  (((h.below hb).wider hb.size).below (one_below w' o)).wider (by simp)
theorem intact_7 (B : Nat) (fv v : Value) (l : List UInt8) (w : World) (hf : SlB B w fv (roomL l 7 80)) (h : SlB B w v l) (hB : B ≤ w.heap.size) (hl : l.length ≤ 99000) :
    Calls Try.prog 18 #[fv, v, .int .u8 7] w (Bit true w) := intact_bytes B fv v l 7 w hf h hB (by omega) hl
theorem roomy_7 (B : Nat) (v : Value) (l : List UInt8) (w : World) (h : SlB B w v l) (hB : B ≤ w.heap.size) (hl : l.length ≤ 99000) :
    Calls Try.prog 16 #[v, .int .u8 7] w (Roomed l 7 w) := roomy_bytes B v l 7 w h hB (by omega) (by omega)
set_option maxHeartbeats 4000000 in
set_option maxRecDepth 100000 in
theorem tells_no (f : Fr) (v : Value) (bs : List UInt8) (n : Int) (x : Int) (w : World) (hi : f.is) (hr : rightB f = false) (h : SlB w.heap.size w v bs) :
    Calls Try.prog 4 #[.agg (frA f), v, .int .i64 n, .int .u8 x] w (Bit true w) := by
  have hc : (Value.agg (frA f)).cells = frA f := rfl
  have hz := szFr_run
  have hz0 := zero_frame
  have hsz : (frC zeroF).length = szFr := frC_length zeroF_is
  have hc0 : (Value.agg (frA zeroF)).cells = frA zeroF := rfl
  have CX := Lib.hid (fun w => runs_any w)
  have F0 := Lib.hid (frIn_new w f hi)
  have HPL := Lib.hid (show (Hf.put f).length = 0 by rw [put_no hr]; rfl)
  have CP := Lib.hid (put_any f (w.alloc (.cells (frA f) 24)) hi)
  have CRP := Lib.hid (fun w => refPut_any f w hi)
  have HB0 := Lib.hid (one_below w (.cells (frA f) 24))
  have CR := Lib.hid (fun w => show Calls Try.prog 12 #[.agg (frA f)] w (Bit false w) from hr ▸ right_any f w)
  have CRR := Lib.hid (fun w => show Calls Try.prog 13 #[.agg (frA f)] w (Bit false w) from hr ▸ refRight_any f w)
  generalize Hf.put f = L at *
  have hn0 : ¬ (0 : Int) < L.length := by have := HPL.out; omega
  have hn1 : ¬ 0 < L.length := by have := HPL.out; omega
  obtain ⟨a, cap, rfl, hcap⟩ := h.len
  have H := Lib.hid (slb_take (m := min bs.length 140) h (by omega))
  have hm : (if (140 : Int) < bs.length then 140 else (bs.length : Int)) = ((min bs.length 140 : Nat) : Int) := by split <;> omega
  have hlt : (bs.take (min bs.length 140)).length = min bs.length 140 := by rw [List.length_take]; omega
  have hb200 : min bs.length 140 ≤ 140 := by omega
  have hbc : min bs.length 140 ≤ cap := by omega
  clear h hr hcap
  generalize bs.take (min bs.length 140) = ms at *
  generalize min bs.length 140 = m at *
  subst hlt
  have hll : L.length ≤ 100000 := by have := HPL.out; omega
  have HLL := Lib.hid hll
  clear hll
  go_enter Try.func4, Try.ntmps4
  go_wp2_with (first
    | (refine wpList_load_fr (op := ⟨some 16, _, _, _, _, _⟩) rfl (.tmp 4) rfl rfl F0.out ?_)
    | ((with_reducible refine CP.out.mono ?_); rintro e w2 ⟨v2, rfl, ho, hb⟩; obtain ⟨g2, c2, rfl, hc2⟩ := own_slice ho; have HP2 := Lib.hid (slb_own ho); have hf2 : FrS f w.heap.size w2 w2 := ⟨F0.out.below (by simp) hb, Below.refl _ _, Nat.lt_of_lt_of_le (by simp) hb.size⟩; have HB2 := Lib.hid (bthen HB0.out hb); clear ho hb))
  have hl : ∀ w', FrS f w.heap.size w2 w' → (loadCellsFrom ⟨w.heap.size, 0, none⟩ 0 szFr #[]).run Try.prog w' = .ok (frA f) w' := fun w' h => h.1.load
  go_region_held3 (fun w' => FrS f w.heap.size w2 w') (repeat (first | assumption | refine FrS.drew ?_)) (first
    | (go_at_call 12; (with_reducible refine (CR.out _).mono ?_); rintro e w3 ⟨rfl, hb⟩; have hf3 := FrS.then ‹_› hb; clear hb)
    | (go_at_call 13; (with_reducible refine (CRR.out _).mono ?_); rintro e w4 ⟨rfl, hb⟩; have hf4 := FrS.then hf3 hb; clear hb)
    | (go_at_call 14; (with_reducible refine (CRP.out _).mono ?_); rintro e w5 ⟨v5, rfl, ho, hb⟩; have hf5 := FrS.then hf4 hb; have HO5 := Lib.hid (slb_own ho); have HP5 := Lib.hid ((HP2.out.below hf5.2.1).wider hf5.2.1.size); clear ho hb)
    | (go_at_call 11; (with_reducible refine (same_yes _ HP5.out HO5.out HLL.out).mono ?_); rintro e w6 ⟨rfl, hb⟩; have hf6 := FrS.then hf5 hb; clear hb))
  have HP6 := Lib.hid ((HP2.out.below hf6.2.1).wider hf6.2.1.size)
  have HB6 := Lib.hid (bthen HB2.out hf6.2.1)
  have HS6 := Lib.hid (H.out.below HB6.out)
  have hk6 := HB6.out.size
  clear hf6 hf2 hl HP2 HB2 H CR CRR CRP CP F0 HB0
  have HM6 := Lib.hid (laid_empty (W := w6) (g := w6.heap.size) rfl)
  have HS6b := Lib.hid (HS6.out.below ((one_below w6 (.cells #[] 5)).mono hk6))
  have A1 := Lib.hid (show ([] : List UInt8).length + ms.length ≤ 10000000 by simp; omega)
  go_wp2_with (at_builtin; refine wpList_append_bytes (o := ⟨some 36, _, _, _, _, _⟩) _ rfl (.tmp 30) (.tmp 35) rfl w6.heap.size _ _ _ rfl HM6.out.1 w.heap.size _ ms rfl HS6b.out A1.out (by simp) ?_; intro v7 w7 hown hg; have H7 := Lib.hid (show Laid w6.heap.size w6 v7 ms w7 from laid_lit HM6.out (Below.refl _ _) hown hg); obtain ⟨g7, c7, rfl, hc7⟩ := own_slice H7.out.1; have HP7 := Lib.hid (((HP6.out.below H7.out.2.1).wider H7.out.2.2)); have HP7b := Lib.hid (HP7.out.below (one_below w7 (.cells #[] 5))); have HB7 := Lib.hid (bthen HB6.out H7.out.2.1); have HM7 := Lib.hid (laid_empty (W := w7) (g := w7.heap.size) rfl); clear hown hg)
  have HS := Lib.hid (slb_own H7.out.1)
  have HB := Lib.hid HB7.out
  have HLT := Lib.hid (show ms.length ≤ 99000 by omega)
  clear H7 HP7 HP7b HM7 HM6 HS6b A1 HP6 HS6 hm
  clear hb200 hbc
  generalize ms = l at *
  generalize w7 = w8 at *
  have hig := got_is l
  have CRo := Lib.hid (roomy_7 _ _ l w8 HS.out (Nat.le_refl _) HLT.out)
  have CGo := Lib.hid (fun (W : World) (v : Value) (h : SlB W.heap.size W v l) => get_any _ v l W h (Nat.le_refl _))
  have CHo := Lib.hid (fun (W : World) (v : Value) (h : SlB W.heap.size W v l) => refGet_any _ v l W h (Nat.le_refl _))
  generalize got l = g at *
  generalize goodB l = ok at *
  have hsg : (frC g).length = szFr := frC_length hig
  have hst : ∀ W : World, (storeCells ⟨W.heap.size, 0, none⟩ (frC g) 0).run Try.prog (W.alloc (.cells (frA zeroF) 24)) = .ok () (W.alloc (.cells (frA g) 24)) := fun W => storeCells_frame zeroF_is hig W
  have hgd := guard_frame
  have heq := eql_yes hig hig rfl
  have il : (l.length : Int) ≤ (l.length : Int) + 80 := by omega
  go_wp2_with (first
    | (go_at_call 16; (with_reducible refine CRo.out.mono ?_); rintro e w9 ⟨rfl, hown, hb⟩; have HR9 := Lib.hid (room_head hown); have HW9 := Lib.hid (room_whole hown); have HS9 := Lib.hid ((HS.out.below hb).wider hb.size); have HB9 := Lib.hid (bthen HB.out hb); clear hown hb)
    | (go_at_call 10; (with_reducible refine (CGo.out _ _ HR9.out).mono ?_); rintro e w10 ⟨rfl, hb⟩; have hfa := frIn_new w10 g hig; have hlg : ∀ w', FrIn g w10.heap.size w' → (loadCellsFrom ⟨w10.heap.size, 0, none⟩ 0 szFr #[]).run Try.prog w' = .ok (frA g) w' := (fun w' h => h.load); have HS10 := Lib.hid (slb_then HS9.out hb (.cells (frA g) 24)); have HW10 := Lib.hid (slb_then HW9.out hb (.cells (frA g) 24)); have HB10 := Lib.hid (balloc (bthen HB9.out hb) (.cells (frA g) 24)); clear hb)
    | (go_at_call 17; (with_reducible refine (CHo.out _ _ HS10.out).mono ?_); rintro e w11 ⟨rfl, hb⟩; have hfc := (hfa.below (by simp) hb).below (Nat.lt_of_lt_of_le (by simp) hb.size) (one_below w11 (.cells (frA g) 24)); have hfd := frIn_new w11 g hig; have hlh : ∀ w', FrIn g w11.heap.size w' → (loadCellsFrom ⟨w11.heap.size, 0, none⟩ 0 szFr #[]).run Try.prog w' = .ok (frA g) w' := (fun w' h => h.load); have HS11 := Lib.hid (slb_then HS10.out hb (.cells (frA g) 24)); have HW11 := Lib.hid (slb_then HW10.out hb (.cells (frA g) 24)); have HB11 := Lib.hid (balloc (bthen HB10.out hb) (.cells (frA g) 24)); clear hb)
    | (go_at_call 18; (with_reducible refine (intact_7 _ _ _ l _ HW11.out HS11.out (Nat.le_refl _) HLT.out).mono ?_); rintro e w12 ⟨rfl, hb⟩; have HB12 := Lib.hid (bthen HB11.out hb); clear hb)
    | (go_at_call 3; (with_reducible refine (CX.out _).mono ?_); rintro e w13 ⟨rfl, hb⟩; have HB13 := Lib.hid (bthen HB12.out hb); clear hb))
  go_ret
  exact bit rfl HB13.out
set_option maxHeartbeats 4000000 in
set_option maxRecDepth 100000 in
theorem tells_yes (f : Fr) (v : Value) (bs : List UInt8) (n : Int) (x : Nat) (w : World) (hi : f.is) (hr : rightB f = true) (hx : x < 256) (h : SlB w.heap.size w v bs) :
    Calls Try.prog 4 #[.agg (frA f), v, .int .i64 n, .int .u8 x] w (Bit true w) := by
  have hc : (Value.agg (frA f)).cells = frA f := rfl
  have hz := szFr_run
  have hz0 := zero_frame
  have hsz : (frC zeroF).length = szFr := frC_length zeroF_is
  have hc0 : (Value.agg (frA zeroF)).cells = frA zeroF := rfl
  have CX := Lib.hid (fun w => runs_any w)
  have F0 := Lib.hid (frIn_new w f hi)
  have HPL := Lib.hid (put_len hi hr)
  have CP := Lib.hid (put_any f (w.alloc (.cells (frA f) 24)) hi)
  have CRP := Lib.hid (fun w => refPut_any f w hi)
  have HB0 := Lib.hid (one_below w (.cells (frA f) 24))
  have CR := Lib.hid (fun w => show Calls Try.prog 12 #[.agg (frA f)] w (Bit true w) from hr ▸ right_any f w)
  have CRR := Lib.hid (fun w => show Calls Try.prog 13 #[.agg (frA f)] w (Bit true w) from hr ▸ refRight_any f w)
  generalize Hf.put f = L at *
  have hn0 : (0 : Int) < L.length := by have := HPL.out; omega
  have n1 : 0 < L.length := by have := HPL.out; omega
  have n2 : (L.length : Int) ≤ 1000 := by have := HPL.out; omega
  have A2 := Lib.hid (show ([] : List UInt8).length + L.length ≤ 10000000 by simp; omega)
  obtain ⟨a, cap, rfl, hcap⟩ := h.len
  have H := Lib.hid (slb_take (m := min bs.length 140) h (by omega))
  have hm : (if (140 : Int) < bs.length then 140 else (bs.length : Int)) = ((min bs.length 140 : Nat) : Int) := by split <;> omega
  have hlt : (bs.take (min bs.length 140)).length = min bs.length 140 := by rw [List.length_take]; omega
  have hb200 : min bs.length 140 ≤ 140 := by omega
  have hbc : min bs.length 140 ≤ cap := by omega
  clear h hr hcap
  generalize bs.take (min bs.length 140) = ms at *
  generalize min bs.length 140 = m at *
  subst hlt
  have hll : L.length ≤ 100000 := by have := HPL.out; omega
  have HLL := Lib.hid hll
  clear hll
  go_enter Try.func4, Try.ntmps4
  go_wp2_with (first
    | (refine wpList_load_fr (op := ⟨some 16, _, _, _, _, _⟩) rfl (.tmp 4) rfl rfl F0.out ?_)
    | ((with_reducible refine CP.out.mono ?_); rintro e w2 ⟨v2, rfl, ho, hb⟩; obtain ⟨g2, c2, rfl, hc2⟩ := own_slice ho; have HP2 := Lib.hid (slb_own ho); have hf2 : FrS f w.heap.size w2 w2 := ⟨F0.out.below (by simp) hb, Below.refl _ _, Nat.lt_of_lt_of_le (by simp) hb.size⟩; have HB2 := Lib.hid (bthen HB0.out hb); clear ho hb))
  have hl : ∀ w', FrS f w.heap.size w2 w' → (loadCellsFrom ⟨w.heap.size, 0, none⟩ 0 szFr #[]).run Try.prog w' = .ok (frA f) w' := fun w' h => h.1.load
  go_region_held3 (fun w' => FrS f w.heap.size w2 w') (repeat (first | assumption | refine FrS.drew ?_)) (first
    | (go_at_call 12; (with_reducible refine (CR.out _).mono ?_); rintro e w3 ⟨rfl, hb⟩; have hf3 := FrS.then ‹_› hb; clear hb)
    | (go_at_call 13; (with_reducible refine (CRR.out _).mono ?_); rintro e w4 ⟨rfl, hb⟩; have hf4 := FrS.then hf3 hb; clear hb)
    | (go_at_call 14; (with_reducible refine (CRP.out _).mono ?_); rintro e w5 ⟨v5, rfl, ho, hb⟩; have hf5 := FrS.then hf4 hb; have HO5 := Lib.hid (slb_own ho); have HP5 := Lib.hid ((HP2.out.below hf5.2.1).wider hf5.2.1.size); clear ho hb)
    | (go_at_call 11; (with_reducible refine (same_yes _ HP5.out HO5.out HLL.out).mono ?_); rintro e w6 ⟨rfl, hb⟩; have hf6 := FrS.then hf5 hb; clear hb))
  have HP6 := Lib.hid ((HP2.out.below hf6.2.1).wider hf6.2.1.size)
  have HB6 := Lib.hid (bthen HB2.out hf6.2.1)
  have HS6 := Lib.hid (H.out.below HB6.out)
  have hk6 := HB6.out.size
  clear hf6 hf2 hl HP2 HB2 H CR CRR CRP CP F0 HB0
  have HM6 := Lib.hid (laid_empty (W := w6) (g := w6.heap.size) rfl)
  have HS6b := Lib.hid (HS6.out.below ((one_below w6 (.cells #[] 5)).mono hk6))
  have A1 := Lib.hid (show ([] : List UInt8).length + ms.length ≤ 10000000 by simp; omega)
  go_wp2_with (first
    | (at_builtin; refine wpList_append_bytes (o := ⟨some 36, _, _, _, _, _⟩) _ rfl (.tmp 30) (.tmp 35) rfl w6.heap.size _ _ _ rfl HM6.out.1 w.heap.size _ ms rfl HS6b.out A1.out (by simp) ?_; intro v7 w7 hown hg; have H7 := Lib.hid (show Laid w6.heap.size w6 v7 ms w7 from laid_lit HM6.out (Below.refl _ _) hown hg); obtain ⟨g7, c7, rfl, hc7⟩ := own_slice H7.out.1; have HP7 := Lib.hid (((HP6.out.below H7.out.2.1).wider H7.out.2.2)); have HP7b := Lib.hid (HP7.out.below (one_below w7 (.cells #[] 5))); have HB7 := Lib.hid (bthen HB6.out H7.out.2.1); have HM7 := Lib.hid (laid_empty (W := w7) (g := w7.heap.size) rfl); clear hown hg)
    | (at_builtin; refine wpList_append_bytes (o := ⟨some 42, _, _, _, _, _⟩) _ rfl (.tmp 40) (.tmp 41) rfl w7.heap.size _ _ _ rfl HM7.out.1 w7.heap.size _ L rfl HP7b.out A2.out (by simp) ?_; intro v8 w8 hown hg; have H8 := Lib.hid (show Laid w7.heap.size w7 v8 L w8 from laid_lit HM7.out (Below.refl _ _) hown hg); obtain ⟨g8, c8, rfl, hc8⟩ := own_slice H8.out.1; obtain ⟨gb, rfl⟩ := own_addr H8.out.1 n1; clear hown hg))
  refine (within_int n 0 ((L.length : Int) - 1) w8 (by omega) (by omega) (by omega)).mono ?_
  rintro e w' ⟨k, ⟨hk0, hk1⟩, rfl, rfl⟩
  obtain ⟨k, rfl⟩ := Int.eq_ofNat_of_zero_le hk0
  have hk : k < L.length := by omega
  clear hk0 hk1
  have c1 := own_cell H8.out.1 (bytesV_at hk)
  have c2' := own_frozen H8.out.1 k
  have HT := Lib.hid (fun v hv => laid_turn H8.out rfl k x hx v hv)
  have HTL := Lib.hid (show L.length = (L.set k (L.getD k 0 ^^^ UInt8.ofNat x)).length by rw [List.length_set])
  generalize L.set k (L.getD k 0 ^^^ UInt8.ofNat x) = T at *
  generalize (L.getD k 0).toNat = y at *
  have HT2 := Lib.hid (HT.out _ rfl)
  have HS := Lib.hid (show SlB (w8.setCell ⟨gb, k, none⟩ (.int .u8 (bits .xor .u8 (y : Int) (x : Int)))).heap.size (w8.setCell ⟨gb, k, none⟩ (.int .u8 (bits .xor .u8 (y : Int) (x : Int)))) (.slice (some ⟨gb, 0, none⟩) L.length c8) T from slb_own HT2.out.1)
  have HB := Lib.hid (show Below w.heap.size w (w8.setCell ⟨gb, k, none⟩ (.int .u8 (bits .xor .u8 (y : Int) (x : Int)))) from bthen HB7.out HT2.out.2.1)
  have HLT := Lib.hid (show T.length ≤ 99000 by rw [← HTL.out]; have := HPL.out; omega)
  clear HT HT2 H8 H7 HP7 HP7b HM7 HM6 HS6b A1 HP6 HS6 hm hb200 hbc A2
  generalize hwz : w8.setCell ⟨gb, k, none⟩ (.int .u8 (bits .xor .u8 (y : Int) (x : Int))) = wz at *
  go_wp2_with fail
  rw [HTL.out] at HS ⊢
  clear hwz
  clear hn0 n1 n2 hk c1 c2' HPL HLL HTL
  generalize T = l at *
  have hig := got_is l
  have CRo := Lib.hid (roomy_7 _ _ l wz HS.out (Nat.le_refl _) HLT.out)
  have CGo := Lib.hid (fun (W : World) (v : Value) (h : SlB W.heap.size W v l) => get_any _ v l W h (Nat.le_refl _))
  have CHo := Lib.hid (fun (W : World) (v : Value) (h : SlB W.heap.size W v l) => refGet_any _ v l W h (Nat.le_refl _))
  generalize got l = g at *
  generalize goodB l = ok at *
  have hsg : (frC g).length = szFr := frC_length hig
  have hst : ∀ W : World, (storeCells ⟨W.heap.size, 0, none⟩ (frC g) 0).run Try.prog (W.alloc (.cells (frA zeroF) 24)) = .ok () (W.alloc (.cells (frA g) 24)) := fun W => storeCells_frame zeroF_is hig W
  have hgd := guard_frame
  have heq := eql_yes hig hig rfl
  have il : (l.length : Int) ≤ (l.length : Int) + 80 := by omega
  go_wp2_with (first
    | (go_at_call 16; (with_reducible refine CRo.out.mono ?_); rintro e w9 ⟨rfl, hown, hb⟩; have HR9 := Lib.hid (room_head hown); have HW9 := Lib.hid (room_whole hown); have HS9 := Lib.hid ((HS.out.below hb).wider hb.size); have HB9 := Lib.hid (bthen HB.out hb); clear hown hb)
    | (go_at_call 10; (with_reducible refine (CGo.out _ _ HR9.out).mono ?_); rintro e w10 ⟨rfl, hb⟩; have hfa := frIn_new w10 g hig; have hlg : ∀ w', FrIn g w10.heap.size w' → (loadCellsFrom ⟨w10.heap.size, 0, none⟩ 0 szFr #[]).run Try.prog w' = .ok (frA g) w' := (fun w' h => h.load); have HS10 := Lib.hid (slb_then HS9.out hb (.cells (frA g) 24)); have HW10 := Lib.hid (slb_then HW9.out hb (.cells (frA g) 24)); have HB10 := Lib.hid (balloc (bthen HB9.out hb) (.cells (frA g) 24)); clear hb)
    | (go_at_call 17; (with_reducible refine (CHo.out _ _ HS10.out).mono ?_); rintro e w11 ⟨rfl, hb⟩; have hfc := (hfa.below (by simp) hb).below (Nat.lt_of_lt_of_le (by simp) hb.size) (one_below w11 (.cells (frA g) 24)); have hfd := frIn_new w11 g hig; have hlh : ∀ w', FrIn g w11.heap.size w' → (loadCellsFrom ⟨w11.heap.size, 0, none⟩ 0 szFr #[]).run Try.prog w' = .ok (frA g) w' := (fun w' h => h.load); have HS11 := Lib.hid (slb_then HS10.out hb (.cells (frA g) 24)); have HW11 := Lib.hid (slb_then HW10.out hb (.cells (frA g) 24)); have HB11 := Lib.hid (balloc (bthen HB10.out hb) (.cells (frA g) 24)); clear hb)
    | (go_at_call 18; (with_reducible refine (intact_7 _ _ _ l _ HW11.out HS11.out (Nat.le_refl _) HLT.out).mono ?_); rintro e w12 ⟨rfl, hb⟩; have HB12 := Lib.hid (bthen HB11.out hb); clear hb)
    | (go_at_call 3; (with_reducible refine (CX.out _).mono ?_); rintro e w13 ⟨rfl, hb⟩; have HB13 := Lib.hid (bthen HB12.out hb); clear hb))
  go_ret
  exact bit rfl HB13.out
theorem tells_any (f : Fr) (v : Value) (bs : List UInt8) (n : Int) (x : Nat) (w : World) (hi : f.is) (hx : x < 256) (h : SlB w.heap.size w v bs) :
    Calls Try.prog 4 #[.agg (frA f), v, .int .i64 n, .int .u8 x] w (Bit true w) := by
  by_cases hr : rightB f = true
  · exact tells_yes f v bs n x w hi hr hx h
  · exact tells_no f v bs n x w hi (by simpa using hr) h
end Go.Proofs.Ytjkponhdpeelpaa
