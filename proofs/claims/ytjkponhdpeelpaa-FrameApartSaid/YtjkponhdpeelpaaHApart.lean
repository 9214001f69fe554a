/-
  stavelaw7.FrameApart: the walk.
-/
import Derived.Test.YtjkponhdpeelpaaHOnly
namespace Go.Proofs.Ytjkponhdpeelpaa
open Go.RowKit Crc Hf
/-- Two frames lie in blocks b and c. -/
def Fr2 (f g : Fr) (b c : Nat) (W w' : World) : Prop := FrIn f b w' ∧ FrIn g c w' ∧ Below W.heap.size W w' ∧ b < w'.heap.size ∧ c < w'.heap.size
theorem Fr2.drew {f g : Fr} {b c : Nat} {W w' : World} (h : Fr2 f g b c W w') : Fr2 f g b c W w'.drew := ⟨h.1, h.2.1, h.2.2.1.drew, h.2.2.2⟩
theorem Fr2.then {f g : Fr} {b c : Nat} {W w1 w2 : World} (h : Fr2 f g b c W w1) (hb : Below w1.heap.size w1 w2) : Fr2 f g b c W w2 := ⟨h.1.below h.2.2.2.1 hb, h.2.1.below h.2.2.2.2 hb, bthen h.2.2.1 hb, Nat.lt_of_lt_of_le h.2.2.2.1 hb.size, Nat.lt_of_lt_of_le h.2.2.2.2 hb.size⟩
theorem slb_thenA {W w' : World} {v : Value} {l : List UInt8} (h : SlB W.heap.size W v l) (hb : Below W.heap.size W w') (o : Obj) : SlB (w'.alloc o).heap.size (w'.alloc o) v l :=
  (((h.below hb).wider hb.size).below (one_below w' o)).wider (by simp)
theorem Fr2.dn {f g : Fr} {b c : Nat} {W w' : World} (h : Fr2 f g b c W w') : Below W.heap.size W w'.drew := h.2.2.1.drew
set_option maxHeartbeats 4000000 in
set_option maxRecDepth 100000 in
theorem apart_f (f g : Fr) (n x : Int) (w : World) (hi : f.is) (hj : g.is) (hr : rightB f = false) :
    Calls Try.prog 6 #[.agg (frA f), .agg (frA g), .int .i64 n, .int .u8 x] w (Bit true w) := by
  have hcf : (Value.agg (frA f)).cells = frA f := rfl
  have hcg : (Value.agg (frA g)).cells = frA g := rfl
  have hz := szFr_run
  have hz0 := zero_frame
  have hsz : (frC zeroF).length = szFr := frC_length zeroF_is
  have hc0 : (Value.agg (frA zeroF)).cells = frA zeroF := rfl
  have CX := Lib.hid (fun w => runs_any w)
  have CPF := Lib.hid (fun w => put_any f w hi)
  have CPG := Lib.hid (fun w => put_any g w hj)
  have HB0 := Lib.hid (balloc (one_below w (.cells (frA f) 24)) (.cells (frA g) 24))
  have hf0 : Fr2 f g w.heap.size (w.heap.size + 1) ((w.alloc (.cells (frA f) 24)).alloc (.cells (frA g) 24)) ((w.alloc (.cells (frA f) 24)).alloc (.cells (frA g) 24)) :=
    ⟨(frIn_new w f hi).below (by simp) (one_below _ _), by have := frIn_new (w.alloc (.cells (frA f) 24)) g hj; simpa using this, Below.refl _ _, (by simp; omega), (by simp)⟩
  rw [put_no hr] at CPF
  clear hr
  generalize Hf.put g = M at *
  go_enter Try.func6, Try.ntmps6
  go_wp2_with fail
  generalize (w.alloc (.cells (frA f) 24)).alloc (.cells (frA g) 24) = w1 at *
  have hla : ∀ w', Fr2 f g w.heap.size (w.heap.size + 1) w1 w' → (loadCellsFrom ⟨w.heap.size, 0, none⟩ 0 szFr #[]).run Try.prog w' = .ok (frA f) w' := fun w' h => h.1.load
  have hlb : ∀ w', Fr2 f g w.heap.size (w.heap.size + 1) w1 w' → (loadCellsFrom ⟨w.heap.size + 1, 0, none⟩ 0 szFr #[]).run Try.prog w' = .ok (frA g) w' := fun w' h => h.2.1.load
  go_region_held3 (fun w' => Fr2 f g w.heap.size (w.heap.size + 1) w1 w') (repeat (first | assumption | refine Fr2.drew ?_)) (first
    | (go_at_call 9; (with_reducible refine (CPF.out _).mono ?_); rintro e w2 ⟨v2, rfl, ho, hb⟩; have hf2 := Fr2.then ‹_› hb; obtain ⟨g2, c2, rfl, hc2⟩ := own_slice ho; have HP2 := Lib.hid (slb_own ho); clear ho hb)
    | (go_at_call 9; (with_reducible refine (CPG.out _).mono ?_); rintro e w3 ⟨v3, rfl, ho, hb⟩; have hf3 := Fr2.then hf2 hb; have HP3 := Lib.hid ((HP2.out.below hb).wider hb.size); obtain ⟨g3, c3, rfl, hc3⟩ := own_slice ho; have HQ3 := Lib.hid (slb_own ho); clear ho hb))
  have HB3 := Lib.hid (bthen HB0.out hf3.2.2.1)
  clear hf2 hf3
  go_wp2_with (first
    | ((with_reducible refine (CX.out _).mono ?_); rintro e w4 ⟨rfl, hb⟩; have HB4 := Lib.hid (bthen HB3.out hb); clear hb))
  go_ret
  exact bit rfl HB4.out
set_option maxHeartbeats 4000000 in
set_option maxRecDepth 100000 in
theorem apart_g (f g : Fr) (n x : Int) (w : World) (hi : f.is) (hj : g.is) (hr : rightB f = true) (hs : rightB g = false) :
    Calls Try.prog 6 #[.agg (frA f), .agg (frA g), .int .i64 n, .int .u8 x] w (Bit true w) := by
  have hcf : (Value.agg (frA f)).cells = frA f := rfl
  have hcg : (Value.agg (frA g)).cells = frA g := rfl
  have hz := szFr_run
  have hz0 := zero_frame
  have hsz : (frC zeroF).length = szFr := frC_length zeroF_is
  have hc0 : (Value.agg (frA zeroF)).cells = frA zeroF := rfl
  have CX := Lib.hid (fun w => runs_any w)
  have CPF := Lib.hid (fun w => put_any f w hi)
  have CPG := Lib.hid (fun w => put_any g w hj)
  have HB0 := Lib.hid (balloc (one_below w (.cells (frA f) 24)) (.cells (frA g) 24))
  have hf0 : Fr2 f g w.heap.size (w.heap.size + 1) ((w.alloc (.cells (frA f) 24)).alloc (.cells (frA g) 24)) ((w.alloc (.cells (frA f) 24)).alloc (.cells (frA g) 24)) :=
    ⟨(frIn_new w f hi).below (by simp) (one_below _ _), by have := frIn_new (w.alloc (.cells (frA f) 24)) g hj; simpa using this, Below.refl _ _, (by simp; omega), (by simp)⟩
  rw [put_no hs] at CPG
  have hL := put_len hi hr
  clear hr hs
  generalize Hf.put f = L at *
  have n3 : ¬ (L.length : Int) = 0 := by omega
  have n5 : ((L.length : Int) == 0) = false := by simpa using n3
  clear hL
  go_enter Try.func6, Try.ntmps6
  go_wp2_with fail
  generalize (w.alloc (.cells (frA f) 24)).alloc (.cells (frA g) 24) = w1 at *
  have hla : ∀ w', Fr2 f g w.heap.size (w.heap.size + 1) w1 w' → (loadCellsFrom ⟨w.heap.size, 0, none⟩ 0 szFr #[]).run Try.prog w' = .ok (frA f) w' := fun w' h => h.1.load
  have hlb : ∀ w', Fr2 f g w.heap.size (w.heap.size + 1) w1 w' → (loadCellsFrom ⟨w.heap.size + 1, 0, none⟩ 0 szFr #[]).run Try.prog w' = .ok (frA g) w' := fun w' h => h.2.1.load
  go_region_held3 (fun w' => Fr2 f g w.heap.size (w.heap.size + 1) w1 w') (repeat (first | assumption | refine Fr2.drew ?_)) (first
    | (go_at_call 9; (with_reducible refine (CPF.out _).mono ?_); rintro e w2 ⟨v2, rfl, ho, hb⟩; have hf2 := Fr2.then ‹_› hb; obtain ⟨g2, c2, rfl, hc2⟩ := own_slice ho; have HP2 := Lib.hid (slb_own ho); clear ho hb)
    | (go_at_call 9; (with_reducible refine (CPG.out _).mono ?_); rintro e w3 ⟨v3, rfl, ho, hb⟩; have hf3 := Fr2.then hf2 hb; have HP3 := Lib.hid ((HP2.out.below hb).wider hb.size); obtain ⟨g3, c3, rfl, hc3⟩ := own_slice ho; have HQ3 := Lib.hid (slb_own ho); clear ho hb))
  have HB3 := Lib.hid (bthen HB0.out hf3.2.2.1)
  clear hf2 hf3
  go_wp2_with (first
    | ((with_reducible refine (CX.out _).mono ?_); rintro e w4 ⟨rfl, hb⟩; have HB4 := Lib.hid (bthen HB3.out hb); clear hb))
  go_ret
  exact bit rfl HB4.out
set_option maxHeartbeats 4000000 in
set_option maxRecDepth 100000 in
theorem apart_same (f g : Fr) (n : Int) (x : Nat) (w : World) (hi : f.is) (hj : g.is) (hr : rightB f = true) (hs : rightB g = true) (hx : x < 256) (hfg : f = g) :
    Calls Try.prog 6 #[.agg (frA f), .agg (frA g), .int .i64 n, .int .u8 x] w (Bit true w) := by
  have hcf : (Value.agg (frA f)).cells = frA f := rfl
  have hcg : (Value.agg (frA g)).cells = frA g := rfl
  have hz := szFr_run
  have hz0 := zero_frame
  have hsz : (frC zeroF).length = szFr := frC_length zeroF_is
  have hc0 : (Value.agg (frA zeroF)).cells = frA zeroF := rfl
  have CX := Lib.hid (fun w => runs_any w)
  have CPF := Lib.hid (fun w => put_any f w hi)
  have CPG := Lib.hid (fun w => put_any g w hj)
  have HB0 := Lib.hid (balloc (one_below w (.cells (frA f) 24)) (.cells (frA g) 24))
  have hf0 : Fr2 f g w.heap.size (w.heap.size + 1) ((w.alloc (.cells (frA f) 24)).alloc (.cells (frA g) 24)) ((w.alloc (.cells (frA f) 24)).alloc (.cells (frA g) 24)) :=
    ⟨(frIn_new w f hi).below (by simp) (one_below _ _), by have := frIn_new (w.alloc (.cells (frA f) 24)) g hj; simpa using this, Below.refl _ _, (by simp; omega), (by simp)⟩
  obtain ⟨L, hpf⟩ : ∃ L, Hf.put f = L := ⟨_, rfl⟩
  obtain ⟨M, hpg⟩ : ∃ M, Hf.put g = M := ⟨_, rfl⟩
  have hL : L.length = 128 := by rw [← hpf]; exact put_len hi hr
  have hM : M.length = 128 := by rw [← hpg]; exact put_len hj hs
  have HLM := Lib.hid (show decide (L = M) = true from decide_eq_true (by rw [← hpf, ← hpg, hfg]))
  have heq := eql_yes hi hj hfg
  have hgd := guard_frame
  rw [hpf] at CPF
  rw [hpg] at CPG
  have HL := Lib.hid hL
  have HM := Lib.hid hM
  have n1 : 0 < L.length := by omega
  have n2 : (L.length : Int) ≤ 1000 := by omega
  have n3 : ¬ (L.length : Int) = 0 := by omega
  have n4 : ¬ (M.length : Int) = 0 := by omega
  have n5 : ((L.length : Int) == 0) = false := by simpa using n3
  have n6 : ((M.length : Int) == 0) = false := by simpa using n4
  clear hr hs hpf hpg hL hM
  clear hfg
  go_enter Try.func6, Try.ntmps6
  go_wp2_with fail
  generalize (w.alloc (.cells (frA f) 24)).alloc (.cells (frA g) 24) = w1 at *
  have hla : ∀ w', Fr2 f g w.heap.size (w.heap.size + 1) w1 w' → (loadCellsFrom ⟨w.heap.size, 0, none⟩ 0 szFr #[]).run Try.prog w' = .ok (frA f) w' := fun w' h => h.1.load
  have hlb : ∀ w', Fr2 f g w.heap.size (w.heap.size + 1) w1 w' → (loadCellsFrom ⟨w.heap.size + 1, 0, none⟩ 0 szFr #[]).run Try.prog w' = .ok (frA g) w' := fun w' h => h.2.1.load
  go_region_held3 (fun w' => Fr2 f g w.heap.size (w.heap.size + 1) w1 w') (repeat (first | assumption | refine Fr2.drew ?_)) (first
    | (go_at_call 9; (with_reducible refine (CPF.out _).mono ?_); rintro e w2 ⟨v2, rfl, ho, hb⟩; have hf2 := Fr2.then ‹_› hb; obtain ⟨g2, c2, rfl, hc2⟩ := own_slice ho; have HP2 := Lib.hid (slb_own ho); clear ho hb)
    | (go_at_call 9; (with_reducible refine (CPG.out _).mono ?_); rintro e w3 ⟨v3, rfl, ho, hb⟩; have hf3 := Fr2.then hf2 hb; have HP3 := Lib.hid ((HP2.out.below hb).wider hb.size); obtain ⟨g3, c3, rfl, hc3⟩ := own_slice ho; have HQ3 := Lib.hid (slb_own ho); clear ho hb))
  have HB3 := Lib.hid (bthen HB0.out hf3.2.2.1)
  have HF3 := Lib.hid hf3
  clear hf2 hf3 HP2 hla hlb
  go_wp2_with fail
  refine (within_int n 0 ((L.length : Int) - 1) w3 (by omega) (by omega) (by omega)).mono ?_
  rintro e w' ⟨k, ⟨hk0, hk1⟩, rfl, rfl⟩
  obtain ⟨k, rfl⟩ := Int.eq_ofNat_of_zero_le hk0
  have hk : k < L.length := by omega
  have hkc : (k : Int) ≤ c2 := by omega
  clear hk0 hk1
  have HNG := Lib.hid (fun (W : World) (v : Value) (m : List UInt8) (hm : ¬ m.length = 128) (h : SlB W.heap.size W v m) => show Calls Try.prog 10 #[v] W (FrameBit zeroF false W) by
    have := get_any _ v m W h (Nat.le_refl _)
    rwa [good_len hm, got_no (good_len hm)] at this)
  have HK3 := Lib.hid (slb_take (m := k) HP3.out (by omega))
  have hk128 : ¬ (L.take k).length = 128 := by rw [List.length_take, HL.out]; have := HL.out; omega
  have HK128 := Lib.hid hk128
  have hl129 : ¬ (L ++ [UInt8.ofNat x]).length = 128 := by rw [List.length_append, HL.out, List.length_singleton]; decide
  have HL129 := Lib.hid hl129
  have HLIT := Lib.hid (show (#[.int .u8 (x : Int)] : Array Value).toList = bytesV [UInt8.ofNat x] from by show [_] = [Value.int .u8 ((UInt8.ofNat x).toNat : Nat)]; rw [ofNat_toNat, Nat.mod_eq_of_lt hx])
  have hst : ∀ W : World, (storeCells ⟨W.heap.size, 0, none⟩ (frC zeroF) 0).run Try.prog (W.alloc (.cells (frA zeroF) 24)) = .ok () (W.alloc (.cells (frA zeroF) 24)) := fun W => storeCells_frame zeroF_is zeroF_is W
  have A1 := Lib.hid (show ([] : List UInt8).length + L.length ≤ 10000000 by simp; omega)
  have A2 := Lib.hid (show L.length + [UInt8.ofNat x].length ≤ 10000000 by simp; omega)
  have hln : 0 ≤ L.length := Nat.zero_le _
  clear hk128 hl129 hk
  go_wp2_with (first
    | ((with_reducible refine (HNG.out _ _ _ HK128.out HK3.out).mono ?_); rintro e w4 ⟨rfl, hb⟩; have HF4 := Lib.hid ((HF3.out.then hb).then (one_below w4 (.cells (frA zeroF) 24))); have HP4 := Lib.hid (slb_thenA HP3.out hb (.cells (frA zeroF) 24)); have HQ4 := Lib.hid (slb_thenA HQ3.out hb (.cells (frA zeroF) 24)); have HM5 := Lib.hid (laid_empty (W := w4.alloc (.cells (frA zeroF) 24)) (g := w4.heap.size + 1) (by simp)); have HP5 := Lib.hid (HP4.out.below (one_below _ (.cells #[] 5))); clear hb)
    | (at_builtin; refine wpList_append_bytes (o := ⟨some 42, _, _, _, _, _⟩) _ rfl (.tmp 40) (.tmp 41) rfl (w4.heap.size + 1) _ _ _ rfl HM5.out.1 (w4.alloc (.cells (frA zeroF) 24)).heap.size _ L rfl HP5.out A1.out (by simp) ?_; intro v6 w6 hown hg; have H6 := Lib.hid (show Laid (w4.heap.size + 1) _ v6 L w6 from laid_lit HM5.out (Below.refl _ _) hown hg); obtain ⟨g6, c6, rfl, hc6⟩ := own_slice H6.out.1; have z6 := H6.out.2.2; clear hown hg)
    | (at_builtin; refine wpList_append_bytes (o := ⟨some 45, _, _, _, _, _⟩) _ rfl (.tmp 42) (.tmp 44) rfl (w4.heap.size + 1) _ _ _ rfl (own_below H6.out.1 (one_below _ _)) (w6.heap.size + 1) _ [UInt8.ofNat x] rfl (new_slb _ rfl HLIT.out) A2.out (by simp; omega) ?_; intro v7 w7 hown hg; have H7 := Lib.hid (show Laid (w4.heap.size + 1) _ v7 (L ++ [UInt8.ofNat x]) w7 from laid_lit H6.out (one_below _ _) hown hg); have HS7 := Lib.hid (slb_own H7.out.1); have HB7 := Lib.hid (show Below (w4.alloc (.cells (frA zeroF) 24)).heap.size (w4.alloc (.cells (frA zeroF) 24)) w7 by have := H7.out.2.1; simpa using this); have HF7 := Lib.hid (HF4.out.then HB7.out); have HP7 := Lib.hid ((HP4.out.below HB7.out).wider HB7.out.size); have HQ7 := Lib.hid ((HQ4.out.below HB7.out).wider HB7.out.size); clear hown hg)
    | ((with_reducible refine (HNG.out _ _ _ HL129.out HS7.out).mono ?_); rintro e w8 ⟨rfl, hb⟩; have HF8 := Lib.hid ((HF7.out.then hb).then (one_below w8 (.cells (frA zeroF) 24))); have HP8 := Lib.hid (slb_thenA HP7.out hb (.cells (frA zeroF) 24)); have HQ8 := Lib.hid (slb_thenA HQ7.out hb (.cells (frA zeroF) 24)); clear hb))
  have HB8 := Lib.hid (bthen HB0.out HF8.out.2.2.1)
  have hf9 : Fr2 f g w.heap.size (w.heap.size + 1) (w8.alloc (.cells (frA zeroF) 24)) (w8.alloc (.cells (frA zeroF) 24)) := ⟨HF8.out.1, HF8.out.2.1, Below.refl _ _, HF8.out.2.2.2⟩
  generalize w8.alloc (.cells (frA zeroF) 24) = w9 at *
  have CS := Lib.hid (fun (w' : World) (h : Below w9.heap.size w9 w') => show Calls Try.prog 11 #[.slice g2 L.length c2, .slice g3 M.length c3] w' (Bit true w') by
    have := same_bytes w9.heap.size _ _ L M w' (HP8.out.below h) (HQ8.out.below h) h.size (by have := HL.out; omega)
    rwa [HLM.out] at this)
  have hla : ∀ w', Fr2 f g w.heap.size (w.heap.size + 1) w9 w' → (loadCellsFrom ⟨w.heap.size, 0, none⟩ 0 szFr #[]).run Try.prog w' = .ok (frA f) w' := fun w' h => h.1.load
  have hlb : ∀ w', Fr2 f g w.heap.size (w.heap.size + 1) w9 w' → (loadCellsFrom ⟨w.heap.size + 1, 0, none⟩ 0 szFr #[]).run Try.prog w' = .ok (frA g) w' := fun w' h => h.2.1.load
  clear HF3 HF4 HF7 HF8 HP3 HQ3 HP4 HQ4 HP5 HP7 HQ7 HS7 HB7 H6 H7 HM5 HK3 A1 A2 HLIT HB3
  go_region_held3 (fun w' => Fr2 f g w.heap.size (w.heap.size + 1) w9 w') (repeat (first | assumption | refine Fr2.drew ?_)) (first
    | (go_at_call 11; (with_reducible refine (CS.out _ (Fr2.dn hf9)).mono ?_); rintro e w10 ⟨rfl, hb⟩; have hf10 := Fr2.then ‹_› hb; clear hb)
    | (go_at_call 3; (with_reducible refine (CX.out _).mono ?_); rintro e w11 ⟨rfl, hb⟩; have hf11 := Fr2.then hf10 hb; clear hb))
  have HB11 := Lib.hid (bthen HB8.out hf11.2.2.1)
  go_wp2_with fail
  go_ret
  exact bit rfl HB11.out
set_option maxHeartbeats 4000000 in
set_option maxRecDepth 100000 in
theorem apart_other (f g : Fr) (n : Int) (x : Nat) (w : World) (hi : f.is) (hj : g.is) (hr : rightB f = true) (hs : rightB g = true) (hx : x < 256) (hfg : ¬ f = g) :
    Calls Try.prog 6 #[.agg (frA f), .agg (frA g), .int .i64 n, .int .u8 x] w (Bit true w) := by
  have hcf : (Value.agg (frA f)).cells = frA f := rfl
  have hcg : (Value.agg (frA g)).cells = frA g := rfl
  have hz := szFr_run
  have hz0 := zero_frame
  have hsz : (frC zeroF).length = szFr := frC_length zeroF_is
  have hc0 : (Value.agg (frA zeroF)).cells = frA zeroF := rfl
  have CX := Lib.hid (fun w => runs_any w)
  have CPF := Lib.hid (fun w => put_any f w hi)
  have CPG := Lib.hid (fun w => put_any g w hj)
  have HB0 := Lib.hid (balloc (one_below w (.cells (frA f) 24)) (.cells (frA g) 24))
  have hf0 : Fr2 f g w.heap.size (w.heap.size + 1) ((w.alloc (.cells (frA f) 24)).alloc (.cells (frA g) 24)) ((w.alloc (.cells (frA f) 24)).alloc (.cells (frA g) 24)) :=
    ⟨(frIn_new w f hi).below (by simp) (one_below _ _), by have := frIn_new (w.alloc (.cells (frA f) 24)) g hj; simpa using this, Below.refl _ _, (by simp; omega), (by simp)⟩
  obtain ⟨L, hpf⟩ : ∃ L, Hf.put f = L := ⟨_, rfl⟩
  obtain ⟨M, hpg⟩ : ∃ M, Hf.put g = M := ⟨_, rfl⟩
  have hL : L.length = 128 := by rw [← hpf]; exact put_len hi hr
  have hM : M.length = 128 := by rw [← hpg]; exact put_len hj hs
  have HLM := Lib.hid (show decide (L = M) = false from decide_eq_false (fun e => hfg (put_inj hi hj hr hs (by rw [hpf, hpg, e]))))
  have heq := eql_no hi hj hfg
  have hgd := guard_frame
  rw [hpf] at CPF
  rw [hpg] at CPG
  have HL := Lib.hid hL
  have HM := Lib.hid hM
  have n1 : 0 < L.length := by omega
  have n2 : (L.length : Int) ≤ 1000 := by omega
  have n3 : ¬ (L.length : Int) = 0 := by omega
  have n4 : ¬ (M.length : Int) = 0 := by omega
  have n5 : ((L.length : Int) == 0) = false := by simpa using n3
  have n6 : ((M.length : Int) == 0) = false := by simpa using n4
  clear hr hs hpf hpg hL hM
  clear hfg
  go_enter Try.func6, Try.ntmps6
  go_wp2_with fail
  generalize (w.alloc (.cells (frA f) 24)).alloc (.cells (frA g) 24) = w1 at *
  have hla : ∀ w', Fr2 f g w.heap.size (w.heap.size + 1) w1 w' → (loadCellsFrom ⟨w.heap.size, 0, none⟩ 0 szFr #[]).run Try.prog w' = .ok (frA f) w' := fun w' h => h.1.load
  have hlb : ∀ w', Fr2 f g w.heap.size (w.heap.size + 1) w1 w' → (loadCellsFrom ⟨w.heap.size + 1, 0, none⟩ 0 szFr #[]).run Try.prog w' = .ok (frA g) w' := fun w' h => h.2.1.load
  go_region_held3 (fun w' => Fr2 f g w.heap.size (w.heap.size + 1) w1 w') (repeat (first | assumption | refine Fr2.drew ?_)) (first
    | (go_at_call 9; (with_reducible refine (CPF.out _).mono ?_); rintro e w2 ⟨v2, rfl, ho, hb⟩; have hf2 := Fr2.then ‹_› hb; obtain ⟨g2, c2, rfl, hc2⟩ := own_slice ho; have HP2 := Lib.hid (slb_own ho); clear ho hb)
    | (go_at_call 9; (with_reducible refine (CPG.out _).mono ?_); rintro e w3 ⟨v3, rfl, ho, hb⟩; have hf3 := Fr2.then hf2 hb; have HP3 := Lib.hid ((HP2.out.below hb).wider hb.size); obtain ⟨g3, c3, rfl, hc3⟩ := own_slice ho; have HQ3 := Lib.hid (slb_own ho); clear ho hb))
  have HB3 := Lib.hid (bthen HB0.out hf3.2.2.1)
  have HF3 := Lib.hid hf3
  clear hf2 hf3 HP2 hla hlb
  go_wp2_with fail
  refine (within_int n 0 ((L.length : Int) - 1) w3 (by omega) (by omega) (by omega)).mono ?_
  rintro e w' ⟨k, ⟨hk0, hk1⟩, rfl, rfl⟩
  obtain ⟨k, rfl⟩ := Int.eq_ofNat_of_zero_le hk0
  have hk : k < L.length := by omega
  have hkc : (k : Int) ≤ c2 := by omega
  clear hk0 hk1
  have HNG := Lib.hid (fun (W : World) (v : Value) (m : List UInt8) (hm : ¬ m.length = 128) (h : SlB W.heap.size W v m) => show Calls Try.prog 10 #[v] W (FrameBit zeroF false W) by
    have := get_any _ v m W h (Nat.le_refl _)
    rwa [good_len hm, got_no (good_len hm)] at this)
  have HK3 := Lib.hid (slb_take (m := k) HP3.out (by omega))
  have hk128 : ¬ (L.take k).length = 128 := by rw [List.length_take, HL.out]; have := HL.out; omega
  have HK128 := Lib.hid hk128
  have hl129 : ¬ (L ++ [UInt8.ofNat x]).length = 128 := by rw [List.length_append, HL.out, List.length_singleton]; decide
  have HL129 := Lib.hid hl129
  have HLIT := Lib.hid (show (#[.int .u8 (x : Int)] : Array Value).toList = bytesV [UInt8.ofNat x] from by show [_] = [Value.int .u8 ((UInt8.ofNat x).toNat : Nat)]; rw [ofNat_toNat, Nat.mod_eq_of_lt hx])
  have hst : ∀ W : World, (storeCells ⟨W.heap.size, 0, none⟩ (frC zeroF) 0).run Try.prog (W.alloc (.cells (frA zeroF) 24)) = .ok () (W.alloc (.cells (frA zeroF) 24)) := fun W => storeCells_frame zeroF_is zeroF_is W
  have A1 := Lib.hid (show ([] : List UInt8).length + L.length ≤ 10000000 by simp; omega)
  have A2 := Lib.hid (show L.length + [UInt8.ofNat x].length ≤ 10000000 by simp; omega)
  have hln : 0 ≤ L.length := Nat.zero_le _
  clear hk128 hl129 hk
  go_wp2_with (first
    | ((with_reducible refine (HNG.out _ _ _ HK128.out HK3.out).mono ?_); rintro e w4 ⟨rfl, hb⟩; have HF4 := Lib.hid ((HF3.out.then hb).then (one_below w4 (.cells (frA zeroF) 24))); have HP4 := Lib.hid (slb_thenA HP3.out hb (.cells (frA zeroF) 24)); have HQ4 := Lib.hid (slb_thenA HQ3.out hb (.cells (frA zeroF) 24)); have HM5 := Lib.hid (laid_empty (W := w4.alloc (.cells (frA zeroF) 24)) (g := w4.heap.size + 1) (by simp)); have HP5 := Lib.hid (HP4.out.below (one_below _ (.cells #[] 5))); clear hb)
    | (at_builtin; refine wpList_append_bytes (o := ⟨some 42, _, _, _, _, _⟩) _ rfl (.tmp 40) (.tmp 41) rfl (w4.heap.size + 1) _ _ _ rfl HM5.out.1 (w4.alloc (.cells (frA zeroF) 24)).heap.size _ L rfl HP5.out A1.out (by simp) ?_; intro v6 w6 hown hg; have H6 := Lib.hid (show Laid (w4.heap.size + 1) _ v6 L w6 from laid_lit HM5.out (Below.refl _ _) hown hg); obtain ⟨g6, c6, rfl, hc6⟩ := own_slice H6.out.1; have z6 := H6.out.2.2; clear hown hg)
    | (at_builtin; refine wpList_append_bytes (o := ⟨some 45, _, _, _, _, _⟩) _ rfl (.tmp 42) (.tmp 44) rfl (w4.heap.size + 1) _ _ _ rfl (own_below H6.out.1 (one_below _ _)) (w6.heap.size + 1) _ [UInt8.ofNat x] rfl (new_slb _ rfl HLIT.out) A2.out (by simp; omega) ?_; intro v7 w7 hown hg; have H7 := Lib.hid (show Laid (w4.heap.size + 1) _ v7 (L ++ [UInt8.ofNat x]) w7 from laid_lit H6.out (one_below _ _) hown hg); have HS7 := Lib.hid (slb_own H7.out.1); have HB7 := Lib.hid (show Below (w4.alloc (.cells (frA zeroF) 24)).heap.size (w4.alloc (.cells (frA zeroF) 24)) w7 by have := H7.out.2.1; simpa using this); have HF7 := Lib.hid (HF4.out.then HB7.out); have HP7 := Lib.hid ((HP4.out.below HB7.out).wider HB7.out.size); have HQ7 := Lib.hid ((HQ4.out.below HB7.out).wider HB7.out.size); clear hown hg)
    | ((with_reducible refine (HNG.out _ _ _ HL129.out HS7.out).mono ?_); rintro e w8 ⟨rfl, hb⟩; have HF8 := Lib.hid ((HF7.out.then hb).then (one_below w8 (.cells (frA zeroF) 24))); have HP8 := Lib.hid (slb_thenA HP7.out hb (.cells (frA zeroF) 24)); have HQ8 := Lib.hid (slb_thenA HQ7.out hb (.cells (frA zeroF) 24)); clear hb))
  have HB8 := Lib.hid (bthen HB0.out HF8.out.2.2.1)
  have hf9 : Fr2 f g w.heap.size (w.heap.size + 1) (w8.alloc (.cells (frA zeroF) 24)) (w8.alloc (.cells (frA zeroF) 24)) := ⟨HF8.out.1, HF8.out.2.1, Below.refl _ _, HF8.out.2.2.2⟩
  generalize w8.alloc (.cells (frA zeroF) 24) = w9 at *
  have CS := Lib.hid (fun (w' : World) (h : Below w9.heap.size w9 w') => show Calls Try.prog 11 #[.slice g2 L.length c2, .slice g3 M.length c3] w' (Bit false w') by
    have := same_bytes w9.heap.size _ _ L M w' (HP8.out.below h) (HQ8.out.below h) h.size (by have := HL.out; omega)
    rwa [HLM.out] at this)
  have hla : ∀ w', Fr2 f g w.heap.size (w.heap.size + 1) w9 w' → (loadCellsFrom ⟨w.heap.size, 0, none⟩ 0 szFr #[]).run Try.prog w' = .ok (frA f) w' := fun w' h => h.1.load
  have hlb : ∀ w', Fr2 f g w.heap.size (w.heap.size + 1) w9 w' → (loadCellsFrom ⟨w.heap.size + 1, 0, none⟩ 0 szFr #[]).run Try.prog w' = .ok (frA g) w' := fun w' h => h.2.1.load
  clear HF3 HF4 HF7 HF8 HP3 HQ3 HP4 HQ4 HP5 HP7 HQ7 HS7 HB7 H6 H7 HM5 HK3 A1 A2 HLIT HB3
  go_region_held3 (fun w' => Fr2 f g w.heap.size (w.heap.size + 1) w9 w') (repeat (first | assumption | refine Fr2.drew ?_)) (first
    | (go_at_call 11; (with_reducible refine (CS.out _ (Fr2.dn hf9)).mono ?_); rintro e w10 ⟨rfl, hb⟩; have hf10 := Fr2.then ‹_› hb; clear hb)
    | (go_at_call 3; (with_reducible refine (CX.out _).mono ?_); rintro e w11 ⟨rfl, hb⟩; have hf11 := Fr2.then hf10 hb; clear hb))
  have HB11 := Lib.hid (bthen HB8.out hf11.2.2.1)
  go_wp2_with fail
  go_ret
  exact bit rfl HB11.out
theorem apart_any (f g : Fr) (n : Int) (x : Nat) (w : World) (hi : f.is) (hj : g.is) (hx : x < 256) :
    Calls Try.prog 6 #[.agg (frA f), .agg (frA g), .int .i64 n, .int .u8 x] w (Bit true w) := by
  by_cases hr : rightB f = true
  · by_cases hs : rightB g = true
    · by_cases hfg : f = g
      · exact apart_same f g n x w hi hj hr hs hx hfg
      · exact apart_other f g n x w hi hj hr hs hx hfg
    · exact apart_g f g n x w hi hj hr (by simpa using hs)
  · exact apart_f f g n x w hi hj (by simpa using hr)
end Go.Proofs.Ytjkponhdpeelpaa
