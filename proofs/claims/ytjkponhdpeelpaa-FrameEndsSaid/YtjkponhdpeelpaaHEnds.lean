/-
  stavelaw7.FrameEnds: the walk.
-/
import Derived.Test.YtjkponhdpeelpaaHBlock
import Derived.Test.YtjkponhdpeelpaaWithinI
namespace Go.Proofs.Ytjkponhdpeelpaa
open Go.RowKit Crc Hf
theorem frN_is {d : List UInt8} (h : d.length = 108) : (frN d).is := h
theorem frN_right (d : List UInt8) : rightB (frN d) = true := decide_eq_true (show (1 : Int) ≤ 2 ∧ (2 : Int) ≤ 3 ∧ (0 : Int) ≤ 7 ∧ (7 : Int) < 8 ∧ (0 : Int) ≤ 63 ∧ (63 : Int) < 64 ∧ (0 : Int) ≤ 1152921504606846976 ∧ (1152921504606846976 : Int) ≤ 1152921504606846976 by decide)
/-- A field of a frame is written. -/
theorem FIn.put {f g : Fr} {b : Nat} {w : World} (h : FIn f b w) (i : Nat) (x : Int) (hg : g.is) (he : (frC f).set i (.int .i64 x) = frC g) : FIn g b (w.setCell ⟨b, i, none⟩ (.int .i64 x)) := by
  refine ⟨hg, ?_⟩
  show (w.heap.modify b _)[b]? = _
  rw [Array.getElem?_modify, if_pos rfl, h.2]
  show some (Obj.cells ((frA f).setIfInBounds i (.int .i64 x)) _ _) = _
  simp only [List.setIfInBounds_toArray, he]
set_option maxHeartbeats 8000000 in
set_option maxRecDepth 100000 in
theorem ends_any (n how : Int) (w : World) : Calls Try.prog 7 #[.int .i64 n, .int .i64 how] w (Bit true w) := by
  have hz := szFr_run
  have hz0 := zero_frame
  have hc0 : (Value.agg (frA zeroF)).cells = frA zeroF := rfl
  have hsz : (frC zeroF).length = szFr := frC_length zeroF_is
  have CF := Lib.hid (frame_any n w)
  have CX := Lib.hid (fun w => runs_any w)
  have CR := Lib.hid (fun (f : Fr) (hr : rightB f = true) (w : World) => show Calls Try.prog 12 #[.agg (frA f)] w (Bit true w) from hr ▸ right_any f w)
  have CN := Lib.hid (fun (f : Fr) (hr : rightB f = false) (w : World) => show Calls Try.prog 12 #[.agg (frA f)] w (Bit false w) from hr ▸ right_any f w)
  have CP := Lib.hid (fun (f : Fr) (hi : f.is) (w : World) => put_any f w hi)
  have CQ := Lib.hid (fun (f : Fr) (hi : f.is) (hr : rightB f = false) (w : World) => show Calls Try.prog 9 #[.agg (frA f)] w (MadeB [] w) from put_no hr ▸ put_any f w hi)
  go_enter Try.func7, Try.ntmps7
  go_wp2_with fail
  refine CF.out.mono ?_
  rintro e w1 ⟨d, hd, rfl, hb⟩
  have hi := frN_is hd
  have hr := frN_right d
  have hpl := put_len hi hr
  have HPL := Lib.hid hpl
  have hfs : (frC (frN d)).length = szFr := frC_length hi
  have hcd : (Value.agg (frA (frN d))).cells = frA (frN d) := rfl
  have hst : ∀ W : World, (storeCells ⟨W.heap.size, 0, none⟩ (frC (frN d)) 0).run Try.prog (W.alloc (.cells (frA zeroF) 24)) = .ok () (W.alloc (.cells (frA (frN d)) 24)) := fun W => storeCells_frame zeroF_is hi W
  have HB1 := Lib.hid (balloc hb (.cells (frA (frN d)) 24))
  have hf1 := frIn_new w1 (frN d) hi
  have hl1 : ∀ w', FrIn (frN d) w1.heap.size w' → (loadCellsFrom ⟨w1.heap.size, 0, none⟩ 0 szFr #[]).run Try.prog w' = .ok (frA (frN d)) w' := fun w' h => h.load
  have C1 := Lib.hid (CR.out _ hr)
  have C2 := Lib.hid (CP.out _ hi)
  clear hb hpl
  go_wp2_with (first
    | ((with_reducible refine (C1.out _).mono ?_); rintro e w2 ⟨rfl, hb⟩; have hf2 := hf1.below (by simp) hb; have HB2 := Lib.hid (bthen HB1.out hb); have HK2 := Lib.hid (show w1.heap.size < w2.heap.size from Nat.lt_of_lt_of_le (by simp) hb.size); clear hb)
    | ((with_reducible refine (C2.out _).mono ?_); rintro e w3 ⟨v3, rfl, ho, hb⟩; rw [HPL.out] at ho; obtain ⟨g3, c3, rfl, hc3⟩ := own_slice ho; have hf3 := hf2.below HK2.out hb; have HB3 := Lib.hid (bthen HB2.out hb); clear ho hb))
  refine (within_int how 0 7 _ (by omega) (by omega) (by omega)).mono ?_
  rintro e w' ⟨k, ⟨hk0, hk1⟩, rfl, rfl⟩
  have HB4 := Lib.hid (balloc HB3.out (.cells (frA (frN d)) 24))
  have hf4 : FIn (frN d) w3.heap.size (w3.alloc (.cells (frA (frN d)) 24)) := ⟨hi, heap_alloc_new w3 _⟩
  have HF4 := Lib.hid hf4
  have hk3 : w.heap.size ≤ w3.heap.size := HB3.out.size
  have HLT := Lib.hid (show w3.heap.size < (w3.alloc (.cells (frA (frN d)) 24)).heap.size by simp)
  generalize w3.alloc (.cells (frA (frN d)) 24) = w4 at *
  clear C1 C2 CF CR CP hst hl1 hf1 hf2 hf3 hf4
  generalize w3.heap.size = b6 at *
  have k8 : k = 0 ∨ k = 1 ∨ k = 2 ∨ k = 3 ∨ k = 4 ∨ k = 5 ∨ k = 6 ∨ k = 7 := by omega
  clear hk0 hk1
  rcases k8 with rfl | rfl | rfl | rfl | rfl | rfl | rfl | rfl
  · have hg' : rightB { frN d with k := 0 } = false := decide_eq_false (show ¬ ((1 : Int) ≤ 0 ∧ (0 : Int) ≤ 3 ∧ (0 : Int) ≤ 7 ∧ (7 : Int) < 8 ∧ (0 : Int) ≤ 63 ∧ (63 : Int) < 64 ∧ (0 : Int) ≤ 1152921504606846976 ∧ (1152921504606846976 : Int) ≤ 1152921504606846976) by decide)
    have hfg := HF4.out.put 0 0 (g := { frN d with k := 0 }) hi rfl
    have c1 : w4.cell? ⟨b6, 0, none⟩ = some (.int .i64 2) := HF4.out.fr.c0
    have c2 := HF4.out.free 0
    have HFG := Lib.hid hfg.fr
    have HBG := Lib.hid (show Below w.heap.size w (w4.setCell ⟨b6, 0, none⟩ (.int .i64 0)) from HB4.out.setCell hk3 _)
    have HLG := Lib.hid (show b6 < (w4.setCell ⟨b6, 0, none⟩ (.int .i64 0)).heap.size by simpa using HLT.out)
    have hig : ({ frN d with k := 0 } : Fr).is := hi
    have C3 := Lib.hid (CN.out _ hg')
    have C4 := Lib.hid (CQ.out _ hig hg')
    clear hg' hfg hfs hcd
    generalize ({ frN d with k := 0 } : Fr) = g at *
    have hl6 : ∀ w', FrIn g b6 w' → (loadCellsFrom ⟨b6, 0, none⟩ 0 szFr #[]).run Try.prog w' = .ok (frA g) w' := fun w' h => h.load
    have hfr := HFG.out
    go_wp2_with (first
      | ((with_reducible refine (C3.out _).mono ?_); rintro e w5 ⟨rfl, hb⟩; have hf5 := HFG.out.below HLG.out hb; have HB5 := Lib.hid (bthen HBG.out hb); clear hb)
      | ((with_reducible refine (C4.out _).mono ?_); rintro e w6 ⟨v6, rfl, ho, hb⟩; obtain ⟨g6, c6, rfl, hc6⟩ := own_slice ho; have HB6 := Lib.hid (bthen HB5.out hb); clear ho hb)
      | ((with_reducible refine (CX.out _).mono ?_); rintro e w7 ⟨rfl, hb⟩; have HB7 := Lib.hid (bthen HB6.out hb); clear hb))
    go_ret
    exact bit rfl HB7.out
  · have hg' : rightB { frN d with k := 4 } = false := decide_eq_false (show ¬ ((1 : Int) ≤ 4 ∧ (4 : Int) ≤ 3 ∧ (0 : Int) ≤ 7 ∧ (7 : Int) < 8 ∧ (0 : Int) ≤ 63 ∧ (63 : Int) < 64 ∧ (0 : Int) ≤ 1152921504606846976 ∧ (1152921504606846976 : Int) ≤ 1152921504606846976) by decide)
    have hfg := HF4.out.put 0 4 (g := { frN d with k := 4 }) hi rfl
    have c1 : w4.cell? ⟨b6, 0, none⟩ = some (.int .i64 2) := HF4.out.fr.c0
    have c2 := HF4.out.free 0
    have HFG := Lib.hid hfg.fr
    have HBG := Lib.hid (show Below w.heap.size w (w4.setCell ⟨b6, 0, none⟩ (.int .i64 4)) from HB4.out.setCell hk3 _)
    have HLG := Lib.hid (show b6 < (w4.setCell ⟨b6, 0, none⟩ (.int .i64 4)).heap.size by simpa using HLT.out)
    have hig : ({ frN d with k := 4 } : Fr).is := hi
    have C3 := Lib.hid (CN.out _ hg')
    have C4 := Lib.hid (CQ.out _ hig hg')
    clear hg' hfg hfs hcd
    generalize ({ frN d with k := 4 } : Fr) = g at *
    have hl6 : ∀ w', FrIn g b6 w' → (loadCellsFrom ⟨b6, 0, none⟩ 0 szFr #[]).run Try.prog w' = .ok (frA g) w' := fun w' h => h.load
    have hfr := HFG.out
    go_wp2_with (first
      | ((with_reducible refine (C3.out _).mono ?_); rintro e w5 ⟨rfl, hb⟩; have hf5 := HFG.out.below HLG.out hb; have HB5 := Lib.hid (bthen HBG.out hb); clear hb)
      | ((with_reducible refine (C4.out _).mono ?_); rintro e w6 ⟨v6, rfl, ho, hb⟩; obtain ⟨g6, c6, rfl, hc6⟩ := own_slice ho; have HB6 := Lib.hid (bthen HB5.out hb); clear ho hb)
      | ((with_reducible refine (CX.out _).mono ?_); rintro e w7 ⟨rfl, hb⟩; have HB7 := Lib.hid (bthen HB6.out hb); clear hb))
    go_ret
    exact bit rfl HB7.out
  · have hg' : rightB { frN d with s := 8 } = false := decide_eq_false (show ¬ ((1 : Int) ≤ 2 ∧ (2 : Int) ≤ 3 ∧ (0 : Int) ≤ 8 ∧ (8 : Int) < 8 ∧ (0 : Int) ≤ 63 ∧ (63 : Int) < 64 ∧ (0 : Int) ≤ 1152921504606846976 ∧ (1152921504606846976 : Int) ≤ 1152921504606846976) by decide)
    have hfg := HF4.out.put 1 8 (g := { frN d with s := 8 }) hi rfl
    have c1 : w4.cell? ⟨b6, 1, none⟩ = some (.int .i64 7) := HF4.out.fr.c1
    have c2 := HF4.out.free 1
    have HFG := Lib.hid hfg.fr
    have HBG := Lib.hid (show Below w.heap.size w (w4.setCell ⟨b6, 1, none⟩ (.int .i64 8)) from HB4.out.setCell hk3 _)
    have HLG := Lib.hid (show b6 < (w4.setCell ⟨b6, 1, none⟩ (.int .i64 8)).heap.size by simpa using HLT.out)
    have hig : ({ frN d with s := 8 } : Fr).is := hi
    have C3 := Lib.hid (CN.out _ hg')
    have C4 := Lib.hid (CQ.out _ hig hg')
    clear hg' hfg hfs hcd
    generalize ({ frN d with s := 8 } : Fr) = g at *
    have hl6 : ∀ w', FrIn g b6 w' → (loadCellsFrom ⟨b6, 0, none⟩ 0 szFr #[]).run Try.prog w' = .ok (frA g) w' := fun w' h => h.load
    have hfr := HFG.out
    go_wp2_with (first
      | ((with_reducible refine (C3.out _).mono ?_); rintro e w5 ⟨rfl, hb⟩; have hf5 := HFG.out.below HLG.out hb; have HB5 := Lib.hid (bthen HBG.out hb); clear hb)
      | ((with_reducible refine (C4.out _).mono ?_); rintro e w6 ⟨v6, rfl, ho, hb⟩; obtain ⟨g6, c6, rfl, hc6⟩ := own_slice ho; have HB6 := Lib.hid (bthen HB5.out hb); clear ho hb)
      | ((with_reducible refine (CX.out _).mono ?_); rintro e w7 ⟨rfl, hb⟩; have HB7 := Lib.hid (bthen HB6.out hb); clear hb))
    go_ret
    exact bit rfl HB7.out
  · have hg' : rightB { frN d with s := -1 } = false := decide_eq_false (show ¬ ((1 : Int) ≤ 2 ∧ (2 : Int) ≤ 3 ∧ (0 : Int) ≤ (-1) ∧ ((-1) : Int) < 8 ∧ (0 : Int) ≤ 63 ∧ (63 : Int) < 64 ∧ (0 : Int) ≤ 1152921504606846976 ∧ (1152921504606846976 : Int) ≤ 1152921504606846976) by decide)
    have hfg := HF4.out.put 1 (-1) (g := { frN d with s := -1 }) hi rfl
    have c1 : w4.cell? ⟨b6, 1, none⟩ = some (.int .i64 7) := HF4.out.fr.c1
    have c2 := HF4.out.free 1
    have HFG := Lib.hid hfg.fr
    have HBG := Lib.hid (show Below w.heap.size w (w4.setCell ⟨b6, 1, none⟩ (.int .i64 (-1))) from HB4.out.setCell hk3 _)
    have HLG := Lib.hid (show b6 < (w4.setCell ⟨b6, 1, none⟩ (.int .i64 (-1))).heap.size by simpa using HLT.out)
    have hig : ({ frN d with s := -1 } : Fr).is := hi
    have C3 := Lib.hid (CN.out _ hg')
    have C4 := Lib.hid (CQ.out _ hig hg')
    clear hg' hfg hfs hcd
    generalize ({ frN d with s := -1 } : Fr) = g at *
    have hl6 : ∀ w', FrIn g b6 w' → (loadCellsFrom ⟨b6, 0, none⟩ 0 szFr #[]).run Try.prog w' = .ok (frA g) w' := fun w' h => h.load
    have hfr := HFG.out
    go_wp2_with (first
      | ((with_reducible refine (C3.out _).mono ?_); rintro e w5 ⟨rfl, hb⟩; have hf5 := HFG.out.below HLG.out hb; have HB5 := Lib.hid (bthen HBG.out hb); clear hb)
      | ((with_reducible refine (C4.out _).mono ?_); rintro e w6 ⟨v6, rfl, ho, hb⟩; obtain ⟨g6, c6, rfl, hc6⟩ := own_slice ho; have HB6 := Lib.hid (bthen HB5.out hb); clear ho hb)
      | ((with_reducible refine (CX.out _).mono ?_); rintro e w7 ⟨rfl, hb⟩; have HB7 := Lib.hid (bthen HB6.out hb); clear hb))
    go_ret
    exact bit rfl HB7.out
  · have hg' : rightB { frN d with t := 64 } = false := decide_eq_false (show ¬ ((1 : Int) ≤ 2 ∧ (2 : Int) ≤ 3 ∧ (0 : Int) ≤ 7 ∧ (7 : Int) < 8 ∧ (0 : Int) ≤ 64 ∧ (64 : Int) < 64 ∧ (0 : Int) ≤ 1152921504606846976 ∧ (1152921504606846976 : Int) ≤ 1152921504606846976) by decide)
    have hfg := HF4.out.put 2 64 (g := { frN d with t := 64 }) hi rfl
    have c1 : w4.cell? ⟨b6, 2, none⟩ = some (.int .i64 63) := HF4.out.fr.c2
    have c2 := HF4.out.free 2
    have HFG := Lib.hid hfg.fr
    have HBG := Lib.hid (show Below w.heap.size w (w4.setCell ⟨b6, 2, none⟩ (.int .i64 64)) from HB4.out.setCell hk3 _)
    have HLG := Lib.hid (show b6 < (w4.setCell ⟨b6, 2, none⟩ (.int .i64 64)).heap.size by simpa using HLT.out)
    have hig : ({ frN d with t := 64 } : Fr).is := hi
    have C3 := Lib.hid (CN.out _ hg')
    have C4 := Lib.hid (CQ.out _ hig hg')
    clear hg' hfg hfs hcd
    generalize ({ frN d with t := 64 } : Fr) = g at *
    have hl6 : ∀ w', FrIn g b6 w' → (loadCellsFrom ⟨b6, 0, none⟩ 0 szFr #[]).run Try.prog w' = .ok (frA g) w' := fun w' h => h.load
    have hfr := HFG.out
    go_wp2_with (first
      | ((with_reducible refine (C3.out _).mono ?_); rintro e w5 ⟨rfl, hb⟩; have hf5 := HFG.out.below HLG.out hb; have HB5 := Lib.hid (bthen HBG.out hb); clear hb)
      | ((with_reducible refine (C4.out _).mono ?_); rintro e w6 ⟨v6, rfl, ho, hb⟩; obtain ⟨g6, c6, rfl, hc6⟩ := own_slice ho; have HB6 := Lib.hid (bthen HB5.out hb); clear ho hb)
      | ((with_reducible refine (CX.out _).mono ?_); rintro e w7 ⟨rfl, hb⟩; have HB7 := Lib.hid (bthen HB6.out hb); clear hb))
    go_ret
    exact bit rfl HB7.out
  · have hg' : rightB { frN d with t := -1 } = false := decide_eq_false (show ¬ ((1 : Int) ≤ 2 ∧ (2 : Int) ≤ 3 ∧ (0 : Int) ≤ 7 ∧ (7 : Int) < 8 ∧ (0 : Int) ≤ (-1) ∧ ((-1) : Int) < 64 ∧ (0 : Int) ≤ 1152921504606846976 ∧ (1152921504606846976 : Int) ≤ 1152921504606846976) by decide)
    have hfg := HF4.out.put 2 (-1) (g := { frN d with t := -1 }) hi rfl
    have c1 : w4.cell? ⟨b6, 2, none⟩ = some (.int .i64 63) := HF4.out.fr.c2
    have c2 := HF4.out.free 2
    have HFG := Lib.hid hfg.fr
    have HBG := Lib.hid (show Below w.heap.size w (w4.setCell ⟨b6, 2, none⟩ (.int .i64 (-1))) from HB4.out.setCell hk3 _)
    have HLG := Lib.hid (show b6 < (w4.setCell ⟨b6, 2, none⟩ (.int .i64 (-1))).heap.size by simpa using HLT.out)
    have hig : ({ frN d with t := -1 } : Fr).is := hi
    have C3 := Lib.hid (CN.out _ hg')
    have C4 := Lib.hid (CQ.out _ hig hg')
    clear hg' hfg hfs hcd
    generalize ({ frN d with t := -1 } : Fr) = g at *
    have hl6 : ∀ w', FrIn g b6 w' → (loadCellsFrom ⟨b6, 0, none⟩ 0 szFr #[]).run Try.prog w' = .ok (frA g) w' := fun w' h => h.load
    have hfr := HFG.out
    go_wp2_with (first
      | ((with_reducible refine (C3.out _).mono ?_); rintro e w5 ⟨rfl, hb⟩; have hf5 := HFG.out.below HLG.out hb; have HB5 := Lib.hid (bthen HBG.out hb); clear hb)
      | ((with_reducible refine (C4.out _).mono ?_); rintro e w6 ⟨v6, rfl, ho, hb⟩; obtain ⟨g6, c6, rfl, hc6⟩ := own_slice ho; have HB6 := Lib.hid (bthen HB5.out hb); clear ho hb)
      | ((with_reducible refine (CX.out _).mono ?_); rintro e w7 ⟨rfl, hb⟩; have HB7 := Lib.hid (bthen HB6.out hb); clear hb))
    go_ret
    exact bit rfl HB7.out
  · have hg' : rightB { frN d with g := 1152921504606846977 } = false := decide_eq_false (show ¬ ((1 : Int) ≤ 2 ∧ (2 : Int) ≤ 3 ∧ (0 : Int) ≤ 7 ∧ (7 : Int) < 8 ∧ (0 : Int) ≤ 63 ∧ (63 : Int) < 64 ∧ (0 : Int) ≤ 1152921504606846977 ∧ (1152921504606846977 : Int) ≤ 1152921504606846976) by decide)
    have hfg := HF4.out.put 3 1152921504606846977 (g := { frN d with g := 1152921504606846977 }) hi rfl
    have c1 : w4.cell? ⟨b6, 3, none⟩ = some (.int .i64 1152921504606846976) := HF4.out.fr.c3
    have c2 := HF4.out.free 3
    have HFG := Lib.hid hfg.fr
    have HBG := Lib.hid (show Below w.heap.size w (w4.setCell ⟨b6, 3, none⟩ (.int .i64 1152921504606846977)) from HB4.out.setCell hk3 _)
    have HLG := Lib.hid (show b6 < (w4.setCell ⟨b6, 3, none⟩ (.int .i64 1152921504606846977)).heap.size by simpa using HLT.out)
    have hig : ({ frN d with g := 1152921504606846977 } : Fr).is := hi
    have C3 := Lib.hid (CN.out _ hg')
    have C4 := Lib.hid (CQ.out _ hig hg')
    clear hg' hfg hfs hcd
    generalize ({ frN d with g := 1152921504606846977 } : Fr) = g at *
    have hl6 : ∀ w', FrIn g b6 w' → (loadCellsFrom ⟨b6, 0, none⟩ 0 szFr #[]).run Try.prog w' = .ok (frA g) w' := fun w' h => h.load
    have hfr := HFG.out
    go_wp2_with (first
      | ((with_reducible refine (C3.out _).mono ?_); rintro e w5 ⟨rfl, hb⟩; have hf5 := HFG.out.below HLG.out hb; have HB5 := Lib.hid (bthen HBG.out hb); clear hb)
      | ((with_reducible refine (C4.out _).mono ?_); rintro e w6 ⟨v6, rfl, ho, hb⟩; obtain ⟨g6, c6, rfl, hc6⟩ := own_slice ho; have HB6 := Lib.hid (bthen HB5.out hb); clear ho hb)
      | ((with_reducible refine (CX.out _).mono ?_); rintro e w7 ⟨rfl, hb⟩; have HB7 := Lib.hid (bthen HB6.out hb); clear hb))
    go_ret
    exact bit rfl HB7.out
  · have hg' : rightB { frN d with g := -1 } = false := decide_eq_false (show ¬ ((1 : Int) ≤ 2 ∧ (2 : Int) ≤ 3 ∧ (0 : Int) ≤ 7 ∧ (7 : Int) < 8 ∧ (0 : Int) ≤ 63 ∧ (63 : Int) < 64 ∧ (0 : Int) ≤ (-1) ∧ ((-1) : Int) ≤ 1152921504606846976) by decide)
    have hfg := HF4.out.put 3 (-1) (g := { frN d with g := -1 }) hi rfl
    have c1 : w4.cell? ⟨b6, 3, none⟩ = some (.int .i64 1152921504606846976) := HF4.out.fr.c3
    have c2 := HF4.out.free 3
    have HFG := Lib.hid hfg.fr
    have HBG := Lib.hid (show Below w.heap.size w (w4.setCell ⟨b6, 3, none⟩ (.int .i64 (-1))) from HB4.out.setCell hk3 _)
    have HLG := Lib.hid (show b6 < (w4.setCell ⟨b6, 3, none⟩ (.int .i64 (-1))).heap.size by simpa using HLT.out)
    have hig : ({ frN d with g := -1 } : Fr).is := hi
    have C3 := Lib.hid (CN.out _ hg')
    have C4 := Lib.hid (CQ.out _ hig hg')
    clear hg' hfg hfs hcd
    generalize ({ frN d with g := -1 } : Fr) = g at *
    have hl6 : ∀ w', FrIn g b6 w' → (loadCellsFrom ⟨b6, 0, none⟩ 0 szFr #[]).run Try.prog w' = .ok (frA g) w' := fun w' h => h.load
    have hfr := HFG.out
    go_wp2_with (first
      | ((with_reducible refine (C3.out _).mono ?_); rintro e w5 ⟨rfl, hb⟩; have hf5 := HFG.out.below HLG.out hb; have HB5 := Lib.hid (bthen HBG.out hb); clear hb)
      | ((with_reducible refine (C4.out _).mono ?_); rintro e w6 ⟨v6, rfl, ho, hb⟩; obtain ⟨g6, c6, rfl, hc6⟩ := own_slice ho; have HB6 := Lib.hid (bthen HB5.out hb); clear ho hb)
      | ((with_reducible refine (CX.out _).mono ?_); rintro e w7 ⟨rfl, hb⟩; have HB7 := Lib.hid (bthen HB6.out hb); clear hb))
    go_ret
    exact bit rfl HB7.out
end Go.Proofs.Ytjkponhdpeelpaa
