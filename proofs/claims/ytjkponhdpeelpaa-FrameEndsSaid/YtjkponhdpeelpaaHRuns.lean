/-
  stavelaw7.FrameRuns: the chapter's runs.
-/
import Derived.Test.YtjkponhdpeelpaaHGet
import Derived.Test.YtjkponhdpeelpaaSameB
import Derived.Test.YtjkponhdpeelpaaRoomy
namespace Go.Proofs.Ytjkponhdpeelpaa
open Go.RowKit Crc Hf
theorem guard_frame : Try.prog.eqGuardType Try.prog.depth 24 = false := by kernel_rfl
theorem eql_yes {f g : Fr} (hf : f.is) (hg : g.is) (h : f = g) (w : World) : (binOp .eql 24 (.agg (frA f)) (.agg (frA g))).run Try.prog w = .ok (.bool true) w := by
  rw [eql_frames f g hf hg, (frEq_iff f g).2 h]
theorem eql_no {f g : Fr} (hf : f.is) (hg : g.is) (h : ¬ f = g) (w : World) : (binOp .eql 24 (.agg (frA f)) (.agg (frA g))).run Try.prog w = .ok (.bool false) w := by
  rw [eql_frames f g hf hg, show frEq f g = false by rw [← Bool.not_eq_true, frEq_iff]; exact h]
def fr0 : Fr := ⟨3, 2, 5, 7, List.replicate 108 0⟩
theorem fr0_is : fr0.is := by simp [fr0, Fr.is]
theorem fr0_right : rightB fr0 = true := by decide
def lit0 : List UInt8 := [83, 84, 3, 2, 5, 0, 0, 0, 7, 0, 0, 0, 0, 0, 0, 0]
theorem put_16 : (Hf.put fr0).take 16 = lit0 := by rw [put_yes fr0_right, body_parts]; rfl
theorem make_128 (w : World) : (Instr.makeSlice 25 (.int .i64 128) (.int .i64 128)).run Try.prog w = .ok (.slice (some ⟨w.heap.size, 0, none⟩) 128 128) (w.alloc (.cells (madeCells #[.int .u8 0] 128) 5)) := by
  obtain ⟨i0, hi0, hz0, hz1, hz2⟩ := info_u8
  exact run_make_row (P := Try.prog) 25 5 i0 (.int .u8 0) Try.underlying25 hi0 hz0 hz1 rfl .i64 .i64 128 (by rw [hz2]; decide) (by omega) w
theorem get_zeros {W : World} {g : Nat} (h : W.heap.size = g) : Calls Try.prog 10 #[.slice (some ⟨g, 0, none⟩) 128 128] (W.alloc (.cells (madeCells #[.int .u8 0] 128) 5)) (FrameBit zeroF false (W.alloc (.cells (madeCells #[.int .u8 0] 128) 5))) := by
  subst h
  have hs : SlB (W.heap.size + 1) (W.alloc (.cells (madeCells #[.int .u8 0] 128) 5)) (.slice (some ⟨W.heap.size, 0, none⟩) (List.replicate 128 (0 : UInt8)).length 128) (List.replicate 128 0) := slb_lit (holds_new W _ _ _ (made_u8 128)) (by omega) (by simp)
  rw [List.length_replicate] at hs
  have := get_any _ _ _ _ hs (by simp)
  rwa [good_zeros, got_no good_zeros] at this
theorem lit0_cells : (#[.int .u8 83, .int .u8 84, .int .u8 3, .int .u8 2, .int .u8 5, .int .u8 0, .int .u8 0, .int .u8 0, .int .u8 7, .int .u8 0, .int .u8 0, .int .u8 0, .int .u8 0, .int .u8 0, .int .u8 0, .int .u8 0] : Array Value).toList = bytesV lit0 := rfl
theorem same_lit {W : World} {g c2 : Nat} {g2 : Option Addr} (h : W.heap.size = g) (hs : SlB W.heap.size W (.slice g2 (Hf.put fr0).length c2) (Hf.put fr0)) :
    Calls Try.prog 11 #[.slice g2 16 c2, .slice (some ⟨g, 0, none⟩) 16 16] (W.alloc (.cells #[.int .u8 83, .int .u8 84, .int .u8 3, .int .u8 2, .int .u8 5, .int .u8 0, .int .u8 0, .int .u8 0, .int .u8 7, .int .u8 0, .int .u8 0, .int .u8 0, .int .u8 0, .int .u8 0, .int .u8 0, .int .u8 0] 5)) (Bit true (W.alloc (.cells #[.int .u8 83, .int .u8 84, .int .u8 3, .int .u8 2, .int .u8 5, .int .u8 0, .int .u8 0, .int .u8 0, .int .u8 7, .int .u8 0, .int .u8 0, .int .u8 0, .int .u8 0, .int .u8 0, .int .u8 0, .int .u8 0] 5))) := by
  subst h
  have h1 := slb_take (m := 16) hs (by rw [put_len fr0_is fr0_right]; omega)
  rw [put_16] at h1
  have h2 : SlB (W.heap.size + 1) (W.alloc (.cells #[.int .u8 83, .int .u8 84, .int .u8 3, .int .u8 2, .int .u8 5, .int .u8 0, .int .u8 0, .int .u8 0, .int .u8 7, .int .u8 0, .int .u8 0, .int .u8 0, .int .u8 0, .int .u8 0, .int .u8 0, .int .u8 0] 5)) (.slice (some ⟨W.heap.size, 0, none⟩) 16 16) lit0 := new_slb lit0 rfl lit0_cells
  have := same_bytes (W.heap.size + 1) _ _ lit0 lit0 _ ((h1.below (one_below W (.cells #[.int .u8 83, .int .u8 84, .int .u8 3, .int .u8 2, .int .u8 5, .int .u8 0, .int .u8 0, .int .u8 0, .int .u8 7, .int .u8 0, .int .u8 0, .int .u8 0, .int .u8 0, .int .u8 0, .int .u8 0, .int .u8 0] 5))).wider (Nat.le_succ _)) h2 (by simp) (by decide)
  rwa [decide_eq_true rfl] at this
set_option maxHeartbeats 2000000 in
set_option maxRecDepth 100000 in
theorem runs_any (w : World) : Calls Try.prog 3 #[] w (Bit true w) := by
  have hz := szFr_run
  have hz0 := zero_frame
  have hc0 : (Value.agg (frA zeroF)).cells = frA zeroF := rfl
  have hc1 : (Value.agg (frA fr0)).cells = frA fr0 := rfl
  have hsz : (frC zeroF).length = szFr := frC_length zeroF_is
  have hsf : (frC fr0).length = szFr := frC_length fr0_is
  have hst0 : ∀ W : World, (storeCells ⟨W.heap.size, 0, none⟩ (frC zeroF) 0).run Try.prog (W.alloc (.cells (frA zeroF) 24)) = .ok () (W.alloc (.cells (frA zeroF) 24)) := fun W => storeCells_frame zeroF_is zeroF_is W
  have hst1 : ∀ W : World, (storeCells ⟨W.heap.size, 0, none⟩ (frC fr0) 0).run Try.prog (W.alloc (.cells (frA zeroF) 24)) = .ok () (W.alloc (.cells (frA fr0) 24)) := fun W => storeCells_frame zeroF_is fr0_is W
  have hb0 : ((((frC zeroF).set 0 (.int .i64 3)).set 1 (.int .i64 2)).set 2 (.int .i64 5)).set 3 (.int .i64 7) = frC fr0 := rfl
  have hgd := guard_frame
  have heq := eql_yes fr0_is fr0_is rfl
  have hmk := make_128
  have F1 := Lib.hid (frIn_new w fr0 fr0_is)
  have hg := got_put fr0_is fr0_right
  have HP := Lib.hid (put_any fr0 (w.alloc (.cells (frA fr0) 24)) fr0_is)
  go_enter Try.func3, Try.ntmps3
  go_wp2_with (first
    | (refine wpList_load_fr (op := ⟨some 8, _, _, _, _, _⟩) rfl (.tmp 1) rfl rfl F1.out ?_)
    | ((with_reducible refine HP.out.mono ?_); rintro e w2 ⟨v2, rfl, ho, hb2⟩))
  have hl := put_len fr0_is fr0_right
  rw [hl] at ho
  obtain ⟨g2, c2, rfl, hc2⟩ := own_slice ho
  have HS2 := Lib.hid (show SlB w2.heap.size w2 (.slice g2 (Hf.put fr0).length c2) (Hf.put fr0) by rw [hl]; exact slb_own (l := Hf.put fr0) (by rw [hl]; exact ho))
  have HB2 := Lib.hid (bthen (one_below w _) hb2)
  have F2 := Lib.hid (F1.out.below (by simp) hb2)
  have C2 := Lib.hid (by have := get_any _ _ _ _ HS2.out (Nat.le_refl _); rwa [hg.1, hg.2, hl] at this)
  have hk2 := hb2.size
  have hl16 : ¬ c2 < 16 := by omega
  have hc16 : (16 : Int) ≤ c2 := by omega
  clear ho hb2 hg
  go_wp2_with ((with_reducible refine C2.out.mono ?_); rintro e w3 ⟨rfl, hb3⟩)
  have HB3 := Lib.hid (balloc (bthen HB2.out hb3) (.cells (frA fr0) 24))
  have F3 := Lib.hid (frIn_new w3 fr0 fr0_is)
  have F13 := Lib.hid ((F2.out.below (Nat.lt_of_lt_of_le (by simp) hk2) hb3).below (Nat.lt_of_lt_of_le (Nat.lt_of_lt_of_le (by simp) hk2) hb3.size) (one_below w3 (.cells (frA fr0) 24)))
  have HS3 := Lib.hid (((HS2.out.below hb3).wider hb3.size).below (one_below w3 (.cells (frA fr0) 24)))
  have C3 := Lib.hid (get_zeros (W := w3.alloc (.cells (frA fr0) 24)) (g := w3.heap.size + 1) (by simp))
  have hk3 : w.heap.size < w3.heap.size := Nat.lt_of_lt_of_le (Nat.lt_of_lt_of_le (by simp) hk2) hb3.size
  clear C2 hb3 hk2 F2
  clear hst1
  generalize hw3 : w3.alloc (.cells (frA fr0) 24) = w3' at *
  have hk3' : w3.heap.size < w3'.heap.size := by rw [← hw3]; simp
  clear hw3
  generalize w3.heap.size = b3 at *
  go_wp2_with ((with_reducible refine C3.out.mono ?_); rintro e w4 ⟨rfl, hb4⟩)
  have hb4' : Below w3'.heap.size w3' (w4.alloc (.cells (frA zeroF) 24)) := balloc ((one_below w3' _).trans (hb4.mono (by simp))) _
  have HS4 := Lib.hid ((HS3.out.below (hb4'.mono (Nat.le_of_lt hk3'))).wider (Nat.le_trans (Nat.le_of_lt hk3') hb4'.size))
  have C4 := Lib.hid (same_lit (W := w4.alloc (.cells (frA zeroF) 24)) (g := w4.heap.size + 1) (by simp) HS4.out)
  have HB4 := Lib.hid (balloc (bthen HB3.out hb4') (.cells #[.int .u8 83, .int .u8 84, .int .u8 3, .int .u8 2, .int .u8 5, .int .u8 0, .int .u8 0, .int .u8 0, .int .u8 7, .int .u8 0, .int .u8 0, .int .u8 0, .int .u8 0, .int .u8 0, .int .u8 0, .int .u8 0] 5))
  have FA := Lib.hid ((F13.out.below (by omega) hb4').below (Nat.lt_of_lt_of_le (by omega) hb4'.size) (one_below _ (.cells #[.int .u8 83, .int .u8 84, .int .u8 3, .int .u8 2, .int .u8 5, .int .u8 0, .int .u8 0, .int .u8 0, .int .u8 7, .int .u8 0, .int .u8 0, .int .u8 0, .int .u8 0, .int .u8 0, .int .u8 0, .int .u8 0] 5)))
  have FB := Lib.hid ((F3.out.below hk3' hb4').below (Nat.lt_of_lt_of_le hk3' hb4'.size) (one_below _ (.cells #[.int .u8 83, .int .u8 84, .int .u8 3, .int .u8 2, .int .u8 5, .int .u8 0, .int .u8 0, .int .u8 0, .int .u8 7, .int .u8 0, .int .u8 0, .int .u8 0, .int .u8 0, .int .u8 0, .int .u8 0, .int .u8 0] 5)))
  have hk4 : w3'.heap.size ≤ ((w4.alloc (.cells (frA zeroF) 24)).alloc (.cells #[.int .u8 83, .int .u8 84, .int .u8 3, .int .u8 2, .int .u8 5, .int .u8 0, .int .u8 0, .int .u8 0, .int .u8 7, .int .u8 0, .int .u8 0, .int .u8 0, .int .u8 0, .int .u8 0, .int .u8 0, .int .u8 0] 5)).heap.size := Nat.le_trans hb4'.size (by simp)
  have hla : ∀ w', FrIn fr0 w.heap.size w' → (loadCellsFrom ⟨w.heap.size, 0, none⟩ 0 szFr #[]).run Try.prog w' = .ok (frA fr0) w' := fun w' h => h.load
  have hlb : ∀ w', FrIn fr0 b3 w' → (loadCellsFrom ⟨b3, 0, none⟩ 0 szFr #[]).run Try.prog w' = .ok (frA fr0) w' := fun w' h => h.load
  clear hb4 hb4' C3 F13 F3
  go_wp2_with ((with_reducible refine C4.out.mono ?_); rintro e w6 ⟨rfl, hb6⟩; have hfa := FA.out.below (by omega) hb6; have hfb := FB.out.below (by omega) hb6)
  go_ret
  exact bit rfl (bthen HB4.out hb6)
end Go.Proofs.Ytjkponhdpeelpaa
