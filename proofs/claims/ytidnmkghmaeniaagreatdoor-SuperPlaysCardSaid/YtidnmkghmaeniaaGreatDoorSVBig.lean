/-
  staveref8.superFrame (written by gensvsf.py).
-/
import Derived.Test.YtidnmkghmaeniaaGreatDoorSFits
import Derived.Test.YtidnmkghmaeniaaGreatDoorSGet
import Derived.Laws.CopyOwn
import Derived.Deep.RegionHeld3
import Derived.Deep.DeepCutAuto
import Derived.Deep.CutBlock
import Derived.Test.YtidnmkghmaeniaaGreatDoorJMem
import Derived.Test.YtidnmkghmaeniaaGreatDoorVGet
import Derived.Test.YtidnmkghmaeniaaGreatDoorHRefPut
import Derived.Test.YtidnmkghmaeniaaGreatDoorSFind
import Derived.Test.YtidnmkghmaeniaaGreatDoorQS
namespace Go.Proofs.YtidnmkghmaeniaaGreatDoor
open Go.RowKit Go.Deep Crc Dk Qk Go.Maps Hf
theorem sup_row {w : World} {B n : Nat} {v : Value} {l m : List UInt8} (h : w.ownsRow B 5 1 v n (bytesV l ++ bytesV m)) (hn : 0 < n) : ∃ g cap, v = .slice (some ⟨g, 0, none⟩) n cap ∧ ∀ j u, (bytesV (l ++ m))[j]? = some u → w.cell? ((⟨g, 0, none⟩ : Addr).add j) = some u := by
  have hh := h
  rcases h.2 with ⟨_, h0⟩ | ⟨g, cap, cur, rfl, _⟩
  · omega
  · refine ⟨g, cap, rfl, fun j u hj => ?_⟩
    rw [bytesV_append] at hj
    have := own_cell hh hj
    rw [Addr.add_mid, Nat.zero_add]
    exact this
set_option maxHeartbeats 8000000 in
set_option maxRecDepth 100000 in
theorem vsuperframe_any (cf : Cf) (i : Int) (w : World) (h : CfRight cf) : Calls Tryz.prog 62 #[.agg (cfA cf), .int .i64 i] w (FrOut (supF cf i) w) := by
  obtain ⟨a1, a2, a3, a4, a5, a6, a7, a8, a9⟩ := h
  obtain ⟨id, hid⟩ := Int.eq_ofNat_of_zero_le (show 0 ≤ cf.id by omega)
  obtain ⟨Kk, hk⟩ := Int.eq_ofNat_of_zero_le (show 0 ≤ cf.k by omega)
  obtain ⟨Nn, hn⟩ := Int.eq_ofNat_of_zero_le (show 0 ≤ cf.n by omega)
  obtain ⟨T, ht⟩ := Int.eq_ofNat_of_zero_le (show 0 ≤ cf.t by omega)
  obtain ⟨Z, hs⟩ := Int.eq_ofNat_of_zero_le (show 0 ≤ cf.s by omega)
  have HR := Lib.hid (show id ≤ 2147483647 ∧ Kk ≤ 8 ∧ Nn ≤ 8 ∧ T ≤ 64 ∧ Z ≤ 8 by omega)
  obtain ⟨f0, hf0⟩ : ∃ f0 : Fr, f0 = ⟨1, i, 0, 1, List.replicate 108 0⟩ := ⟨_, rfl⟩
  have hi0 : f0.is := by rw [hf0]; show (List.replicate 108 (0 : UInt8)).length = 108; simp
  have hz := szFr_run
  have hz0 := zero_frame
  have hc : (Value.agg (frA zeroF)).cells = frA zeroF := rfl
  have hsz : (frC zeroF).length = szFr := frC_length zeroF_is
  have hbd : ((((frC zeroF).set 0 (.int .i64 1)).set 1 (.int .i64 i)).set 3 (.int .i64 1)) = frC f0 := by rw [hf0]; rfl
  have hst0 : (storeCells ⟨w.heap.size + 1 + 1, 0, none⟩ (frC f0) 0).run Tryz.prog (((w.alloc (.cells (cfA cf) 24)).alloc (.cells (frA zeroF) 103)).alloc (.cells (frA zeroF) 103)) = .ok () (((w.alloc (.cells (cfA cf) 24)).alloc (.cells (frA zeroF) 103)).alloc (.cells (frA f0) 103)) := by
    have := storeCells_frame zeroF_is hi0 ((w.alloc (.cells (cfA cf) 24)).alloc (.cells (frA zeroF) 103))
    simpa using this
  have HF0 := Lib.hid hf0
  have hcf0 : (Value.agg (frA f0)).cells = frA f0 := rfl
  have hsf0 : (frC f0).length = szFr := frC_length hi0
  have HID := Lib.hid (show cf.id = (id : Int) ∧ cf.k = (Kk : Int) ∧ cf.n = (Nn : Int) ∧ cf.t = (T : Int) ∧ cf.s = (Z : Int) from ⟨hid, hk, hn, ht, hs⟩)
  clear a1 a2 a3 a4 a5 a6 a7 a8 a9 hf0 hid hk hn ht hs
  go_enter Tryz.func62, Tryz.ntmps62
  go_upto_region 2 with (fail)
  have HC5 := Lib.hid (show CfB cf w.heap.size (((w.alloc (.cells (cfA cf) 24)).alloc (.cells (frA zeroF) 103)).alloc (.cells (frA f0) 103)) from (cfB_new w cf).below (B := w.heap.size + 1) (by omega) ((balloc (one_below _ _) _).mono (by simp)))
  have HZ5 := Lib.hid (show ZIn (w.heap.size + 1) (((w.alloc (.cells (cfA cf) 24)).alloc (.cells (frA zeroF) 103)).alloc (.cells (frA f0) 103)) from by
    have := (zin_new (w.alloc (.cells (cfA cf) 24))).below (B := w.heap.size + 2) (by simp) (Below.refl _ _)
    exact (show ZIn (w.heap.size + 1) _ by simpa using this).below (B := w.heap.size + 2) (by omega) ((one_below _ _).mono (by simp)))
  have HF5 := Lib.hid (show FrB f0 (w.heap.size + 1 + 1) (((w.alloc (.cells (cfA cf) 24)).alloc (.cells (frA zeroF) 103)).alloc (.cells (frA f0) 103)) from by
    have := frB_new ((w.alloc (.cells (cfA cf) 24)).alloc (.cells (frA zeroF) 103)) _ hi0
    simpa using this)
  have HB5 := Lib.hid (show Below w.heap.size w (((w.alloc (.cells (cfA cf) 24)).alloc (.cells (frA zeroF) 103)).alloc (.cells (frA f0) 103)) from balloc (balloc (one_below _ _) _) _)
  have HL5 := Lib.hid (show w.heap.size < w.heap.size + 1 ∧ w.heap.size + 1 < w.heap.size + 1 + 1 ∧ w.heap.size + 1 + 1 < (((w.alloc (.cells (cfA cf) 24)).alloc (.cells (frA zeroF) 103)).alloc (.cells (frA f0) 103)).heap.size by simp)
  obtain ⟨w5, hw5⟩ : ∃ w5, w5 = ((w.alloc (.cells (cfA cf) 24)).alloc (.cells (frA zeroF) 103)).alloc (.cells (frA f0) 103) := ⟨_, rfl⟩
  rw [← hw5] at HC5 HZ5 HF5 HB5 HL5
  have hgoal : (((w.alloc (.cells (cfA cf) 24)).alloc (.cells (frA zeroF) 103)).alloc (.cells (frA f0) 103)) = w5 := hw5.symm
  rw [hgoal]
  clear hgoal hw5 hst0 hbd
  generalize hb5 : w.heap.size + 1 + 1 = b5 at *
  generalize hb4 : w.heap.size + 1 = b4 at *
  generalize hb0 : w.heap.size = b at *
  have hlb : b < w5.heap.size := by have := HL5.out; omega
  have hl5 : b5 < w5.heap.size := HL5.out.2.2
  have hbb : b < b5 := by have := HL5.out; omega
  have hnb : ∀ x : Nat, x ≤ 64 → ((UInt8.ofNat x).toNat : Int) = (x : Int) := fun x hx => by rw [ofNat_toNat]; omega
  have HLIT := Lib.hid (fun W : World => show SlB (W.alloc (.cells #[.int .u8 (Kk : Int), .int .u8 (Nn : Int), .int .u8 (T : Int), .int .u8 (Z : Int)] 5)).heap.size (W.alloc (.cells #[.int .u8 (Kk : Int), .int .u8 (Nn : Int), .int .u8 (T : Int), .int .u8 (Z : Int)] 5)) (.slice (some ⟨W.heap.size, 0, none⟩) 4 4) [UInt8.ofNat Kk, UInt8.ofNat Nn, UInt8.ofNat T, UInt8.ofNat Z] from by
    have := new_slb (w := W) (cs := #[.int .u8 (Kk : Int), .int .u8 (Nn : Int), .int .u8 (T : Int), .int .u8 (Z : Int)]) (T := 5) (n := 4) (m := (0, 0)) [UInt8.ofNat Kk, UInt8.ofNat Nn, UInt8.ofNat T, UInt8.ofNat Z] rfl (by
      show [_, _, _, _] = [Value.int .u8 ((UInt8.ofNat Kk).toNat : Nat), Value.int .u8 ((UInt8.ofNat Nn).toNat : Nat), Value.int .u8 ((UInt8.ofNat T).toNat : Nat), Value.int .u8 ((UInt8.ofNat Z).toNat : Nat)]
      rw [hnb Kk (by have := HR.out; omega), hnb Nn (by have := HR.out; omega), hnb T (by have := HR.out; omega), hnb Z (by have := HR.out; omega)])
    simpa using this)
  have HNUM := Lib.hid (fun (W : World) (hW : w5.heap.size ≤ W.heap.size) => show Calls Tryz.prog 129 #[.slice none 0 0, .int .u64 (id : Int), .int .i64 4] W (MadeB (le 4 id) W) from refNum_any w5.heap.size _ [] id 4 W slb_nil hW (by decide) (by decide))
  have HFIN := Lib.hid (fun (wa wc : World) (h1 : Below w5.heap.size w5 wa) (h2 : Hid (wc.heap[b5]? = some (.cells (splice (frC f0) 4 (bytesV (le 4 id ++ [UInt8.ofNat Kk, UInt8.ofNat Nn, UInt8.ofNat T, UInt8.ofNat Z]))).toArray 103 (0, 0)))) (h3 : Below b5 wa wc) => show FrB (supF cf i) b5 wc ∧ ZIn b4 wc ∧ Below b w wc from by
    refine ⟨⟨supF_is _ _, ?_⟩, (HZ5.out.below (by have := HL5.out; omega) h1).below (by have := HL5.out; omega) h3, (HB5.out.trans (h1.mono (Nat.le_of_lt hlb))).trans (h3.mono (Nat.le_of_lt hbb))⟩
    rw [h2.out]
    have e : splice (frC f0) 4 (bytesV (le 4 id ++ [UInt8.ofNat Kk, UInt8.ofNat Nn, UInt8.ofNat T, UInt8.ofNat Z])) = frC (supF cf i) := by
      obtain ⟨e1, e2, e3, e4, e5⟩ := HID.out
      unfold supF supD
      rw [e1, e2, e3, e4, e5, HF0.out]
      rfl
    rw [e])
  have d0 : ∀ w', CfB cf b w' → w'.cell? ⟨b, 0, none⟩ = some (.int .i64 (id : Int)) := fun w' h => by rw [← HID.out.1]; exact h.cell 0
  have d1 : ∀ w', CfB cf b w' → w'.cell? ⟨b, 1, none⟩ = some (.int .i64 (Kk : Int)) := fun w' h => by rw [← HID.out.2.1]; exact h.cell 1
  have d2 : ∀ w', CfB cf b w' → w'.cell? ⟨b, 2, none⟩ = some (.int .i64 (Nn : Int)) := fun w' h => by rw [← HID.out.2.2.1]; exact h.cell 2
  have d3 : ∀ w', CfB cf b w' → w'.cell? ⟨b, 3, none⟩ = some (.int .i64 (T : Int)) := fun w' h => by rw [← HID.out.2.2.2.1]; exact h.cell 3
  have d4 : ∀ w', CfB cf b w' → w'.cell? ⟨b, 4, none⟩ = some (.int .i64 (Z : Int)) := fun w' h => by rw [← HID.out.2.2.2.2]; exact h.cell 4
  have wr8 : ∀ x : Nat, x ≤ 64 → IntKind.u8.wrap (x : Int) = (x : Int) := by decide +kernel
  have wK := wr8 Kk (by have := HR.out; omega)
  have wN := wr8 Nn (by have := HR.out; omega)
  have wT := wr8 T (by have := HR.out; omega)
  have wZ := wr8 Z (by have := HR.out; omega)
  have wI : IntKind.u64.wrap (id : Int) = (id : Int) := by rw [IntKind.wrap_u64]; have := HR.out; omega
  clear wr8 hnb
  go_cut [] from 8 to 28 (fun wx => FrB (supF cf i) b5 wx ∧ ZIn b4 wx ∧ Below b w wx)
  case first =>
    refine wp_region_noPanic ?_
    refine wp_region_held_drew (S := (fun w' => CfB cf b w')) (by kernel_rfl) HC5.out (fun hHeld => ?_)
    refine wpAnyH_take (i := 0) (oi := ⟨some 8, _, _, _, _, _⟩) (v := ?_) rfl (by kernel_rfl) (by kernel_rfl) (by kernel_rfl) (fun _ _ _ h => h) (Or.inl ⟨by rfl, ?_⟩) hHeld ?_
    rotate_left
    · intro w hSw; (go_simp; try with_reducible rfl)
    simp only [Act.put, List.setIfInBounds_toArray, List.set_cons_zero, List.set_cons_succ]
    refine wpAnyH_take (i := 1) (oi := ⟨some 9, _, _, _, _, _⟩) (v := ?_) rfl (by kernel_rfl) (by kernel_rfl) (by kernel_rfl) (fun _ _ _ h => h) (Or.inl ⟨by rfl, ?_⟩) hHeld ?_
    rotate_left
    · intro w hSw; (go_simp; try with_reducible rfl)
    simp only [Act.put, List.setIfInBounds_toArray, List.set_cons_zero, List.set_cons_succ]
    refine wpAnyH_take (i := 2) (oi := ⟨some 10, _, _, _, _, _⟩) (v := ?_) rfl (by kernel_rfl) (by kernel_rfl) (by kernel_rfl) (fun _ _ _ h => h) (Or.inl ⟨by rfl, ?_⟩) hHeld ?_
    rotate_left
    · intro w hSw; (go_simp; try with_reducible rfl)
    simp only [Act.put, List.setIfInBounds_toArray, List.set_cons_zero, List.set_cons_succ]
    refine wpAnyH_take (i := 3) (oi := ⟨some 11, _, _, _, _, _⟩) (v := ?_) rfl (by kernel_rfl) (by kernel_rfl) (by kernel_rfl) (fun _ _ _ h => h) (Or.inl ⟨by rfl, ?_⟩) hHeld ?_
    rotate_left
    · intro w hSw; (go_simp; try with_reducible rfl)
    simp only [Act.put, List.setIfInBounds_toArray, List.set_cons_zero, List.set_cons_succ]
    refine wpAnyH_take (i := 4) (oi := ⟨some 12, _, _, _, _, _⟩) (v := ?_) rfl (by kernel_rfl) (by kernel_rfl) (by kernel_rfl) (fun _ _ _ h => h) (Or.inl ⟨by rfl, ?_⟩) hHeld ?_
    rotate_left
    · intro w hSw; (go_simp; try with_reducible rfl)
    simp only [Act.put, List.setIfInBounds_toArray, List.set_cons_zero, List.set_cons_succ]
    refine wpAnyH_take (i := 6) (oi := ⟨some 14, _, _, _, _, _⟩) (v := ?_) rfl (by kernel_rfl) (by kernel_rfl) (by kernel_rfl) (fun _ _ _ h => h) (Or.inl ⟨by rfl, ?_⟩) hHeld ?_
    rotate_left
    · intro w hSw; (go_simp; try with_reducible rfl)
    simp only [Act.put, List.setIfInBounds_toArray, List.set_cons_zero, List.set_cons_succ]
    refine wpAnyH_take (i := 7) (oi := ⟨some 15, _, _, _, _, _⟩) (v := ?_) rfl (by kernel_rfl) (by kernel_rfl) (by kernel_rfl) (fun _ _ _ h => h) (Or.inl ⟨by rfl, ?_⟩) hHeld ?_
    rotate_left
    · intro w hSw; (go_simp; try with_reducible rfl)
    simp only [Act.put, List.setIfInBounds_toArray, List.set_cons_zero, List.set_cons_succ]
    refine wpAnyH_take (i := 8) (oi := ⟨some 16, _, _, _, _, _⟩) (v := ?_) rfl (by kernel_rfl) (by kernel_rfl) (by kernel_rfl) (fun _ _ _ h => h) (Or.inl ⟨by rfl, ?_⟩) hHeld ?_
    rotate_left
    · intro w hSw; (go_simp; try with_reducible rfl)
    simp only [Act.put, List.setIfInBounds_toArray, List.set_cons_zero, List.set_cons_succ]
    refine wpAnyH_take (i := 9) (oi := ⟨some 17, _, _, _, _, _⟩) (v := ?_) rfl (by kernel_rfl) (by kernel_rfl) (by kernel_rfl) (fun _ _ _ h => h) (Or.inl ⟨by rfl, ?_⟩) hHeld ?_
    rotate_left
    · intro w hSw; (go_simp; try with_reducible rfl)
    simp only [Act.put, List.setIfInBounds_toArray, List.set_cons_zero, List.set_cons_succ]
    refine wpAnyH_take (i := 10) (oi := ⟨some 18, _, _, _, _, _⟩) (v := ?_) rfl (by kernel_rfl) (by kernel_rfl) (by kernel_rfl) (fun _ _ _ h => h) (Or.inl ⟨by rfl, ?_⟩) hHeld ?_
    rotate_left
    · intro w hSw; (go_simp; try with_reducible rfl)
    simp only [Act.put, List.setIfInBounds_toArray, List.set_cons_zero, List.set_cons_succ]
    refine wpAnyH_take (i := 11) (oi := ⟨some 19, _, _, _, _, _⟩) (v := ?_) rfl (by kernel_rfl) (by kernel_rfl) (by kernel_rfl) (fun _ _ _ h => h) (Or.inl ⟨by rfl, ?_⟩) hHeld ?_
    rotate_left
    · intro w hSw; (go_simp; try with_reducible rfl)
    simp only [Act.put, List.setIfInBounds_toArray, List.set_cons_zero, List.set_cons_succ]
    refine wpAnyH_take (i := 12) (oi := ⟨some 20, _, _, _, _, _⟩) (v := ?_) rfl (by kernel_rfl) (by kernel_rfl) (by kernel_rfl) (fun _ _ _ h => h) (Or.inl ⟨by rfl, ?_⟩) hHeld ?_
    rotate_left
    · intro w hSw; (go_simp; try with_reducible rfl)
    simp only [Act.put, List.setIfInBounds_toArray, List.set_cons_zero, List.set_cons_succ]
    refine wpAnyH_take (i := 13) (oi := ⟨some 21, _, _, _, _, _⟩) (v := ?_) rfl (by kernel_rfl) (by kernel_rfl) (by kernel_rfl) (fun _ _ _ h => h) (Or.inl ⟨by rfl, ?_⟩) hHeld ?_
    rotate_left
    · intro w hSw; (go_simp; try with_reducible rfl)
    simp only [Act.put, List.setIfInBounds_toArray, List.set_cons_zero, List.set_cons_succ]
    refine wpAnyH_take (i := 14) (oi := ⟨some 22, _, _, _, _, _⟩) (v := ?_) rfl (by kernel_rfl) (by kernel_rfl) (by kernel_rfl) (fun _ _ _ h => h) (Or.inl ⟨by rfl, ?_⟩) hHeld ?_
    rotate_left
    · intro w hSw; (go_simp; try with_reducible rfl)
    simp only [Act.put, List.setIfInBounds_toArray, List.set_cons_zero, List.set_cons_succ]
    refine wpAnyH_take (i := 15) (oi := ⟨some 23, _, _, _, _, _⟩) (v := ?_) rfl (by kernel_rfl) (by kernel_rfl) (by kernel_rfl) (fun _ _ _ h => h) (Or.inl ⟨by rfl, ?_⟩) hHeld ?_
    rotate_left
    · intro w hSw; (go_simp; try with_reducible rfl)
    simp only [Act.put, List.setIfInBounds_toArray, List.set_cons_zero, List.set_cons_succ]
    refine wpAnyH_take (i := 16) (oi := ⟨some 24, _, _, _, _, _⟩) (v := ?_) rfl (by kernel_rfl) (by kernel_rfl) (by kernel_rfl) (fun _ _ _ h => h) (Or.inl ⟨by rfl, ?_⟩) hHeld ?_
    rotate_left
    · intro w hSw; (go_simp; try with_reducible rfl)
    simp only [Act.put, List.setIfInBounds_toArray, List.set_cons_zero, List.set_cons_succ]
    refine wpAnyH_take (i := 17) (oi := ⟨some 25, _, _, _, _, _⟩) (v := ?_) rfl (by kernel_rfl) (by kernel_rfl) (by kernel_rfl) (fun _ _ _ h => h) (Or.inl ⟨by rfl, ?_⟩) hHeld ?_
    rotate_left
    · intro w hSw; (go_simp; try with_reducible rfl)
    simp only [Act.put, List.setIfInBounds_toArray, List.set_cons_zero, List.set_cons_succ]
    refine wpAnyH_ready (rs := [5, 18]) (by kernel_rfl) (by simp) ?_
    refine AllReadyH.cons (o := ⟨some 13, _, _, _, _, _⟩) rfl (fun K hK => ?_) ?_
    · go_simp
      refine (HNUM.out w5.drew (Nat.le_refl w5.heap.size)).mono ?_
      rintro e wn20 ⟨v20, rfl, ho20, hbn20⟩
      have hb20 : Below w5.heap.size w5 wn20 := (Below.refl w5.heap.size w5).drew.trans (hbn20.mono (Nat.le_refl w5.heap.size))
      have hc20 : CfB cf b wn20 := HC5.out.below hlb hb20
      have hon20 := own_base ho20 (Nat.le_refl w5.heap.size)
      refine hK.out _ _ hc20 (fun _ => ?_)
      clear hK K
      refine wpAnyH_ready (rs := [18]) (by kernel_rfl) (by simp) ?_
      refine AllReadyH.cons (o := ⟨some 26, _, _, _, _, _⟩) rfl (fun K hK => ?_) ?_
      · go_simp
        have hb21 : Below w5.heap.size w5 (wn20.alloc (.cells #[.int .u8 (Kk : Int), .int .u8 (Nn : Int), .int .u8 (T : Int), .int .u8 (Z : Int)] 5)) := hb20.alloc hb20.size _
        have hc21 : CfB cf b (wn20.alloc (.cells #[.int .u8 (Kk : Int), .int .u8 (Nn : Int), .int .u8 (T : Int), .int .u8 (Z : Int)] 5)) := HC5.out.below hlb hb21
        have hx21 := HLIT.out wn20
        have hon21 := own_below hon20 (one_below wn20 (.cells #[.int .u8 (Kk : Int), .int .u8 (Nn : Int), .int .u8 (T : Int), .int .u8 (Z : Int)] 5))
        refine hK.out _ _ hc21 (fun _ => ?_)
        clear hK K
        refine wpAnyH_ready (rs := [19]) (by kernel_rfl) (by simp) ?_
        refine AllReadyH.cons (o := ⟨some 27, _, _, _, _, _⟩) rfl (fun K hK => ?_) ?_
        · refine step_append_bytes _ rfl (.tmp 13) (.tmp 26) rfl w5.heap.size _ _ _ rfl hon21 _ _ [UInt8.ofNat Kk, UInt8.ofNat Nn, UInt8.ofNat T, UInt8.ofNat Z] rfl hx21 (by simp [le_length]) hb21.size ?_
          intro va22 wa22 hoa22 hga22
          have hb22 : Below w5.heap.size w5 wa22 := hb21.trans (hga22.below hb21.size fun k hk => (own_block hon21 hk).1)
          have hc22 : CfB cf b wa22 := HC5.out.below hlb hb22
          obtain ⟨ga22, ca22, hva22, hs22⟩ := sup_row hoa22 (by simp [le_length])
          subst hva22
          refine hK.out _ _ hc22 (fun _ => ?_)
          clear hK K
          refine wpAnyH_ready (rs := [20]) (by kernel_rfl) (by simp) ?_
          refine AllReadyH.cons (o := ⟨some 28, _, _, _, _, _⟩) rfl (fun K hK => ?_) ?_
          · refine step_copy_splice rfl (.tmp 9) (.tmp 27) 106 106 rfl 5 Tryz.underlying106 (by kernel_rfl) _ _ _ _ _ _ rfl rfl b5 4 (frC f0) 103 (HF5.out.below hl5 hb22).2 (bytesV (le 4 id ++ [UInt8.ofNat Kk, UInt8.ofNat Nn, UInt8.ofNat T, UInt8.ofNat Z])) (by simp [bytesV_length, le_length]) (fun _ => ⟨rfl, _, rfl, hs22⟩) (by rw [frC_length HF5.out.1, bytesV_length]; simp [le_length]) (fun v hv => by obtain ⟨c, _, rfl⟩ := List.mem_map.1 hv; rfl) b5 wa22 (Below.refl _ _) (Nat.le_refl _) ?_
            intro wc23 hgc23 hbc23
            have hc23 : CfB cf b wc23 := hc22.below (B := b5) hbb hbc23
            have HE := Lib.hid (show FrB (supF cf i) b5 wc23 ∧ ZIn b4 wc23 ∧ Below b w wc23 from HFIN.out wa22 wc23 hb22 hgc23 hbc23)
            refine hK.out _ _ hc23 (fun _ => ?_)
            clear hK K
            refine wpAnyH_done (by kernel_rfl) ?_ _
            refine NoPanic.normal ?_
            simp only [Act.put, List.setIfInBounds_toArray, List.set_cons_zero, List.set_cons_succ]
            go_wp2_with fail
            go_meet
            exact HE.out
          exact AllReadyH.nil
        exact AllReadyH.nil
      exact AllReadyH.nil
    refine AllReadyH.cons (o := ⟨some 26, _, _, _, _, _⟩) rfl (fun K hK => ?_) ?_
    · go_simp
      have hb20 : Below w5.heap.size w5 (w5.alloc (.cells #[.int .u8 (Kk : Int), .int .u8 (Nn : Int), .int .u8 (T : Int), .int .u8 (Z : Int)] 5)).drew := (one_below w5 (.cells #[.int .u8 (Kk : Int), .int .u8 (Nn : Int), .int .u8 (T : Int), .int .u8 (Z : Int)] 5)).drew
      have hc20 : CfB cf b (w5.alloc (.cells #[.int .u8 (Kk : Int), .int .u8 (Nn : Int), .int .u8 (T : Int), .int .u8 (Z : Int)] 5)).drew := HC5.out.below hlb hb20
      have HLT := Lib.hid (show SlB (w5.alloc (.cells #[.int .u8 (Kk : Int), .int .u8 (Nn : Int), .int .u8 (T : Int), .int .u8 (Z : Int)] 5)).drew.heap.size (w5.alloc (.cells #[.int .u8 (Kk : Int), .int .u8 (Nn : Int), .int .u8 (T : Int), .int .u8 (Z : Int)] 5)).drew (.slice (some ⟨w5.heap.size, 0, none⟩) 4 4) _ from HLIT.out w5)
      refine hK.out _ _ hc20 (fun _ => ?_)
      clear hK K
      refine wpAnyH_ready (rs := [5]) (by kernel_rfl) (by simp) ?_
      refine AllReadyH.cons (o := ⟨some 13, _, _, _, _, _⟩) rfl (fun K hK => ?_) ?_
      · go_simp
        refine (HNUM.out (w5.alloc (.cells #[.int .u8 (Kk : Int), .int .u8 (Nn : Int), .int .u8 (T : Int), .int .u8 (Z : Int)] 5)).drew hb20.size).mono ?_
        rintro e wn21 ⟨v21, rfl, ho21, hbn21⟩
        have hb21 : Below w5.heap.size w5 wn21 := hb20.trans (hbn21.mono hb20.size)
        have hc21 : CfB cf b wn21 := HC5.out.below hlb hb21
        have hon21 := own_base ho21 hb20.size
        have hx21 := (HLT.out.below hbn21).wider hbn21.size
        refine hK.out _ _ hc21 (fun _ => ?_)
        clear hK K
        refine wpAnyH_ready (rs := [19]) (by kernel_rfl) (by simp) ?_
        refine AllReadyH.cons (o := ⟨some 27, _, _, _, _, _⟩) rfl (fun K hK => ?_) ?_
        · refine step_append_bytes _ rfl (.tmp 13) (.tmp 26) rfl w5.heap.size _ _ _ rfl hon21 _ _ [UInt8.ofNat Kk, UInt8.ofNat Nn, UInt8.ofNat T, UInt8.ofNat Z] rfl hx21 (by simp [le_length]) hb21.size ?_
          intro va22 wa22 hoa22 hga22
          have hb22 : Below w5.heap.size w5 wa22 := hb21.trans (hga22.below hb21.size fun k hk => (own_block hon21 hk).1)
          have hc22 : CfB cf b wa22 := HC5.out.below hlb hb22
          obtain ⟨ga22, ca22, hva22, hs22⟩ := sup_row hoa22 (by simp [le_length])
          subst hva22
          refine hK.out _ _ hc22 (fun _ => ?_)
          clear hK K
          refine wpAnyH_ready (rs := [20]) (by kernel_rfl) (by simp) ?_
          refine AllReadyH.cons (o := ⟨some 28, _, _, _, _, _⟩) rfl (fun K hK => ?_) ?_
          · refine step_copy_splice rfl (.tmp 9) (.tmp 27) 106 106 rfl 5 Tryz.underlying106 (by kernel_rfl) _ _ _ _ _ _ rfl rfl b5 4 (frC f0) 103 (HF5.out.below hl5 hb22).2 (bytesV (le 4 id ++ [UInt8.ofNat Kk, UInt8.ofNat Nn, UInt8.ofNat T, UInt8.ofNat Z])) (by simp [bytesV_length, le_length]) (fun _ => ⟨rfl, _, rfl, hs22⟩) (by rw [frC_length HF5.out.1, bytesV_length]; simp [le_length]) (fun v hv => by obtain ⟨c, _, rfl⟩ := List.mem_map.1 hv; rfl) b5 wa22 (Below.refl _ _) (Nat.le_refl _) ?_
            intro wc23 hgc23 hbc23
            have hc23 : CfB cf b wc23 := hc22.below (B := b5) hbb hbc23
            have HE := Lib.hid (show FrB (supF cf i) b5 wc23 ∧ ZIn b4 wc23 ∧ Below b w wc23 from HFIN.out wa22 wc23 hb22 hgc23 hbc23)
            refine hK.out _ _ hc23 (fun _ => ?_)
            clear hK K
            refine wpAnyH_done (by kernel_rfl) ?_ _
            refine NoPanic.normal ?_
            simp only [Act.put, List.setIfInBounds_toArray, List.set_cons_zero, List.set_cons_succ]
            go_wp2_with fail
            go_meet
            exact HE.out
          exact AllReadyH.nil
        exact AllReadyH.nil
      exact AllReadyH.nil
    exact AllReadyH.nil
  case rest =>
    obtain ⟨h1, h2, h3⟩ := hcut
    have hl1 := h1.fin.load
    have HFI := Lib.hid (supF_is cf i)
    have hs1 := h2.store _ HFI.out
    have HL2 := Lib.hid (h2.load _ HFI.out)
    have HBE := Lib.hid (setRow_below h3 (show b ≤ b4 by have := HL5.out; omega) (frA (supF cf i)))
    have hcF : (Value.agg (frA (supF cf i))).cells = frA (supF cf i) := rfl
    have hsF : (frC (supF cf i)).length = szFr := frC_length HFI.out
    have HBB := Lib.hid hb0
    clear h1 h2 h3 d0 d1 d2 d3 d4 HFIN HLIT HNUM
    generalize supF cf i = F at *
    go_wp2_with fail
    have hl2 := HL2.out
    exact bodyPost_ret (v := .agg (frA F)) (by simp [results, Tryz.results62, go_sem, hz, hl2]) rfl ⟨rfl, by rw [HBB.out]; exact HBE.out⟩
end Go.Proofs.YtidnmkghmaeniaaGreatDoor
/-
  (*staveref8.Rack).Fits (written by gensvfits.py).
-/
namespace Go.Proofs.YtidnmkghmaeniaaGreatDoor
open Go.RowKit Go.Deep Crc Dk Qk Go.Maps Hf
/-- A configuration in block b, both racks as they were. -/
def VtS (lo : Nat) (K : Nat → Prop) (c : Lc) (f : Lf) (C E : Nat → Nat) (q q' : Rk) (cf : Cf) (b cap : Nat) (w w' : World) : Prop :=
  PX lo K w' c f C E q q' ∧ w'.cell? ⟨f.r 0, 0, none⟩ = some (.slice (some ⟨f.A 0, 0, none⟩) q'.k cap) ∧ CfB cf b w' ∧ b < w'.heap.size ∧ lo ≤ w.heap.size ∧ Below w.heap.size w w'
section
variable {lo : Nat} {K : Nat → Prop} {c : Lc} {f : Lf} {C E : Nat → Nat} {q q' : Rk} {cf : Cf} {b cap : Nat} {w w1 w2 : World}
theorem VtS.then (h : VtS lo K c f C E q q' cf b cap w w1) (hb : Below w1.heap.size w1 w2) : VtS lo K c f C E q q' cf b cap w w2 :=
  ⟨(h.1.below hb (Nat.le_trans h.2.2.2.2.1 h.2.2.2.2.2.size)).1, by rw [hb.cell (p := ⟨f.r 0, 0, none⟩) (World.block_lt_of_cell? w1 _ h.2.1)]; exact h.2.1, h.2.2.1.below h.2.2.2.1 hb, Nat.lt_of_lt_of_le h.2.2.2.1 hb.size, h.2.2.2.2.1, bthen h.2.2.2.2.2 hb⟩
theorem VtS.drew (h : VtS lo K c f C E q q' cf b cap w w1) : VtS lo K c f C E q q' cf b cap w w1.drew := h.then (Below.drew (Below.refl _ _))
end
theorem vtS_new {lo : Nat} {K : Nat → Prop} {c : Lc} {f : Lf} {C E : Nat → Nat} {q q' : Rk} {w : World} (h : PX lo K w c f C E q q') (hlo : lo ≤ w.heap.size) (cf : Cf) : ∃ cap, VtS lo K c f C E q q' cf w.heap.size cap w (w.alloc (.cells (cfA cf) 24)) := by
  have hx := (h.below (one_below w (.cells (cfA cf) 24)) hlo).1
  obtain ⟨_, cap, hc⟩ := hx.disk (i := 0) (by have := h.prog.ok.n0; omega)
  exact ⟨cap, hx, hc, (heap_alloc_new w _), by simp, hlo, one_below _ _⟩
set_option maxHeartbeats 8000000 in
set_option maxRecDepth 100000 in
theorem vfits_wrong {lo : Nat} {K : Nat → Prop} {c : Lc} {f : Lf} {C E : Nat → Nat} {q q' : Rk} (w : World) (h : PX lo K w c f C E q q') (hlo : lo ≤ w.heap.size) (cf : Cf) (hr : ¬ CfRight cf) : Calls Tryz.prog 59 #[.pointer (some ⟨f.t, 0, none⟩), .agg (cfA cf)] w (Bit false w) := by
  obtain ⟨cap, h0⟩ := vtS_new h hlo cf
  have H0 := Lib.hid h0
  have CR := Lib.hid (fun w => vright_any cf w)
  have hn0 := h.prog.ok.n0
  clear h h0 hlo
  go_enter Tryz.func59, Tryz.ntmps59
  go_wp2_with fail
  have h0 := H0.out
  generalize w.alloc (.cells (cfA cf) 24) = w1 at *
  generalize hbb : w.heap.size = b at *
  have d0 : ∀ w', VtS lo K c f C E q q' cf b cap w w' → w'.cell? ⟨b, 0, none⟩ = some (.int .i64 cf.id) := fun w' h => h.2.2.1.cell 0
  have d1 : ∀ w', VtS lo K c f C E q q' cf b cap w w' → w'.cell? ⟨b, 1, none⟩ = some (.int .i64 cf.k) := fun w' h => h.2.2.1.cell 1
  have d2 : ∀ w', VtS lo K c f C E q q' cf b cap w w' → w'.cell? ⟨b, 2, none⟩ = some (.int .i64 cf.n) := fun w' h => h.2.2.1.cell 2
  have d3 : ∀ w', VtS lo K c f C E q q' cf b cap w w' → w'.cell? ⟨b, 3, none⟩ = some (.int .i64 cf.t) := fun w' h => h.2.2.1.cell 3
  have d4 : ∀ w', VtS lo K c f C E q q' cf b cap w w' → w'.cell? ⟨b, 4, none⟩ = some (.int .i64 cf.s) := fun w' h => h.2.2.1.cell 4
  have p0 : ∀ w', VtS lo K c f C E q q' cf b cap w w' → w'.cell? ⟨f.t, 0, none⟩ = some (.slice (some ⟨f.P, 0, none⟩) q.n f.cap) := fun w' h => h.1.c0
  have p1 : ∀ w', VtS lo K c f C E q q' cf b cap w w' → w'.cell? ⟨f.P, 0, none⟩ = some (.pointer (some ⟨f.r 0, 0, none⟩)) := fun w' h => h.1.at_ (i := 0) (by omega)
  have p2 : ∀ w', VtS lo K c f C E q q' cf b cap w w' → w'.cell? ⟨f.r 0, 0, none⟩ = some (.slice (some ⟨f.A 0, 0, none⟩) q'.k cap) := fun w' h => h.2.1
  have i1 : 0 < q.n := by omega
  rw [show cfRightB cf = false from decide_eq_false hr] at CR
  clear hr
  refine wp_region_noPanic ?_
  refine wp_region_held_drew (S := (fun w' => VtS lo K c f C E q q' cf b cap w w')) (by kernel_rfl) h0.drew (fun hHeld => ?_)
  refine wpAnyH_take (i := 0) (oi := ⟨some 5, _, _, _, _, _⟩) (v := ?_) rfl (by kernel_rfl) (by kernel_rfl) (by kernel_rfl) (fun _ _ _ h => h) (Or.inl ⟨by rfl, ?_⟩) hHeld ?_
  rotate_left
  · intro w hSw; (go_simp; try with_reducible rfl)
  simp only [Act.put, List.setIfInBounds_toArray, List.set_cons_zero, List.set_cons_succ]
  refine wpAnyH_ready (rs := [1]) (by kernel_rfl) (by simp) (AllReadyH.cons rfl (fun K hK => ?_) AllReadyH.nil)
  go_simp
  refine (CR.out _).mono ?_
  rintro e w2 ⟨rfl, hb2⟩
  have h2 := VtS.then hHeld hb2
  clear hb2
  refine hK.out _ _ h2 (fun _ => ?_)
  clear hK K
  refine wpAnyH_take (i := 2) (oi := ⟨some 7, _, _, _, _, _⟩) (v := ?_) rfl (by kernel_rfl) (by kernel_rfl) (by kernel_rfl) (fun _ _ _ h => h) (Or.inl ⟨by rfl, ?_⟩) h2 ?_
  rotate_left
  · intro w hSw; (go_simp; try with_reducible rfl)
  simp only [Act.put, List.setIfInBounds_toArray, List.set_cons_zero, List.set_cons_succ]
  refine wpAnyH_take (i := 3) (oi := ⟨some 8, _, _, _, _, _⟩) (v := undef) rfl (by kernel_rfl) (by kernel_rfl) (by kernel_rfl) (fun _ _ _ h => h) (Or.inr ⟨by rfl, rfl⟩) h2 ?_
  simp only [Act.put, List.setIfInBounds_toArray, List.set_cons_zero, List.set_cons_succ]
  refine wpAnyH_take (i := 4) (oi := ⟨some 9, _, _, _, _, _⟩) (v := undef) rfl (by kernel_rfl) (by kernel_rfl) (by kernel_rfl) (fun _ _ _ h => h) (Or.inr ⟨by rfl, rfl⟩) h2 ?_
  simp only [Act.put, List.setIfInBounds_toArray, List.set_cons_zero, List.set_cons_succ]
  refine wpAnyH_take (i := 5) (oi := ⟨some 10, _, _, _, _, _⟩) (v := undef) rfl (by kernel_rfl) (by kernel_rfl) (by kernel_rfl) (fun _ _ _ h => h) (Or.inr ⟨by rfl, rfl⟩) h2 ?_
  simp only [Act.put, List.setIfInBounds_toArray, List.set_cons_zero, List.set_cons_succ]
  refine wpAnyH_take (i := 6) (oi := ⟨some 11, _, _, _, _, _⟩) (v := undef) rfl (by kernel_rfl) (by kernel_rfl) (by kernel_rfl) (fun _ _ _ h => h) (Or.inr ⟨by rfl, rfl⟩) h2 ?_
  simp only [Act.put, List.setIfInBounds_toArray, List.set_cons_zero, List.set_cons_succ]
  refine wpAnyH_take (i := 7) (oi := ⟨some 12, _, _, _, _, _⟩) (v := undef) rfl (by kernel_rfl) (by kernel_rfl) (by kernel_rfl) (fun _ _ _ h => h) (Or.inr ⟨by rfl, rfl⟩) h2 ?_
  simp only [Act.put, List.setIfInBounds_toArray, List.set_cons_zero, List.set_cons_succ]
  refine wpAnyH_take (i := 8) (oi := ⟨some 13, _, _, _, _, _⟩) (v := undef) rfl (by kernel_rfl) (by kernel_rfl) (by kernel_rfl) (fun _ _ _ h => h) (Or.inr ⟨by rfl, rfl⟩) h2 ?_
  simp only [Act.put, List.setIfInBounds_toArray, List.set_cons_zero, List.set_cons_succ]
  refine wpAnyH_take (i := 9) (oi := ⟨some 14, _, _, _, _, _⟩) (v := undef) rfl (by kernel_rfl) (by kernel_rfl) (by kernel_rfl) (fun _ _ _ h => h) (Or.inr ⟨by rfl, rfl⟩) h2 ?_
  simp only [Act.put, List.setIfInBounds_toArray, List.set_cons_zero, List.set_cons_succ]
  refine wpAnyH_take (i := 10) (oi := ⟨some 15, _, _, _, _, _⟩) (v := undef) rfl (by kernel_rfl) (by kernel_rfl) (by kernel_rfl) (fun _ _ _ h => h) (Or.inr ⟨by rfl, rfl⟩) h2 ?_
  simp only [Act.put, List.setIfInBounds_toArray, List.set_cons_zero, List.set_cons_succ]
  refine wpAnyH_take (i := 11) (oi := ⟨some 16, _, _, _, _, _⟩) (v := ?_) rfl (by kernel_rfl) (by kernel_rfl) (by kernel_rfl) (fun _ _ _ h => h) (Or.inl ⟨by rfl, ?_⟩) h2 ?_
  rotate_left
  · intro w hSw; (go_simp; try with_reducible rfl)
  simp only [Act.put, List.setIfInBounds_toArray, List.set_cons_zero, List.set_cons_succ]
  refine wpAnyH_take (i := 12) (oi := ⟨some 17, _, _, _, _, _⟩) (v := ?_) rfl (by kernel_rfl) (by kernel_rfl) (by kernel_rfl) (fun _ _ _ h => h) (Or.inl ⟨by rfl, ?_⟩) h2 ?_
  rotate_left
  · intro w hSw; (go_simp; try with_reducible rfl)
  simp only [Act.put, List.setIfInBounds_toArray, List.set_cons_zero, List.set_cons_succ]
  refine wpAnyH_take (i := 13) (oi := ⟨some 18, _, _, _, _, _⟩) (v := undef) rfl (by kernel_rfl) (by kernel_rfl) (by kernel_rfl) (fun _ _ _ h => h) (Or.inr ⟨by rfl, rfl⟩) h2 ?_
  simp only [Act.put, List.setIfInBounds_toArray, List.set_cons_zero, List.set_cons_succ]
  refine wpAnyH_take (i := 14) (oi := ⟨some 19, _, _, _, _, _⟩) (v := undef) rfl (by kernel_rfl) (by kernel_rfl) (by kernel_rfl) (fun _ _ _ h => h) (Or.inr ⟨by rfl, rfl⟩) h2 ?_
  simp only [Act.put, List.setIfInBounds_toArray, List.set_cons_zero, List.set_cons_succ]
  refine wpAnyH_take (i := 15) (oi := ⟨some 20, _, _, _, _, _⟩) (v := undef) rfl (by kernel_rfl) (by kernel_rfl) (by kernel_rfl) (fun _ _ _ h => h) (Or.inr ⟨by rfl, rfl⟩) h2 ?_
  simp only [Act.put, List.setIfInBounds_toArray, List.set_cons_zero, List.set_cons_succ]
  refine wpAnyH_take (i := 16) (oi := ⟨some 21, _, _, _, _, _⟩) (v := undef) rfl (by kernel_rfl) (by kernel_rfl) (by kernel_rfl) (fun _ _ _ h => h) (Or.inr ⟨by rfl, rfl⟩) h2 ?_
  simp only [Act.put, List.setIfInBounds_toArray, List.set_cons_zero, List.set_cons_succ]
  refine wpAnyH_take (i := 17) (oi := ⟨some 22, _, _, _, _, _⟩) (v := undef) rfl (by kernel_rfl) (by kernel_rfl) (by kernel_rfl) (fun _ _ _ h => h) (Or.inr ⟨by rfl, rfl⟩) h2 ?_
  simp only [Act.put, List.setIfInBounds_toArray, List.set_cons_zero, List.set_cons_succ]
  refine wpAnyH_take (i := 18) (oi := ⟨some 23, _, _, _, _, _⟩) (v := undef) rfl (by kernel_rfl) (by kernel_rfl) (by kernel_rfl) (fun _ _ _ h => h) (Or.inr ⟨by rfl, rfl⟩) h2 ?_
  simp only [Act.put, List.setIfInBounds_toArray, List.set_cons_zero, List.set_cons_succ]
  refine wpAnyH_take (i := 19) (oi := ⟨some 24, _, _, _, _, _⟩) (v := undef) rfl (by kernel_rfl) (by kernel_rfl) (by kernel_rfl) (fun _ _ _ h => h) (Or.inr ⟨by rfl, rfl⟩) h2 ?_
  simp only [Act.put, List.setIfInBounds_toArray, List.set_cons_zero, List.set_cons_succ]
  refine wpAnyH_take (i := 20) (oi := ⟨some 25, _, _, _, _, _⟩) (v := undef) rfl (by kernel_rfl) (by kernel_rfl) (by kernel_rfl) (fun _ _ _ h => h) (Or.inr ⟨by rfl, rfl⟩) h2 ?_
  simp only [Act.put, List.setIfInBounds_toArray, List.set_cons_zero, List.set_cons_succ]
  refine wpAnyH_take (i := 21) (oi := ⟨some 26, _, _, _, _, _⟩) (v := undef) rfl (by kernel_rfl) (by kernel_rfl) (by kernel_rfl) (fun _ _ _ h => h) (Or.inr ⟨by rfl, rfl⟩) h2 ?_
  simp only [Act.put, List.setIfInBounds_toArray, List.set_cons_zero, List.set_cons_succ]
  refine wpAnyH_take (i := 22) (oi := ⟨some 27, _, _, _, _, _⟩) (v := undef) rfl (by kernel_rfl) (by kernel_rfl) (by kernel_rfl) (fun _ _ _ h => h) (Or.inr ⟨by rfl, rfl⟩) h2 ?_
  simp only [Act.put, List.setIfInBounds_toArray, List.set_cons_zero, List.set_cons_succ]
  refine wpAnyH_take (i := 23) (oi := ⟨some 28, _, _, _, _, _⟩) (v := undef) rfl (by kernel_rfl) (by kernel_rfl) (by kernel_rfl) (fun _ _ _ h => h) (Or.inr ⟨by rfl, rfl⟩) h2 ?_
  simp only [Act.put, List.setIfInBounds_toArray, List.set_cons_zero, List.set_cons_succ]
  refine wpAnyH_take (i := 24) (oi := ⟨some 29, _, _, _, _, _⟩) (v := undef) rfl (by kernel_rfl) (by kernel_rfl) (by kernel_rfl) (fun _ _ _ h => h) (Or.inr ⟨by rfl, rfl⟩) h2 ?_
  simp only [Act.put, List.setIfInBounds_toArray, List.set_cons_zero, List.set_cons_succ]
  refine wpAnyH_take (i := 25) (oi := ⟨some 30, _, _, _, _, _⟩) (v := undef) rfl (by kernel_rfl) (by kernel_rfl) (by kernel_rfl) (fun _ _ _ h => h) (Or.inr ⟨by rfl, rfl⟩) h2 ?_
  simp only [Act.put, List.setIfInBounds_toArray, List.set_cons_zero, List.set_cons_succ]
  refine wpAnyH_take (i := 26) (oi := ⟨some 31, _, _, _, _, _⟩) (v := ?_) rfl (by kernel_rfl) (by kernel_rfl) (by kernel_rfl) (fun _ _ _ h => h) (Or.inl ⟨by rfl, ?_⟩) h2 ?_
  rotate_left
  · intro w hSw; (go_simp; try with_reducible rfl)
  simp only [Act.put, List.setIfInBounds_toArray, List.set_cons_zero, List.set_cons_succ]
  refine wpAnyH_take (i := 27) (oi := ⟨some 4, _, _, _, _, _⟩) (v := ?_) rfl (by kernel_rfl) (by kernel_rfl) (by kernel_rfl) (fun _ _ _ h => h) (Or.inl ⟨by rfl, ?_⟩) h2 ?_
  rotate_left
  · intro w hSw; (go_simp; try with_reducible rfl)
  simp only [Act.put, List.setIfInBounds_toArray, List.set_cons_zero, List.set_cons_succ]
  refine wpAnyH_done (by kernel_rfl) ?_ _
  refine NoPanic.normal ?_
  go_wp2_with fail
  go_ret
  refine bit rfl ?_
  exact h2.2.2.2.2.2
set_option maxHeartbeats 8000000 in
set_option maxRecDepth 100000 in
theorem vfits_other {lo : Nat} {K : Nat → Prop} {c : Lc} {f : Lf} {C E : Nat → Nat} {q q' : Rk} (w : World) (h : PX lo K w c f C E q q') (hlo : lo ≤ w.heap.size) (cf : Cf) (hr : CfRight cf) (hn : ¬ cf.n = q.n) : Calls Tryz.prog 59 #[.pointer (some ⟨f.t, 0, none⟩), .agg (cfA cf)] w (Bit false w) := by
  obtain ⟨cap, h0⟩ := vtS_new h hlo cf
  have H0 := Lib.hid h0
  have CR := Lib.hid (fun w => vright_any cf w)
  have hn0 := h.prog.ok.n0
  clear h h0 hlo
  go_enter Tryz.func59, Tryz.ntmps59
  go_wp2_with fail
  have h0 := H0.out
  generalize w.alloc (.cells (cfA cf) 24) = w1 at *
  generalize hbb : w.heap.size = b at *
  have d0 : ∀ w', VtS lo K c f C E q q' cf b cap w w' → w'.cell? ⟨b, 0, none⟩ = some (.int .i64 cf.id) := fun w' h => h.2.2.1.cell 0
  have d1 : ∀ w', VtS lo K c f C E q q' cf b cap w w' → w'.cell? ⟨b, 1, none⟩ = some (.int .i64 cf.k) := fun w' h => h.2.2.1.cell 1
  have d2 : ∀ w', VtS lo K c f C E q q' cf b cap w w' → w'.cell? ⟨b, 2, none⟩ = some (.int .i64 cf.n) := fun w' h => h.2.2.1.cell 2
  have d3 : ∀ w', VtS lo K c f C E q q' cf b cap w w' → w'.cell? ⟨b, 3, none⟩ = some (.int .i64 cf.t) := fun w' h => h.2.2.1.cell 3
  have d4 : ∀ w', VtS lo K c f C E q q' cf b cap w w' → w'.cell? ⟨b, 4, none⟩ = some (.int .i64 cf.s) := fun w' h => h.2.2.1.cell 4
  have p0 : ∀ w', VtS lo K c f C E q q' cf b cap w w' → w'.cell? ⟨f.t, 0, none⟩ = some (.slice (some ⟨f.P, 0, none⟩) q.n f.cap) := fun w' h => h.1.c0
  have p1 : ∀ w', VtS lo K c f C E q q' cf b cap w w' → w'.cell? ⟨f.P, 0, none⟩ = some (.pointer (some ⟨f.r 0, 0, none⟩)) := fun w' h => h.1.at_ (i := 0) (by omega)
  have p2 : ∀ w', VtS lo K c f C E q q' cf b cap w w' → w'.cell? ⟨f.r 0, 0, none⟩ = some (.slice (some ⟨f.A 0, 0, none⟩) q'.k cap) := fun w' h => h.2.1
  have i1 : 0 < q.n := by omega
  rw [show cfRightB cf = true from decide_eq_true hr] at CR
  have n1 : (cf.n == (q.n : Int)) = false := by simpa using hn
  clear hr hn
  refine wp_region_noPanic ?_
  refine wp_region_held_drew (S := (fun w' => VtS lo K c f C E q q' cf b cap w w')) (by kernel_rfl) h0.drew (fun hHeld => ?_)
  refine wpAnyH_take (i := 0) (oi := ⟨some 5, _, _, _, _, _⟩) (v := ?_) rfl (by kernel_rfl) (by kernel_rfl) (by kernel_rfl) (fun _ _ _ h => h) (Or.inl ⟨by rfl, ?_⟩) hHeld ?_
  rotate_left
  · intro w hSw; (go_simp; try with_reducible rfl)
  simp only [Act.put, List.setIfInBounds_toArray, List.set_cons_zero, List.set_cons_succ]
  refine wpAnyH_ready (rs := [1]) (by kernel_rfl) (by simp) (AllReadyH.cons rfl (fun K hK => ?_) AllReadyH.nil)
  go_simp
  refine (CR.out _).mono ?_
  rintro e w2 ⟨rfl, hb2⟩
  have h2 := VtS.then hHeld hb2
  clear hb2
  refine hK.out _ _ h2 (fun _ => ?_)
  clear hK K
  refine wpAnyH_take (i := 2) (oi := ⟨some 7, _, _, _, _, _⟩) (v := ?_) rfl (by kernel_rfl) (by kernel_rfl) (by kernel_rfl) (fun _ _ _ h => h) (Or.inl ⟨by rfl, ?_⟩) h2 ?_
  rotate_left
  · intro w hSw; (go_simp; try with_reducible rfl)
  simp only [Act.put, List.setIfInBounds_toArray, List.set_cons_zero, List.set_cons_succ]
  refine wpAnyH_take (i := 3) (oi := ⟨some 8, _, _, _, _, _⟩) (v := ?_) rfl (by kernel_rfl) (by kernel_rfl) (by kernel_rfl) (fun _ _ _ h => h) (Or.inl ⟨by rfl, ?_⟩) h2 ?_
  rotate_left
  · intro w hSw; (go_simp; try with_reducible rfl)
  simp only [Act.put, List.setIfInBounds_toArray, List.set_cons_zero, List.set_cons_succ]
  refine wpAnyH_take (i := 4) (oi := ⟨some 9, _, _, _, _, _⟩) (v := ?_) rfl (by kernel_rfl) (by kernel_rfl) (by kernel_rfl) (fun _ _ _ h => h) (Or.inl ⟨by rfl, ?_⟩) h2 ?_
  rotate_left
  · intro w hSw; (go_simp; try with_reducible rfl)
  simp only [Act.put, List.setIfInBounds_toArray, List.set_cons_zero, List.set_cons_succ]
  refine wpAnyH_take (i := 5) (oi := ⟨some 10, _, _, _, _, _⟩) (v := ?_) rfl (by kernel_rfl) (by kernel_rfl) (by kernel_rfl) (fun _ _ _ h => h) (Or.inl ⟨by rfl, ?_⟩) h2 ?_
  rotate_left
  · intro w hSw; (go_simp; try with_reducible rfl)
  simp only [Act.put, List.setIfInBounds_toArray, List.set_cons_zero, List.set_cons_succ]
  refine wpAnyH_take (i := 6) (oi := ⟨some 11, _, _, _, _, _⟩) (v := ?_) rfl (by kernel_rfl) (by kernel_rfl) (by kernel_rfl) (fun _ _ _ h => h) (Or.inl ⟨by rfl, ?_⟩) h2 ?_
  rotate_left
  · intro w hSw; (go_simp; try with_reducible rfl)
  simp only [Act.put, List.setIfInBounds_toArray, List.set_cons_zero, List.set_cons_succ]
  refine wpAnyH_take (i := 7) (oi := ⟨some 12, _, _, _, _, _⟩) (v := ?_) rfl (by kernel_rfl) (by kernel_rfl) (by kernel_rfl) (fun _ _ _ h => h) (Or.inl ⟨by rfl, ?_⟩) h2 ?_
  rotate_left
  · intro w hSw; (go_simp; try with_reducible rfl)
  simp only [Act.put, List.setIfInBounds_toArray, List.set_cons_zero, List.set_cons_succ]
  refine wpAnyH_take (i := 8) (oi := ⟨some 13, _, _, _, _, _⟩) (v := ?_) rfl (by kernel_rfl) (by kernel_rfl) (by kernel_rfl) (fun _ _ _ h => h) (Or.inl ⟨by rfl, ?_⟩) h2 ?_
  rotate_left
  · intro w hSw; (go_simp; try with_reducible rfl)
  simp only [Act.put, List.setIfInBounds_toArray, List.set_cons_zero, List.set_cons_succ]
  refine wpAnyH_take (i := 9) (oi := ⟨some 14, _, _, _, _, _⟩) (v := ?_) rfl (by kernel_rfl) (by kernel_rfl) (by kernel_rfl) (fun _ _ _ h => h) (Or.inl ⟨by rfl, ?_⟩) h2 ?_
  rotate_left
  · intro w hSw; (go_simp; try with_reducible rfl)
  simp only [Act.put, List.setIfInBounds_toArray, List.set_cons_zero, List.set_cons_succ]
  refine wpAnyH_take (i := 10) (oi := ⟨some 15, _, _, _, _, _⟩) (v := ?_) rfl (by kernel_rfl) (by kernel_rfl) (by kernel_rfl) (fun _ _ _ h => h) (Or.inl ⟨by rfl, ?_⟩) h2 ?_
  rotate_left
  · intro w hSw; (go_simp; try with_reducible rfl)
  simp only [Act.put, List.setIfInBounds_toArray, List.set_cons_zero, List.set_cons_succ]
  refine wpAnyH_take (i := 11) (oi := ⟨some 16, _, _, _, _, _⟩) (v := ?_) rfl (by kernel_rfl) (by kernel_rfl) (by kernel_rfl) (fun _ _ _ h => h) (Or.inl ⟨by rfl, ?_⟩) h2 ?_
  rotate_left
  · intro w hSw; (go_simp; try with_reducible rfl)
  simp only [Act.put, List.setIfInBounds_toArray, List.set_cons_zero, List.set_cons_succ]
  refine wpAnyH_take (i := 12) (oi := ⟨some 17, _, _, _, _, _⟩) (v := ?_) rfl (by kernel_rfl) (by kernel_rfl) (by kernel_rfl) (fun _ _ _ h => h) (Or.inl ⟨by rfl, ?_⟩) h2 ?_
  rotate_left
  · intro w hSw; (go_simp; try with_reducible rfl)
  simp only [Act.put, List.setIfInBounds_toArray, List.set_cons_zero, List.set_cons_succ]
  refine wpAnyH_take (i := 13) (oi := ⟨some 18, _, _, _, _, _⟩) (v := undef) rfl (by kernel_rfl) (by kernel_rfl) (by kernel_rfl) (fun _ _ _ h => h) (Or.inr ⟨by rfl, rfl⟩) h2 ?_
  simp only [Act.put, List.setIfInBounds_toArray, List.set_cons_zero, List.set_cons_succ]
  refine wpAnyH_take (i := 14) (oi := ⟨some 19, _, _, _, _, _⟩) (v := undef) rfl (by kernel_rfl) (by kernel_rfl) (by kernel_rfl) (fun _ _ _ h => h) (Or.inr ⟨by rfl, rfl⟩) h2 ?_
  simp only [Act.put, List.setIfInBounds_toArray, List.set_cons_zero, List.set_cons_succ]
  refine wpAnyH_take (i := 15) (oi := ⟨some 20, _, _, _, _, _⟩) (v := undef) rfl (by kernel_rfl) (by kernel_rfl) (by kernel_rfl) (fun _ _ _ h => h) (Or.inr ⟨by rfl, rfl⟩) h2 ?_
  simp only [Act.put, List.setIfInBounds_toArray, List.set_cons_zero, List.set_cons_succ]
  refine wpAnyH_take (i := 16) (oi := ⟨some 21, _, _, _, _, _⟩) (v := undef) rfl (by kernel_rfl) (by kernel_rfl) (by kernel_rfl) (fun _ _ _ h => h) (Or.inr ⟨by rfl, rfl⟩) h2 ?_
  simp only [Act.put, List.setIfInBounds_toArray, List.set_cons_zero, List.set_cons_succ]
  refine wpAnyH_take (i := 17) (oi := ⟨some 22, _, _, _, _, _⟩) (v := undef) rfl (by kernel_rfl) (by kernel_rfl) (by kernel_rfl) (fun _ _ _ h => h) (Or.inr ⟨by rfl, rfl⟩) h2 ?_
  simp only [Act.put, List.setIfInBounds_toArray, List.set_cons_zero, List.set_cons_succ]
  refine wpAnyH_take (i := 18) (oi := ⟨some 23, _, _, _, _, _⟩) (v := undef) rfl (by kernel_rfl) (by kernel_rfl) (by kernel_rfl) (fun _ _ _ h => h) (Or.inr ⟨by rfl, rfl⟩) h2 ?_
  simp only [Act.put, List.setIfInBounds_toArray, List.set_cons_zero, List.set_cons_succ]
  refine wpAnyH_take (i := 19) (oi := ⟨some 24, _, _, _, _, _⟩) (v := undef) rfl (by kernel_rfl) (by kernel_rfl) (by kernel_rfl) (fun _ _ _ h => h) (Or.inr ⟨by rfl, rfl⟩) h2 ?_
  simp only [Act.put, List.setIfInBounds_toArray, List.set_cons_zero, List.set_cons_succ]
  refine wpAnyH_take (i := 20) (oi := ⟨some 25, _, _, _, _, _⟩) (v := undef) rfl (by kernel_rfl) (by kernel_rfl) (by kernel_rfl) (fun _ _ _ h => h) (Or.inr ⟨by rfl, rfl⟩) h2 ?_
  simp only [Act.put, List.setIfInBounds_toArray, List.set_cons_zero, List.set_cons_succ]
  refine wpAnyH_take (i := 21) (oi := ⟨some 26, _, _, _, _, _⟩) (v := undef) rfl (by kernel_rfl) (by kernel_rfl) (by kernel_rfl) (fun _ _ _ h => h) (Or.inr ⟨by rfl, rfl⟩) h2 ?_
  simp only [Act.put, List.setIfInBounds_toArray, List.set_cons_zero, List.set_cons_succ]
  refine wpAnyH_take (i := 22) (oi := ⟨some 27, _, _, _, _, _⟩) (v := undef) rfl (by kernel_rfl) (by kernel_rfl) (by kernel_rfl) (fun _ _ _ h => h) (Or.inr ⟨by rfl, rfl⟩) h2 ?_
  simp only [Act.put, List.setIfInBounds_toArray, List.set_cons_zero, List.set_cons_succ]
  refine wpAnyH_take (i := 23) (oi := ⟨some 28, _, _, _, _, _⟩) (v := undef) rfl (by kernel_rfl) (by kernel_rfl) (by kernel_rfl) (fun _ _ _ h => h) (Or.inr ⟨by rfl, rfl⟩) h2 ?_
  simp only [Act.put, List.setIfInBounds_toArray, List.set_cons_zero, List.set_cons_succ]
  refine wpAnyH_take (i := 24) (oi := ⟨some 29, _, _, _, _, _⟩) (v := undef) rfl (by kernel_rfl) (by kernel_rfl) (by kernel_rfl) (fun _ _ _ h => h) (Or.inr ⟨by rfl, rfl⟩) h2 ?_
  simp only [Act.put, List.setIfInBounds_toArray, List.set_cons_zero, List.set_cons_succ]
  refine wpAnyH_take (i := 25) (oi := ⟨some 30, _, _, _, _, _⟩) (v := undef) rfl (by kernel_rfl) (by kernel_rfl) (by kernel_rfl) (fun _ _ _ h => h) (Or.inr ⟨by rfl, rfl⟩) h2 ?_
  simp only [Act.put, List.setIfInBounds_toArray, List.set_cons_zero, List.set_cons_succ]
  refine wpAnyH_take (i := 26) (oi := ⟨some 31, _, _, _, _, _⟩) (v := ?_) rfl (by kernel_rfl) (by kernel_rfl) (by kernel_rfl) (fun _ _ _ h => h) (Or.inl ⟨by rfl, ?_⟩) h2 ?_
  rotate_left
  · intro w hSw; (go_simp; try with_reducible rfl)
  simp only [Act.put, List.setIfInBounds_toArray, List.set_cons_zero, List.set_cons_succ]
  refine wpAnyH_take (i := 27) (oi := ⟨some 4, _, _, _, _, _⟩) (v := ?_) rfl (by kernel_rfl) (by kernel_rfl) (by kernel_rfl) (fun _ _ _ h => h) (Or.inl ⟨by rfl, ?_⟩) h2 ?_
  rotate_left
  · intro w hSw; (go_simp; try with_reducible rfl)
  simp only [Act.put, List.setIfInBounds_toArray, List.set_cons_zero, List.set_cons_succ]
  refine wpAnyH_done (by kernel_rfl) ?_ _
  refine NoPanic.normal ?_
  go_wp2_with fail
  go_ret
  refine bit rfl ?_
  exact h2.2.2.2.2.2
set_option maxHeartbeats 8000000 in
set_option maxRecDepth 100000 in
theorem vfits_right {lo : Nat} {K : Nat → Prop} {c : Lc} {f : Lf} {C E : Nat → Nat} {q q' : Rk} (w : World) (h : PX lo K w c f C E q q') (hlo : lo ≤ w.heap.size) (cf : Cf) (hr : CfRight cf) (hn : cf.n = q.n) : Calls Tryz.prog 59 #[.pointer (some ⟨f.t, 0, none⟩), .agg (cfA cf)] w (Bit (decide (cf.secs ≤ q'.k)) w) := by
  obtain ⟨cap, h0⟩ := vtS_new h hlo cf
  have H0 := Lib.hid h0
  have CR := Lib.hid (fun w => vright_any cf w)
  have hn0 := h.prog.ok.n0
  clear h h0 hlo
  go_enter Tryz.func59, Tryz.ntmps59
  go_wp2_with fail
  have h0 := H0.out
  generalize w.alloc (.cells (cfA cf) 24) = w1 at *
  generalize hbb : w.heap.size = b at *
  have d0 : ∀ w', VtS lo K c f C E q q' cf b cap w w' → w'.cell? ⟨b, 0, none⟩ = some (.int .i64 cf.id) := fun w' h => h.2.2.1.cell 0
  have d1 : ∀ w', VtS lo K c f C E q q' cf b cap w w' → w'.cell? ⟨b, 1, none⟩ = some (.int .i64 cf.k) := fun w' h => h.2.2.1.cell 1
  have d2 : ∀ w', VtS lo K c f C E q q' cf b cap w w' → w'.cell? ⟨b, 2, none⟩ = some (.int .i64 cf.n) := fun w' h => h.2.2.1.cell 2
  have d3 : ∀ w', VtS lo K c f C E q q' cf b cap w w' → w'.cell? ⟨b, 3, none⟩ = some (.int .i64 cf.t) := fun w' h => h.2.2.1.cell 3
  have d4 : ∀ w', VtS lo K c f C E q q' cf b cap w w' → w'.cell? ⟨b, 4, none⟩ = some (.int .i64 cf.s) := fun w' h => h.2.2.1.cell 4
  have p0 : ∀ w', VtS lo K c f C E q q' cf b cap w w' → w'.cell? ⟨f.t, 0, none⟩ = some (.slice (some ⟨f.P, 0, none⟩) q.n f.cap) := fun w' h => h.1.c0
  have p1 : ∀ w', VtS lo K c f C E q q' cf b cap w w' → w'.cell? ⟨f.P, 0, none⟩ = some (.pointer (some ⟨f.r 0, 0, none⟩)) := fun w' h => h.1.at_ (i := 0) (by omega)
  have p2 : ∀ w', VtS lo K c f C E q q' cf b cap w w' → w'.cell? ⟨f.r 0, 0, none⟩ = some (.slice (some ⟨f.A 0, 0, none⟩) q'.k cap) := fun w' h => h.2.1
  have i1 : 0 < q.n := by omega
  have CS := Lib.hid (fun w => vsectors_any cf w hr)
  rw [show cfRightB cf = true from decide_eq_true hr] at CR
  have n1 : (cf.n == (q.n : Int)) = true := by simpa using hn
  clear hr hn
  refine wp_region_noPanic ?_
  refine wp_region_held_drew (S := (fun w' => VtS lo K c f C E q q' cf b cap w w')) (by kernel_rfl) h0.drew (fun hHeld => ?_)
  refine wpAnyH_take (i := 0) (oi := ⟨some 5, _, _, _, _, _⟩) (v := ?_) rfl (by kernel_rfl) (by kernel_rfl) (by kernel_rfl) (fun _ _ _ h => h) (Or.inl ⟨by rfl, ?_⟩) hHeld ?_
  rotate_left
  · intro w hSw; (go_simp; try with_reducible rfl)
  simp only [Act.put, List.setIfInBounds_toArray, List.set_cons_zero, List.set_cons_succ]
  refine wpAnyH_ready (rs := [1]) (by kernel_rfl) (by simp) (AllReadyH.cons rfl (fun K hK => ?_) AllReadyH.nil)
  go_simp
  refine (CR.out _).mono ?_
  rintro e w2 ⟨rfl, hb2⟩
  have h2 := VtS.then hHeld hb2
  clear hb2
  refine hK.out _ _ h2 (fun _ => ?_)
  clear hK K
  refine wpAnyH_take (i := 2) (oi := ⟨some 7, _, _, _, _, _⟩) (v := ?_) rfl (by kernel_rfl) (by kernel_rfl) (by kernel_rfl) (fun _ _ _ h => h) (Or.inl ⟨by rfl, ?_⟩) h2 ?_
  rotate_left
  · intro w hSw; (go_simp; try with_reducible rfl)
  simp only [Act.put, List.setIfInBounds_toArray, List.set_cons_zero, List.set_cons_succ]
  refine wpAnyH_take (i := 3) (oi := ⟨some 8, _, _, _, _, _⟩) (v := ?_) rfl (by kernel_rfl) (by kernel_rfl) (by kernel_rfl) (fun _ _ _ h => h) (Or.inl ⟨by rfl, ?_⟩) h2 ?_
  rotate_left
  · intro w hSw; (go_simp; try with_reducible rfl)
  simp only [Act.put, List.setIfInBounds_toArray, List.set_cons_zero, List.set_cons_succ]
  refine wpAnyH_take (i := 4) (oi := ⟨some 9, _, _, _, _, _⟩) (v := ?_) rfl (by kernel_rfl) (by kernel_rfl) (by kernel_rfl) (fun _ _ _ h => h) (Or.inl ⟨by rfl, ?_⟩) h2 ?_
  rotate_left
  · intro w hSw; (go_simp; try with_reducible rfl)
  simp only [Act.put, List.setIfInBounds_toArray, List.set_cons_zero, List.set_cons_succ]
  refine wpAnyH_take (i := 5) (oi := ⟨some 10, _, _, _, _, _⟩) (v := ?_) rfl (by kernel_rfl) (by kernel_rfl) (by kernel_rfl) (fun _ _ _ h => h) (Or.inl ⟨by rfl, ?_⟩) h2 ?_
  rotate_left
  · intro w hSw; (go_simp; try with_reducible rfl)
  simp only [Act.put, List.setIfInBounds_toArray, List.set_cons_zero, List.set_cons_succ]
  refine wpAnyH_take (i := 6) (oi := ⟨some 11, _, _, _, _, _⟩) (v := ?_) rfl (by kernel_rfl) (by kernel_rfl) (by kernel_rfl) (fun _ _ _ h => h) (Or.inl ⟨by rfl, ?_⟩) h2 ?_
  rotate_left
  · intro w hSw; (go_simp; try with_reducible rfl)
  simp only [Act.put, List.setIfInBounds_toArray, List.set_cons_zero, List.set_cons_succ]
  refine wpAnyH_take (i := 7) (oi := ⟨some 12, _, _, _, _, _⟩) (v := ?_) rfl (by kernel_rfl) (by kernel_rfl) (by kernel_rfl) (fun _ _ _ h => h) (Or.inl ⟨by rfl, ?_⟩) h2 ?_
  rotate_left
  · intro w hSw; (go_simp; try with_reducible rfl)
  simp only [Act.put, List.setIfInBounds_toArray, List.set_cons_zero, List.set_cons_succ]
  refine wpAnyH_take (i := 8) (oi := ⟨some 13, _, _, _, _, _⟩) (v := ?_) rfl (by kernel_rfl) (by kernel_rfl) (by kernel_rfl) (fun _ _ _ h => h) (Or.inl ⟨by rfl, ?_⟩) h2 ?_
  rotate_left
  · intro w hSw; (go_simp; try with_reducible rfl)
  simp only [Act.put, List.setIfInBounds_toArray, List.set_cons_zero, List.set_cons_succ]
  refine wpAnyH_take (i := 9) (oi := ⟨some 14, _, _, _, _, _⟩) (v := ?_) rfl (by kernel_rfl) (by kernel_rfl) (by kernel_rfl) (fun _ _ _ h => h) (Or.inl ⟨by rfl, ?_⟩) h2 ?_
  rotate_left
  · intro w hSw; (go_simp; try with_reducible rfl)
  simp only [Act.put, List.setIfInBounds_toArray, List.set_cons_zero, List.set_cons_succ]
  refine wpAnyH_take (i := 10) (oi := ⟨some 15, _, _, _, _, _⟩) (v := ?_) rfl (by kernel_rfl) (by kernel_rfl) (by kernel_rfl) (fun _ _ _ h => h) (Or.inl ⟨by rfl, ?_⟩) h2 ?_
  rotate_left
  · intro w hSw; (go_simp; try with_reducible rfl)
  simp only [Act.put, List.setIfInBounds_toArray, List.set_cons_zero, List.set_cons_succ]
  refine wpAnyH_take (i := 11) (oi := ⟨some 16, _, _, _, _, _⟩) (v := ?_) rfl (by kernel_rfl) (by kernel_rfl) (by kernel_rfl) (fun _ _ _ h => h) (Or.inl ⟨by rfl, ?_⟩) h2 ?_
  rotate_left
  · intro w hSw; (go_simp; try with_reducible rfl)
  simp only [Act.put, List.setIfInBounds_toArray, List.set_cons_zero, List.set_cons_succ]
  refine wpAnyH_take (i := 12) (oi := ⟨some 17, _, _, _, _, _⟩) (v := ?_) rfl (by kernel_rfl) (by kernel_rfl) (by kernel_rfl) (fun _ _ _ h => h) (Or.inl ⟨by rfl, ?_⟩) h2 ?_
  rotate_left
  · intro w hSw; (go_simp; try with_reducible rfl)
  simp only [Act.put, List.setIfInBounds_toArray, List.set_cons_zero, List.set_cons_succ]
  refine wpAnyH_take (i := 13) (oi := ⟨some 18, _, _, _, _, _⟩) (v := ?_) rfl (by kernel_rfl) (by kernel_rfl) (by kernel_rfl) (fun _ _ _ h => h) (Or.inl ⟨by rfl, ?_⟩) h2 ?_
  rotate_left
  · intro w hSw; (go_simp; try with_reducible rfl)
  simp only [Act.put, List.setIfInBounds_toArray, List.set_cons_zero, List.set_cons_succ]
  refine wpAnyH_take (i := 15) (oi := ⟨some 20, _, _, _, _, _⟩) (v := ?_) rfl (by kernel_rfl) (by kernel_rfl) (by kernel_rfl) (fun _ _ _ h => h) (Or.inl ⟨by rfl, ?_⟩) h2 ?_
  rotate_left
  · intro w hSw; (go_simp; try with_reducible rfl)
  simp only [Act.put, List.setIfInBounds_toArray, List.set_cons_zero, List.set_cons_succ]
  refine wpAnyH_take (i := 16) (oi := ⟨some 21, _, _, _, _, _⟩) (v := ?_) rfl (by kernel_rfl) (by kernel_rfl) (by kernel_rfl) (fun _ _ _ h => h) (Or.inl ⟨by rfl, ?_⟩) h2 ?_
  rotate_left
  · intro w hSw; (go_simp; try with_reducible rfl)
  simp only [Act.put, List.setIfInBounds_toArray, List.set_cons_zero, List.set_cons_succ]
  refine wpAnyH_take (i := 17) (oi := ⟨some 22, _, _, _, _, _⟩) (v := ?_) rfl (by kernel_rfl) (by kernel_rfl) (by kernel_rfl) (fun _ _ _ h => h) (Or.inl ⟨by rfl, ?_⟩) h2 ?_
  rotate_left
  · intro w hSw; (go_simp; try with_reducible rfl)
  simp only [Act.put, List.setIfInBounds_toArray, List.set_cons_zero, List.set_cons_succ]
  refine wpAnyH_take (i := 18) (oi := ⟨some 23, _, _, _, _, _⟩) (v := ?_) rfl (by kernel_rfl) (by kernel_rfl) (by kernel_rfl) (fun _ _ _ h => h) (Or.inl ⟨by rfl, ?_⟩) h2 ?_
  rotate_left
  · intro w hSw; (go_simp; try with_reducible rfl)
  simp only [Act.put, List.setIfInBounds_toArray, List.set_cons_zero, List.set_cons_succ]
  refine wpAnyH_take (i := 19) (oi := ⟨some 24, _, _, _, _, _⟩) (v := ?_) rfl (by kernel_rfl) (by kernel_rfl) (by kernel_rfl) (fun _ _ _ h => h) (Or.inl ⟨by rfl, ?_⟩) h2 ?_
  rotate_left
  · intro w hSw; (go_simp; try with_reducible rfl)
  simp only [Act.put, List.setIfInBounds_toArray, List.set_cons_zero, List.set_cons_succ]
  refine wpAnyH_take (i := 20) (oi := ⟨some 25, _, _, _, _, _⟩) (v := ?_) rfl (by kernel_rfl) (by kernel_rfl) (by kernel_rfl) (fun _ _ _ h => h) (Or.inl ⟨by rfl, ?_⟩) h2 ?_
  rotate_left
  · intro w hSw; (go_simp; try with_reducible rfl)
  simp only [Act.put, List.setIfInBounds_toArray, List.set_cons_zero, List.set_cons_succ]
  refine wpAnyH_take (i := 21) (oi := ⟨some 26, _, _, _, _, _⟩) (v := ?_) rfl (by kernel_rfl) (by kernel_rfl) (by kernel_rfl) (fun _ _ _ h => h) (Or.inl ⟨by rfl, ?_⟩) h2 ?_
  rotate_left
  · intro w hSw; (go_simp; try with_reducible rfl)
  simp only [Act.put, List.setIfInBounds_toArray, List.set_cons_zero, List.set_cons_succ]
  refine wpAnyH_take (i := 22) (oi := ⟨some 27, _, _, _, _, _⟩) (v := ?_) rfl (by kernel_rfl) (by kernel_rfl) (by kernel_rfl) (fun _ _ _ h => h) (Or.inl ⟨by rfl, ?_⟩) h2 ?_
  rotate_left
  · intro w hSw; (go_simp; try with_reducible rfl)
  simp only [Act.put, List.setIfInBounds_toArray, List.set_cons_zero, List.set_cons_succ]
  refine wpAnyH_take (i := 23) (oi := ⟨some 28, _, _, _, _, _⟩) (v := ?_) rfl (by kernel_rfl) (by kernel_rfl) (by kernel_rfl) (fun _ _ _ h => h) (Or.inl ⟨by rfl, ?_⟩) h2 ?_
  rotate_left
  · intro w hSw; (go_simp; try with_reducible rfl)
  simp only [Act.put, List.setIfInBounds_toArray, List.set_cons_zero, List.set_cons_succ]
  refine wpAnyH_take (i := 24) (oi := ⟨some 29, _, _, _, _, _⟩) (v := ?_) rfl (by kernel_rfl) (by kernel_rfl) (by kernel_rfl) (fun _ _ _ h => h) (Or.inl ⟨by rfl, ?_⟩) h2 ?_
  rotate_left
  · intro w hSw; (go_simp; try with_reducible rfl)
  simp only [Act.put, List.setIfInBounds_toArray, List.set_cons_zero, List.set_cons_succ]
  refine wpAnyH_ready (rs := [14]) (by kernel_rfl) (by simp) (AllReadyH.cons rfl (fun K hK => ?_) AllReadyH.nil)
  go_simp
  refine (CS.out _).mono ?_
  rintro e w3 ⟨rfl, hb3⟩
  have h3 := VtS.then h2 hb3
  clear hb3
  refine hK.out _ _ h3 (fun _ => ?_)
  clear hK K
  refine wpAnyH_take (i := 25) (oi := ⟨some 30, _, _, _, _, _⟩) (v := ?_) rfl (by kernel_rfl) (by kernel_rfl) (by kernel_rfl) (fun _ _ _ h => h) (Or.inl ⟨by rfl, ?_⟩) h3 ?_
  rotate_left
  · intro w hSw; (go_simp; try with_reducible rfl)
  simp only [Act.put, List.setIfInBounds_toArray, List.set_cons_zero, List.set_cons_succ]
  refine wpAnyH_take (i := 26) (oi := ⟨some 31, _, _, _, _, _⟩) (v := ?_) rfl (by kernel_rfl) (by kernel_rfl) (by kernel_rfl) (fun _ _ _ h => h) (Or.inl ⟨by rfl, ?_⟩) h3 ?_
  rotate_left
  · intro w hSw; (go_simp; try with_reducible rfl)
  simp only [Act.put, List.setIfInBounds_toArray, List.set_cons_zero, List.set_cons_succ]
  refine wpAnyH_take (i := 27) (oi := ⟨some 4, _, _, _, _, _⟩) (v := ?_) rfl (by kernel_rfl) (by kernel_rfl) (by kernel_rfl) (fun _ _ _ h => h) (Or.inl ⟨by rfl, ?_⟩) h3 ?_
  rotate_left
  · intro w hSw; (go_simp; try with_reducible rfl)
  simp only [Act.put, List.setIfInBounds_toArray, List.set_cons_zero, List.set_cons_succ]
  refine wpAnyH_done (by kernel_rfl) ?_ _
  refine NoPanic.normal ?_
  go_wp2_with fail
  go_ret
  refine bit rfl ?_
  exact h3.2.2.2.2.2
theorem vfits_any {lo : Nat} {K : Nat → Prop} {c : Lc} {f : Lf} {C E : Nat → Nat} {q q' : Rk} (w : World) (h : PX lo K w c f C E q q') (hlo : lo ≤ w.heap.size) (cf : Cf) : Calls Tryz.prog 59 #[.pointer (some ⟨f.t, 0, none⟩), .agg (cfA cf)] w (Bit (cf.fits q') w) := by
  unfold Cf.fits
  rw [h.n]
  by_cases hr : CfRight cf
  · rw [show cfRightB cf = true from decide_eq_true hr, Bool.true_and]
    by_cases hn : cf.n = q.n
    · rw [decide_eq_true hn, Bool.true_and]
      exact vfits_right w h hlo cf hr hn
    · rw [decide_eq_false hn, Bool.false_and]
      exact vfits_other w h hlo cf hr hn
  · rw [show cfRightB cf = false from decide_eq_false hr, Bool.false_and]
    exact vfits_wrong w h hlo cf hr
end Go.Proofs.YtidnmkghmaeniaaGreatDoor
/-
  (*staveref8.Rack).PutSuper; both racks behind a Put.
-/
namespace Qk
open Dk
end Qk
namespace Go.Proofs.YtidnmkghmaeniaaGreatDoor
open Go.RowKit Go.Deep Crc Dk Qk Go.Maps Hf
def Rk.vsput (q : Rk) (c : Cf) (i : Int) : Rk :=
  if c.fits q = true then (if q.wcode i 0 (put (supF c i)).length = 0 then (q.vwrite i 0 (put (supF c i))).vflush i else q.vwrite i 0 (put (supF c i))) else q
def Rk.vscode (q : Rk) (c : Cf) (i : Int) : Int :=
  if c.fits q = true then (if q.wcode i 0 (put (supF c i)).length = 0 then (q.vwrite i 0 (put (supF c i))).fcode i else q.wcode i 0 (put (supF c i)).length) else 1
theorem alike_cfits {q q' : Rk} (h : Qk.Alike q q') (c : Cf) : c.fits q' = c.fits q := by unfold Cf.fits; rw [h.n, h.k]
theorem alike_sput {q q' : Rk} (h : Qk.Alike q q') (c : Cf) (i : Int) : Qk.Alike (Rk.sput q c i) (Rk.vsput q' c i) ∧ Rk.vscode q' c i = Rk.scode q c i := by
  obtain ⟨h1, h2⟩ := h.write i 0 (put (supF c i))
  obtain ⟨h3, h4⟩ := h1.flush i
  unfold Rk.sput Rk.vsput Rk.scode Rk.vscode
  rw [alike_cfits h, h2]
  by_cases hf : c.fits q = true
  · rw [if_pos hf, if_pos hf, if_pos hf, if_pos hf]
    by_cases hw : q.wcode i 0 (put (supF c i)).length = 0
    · rw [if_pos hw, if_pos hw, if_pos hw, if_pos hw]; exact ⟨h3, h4⟩
    · rw [if_neg hw, if_neg hw, if_neg hw, if_neg hw]; exact ⟨h1, rfl⟩
  · rw [if_neg hf, if_neg hf, if_neg hf, if_neg hf]; exact ⟨h, rfl⟩
theorem PR.below {lo : Nat} {K : Nat → Prop} {c : Lc} {f : Lf} {C E : Nat → Nat} {q q' : Rk} {w w' : World} (h : PX lo K w c f C E q q') (hb : Below w.heap.size w w') (hlo : lo ≤ w.heap.size) : PX lo K w' c f C E q q' ∧ Kept lo K w w' := h.below hb hlo
set_option maxHeartbeats 2000000 in
set_option maxRecDepth 100000 in
theorem vput_no {lo : Nat} {K : Nat → Prop} {c : Lc} {f : Lf} {C E : Nat → Nat} {q q' : Rk} (w : World) (h : PX lo K w c f C E q q') (hlo : lo ≤ w.heap.size) (cf : Cf) (i : Int) (hf : cf.fits q' = false) :
    Calls Tryz.prog 13 #[.pointer (some ⟨f.t, 0, none⟩), .agg (cfA cf), .int .i64 i] w (VN lo K c f q q' (.int .i64 1) w) := by
  have hb := one_below w (.cells (cfA cf) 24)
  have H1 := Lib.hid (h.below hb hlo)
  have hlo1 := Nat.le_trans hlo hb.size
  have HF := Lib.hid (vfits_any _ H1.out.1 hlo1 cf)
  rw [hf] at HF
  have HLO := Lib.hid hlo1
  obtain ⟨d0, d1, d2, d3, d4⟩ := (cfB_new w cf).cells
  clear h hf hb hlo1 hlo
  go_enter Tryz.func13, Tryz.ntmps13
  go_wp2_with (go_at_call 59; refine HF.out.mono ?_; rintro e w2 ⟨rfl, hb2⟩; have H2 := Lib.hid (H1.out.1.below hb2 HLO.out); clear hb2)
  go_ret
  exact ⟨rfl, ⟨C, E, H2.out.1⟩, H1.out.2.trans H2.out.2⟩
set_option maxHeartbeats 4000000 in
set_option maxRecDepth 100000 in
theorem vput_yes {lo : Nat} {K : Nat → Prop} {c : Lc} {f : Lf} {C E : Nat → Nat} {q q' : Rk} (w : World) (h : PX lo K w c f C E q q') (hlo : lo ≤ w.heap.size) (cf : Cf) (i : Int) (hf : cf.fits q' = true) :
    Calls Tryz.prog 13 #[.pointer (some ⟨f.t, 0, none⟩), .agg (cfA cf), .int .i64 i] w (VN lo K c f q (Rk.vsput q' cf i) (.int .i64 (Rk.vscode q' cf i)) w) := by
  have hb := one_below w (.cells (cfA cf) 24)
  have H1 := Lib.hid (h.below hb hlo)
  have HLO1 := Lib.hid (Nat.le_trans hlo hb.size)
  have HF := Lib.hid (vfits_any _ H1.out.1 HLO1.out cf)
  rw [hf] at HF
  have CB := Lib.hid (fun w => vsuperframe_any cf i w (fits_right hf).1)
  have CP := Lib.hid (fun w => refPut_any (supF cf i) w (supF_is cf i))
  have HSP := Lib.hid (show Rk.vsput q' cf i = _ from if_pos hf)
  have HSE := Lib.hid (show Rk.vscode q' cf i = _ from if_pos hf)
  have HC1 := Lib.hid (cfB_new w cf)
  have HL1 := Lib.hid (show w.heap.size < (w.alloc (.cells (cfA cf) 24)).heap.size by simp)
  obtain ⟨d0, d1, d2, d3, d4⟩ := HC1.out.cells
  clear h hf hb hlo
  generalize supF cf i = F at *
  go_enter Tryz.func13, Tryz.ntmps13
  go_wp2_with fail
  refine HF.out.mono ?_
  rintro e w2 ⟨rfl, hb2⟩
  have H2 := Lib.hid (H1.out.1.below hb2 HLO1.out)
  have HLO2 := Lib.hid (Nat.le_trans HLO1.out hb2.size)
  obtain ⟨e0, e1, e2, e3, e4⟩ := (HC1.out.below HL1.out hb2).cells
  clear hb2 d0 d1 d2 d3 d4
  go_wp2_with fail
  refine (CB.out w2).mono ?_
  rintro e w3 ⟨rfl, hb3⟩
  have H3 := Lib.hid (H2.out.1.below hb3 HLO2.out)
  have HLO3 := Lib.hid (Nat.le_trans HLO2.out hb3.size)
  clear hb3
  go_wp2_with fail
  refine (CP.out w3).mono ?_
  rintro e w4 ⟨v4, rfl, ho4, hb4⟩
  have H4 := Lib.hid (H3.out.1.below hb4 HLO3.out)
  have HLO4 := Lib.hid (Nat.le_trans HLO3.out hb4.size)
  have HW := Lib.hid (vwrite_any w4 H4.out.1 HLO4.out i 0 v4 (Hf.put F) (slb_own ho4))
  have HK4 := Lib.hid (((H1.out.2.trans H2.out.2).trans H3.out.2).trans H4.out.2)
  clear hb4 ho4
  generalize Hf.put F = L at *
  by_cases hw : q'.wcode i 0 L.length = 0
  · rw [hw] at HW
    rw [if_pos hw] at HSP HSE
    clear hw
    go_wp2_with fail
    refine HW.out.mono ?_
    rintro e w5 ⟨rfl, ⟨C5, E5, hR5⟩, hK5⟩
    have HLO5 := Lib.hid (show lo ≤ w5.heap.size from Nat.le_trans HLO4.out hK5.below.size)
    have HFL := Lib.hid (vflush_any w5 hR5 HLO5.out i)
    have HK5 := Lib.hid hK5
    clear hR5 hK5
    go_wp2_with fail
    refine HFL.out.mono ?_
    rintro e w6 ⟨rfl, hR6, hK6⟩
    go_wp2_with fail
    go_ret
    exact ⟨by rw [HSE.out]; rfl, by rw [HSP.out]; exact hR6, (HK4.out.trans HK5.out).trans hK6⟩
  · have hw2 : (q'.wcode i 0 L.length != 0) = true := by simpa using hw
    rw [if_neg hw] at HSP HSE
    go_wp2_with fail
    refine HW.out.mono ?_
    rintro e w5 ⟨rfl, hR5, hK5⟩
    have HR5 := Lib.hid hR5
    have HK5 := Lib.hid hK5
    clear hR5 hK5
    generalize q'.wcode i 0 L.length = wc at *
    go_wp2_with fail
    go_ret
    exact ⟨by rw [HSE.out]; rfl, by rw [HSP.out]; exact HR5.out, HK4.out.trans HK5.out⟩
theorem vput_any {lo : Nat} {K : Nat → Prop} {c : Lc} {f : Lf} {C E : Nat → Nat} {q q' : Rk} (w : World) (h : PX lo K w c f C E q q') (hlo : lo ≤ w.heap.size) (cf : Cf) (i : Int) :
    Calls Tryz.prog 13 #[.pointer (some ⟨f.t, 0, none⟩), .agg (cfA cf), .int .i64 i] w (VN lo K c f q (Rk.vsput q' cf i) (.int .i64 (Rk.vscode q' cf i)) w) := by
  cases hf : cf.fits q' with
  | true => exact vput_yes w h hlo cf i hf
  | false =>
    have e1 : Rk.vsput q' cf i = q' := if_neg (by rw [hf]; decide)
    have e2 : Rk.vscode q' cf i = 1 := if_neg (by rw [hf]; decide)
    rw [e1, e2]
    exact vput_no w h hlo cf i hf
end Go.Proofs.YtidnmkghmaeniaaGreatDoor
/-
  (*staveref8.Rack).Super (written by gensvsup.py).
-/
namespace Go.Proofs.YtidnmkghmaeniaaGreatDoor
open Go.RowKit Go.Deep Crc Dk Qk Go.Maps Hf
/-- A frame, and the place of the answer. -/
def VsS (f : Fr) (b1 b0 : Nat) (w w' : World) : Prop := FrIn f b1 w' ∧ CfB zeroC b0 w' ∧ b1 < w'.heap.size ∧ b0 < w'.heap.size ∧ Below w.heap.size w w'
theorem VsS.drew {f : Fr} {b1 b0 : Nat} {w w' : World} (h : VsS f b1 b0 w w') : VsS f b1 b0 w w'.drew := ⟨h.1, h.2.1, h.2.2.1, h.2.2.2.1, h.2.2.2.2.drew⟩
theorem VsS.then {f : Fr} {b1 b0 : Nat} {w w1 w2 : World} (h : VsS f b1 b0 w w1) (hb : Below w1.heap.size w1 w2) : VsS f b1 b0 w w2 :=
  ⟨h.1.below h.2.2.1 hb, h.2.1.below h.2.2.2.1 hb, Nat.lt_of_lt_of_le h.2.2.1 hb.size, Nat.lt_of_lt_of_le h.2.2.2.1 hb.size, bthen h.2.2.2.2 hb⟩
theorem frIn_four {f : Fr} {b : Nat} {w : World} (h : FrIn f b w) (hb : b < w.heap.size) : SlB w.heap.size w (.slice (some ⟨b, 4, none⟩) 4 108) (f.d.take 4) := by
  have hi : f.d.length = 108 := h.1
  have hl : (f.d.take 4).length = 4 := by rw [List.length_take]; omega
  rcases h.data with ⟨h0, _⟩ | ⟨b', o, cap, h1, h2, h3, h4, h5⟩
  · rw [h0] at hi; simp at hi
  · injection h1 with h1 _ _
    injection h1 with h1
    injection h1 with e1 e2 _
    subst e1 e2
    refine Or.inr ⟨b, 4, 108, by rw [hl], hb, fun x hx => ?_, by omega, by omega⟩
    rw [hl] at hx
    rw [h3 x (by omega)]
    simp [List.getD, hx]
theorem frIn_byte {f : Fr} {b k : Nat} {w : World} (h : FrIn f b w) (hk : k < 108) : w.cell? ⟨b, 4 + k, none⟩ = some (.int .u8 ((f.d.getD k 0).toNat : Int)) := by
  have hi : f.d.length = 108 := h.1
  refine h.2 (4 + k) _ ?_
  unfold frC
  rw [List.getElem?_append_right (by simp)]
  simpa using bytesV_at (l := f.d) (i := k) (by omega)
set_option maxHeartbeats 2000000 in
set_option maxRecDepth 100000 in
theorem vsuper_none (w : World) (r : Value) (i : Int) (hg : ∀ w' : World, Below w.heap.size w w' → Calls Tryz.prog 72 #[r, .int .i64 i, .int .i64 0, .int .i64 1, .int .i64 i, .int .i64 0] w' (FrameBit zeroF false w')) :
    Calls Tryz.prog 16 #[r, .int .i64 i] w (CfBit zeroC false w) := by
  have H0 := Lib.hid (sgS_new w)
  have HG := Lib.hid (hg _ H0.out.2.2)
  have hz := szFr_run
  have hz0 := zero_frame
  have hc : (Value.agg (frA zeroF)).cells = frA zeroF := rfl
  have hsz : (frC zeroF).length = szFr := frC_length zeroF_is
  have hst : ∀ W : World, (storeCells ⟨W.heap.size, 0, none⟩ (frC zeroF) 0).run Tryz.prog (W.alloc (.cells (frA zeroF) 103)) = .ok () (W.alloc (.cells (frA zeroF) 103)) := fun W => storeCells_frame zeroF_is zeroF_is W
  clear hg
  go_enter Tryz.func16, Tryz.ntmps16
  go_wp2_with fail
  refine HG.out.mono ?_
  rintro e w1 ⟨rfl, hb1⟩
  have h1 := (SgS.then H0.out hb1).then (one_below w1 (.cells (frA zeroF) 103))
  obtain ⟨z0, z1, z2, z3, z4⟩ := h1.1.cells
  obtain ⟨q0, q1, q2, q3, q4⟩ := h1.1.free
  have HF := Lib.hid (h1.1.fill ⟨0, 0, 0, 0, 0⟩).cells
  have HB := Lib.hid (fillC_below h1.2.2 (Nat.le_refl w.heap.size) zeroC)
  clear hb1 h1
  go_wp2_with fail
  obtain ⟨g0, g1, g2, g3, g4⟩ := HF.out
  exact bodyPost_ret (v := .tuple #[.agg (cfA ⟨0, 0, 0, 0, 0⟩), .bool false]) (by simp [results, Tryz.results16, go_sem, g0, g1, g2, g3, g4]) rfl ⟨rfl, HB.out⟩
set_option maxHeartbeats 16000000 in
set_option maxRecDepth 100000 in
theorem vsuper_wrong (w : World) (r : Value) (i : Int) (f : Fr) (hi : f.is) (hg : ∀ w' : World, Below w.heap.size w w' → Calls Tryz.prog 72 #[r, .int .i64 i, .int .i64 0, .int .i64 1, .int .i64 i, .int .i64 0] w' (FrameBit f true w')) (h1 : f.g = 1) (hr : ¬ CfRight (readC f.d)) :
    Calls Tryz.prog 16 #[r, .int .i64 i] w (CfBit zeroC false w) := by
  have CR := Lib.hid (fun w => show Calls Tryz.prog 74 #[.agg (cfA (readC f.d))] w (Bit false w) from by have := vright_any (readC f.d) w; rwa [show cfRightB (readC f.d) = false from decide_eq_false hr] at this)
  clear hr
  have H0 := Lib.hid (sgS_new w)
  have HG := Lib.hid (hg _ H0.out.2.2)
  have hz := szFr_run
  have hz0 := zero_frame
  have hcz : (Value.agg (frA zeroF)).cells = frA zeroF := rfl
  have hcf : (Value.agg (frA f)).cells = frA f := rfl
  have hsz : (frC zeroF).length = szFr := frC_length zeroF_is
  have hsf : (frC f).length = szFr := frC_length hi
  have hst : ∀ W : World, (storeCells ⟨W.heap.size, 0, none⟩ (frC f) 0).run Tryz.prog (W.alloc (.cells (frA zeroF) 103)) = .ok () (W.alloc (.cells (frA f) 103)) := fun W => storeCells_frame zeroF_is hi W
  have HI := Lib.hid hi
  have HG1 := Lib.hid h1
  clear hg hi h1
  go_enter Tryz.func16, Tryz.ntmps16
  go_wp2_with fail
  refine HG.out.mono ?_
  rintro e w1 ⟨rfl, hb1⟩
  have H1 := Lib.hid (SgS.then H0.out hb1)
  have c3 := (frIn_new w1 f HI.out).c3
  rw [HG1.out] at c3
  clear hb1
  go_upto_region 4 with (fail)
  clear hst
  have H3 := Lib.hid (show VsS f w1.heap.size w.heap.size w (w1.alloc (.cells (frA f) 103)) from ⟨frIn_new w1 f HI.out, (SgS.then H1.out (one_below w1 _)).1, by simp, (SgS.then H1.out (one_below w1 _)).2.1, (SgS.then H1.out (one_below w1 _)).2.2⟩)
  have h3 := H3.out
  clear c3
  generalize w1.alloc (.cells (frA f) 103) = w3 at *
  generalize w1.heap.size = b1 at *
  have CBIG := Lib.hid (fun w' (h : VsS f b1 w.heap.size w w') => bigN_any _ _ (f.d.take 4) w' (frIn_four h.1 h.2.2.1) (Nat.le_refl _) (by rw [List.length_take]; omega))
  have l4 : leV (f.d.take 4) < 4294967296 := by
    have h := leV_lt (f.d.take 4)
    have hl : (f.d.take 4).length ≤ 4 := by rw [List.length_take]; omega
    exact Nat.lt_of_lt_of_le h (Nat.le_trans (Nat.pow_le_pow_right (by decide) (show 8 * (f.d.take 4).length ≤ 32 by omega)) (by decide))
  have wI : IntKind.i64.wrap ((leV (f.d.take 4) : Nat) : Int) = ((leV (f.d.take 4) : Nat) : Int) := by rw [IntKind.wrap_i64]; omega
  have wB : ∀ k, IntKind.i64.wrap ((f.d.getD k 0).toNat : Int) = ((f.d.getD k 0).toNat : Int) := fun k => by have := u8_lt (f.d.getD k 0); rw [IntKind.wrap_i64]; omega
  have w4 := wB 4
  have w5 := wB 5
  have w6 := wB 6
  have w7 := wB 7
  have e4 : ∀ w', VsS f b1 w.heap.size w w' → w'.cell? ⟨b1, 8, none⟩ = some (.int .u8 ((f.d.getD 4 0).toNat : Int)) := fun w' h => frIn_byte (k := 4) h.1 (by omega)
  have e5 : ∀ w', VsS f b1 w.heap.size w w' → w'.cell? ⟨b1, 9, none⟩ = some (.int .u8 ((f.d.getD 5 0).toNat : Int)) := fun w' h => frIn_byte (k := 5) h.1 (by omega)
  have e6 : ∀ w', VsS f b1 w.heap.size w w' → w'.cell? ⟨b1, 10, none⟩ = some (.int .u8 ((f.d.getD 6 0).toNat : Int)) := fun w' h => frIn_byte (k := 6) h.1 (by omega)
  have e7 : ∀ w', VsS f b1 w.heap.size w w' → w'.cell? ⟨b1, 11, none⟩ = some (.int .u8 ((f.d.getD 7 0).toNat : Int)) := fun w' h => frIn_byte (k := 7) h.1 (by omega)
  have HRC := Lib.hid (show readC f.d = ⟨((leV (f.d.take 4) : Nat) : Int), ((f.d.getD 4 0).toNat : Int), ((f.d.getD 5 0).toNat : Int), ((f.d.getD 6 0).toNat : Int), ((f.d.getD 7 0).toNat : Int)⟩ from rfl)
  generalize readC f.d = cf at *
  clear wB l4
  generalize leV (f.d.take 4) = y0 at *
  generalize (f.d.getD 4 0).toNat = y4 at *
  generalize (f.d.getD 5 0).toNat = y5 at *
  generalize (f.d.getD 6 0).toNat = y6 at *
  generalize (f.d.getD 7 0).toNat = y7 at *
  go_cut [8] from 24 to 44 (fun p wx => ∃ b2, p = .pointer (some ⟨b2, 0, none⟩) ∧ GtS f b1 cf b2 w.heap.size w wx)
  case first =>
    refine wp_region_noPanic ?_
    refine wp_region_held_drew (S := (fun w' => VsS f b1 w.heap.size w w')) (by kernel_rfl) h3.drew (fun hHeld => ?_)
    refine wpAnyH_take (i := 0) (oi := ⟨some 24, _, _, _, _, _⟩) (v := ?_) rfl (by kernel_rfl) (by kernel_rfl) (by kernel_rfl) (fun _ _ _ h => h) (Or.inl ⟨by rfl, ?_⟩) hHeld ?_
    rotate_left
    · intro w hSw; (go_simp; try with_reducible rfl)
    simp only [Act.put, List.setIfInBounds_toArray, List.set_cons_zero, List.set_cons_succ]
    refine wpAnyH_take (i := 1) (oi := ⟨some 25, _, _, _, _, _⟩) (v := ?_) rfl (by kernel_rfl) (by kernel_rfl) (by kernel_rfl) (fun _ _ _ h => h) (Or.inl ⟨by rfl, ?_⟩) hHeld ?_
    rotate_left
    · intro w hSw; (go_simp; try with_reducible rfl)
    simp only [Act.put, List.setIfInBounds_toArray, List.set_cons_zero, List.set_cons_succ]
    refine wpAnyH_take (i := 4) (oi := ⟨some 28, _, _, _, _, _⟩) (v := ?_) rfl (by kernel_rfl) (by kernel_rfl) (by kernel_rfl) (fun _ _ _ h => h) (Or.inl ⟨by rfl, ?_⟩) hHeld ?_
    rotate_left
    · intro w hSw; (go_simp; try with_reducible rfl)
    simp only [Act.put, List.setIfInBounds_toArray, List.set_cons_zero, List.set_cons_succ]
    refine wpAnyH_take (i := 5) (oi := ⟨some 29, _, _, _, _, _⟩) (v := ?_) rfl (by kernel_rfl) (by kernel_rfl) (by kernel_rfl) (fun _ _ _ h => h) (Or.inl ⟨by rfl, ?_⟩) hHeld ?_
    rotate_left
    · intro w hSw; (go_simp; try with_reducible rfl)
    simp only [Act.put, List.setIfInBounds_toArray, List.set_cons_zero, List.set_cons_succ]
    refine wpAnyH_take (i := 6) (oi := ⟨some 30, _, _, _, _, _⟩) (v := ?_) rfl (by kernel_rfl) (by kernel_rfl) (by kernel_rfl) (fun _ _ _ h => h) (Or.inl ⟨by rfl, ?_⟩) hHeld ?_
    rotate_left
    · intro w hSw; (go_simp; try with_reducible rfl)
    simp only [Act.put, List.setIfInBounds_toArray, List.set_cons_zero, List.set_cons_succ]
    refine wpAnyH_take (i := 7) (oi := ⟨some 31, _, _, _, _, _⟩) (v := ?_) rfl (by kernel_rfl) (by kernel_rfl) (by kernel_rfl) (fun _ _ _ h => h) (Or.inl ⟨by rfl, ?_⟩) hHeld ?_
    rotate_left
    · intro w hSw; (go_simp; try with_reducible rfl)
    simp only [Act.put, List.setIfInBounds_toArray, List.set_cons_zero, List.set_cons_succ]
    refine wpAnyH_take (i := 8) (oi := ⟨some 32, _, _, _, _, _⟩) (v := ?_) rfl (by kernel_rfl) (by kernel_rfl) (by kernel_rfl) (fun _ _ _ h => h) (Or.inl ⟨by rfl, ?_⟩) hHeld ?_
    rotate_left
    · intro w hSw; (go_simp; try with_reducible rfl)
    simp only [Act.put, List.setIfInBounds_toArray, List.set_cons_zero, List.set_cons_succ]
    refine wpAnyH_take (i := 9) (oi := ⟨some 33, _, _, _, _, _⟩) (v := ?_) rfl (by kernel_rfl) (by kernel_rfl) (by kernel_rfl) (fun _ _ _ h => h) (Or.inl ⟨by rfl, ?_⟩) hHeld ?_
    rotate_left
    · intro w hSw; (go_simp; try with_reducible rfl)
    simp only [Act.put, List.setIfInBounds_toArray, List.set_cons_zero, List.set_cons_succ]
    refine wpAnyH_take (i := 10) (oi := ⟨some 34, _, _, _, _, _⟩) (v := ?_) rfl (by kernel_rfl) (by kernel_rfl) (by kernel_rfl) (fun _ _ _ h => h) (Or.inl ⟨by rfl, ?_⟩) hHeld ?_
    rotate_left
    · intro w hSw; (go_simp; try with_reducible rfl)
    simp only [Act.put, List.setIfInBounds_toArray, List.set_cons_zero, List.set_cons_succ]
    refine wpAnyH_take (i := 11) (oi := ⟨some 35, _, _, _, _, _⟩) (v := ?_) rfl (by kernel_rfl) (by kernel_rfl) (by kernel_rfl) (fun _ _ _ h => h) (Or.inl ⟨by rfl, ?_⟩) hHeld ?_
    rotate_left
    · intro w hSw; (go_simp; try with_reducible rfl)
    simp only [Act.put, List.setIfInBounds_toArray, List.set_cons_zero, List.set_cons_succ]
    refine wpAnyH_take (i := 12) (oi := ⟨some 36, _, _, _, _, _⟩) (v := ?_) rfl (by kernel_rfl) (by kernel_rfl) (by kernel_rfl) (fun _ _ _ h => h) (Or.inl ⟨by rfl, ?_⟩) hHeld ?_
    rotate_left
    · intro w hSw; (go_simp; try with_reducible rfl)
    simp only [Act.put, List.setIfInBounds_toArray, List.set_cons_zero, List.set_cons_succ]
    refine wpAnyH_take (i := 13) (oi := ⟨some 37, _, _, _, _, _⟩) (v := ?_) rfl (by kernel_rfl) (by kernel_rfl) (by kernel_rfl) (fun _ _ _ h => h) (Or.inl ⟨by rfl, ?_⟩) hHeld ?_
    rotate_left
    · intro w hSw; (go_simp; try with_reducible rfl)
    simp only [Act.put, List.setIfInBounds_toArray, List.set_cons_zero, List.set_cons_succ]
    refine wpAnyH_take (i := 14) (oi := ⟨some 38, _, _, _, _, _⟩) (v := ?_) rfl (by kernel_rfl) (by kernel_rfl) (by kernel_rfl) (fun _ _ _ h => h) (Or.inl ⟨by rfl, ?_⟩) hHeld ?_
    rotate_left
    · intro w hSw; (go_simp; try with_reducible rfl)
    simp only [Act.put, List.setIfInBounds_toArray, List.set_cons_zero, List.set_cons_succ]
    refine wpAnyH_take (i := 15) (oi := ⟨some 39, _, _, _, _, _⟩) (v := ?_) rfl (by kernel_rfl) (by kernel_rfl) (by kernel_rfl) (fun _ _ _ h => h) (Or.inl ⟨by rfl, ?_⟩) hHeld ?_
    rotate_left
    · intro w hSw; (go_simp; try with_reducible rfl)
    simp only [Act.put, List.setIfInBounds_toArray, List.set_cons_zero, List.set_cons_succ]
    refine wpAnyH_take (i := 16) (oi := ⟨some 40, _, _, _, _, _⟩) (v := ?_) rfl (by kernel_rfl) (by kernel_rfl) (by kernel_rfl) (fun _ _ _ h => h) (Or.inl ⟨by rfl, ?_⟩) hHeld ?_
    rotate_left
    · intro w hSw; (go_simp; try with_reducible rfl)
    simp only [Act.put, List.setIfInBounds_toArray, List.set_cons_zero, List.set_cons_succ]
    refine wpAnyH_take (i := 17) (oi := ⟨some 41, _, _, _, _, _⟩) (v := ?_) rfl (by kernel_rfl) (by kernel_rfl) (by kernel_rfl) (fun _ _ _ h => h) (Or.inl ⟨by rfl, ?_⟩) hHeld ?_
    rotate_left
    · intro w hSw; (go_simp; try with_reducible rfl)
    simp only [Act.put, List.setIfInBounds_toArray, List.set_cons_zero, List.set_cons_succ]
    refine wpAnyH_take (i := 18) (oi := ⟨some 42, _, _, _, _, _⟩) (v := ?_) rfl (by kernel_rfl) (by kernel_rfl) (by kernel_rfl) (fun _ _ _ h => h) (Or.inl ⟨by rfl, ?_⟩) hHeld ?_
    rotate_left
    · intro w hSw; (go_simp; try with_reducible rfl)
    simp only [Act.put, List.setIfInBounds_toArray, List.set_cons_zero, List.set_cons_succ]
    refine wpAnyH_take (i := 19) (oi := ⟨some 43, _, _, _, _, _⟩) (v := ?_) rfl (by kernel_rfl) (by kernel_rfl) (by kernel_rfl) (fun _ _ _ h => h) (Or.inl ⟨by rfl, ?_⟩) hHeld ?_
    rotate_left
    · intro w hSw; (go_simp; try with_reducible rfl)
    simp only [Act.put, List.setIfInBounds_toArray, List.set_cons_zero, List.set_cons_succ]
    refine wpAnyH_ready (rs := [2, 21]) (by kernel_rfl) (by simp) ?_
    refine AllReadyH.cons (o := ⟨some 26, _, _, _, _, _⟩) rfl (fun K hK => ?_) ?_
    · go_simp
      refine (CBIG.out _ hHeld).mono ?_
      rintro e w' ⟨rfl, rfl⟩
      refine hK.out _ _ hHeld (fun _ => ?_)
      clear hK K
      refine wpAnyH_take (i := 3) (oi := ⟨some 27, _, _, _, _, _⟩) (v := ?_) rfl (by kernel_rfl) (by kernel_rfl) (by kernel_rfl) (fun _ _ _ h => h) (Or.inl ⟨by rfl, ?_⟩) hHeld ?_
      rotate_left
      · intro w hSw; (go_simp; try with_reducible rfl)
      simp only [Act.put, List.setIfInBounds_toArray, List.set_cons_zero, List.set_cons_succ]
      refine wpAnyH_take (i := 20) (oi := ⟨some 44, _, _, _, _, _⟩) (v := ?_) rfl (by kernel_rfl) (by kernel_rfl) (by kernel_rfl) (fun _ _ _ h => h) (Or.inl ⟨by rfl, ?_⟩) hHeld ?_
      rotate_left
      · intro w hSw; (go_simp; try with_reducible rfl)
      simp only [Act.put, List.setIfInBounds_toArray, List.set_cons_zero, List.set_cons_succ]
      refine wpAnyH_ready (rs := [21]) (by kernel_rfl) (by simp) ?_
      refine AllReadyH.cons (o := ⟨some 8, _, _, _, _, _⟩) rfl (fun K hK => ?_) ?_
      · go_simp
        have hh21 := VsS.then hHeld (one_below w3.drew (.cells (cfA zeroC) 24))
        refine hK.out _ _ hh21 (fun _ => ?_)
        clear hK K
        refine wpAnyH_ready (rs := [22]) (by kernel_rfl) (by simp) ?_
        refine AllReadyH.cons (o := ⟨none, _, _, _, _, _⟩) rfl (fun K hK => ?_) ?_
        · go_simp
          have hs22 := VsS.drew (VsS.then h3 (one_below w3 (.cells #[.int .i64 (y0 : Int), .int .i64 (y4 : Int), .int .i64 (y5 : Int), .int .i64 (y6 : Int), .int .i64 (y7 : Int)] 24)))
          refine hK.out _ _ hs22 (fun _ => ?_)
          clear hK K
          refine wpAnyH_done (by kernel_rfl) ?_ _
          refine NoPanic.normal ?_
          go_wp2_with fail
          go_meet
          exact ⟨w3.heap.size, rfl, hs22.1, (by rw [HRC.out]; exact heap_alloc_new w3 _), hs22.2.1, hs22.2.2.1, (by simp), hs22.2.2.2.1, hs22.2.2.2.2⟩
        exact AllReadyH.nil
      exact AllReadyH.nil
    refine AllReadyH.cons (o := ⟨some 8, _, _, _, _, _⟩) rfl (fun K hK => ?_) ?_
    · go_simp
      have hh20 := VsS.then hHeld (one_below w3.drew (.cells (cfA zeroC) 24))
      refine hK.out _ _ hh20 (fun _ => ?_)
      clear hK K
      refine wpAnyH_ready (rs := [2]) (by kernel_rfl) (by simp) ?_
      refine AllReadyH.cons (o := ⟨some 26, _, _, _, _, _⟩) rfl (fun K hK => ?_) ?_
      · go_simp
        refine (CBIG.out _ hh20).mono ?_
        rintro e w' ⟨rfl, rfl⟩
        refine hK.out _ _ hh20 (fun _ => ?_)
        clear hK K
        refine wpAnyH_take (i := 3) (oi := ⟨some 27, _, _, _, _, _⟩) (v := ?_) rfl (by kernel_rfl) (by kernel_rfl) (by kernel_rfl) (fun _ _ _ h => h) (Or.inl ⟨by rfl, ?_⟩) hh20 ?_
        rotate_left
        · intro w hSw; (go_simp; try with_reducible rfl)
        simp only [Act.put, List.setIfInBounds_toArray, List.set_cons_zero, List.set_cons_succ]
        refine wpAnyH_take (i := 20) (oi := ⟨some 44, _, _, _, _, _⟩) (v := ?_) rfl (by kernel_rfl) (by kernel_rfl) (by kernel_rfl) (fun _ _ _ h => h) (Or.inl ⟨by rfl, ?_⟩) hh20 ?_
        rotate_left
        · intro w hSw; (go_simp; try with_reducible rfl)
        simp only [Act.put, List.setIfInBounds_toArray, List.set_cons_zero, List.set_cons_succ]
        refine wpAnyH_ready (rs := [22]) (by kernel_rfl) (by simp) ?_
        refine AllReadyH.cons (o := ⟨none, _, _, _, _, _⟩) rfl (fun K hK => ?_) ?_
        · go_simp
          have hs22 := VsS.drew (VsS.then h3 (one_below w3 (.cells #[.int .i64 (y0 : Int), .int .i64 (y4 : Int), .int .i64 (y5 : Int), .int .i64 (y6 : Int), .int .i64 (y7 : Int)] 24)))
          refine hK.out _ _ hs22 (fun _ => ?_)
          clear hK K
          refine wpAnyH_done (by kernel_rfl) ?_ _
          refine NoPanic.normal ?_
          go_wp2_with fail
          go_meet
          exact ⟨w3.heap.size, rfl, hs22.1, (by rw [HRC.out]; exact heap_alloc_new w3 _), hs22.2.1, hs22.2.2.1, (by simp), hs22.2.2.2.1, hs22.2.2.2.2⟩
        exact AllReadyH.nil
      exact AllReadyH.nil
    exact AllReadyH.nil
  case rest =>
    obtain ⟨b2, rfl, hG4⟩ := hcut
    obtain ⟨w4', hw4'⟩ : ∃ w4', w4' = wc := ⟨_, rfl⟩
    subst hw4'
    clear h3 H3 e4 e5 e6 e7 w4 w5 w6 w7 wI
    have d0 : ∀ w', GtS f b1 cf b2 w.heap.size w w' → w'.cell? ⟨b2, 0, none⟩ = some (.int .i64 cf.id) := fun w' h => h.2.1.cell 0
    have d1 : ∀ w', GtS f b1 cf b2 w.heap.size w w' → w'.cell? ⟨b2, 1, none⟩ = some (.int .i64 cf.k) := fun w' h => h.2.1.cell 1
    have d2 : ∀ w', GtS f b1 cf b2 w.heap.size w w' → w'.cell? ⟨b2, 2, none⟩ = some (.int .i64 cf.n) := fun w' h => h.2.1.cell 2
    have d3 : ∀ w', GtS f b1 cf b2 w.heap.size w w' → w'.cell? ⟨b2, 3, none⟩ = some (.int .i64 cf.t) := fun w' h => h.2.1.cell 3
    have d4 : ∀ w', GtS f b1 cf b2 w.heap.size w w' → w'.cell? ⟨b2, 4, none⟩ = some (.int .i64 cf.s) := fun w' h => h.2.1.cell 4
    have hla : ∀ w', GtS f b1 cf b2 w.heap.size w w' → (loadCellsFrom ⟨b1, 0, none⟩ 0 szFr #[]).run Tryz.prog w' = .ok (frA f) w' := fun w' h => h.1.load
    go_upto_region 5 with (fail)
    refine wp_region_noPanic ?_
    refine wp_region_held_drew (S := (fun w' => GtS f b1 cf b2 w.heap.size w w')) (by kernel_rfl) hG4.drew (fun hHeld5 => ?_)
    refine wpAnyH_take (i := 0) (oi := ⟨some 45, _, _, _, _, _⟩) (v := ?_) rfl (by kernel_rfl) (by kernel_rfl) (by kernel_rfl) (fun _ _ _ h => h) (Or.inl ⟨by rfl, ?_⟩) hHeld5 ?_
    rotate_left
    · intro w hSw; (go_simp; try with_reducible rfl)
    simp only [Act.put, List.setIfInBounds_toArray, List.set_cons_zero, List.set_cons_succ]
    refine wpAnyH_ready (rs := [1]) (by kernel_rfl) (by simp) (AllReadyH.cons rfl (fun K hK => ?_) AllReadyH.nil)
    go_simp
    refine (CR.out _).mono ?_
    rintro e w4 ⟨rfl, hb4⟩
    have h4 := GtS.then hHeld5 hb4
    clear hb4
    refine hK.out _ _ h4 (fun _ => ?_)
    clear hK K
    refine wpAnyH_take (i := 2) (oi := ⟨some 47, _, _, _, _, _⟩) (v := ?_) rfl (by kernel_rfl) (by kernel_rfl) (by kernel_rfl) (fun _ _ _ h => h) (Or.inl ⟨by rfl, ?_⟩) h4 ?_
    rotate_left
    · intro w hSw; (go_simp; try with_reducible rfl)
    simp only [Act.put, List.setIfInBounds_toArray, List.set_cons_zero, List.set_cons_succ]
    refine wpAnyH_take (i := 3) (oi := ⟨some 48, _, _, _, _, _⟩) (v := ?_) rfl (by kernel_rfl) (by kernel_rfl) (by kernel_rfl) (fun _ _ _ h => h) (Or.inl ⟨by rfl, ?_⟩) h4 ?_
    rotate_left
    · intro w hSw; (go_simp; try with_reducible rfl)
    simp only [Act.put, List.setIfInBounds_toArray, List.set_cons_zero, List.set_cons_succ]
    refine wpAnyH_take (i := 4) (oi := ⟨some 49, _, _, _, _, _⟩) (v := undef) rfl (by kernel_rfl) (by kernel_rfl) (by kernel_rfl) (fun _ _ _ h => h) (Or.inr ⟨by rfl, rfl⟩) h4 ?_
    simp only [Act.put, List.setIfInBounds_toArray, List.set_cons_zero, List.set_cons_succ]
    refine wpAnyH_take (i := 5) (oi := ⟨some 50, _, _, _, _, _⟩) (v := undef) rfl (by kernel_rfl) (by kernel_rfl) (by kernel_rfl) (fun _ _ _ h => h) (Or.inr ⟨by rfl, rfl⟩) h4 ?_
    simp only [Act.put, List.setIfInBounds_toArray, List.set_cons_zero, List.set_cons_succ]
    refine wpAnyH_take (i := 6) (oi := ⟨some 51, _, _, _, _, _⟩) (v := undef) rfl (by kernel_rfl) (by kernel_rfl) (by kernel_rfl) (fun _ _ _ h => h) (Or.inr ⟨by rfl, rfl⟩) h4 ?_
    simp only [Act.put, List.setIfInBounds_toArray, List.set_cons_zero, List.set_cons_succ]
    refine wpAnyH_take (i := 7) (oi := ⟨some 52, _, _, _, _, _⟩) (v := undef) rfl (by kernel_rfl) (by kernel_rfl) (by kernel_rfl) (fun _ _ _ h => h) (Or.inr ⟨by rfl, rfl⟩) h4 ?_
    simp only [Act.put, List.setIfInBounds_toArray, List.set_cons_zero, List.set_cons_succ]
    refine wpAnyH_take (i := 8) (oi := ⟨some 53, _, _, _, _, _⟩) (v := undef) rfl (by kernel_rfl) (by kernel_rfl) (by kernel_rfl) (fun _ _ _ h => h) (Or.inr ⟨by rfl, rfl⟩) h4 ?_
    simp only [Act.put, List.setIfInBounds_toArray, List.set_cons_zero, List.set_cons_succ]
    refine wpAnyH_take (i := 9) (oi := ⟨some 54, _, _, _, _, _⟩) (v := ?_) rfl (by kernel_rfl) (by kernel_rfl) (by kernel_rfl) (fun _ _ _ h => h) (Or.inl ⟨by rfl, ?_⟩) h4 ?_
    rotate_left
    · intro w hSw; (go_simp; try with_reducible rfl)
    simp only [Act.put, List.setIfInBounds_toArray, List.set_cons_zero, List.set_cons_succ]
    refine wpAnyH_done (by kernel_rfl) ?_ _
    refine NoPanic.normal ?_
    obtain ⟨z0, z1, z2, z3, z4⟩ := h4.2.2.1.cells
    obtain ⟨q0, q1, q2, q3, q4⟩ := h4.2.2.1.free
    obtain ⟨y0', y1', y2', y3', y4'⟩ := h4.2.1.cells
    have HF := Lib.hid (h4.2.2.1.fill ⟨0, 0, 0, 0, 0⟩).cells
    have HB := Lib.hid (fillC_below h4.2.2.2.2.2.2 (Nat.le_refl w.heap.size) ⟨0, 0, 0, 0, 0⟩)
    clear d0 d1 d2 d3 d4 hla h4
    go_wp2_with fail
    obtain ⟨g0, g1, g2, g3, g4⟩ := HF.out
    exact bodyPost_ret (v := .tuple #[.agg (cfA ⟨0, 0, 0, 0, 0⟩), .bool false]) (by simp [results, Tryz.results16, go_sem, g0, g1, g2, g3, g4]) rfl ⟨rfl, HB.out⟩
set_option maxHeartbeats 16000000 in
set_option maxRecDepth 100000 in
theorem vsuper_other (w : World) (r : Value) (i : Int) (f : Fr) (hi : f.is) (hg : ∀ w' : World, Below w.heap.size w w' → Calls Tryz.prog 72 #[r, .int .i64 i, .int .i64 0, .int .i64 1, .int .i64 i, .int .i64 0] w' (FrameBit f true w')) (h1 : f.g = 1) (hr : CfRight (readC f.d)) (hn : ¬ f = supF (readC f.d) i) :
    Calls Tryz.prog 16 #[r, .int .i64 i] w (CfBit zeroC false w) := by
  have CR := Lib.hid (fun w => show Calls Tryz.prog 74 #[.agg (cfA (readC f.d))] w (Bit true w) from by have := vright_any (readC f.d) w; rwa [show cfRightB (readC f.d) = true from decide_eq_true hr] at this)
  have CB := Lib.hid (fun w => vsuperframe_any (readC f.d) i w hr)
  have heq : ∀ w, (binOp .neq 103 (.agg (frA (supF (readC f.d) i))) (.agg (frA f))).run Tryz.prog w = .ok (.bool true) w := fun w => by
    rw [neql_frames _ f (supF_is _ _) hi, show frEq (supF (readC f.d) i) f = false by rw [← Bool.not_eq_true, frEq_iff]; exact fun e => hn e.symm]; rfl
  have hgd := guard_frame
  have hcg : (Value.agg (frA (supF (readC f.d) i))).cells = frA (supF (readC f.d) i) := rfl
  clear hr hn
  generalize supF (readC f.d) i = g at *
  have H0 := Lib.hid (sgS_new w)
  have HG := Lib.hid (hg _ H0.out.2.2)
  have hz := szFr_run
  have hz0 := zero_frame
  have hcz : (Value.agg (frA zeroF)).cells = frA zeroF := rfl
  have hcf : (Value.agg (frA f)).cells = frA f := rfl
  have hsz : (frC zeroF).length = szFr := frC_length zeroF_is
  have hsf : (frC f).length = szFr := frC_length hi
  have hst : ∀ W : World, (storeCells ⟨W.heap.size, 0, none⟩ (frC f) 0).run Tryz.prog (W.alloc (.cells (frA zeroF) 103)) = .ok () (W.alloc (.cells (frA f) 103)) := fun W => storeCells_frame zeroF_is hi W
  have HI := Lib.hid hi
  have HG1 := Lib.hid h1
  clear hg hi h1
  go_enter Tryz.func16, Tryz.ntmps16
  go_wp2_with fail
  refine HG.out.mono ?_
  rintro e w1 ⟨rfl, hb1⟩
  have H1 := Lib.hid (SgS.then H0.out hb1)
  have c3 := (frIn_new w1 f HI.out).c3
  rw [HG1.out] at c3
  clear hb1
  go_upto_region 4 with (fail)
  clear hst
  have H3 := Lib.hid (show VsS f w1.heap.size w.heap.size w (w1.alloc (.cells (frA f) 103)) from ⟨frIn_new w1 f HI.out, (SgS.then H1.out (one_below w1 _)).1, by simp, (SgS.then H1.out (one_below w1 _)).2.1, (SgS.then H1.out (one_below w1 _)).2.2⟩)
  have h3 := H3.out
  clear c3
  generalize w1.alloc (.cells (frA f) 103) = w3 at *
  generalize w1.heap.size = b1 at *
  have CBIG := Lib.hid (fun w' (h : VsS f b1 w.heap.size w w') => bigN_any _ _ (f.d.take 4) w' (frIn_four h.1 h.2.2.1) (Nat.le_refl _) (by rw [List.length_take]; omega))
  have l4 : leV (f.d.take 4) < 4294967296 := by
    have h := leV_lt (f.d.take 4)
    have hl : (f.d.take 4).length ≤ 4 := by rw [List.length_take]; omega
    exact Nat.lt_of_lt_of_le h (Nat.le_trans (Nat.pow_le_pow_right (by decide) (show 8 * (f.d.take 4).length ≤ 32 by omega)) (by decide))
  have wI : IntKind.i64.wrap ((leV (f.d.take 4) : Nat) : Int) = ((leV (f.d.take 4) : Nat) : Int) := by rw [IntKind.wrap_i64]; omega
  have wB : ∀ k, IntKind.i64.wrap ((f.d.getD k 0).toNat : Int) = ((f.d.getD k 0).toNat : Int) := fun k => by have := u8_lt (f.d.getD k 0); rw [IntKind.wrap_i64]; omega
  have w4 := wB 4
  have w5 := wB 5
  have w6 := wB 6
  have w7 := wB 7
  have e4 : ∀ w', VsS f b1 w.heap.size w w' → w'.cell? ⟨b1, 8, none⟩ = some (.int .u8 ((f.d.getD 4 0).toNat : Int)) := fun w' h => frIn_byte (k := 4) h.1 (by omega)
  have e5 : ∀ w', VsS f b1 w.heap.size w w' → w'.cell? ⟨b1, 9, none⟩ = some (.int .u8 ((f.d.getD 5 0).toNat : Int)) := fun w' h => frIn_byte (k := 5) h.1 (by omega)
  have e6 : ∀ w', VsS f b1 w.heap.size w w' → w'.cell? ⟨b1, 10, none⟩ = some (.int .u8 ((f.d.getD 6 0).toNat : Int)) := fun w' h => frIn_byte (k := 6) h.1 (by omega)
  have e7 : ∀ w', VsS f b1 w.heap.size w w' → w'.cell? ⟨b1, 11, none⟩ = some (.int .u8 ((f.d.getD 7 0).toNat : Int)) := fun w' h => frIn_byte (k := 7) h.1 (by omega)
  have HRC := Lib.hid (show readC f.d = ⟨((leV (f.d.take 4) : Nat) : Int), ((f.d.getD 4 0).toNat : Int), ((f.d.getD 5 0).toNat : Int), ((f.d.getD 6 0).toNat : Int), ((f.d.getD 7 0).toNat : Int)⟩ from rfl)
  generalize readC f.d = cf at *
  clear wB l4
  generalize leV (f.d.take 4) = y0 at *
  generalize (f.d.getD 4 0).toNat = y4 at *
  generalize (f.d.getD 5 0).toNat = y5 at *
  generalize (f.d.getD 6 0).toNat = y6 at *
  generalize (f.d.getD 7 0).toNat = y7 at *
  go_cut [8] from 24 to 44 (fun p wx => ∃ b2, p = .pointer (some ⟨b2, 0, none⟩) ∧ GtS f b1 cf b2 w.heap.size w wx)
  case first =>
    refine wp_region_noPanic ?_
    refine wp_region_held_drew (S := (fun w' => VsS f b1 w.heap.size w w')) (by kernel_rfl) h3.drew (fun hHeld => ?_)
    refine wpAnyH_take (i := 0) (oi := ⟨some 24, _, _, _, _, _⟩) (v := ?_) rfl (by kernel_rfl) (by kernel_rfl) (by kernel_rfl) (fun _ _ _ h => h) (Or.inl ⟨by rfl, ?_⟩) hHeld ?_
    rotate_left
    · intro w hSw; (go_simp; try with_reducible rfl)
    simp only [Act.put, List.setIfInBounds_toArray, List.set_cons_zero, List.set_cons_succ]
    refine wpAnyH_take (i := 1) (oi := ⟨some 25, _, _, _, _, _⟩) (v := ?_) rfl (by kernel_rfl) (by kernel_rfl) (by kernel_rfl) (fun _ _ _ h => h) (Or.inl ⟨by rfl, ?_⟩) hHeld ?_
    rotate_left
    · intro w hSw; (go_simp; try with_reducible rfl)
    simp only [Act.put, List.setIfInBounds_toArray, List.set_cons_zero, List.set_cons_succ]
    refine wpAnyH_take (i := 4) (oi := ⟨some 28, _, _, _, _, _⟩) (v := ?_) rfl (by kernel_rfl) (by kernel_rfl) (by kernel_rfl) (fun _ _ _ h => h) (Or.inl ⟨by rfl, ?_⟩) hHeld ?_
    rotate_left
    · intro w hSw; (go_simp; try with_reducible rfl)
    simp only [Act.put, List.setIfInBounds_toArray, List.set_cons_zero, List.set_cons_succ]
    refine wpAnyH_take (i := 5) (oi := ⟨some 29, _, _, _, _, _⟩) (v := ?_) rfl (by kernel_rfl) (by kernel_rfl) (by kernel_rfl) (fun _ _ _ h => h) (Or.inl ⟨by rfl, ?_⟩) hHeld ?_
    rotate_left
    · intro w hSw; (go_simp; try with_reducible rfl)
    simp only [Act.put, List.setIfInBounds_toArray, List.set_cons_zero, List.set_cons_succ]
    refine wpAnyH_take (i := 6) (oi := ⟨some 30, _, _, _, _, _⟩) (v := ?_) rfl (by kernel_rfl) (by kernel_rfl) (by kernel_rfl) (fun _ _ _ h => h) (Or.inl ⟨by rfl, ?_⟩) hHeld ?_
    rotate_left
    · intro w hSw; (go_simp; try with_reducible rfl)
    simp only [Act.put, List.setIfInBounds_toArray, List.set_cons_zero, List.set_cons_succ]
    refine wpAnyH_take (i := 7) (oi := ⟨some 31, _, _, _, _, _⟩) (v := ?_) rfl (by kernel_rfl) (by kernel_rfl) (by kernel_rfl) (fun _ _ _ h => h) (Or.inl ⟨by rfl, ?_⟩) hHeld ?_
    rotate_left
    · intro w hSw; (go_simp; try with_reducible rfl)
    simp only [Act.put, List.setIfInBounds_toArray, List.set_cons_zero, List.set_cons_succ]
    refine wpAnyH_take (i := 8) (oi := ⟨some 32, _, _, _, _, _⟩) (v := ?_) rfl (by kernel_rfl) (by kernel_rfl) (by kernel_rfl) (fun _ _ _ h => h) (Or.inl ⟨by rfl, ?_⟩) hHeld ?_
    rotate_left
    · intro w hSw; (go_simp; try with_reducible rfl)
    simp only [Act.put, List.setIfInBounds_toArray, List.set_cons_zero, List.set_cons_succ]
    refine wpAnyH_take (i := 9) (oi := ⟨some 33, _, _, _, _, _⟩) (v := ?_) rfl (by kernel_rfl) (by kernel_rfl) (by kernel_rfl) (fun _ _ _ h => h) (Or.inl ⟨by rfl, ?_⟩) hHeld ?_
    rotate_left
    · intro w hSw; (go_simp; try with_reducible rfl)
    simp only [Act.put, List.setIfInBounds_toArray, List.set_cons_zero, List.set_cons_succ]
    refine wpAnyH_take (i := 10) (oi := ⟨some 34, _, _, _, _, _⟩) (v := ?_) rfl (by kernel_rfl) (by kernel_rfl) (by kernel_rfl) (fun _ _ _ h => h) (Or.inl ⟨by rfl, ?_⟩) hHeld ?_
    rotate_left
    · intro w hSw; (go_simp; try with_reducible rfl)
    simp only [Act.put, List.setIfInBounds_toArray, List.set_cons_zero, List.set_cons_succ]
    refine wpAnyH_take (i := 11) (oi := ⟨some 35, _, _, _, _, _⟩) (v := ?_) rfl (by kernel_rfl) (by kernel_rfl) (by kernel_rfl) (fun _ _ _ h => h) (Or.inl ⟨by rfl, ?_⟩) hHeld ?_
    rotate_left
    · intro w hSw; (go_simp; try with_reducible rfl)
    simp only [Act.put, List.setIfInBounds_toArray, List.set_cons_zero, List.set_cons_succ]
    refine wpAnyH_take (i := 12) (oi := ⟨some 36, _, _, _, _, _⟩) (v := ?_) rfl (by kernel_rfl) (by kernel_rfl) (by kernel_rfl) (fun _ _ _ h => h) (Or.inl ⟨by rfl, ?_⟩) hHeld ?_
    rotate_left
    · intro w hSw; (go_simp; try with_reducible rfl)
    simp only [Act.put, List.setIfInBounds_toArray, List.set_cons_zero, List.set_cons_succ]
    refine wpAnyH_take (i := 13) (oi := ⟨some 37, _, _, _, _, _⟩) (v := ?_) rfl (by kernel_rfl) (by kernel_rfl) (by kernel_rfl) (fun _ _ _ h => h) (Or.inl ⟨by rfl, ?_⟩) hHeld ?_
    rotate_left
    · intro w hSw; (go_simp; try with_reducible rfl)
    simp only [Act.put, List.setIfInBounds_toArray, List.set_cons_zero, List.set_cons_succ]
    refine wpAnyH_take (i := 14) (oi := ⟨some 38, _, _, _, _, _⟩) (v := ?_) rfl (by kernel_rfl) (by kernel_rfl) (by kernel_rfl) (fun _ _ _ h => h) (Or.inl ⟨by rfl, ?_⟩) hHeld ?_
    rotate_left
    · intro w hSw; (go_simp; try with_reducible rfl)
    simp only [Act.put, List.setIfInBounds_toArray, List.set_cons_zero, List.set_cons_succ]
    refine wpAnyH_take (i := 15) (oi := ⟨some 39, _, _, _, _, _⟩) (v := ?_) rfl (by kernel_rfl) (by kernel_rfl) (by kernel_rfl) (fun _ _ _ h => h) (Or.inl ⟨by rfl, ?_⟩) hHeld ?_
    rotate_left
    · intro w hSw; (go_simp; try with_reducible rfl)
    simp only [Act.put, List.setIfInBounds_toArray, List.set_cons_zero, List.set_cons_succ]
    refine wpAnyH_take (i := 16) (oi := ⟨some 40, _, _, _, _, _⟩) (v := ?_) rfl (by kernel_rfl) (by kernel_rfl) (by kernel_rfl) (fun _ _ _ h => h) (Or.inl ⟨by rfl, ?_⟩) hHeld ?_
    rotate_left
    · intro w hSw; (go_simp; try with_reducible rfl)
    simp only [Act.put, List.setIfInBounds_toArray, List.set_cons_zero, List.set_cons_succ]
    refine wpAnyH_take (i := 17) (oi := ⟨some 41, _, _, _, _, _⟩) (v := ?_) rfl (by kernel_rfl) (by kernel_rfl) (by kernel_rfl) (fun _ _ _ h => h) (Or.inl ⟨by rfl, ?_⟩) hHeld ?_
    rotate_left
    · intro w hSw; (go_simp; try with_reducible rfl)
    simp only [Act.put, List.setIfInBounds_toArray, List.set_cons_zero, List.set_cons_succ]
    refine wpAnyH_take (i := 18) (oi := ⟨some 42, _, _, _, _, _⟩) (v := ?_) rfl (by kernel_rfl) (by kernel_rfl) (by kernel_rfl) (fun _ _ _ h => h) (Or.inl ⟨by rfl, ?_⟩) hHeld ?_
    rotate_left
    · intro w hSw; (go_simp; try with_reducible rfl)
    simp only [Act.put, List.setIfInBounds_toArray, List.set_cons_zero, List.set_cons_succ]
    refine wpAnyH_take (i := 19) (oi := ⟨some 43, _, _, _, _, _⟩) (v := ?_) rfl (by kernel_rfl) (by kernel_rfl) (by kernel_rfl) (fun _ _ _ h => h) (Or.inl ⟨by rfl, ?_⟩) hHeld ?_
    rotate_left
    · intro w hSw; (go_simp; try with_reducible rfl)
    simp only [Act.put, List.setIfInBounds_toArray, List.set_cons_zero, List.set_cons_succ]
    refine wpAnyH_ready (rs := [2, 21]) (by kernel_rfl) (by simp) ?_
    refine AllReadyH.cons (o := ⟨some 26, _, _, _, _, _⟩) rfl (fun K hK => ?_) ?_
    · go_simp
      refine (CBIG.out _ hHeld).mono ?_
      rintro e w' ⟨rfl, rfl⟩
      refine hK.out _ _ hHeld (fun _ => ?_)
      clear hK K
      refine wpAnyH_take (i := 3) (oi := ⟨some 27, _, _, _, _, _⟩) (v := ?_) rfl (by kernel_rfl) (by kernel_rfl) (by kernel_rfl) (fun _ _ _ h => h) (Or.inl ⟨by rfl, ?_⟩) hHeld ?_
      rotate_left
      · intro w hSw; (go_simp; try with_reducible rfl)
      simp only [Act.put, List.setIfInBounds_toArray, List.set_cons_zero, List.set_cons_succ]
      refine wpAnyH_take (i := 20) (oi := ⟨some 44, _, _, _, _, _⟩) (v := ?_) rfl (by kernel_rfl) (by kernel_rfl) (by kernel_rfl) (fun _ _ _ h => h) (Or.inl ⟨by rfl, ?_⟩) hHeld ?_
      rotate_left
      · intro w hSw; (go_simp; try with_reducible rfl)
      simp only [Act.put, List.setIfInBounds_toArray, List.set_cons_zero, List.set_cons_succ]
      refine wpAnyH_ready (rs := [21]) (by kernel_rfl) (by simp) ?_
      refine AllReadyH.cons (o := ⟨some 8, _, _, _, _, _⟩) rfl (fun K hK => ?_) ?_
      · go_simp
        have hh21 := VsS.then hHeld (one_below w3.drew (.cells (cfA zeroC) 24))
        refine hK.out _ _ hh21 (fun _ => ?_)
        clear hK K
        refine wpAnyH_ready (rs := [22]) (by kernel_rfl) (by simp) ?_
        refine AllReadyH.cons (o := ⟨none, _, _, _, _, _⟩) rfl (fun K hK => ?_) ?_
        · go_simp
          have hs22 := VsS.drew (VsS.then h3 (one_below w3 (.cells #[.int .i64 (y0 : Int), .int .i64 (y4 : Int), .int .i64 (y5 : Int), .int .i64 (y6 : Int), .int .i64 (y7 : Int)] 24)))
          refine hK.out _ _ hs22 (fun _ => ?_)
          clear hK K
          refine wpAnyH_done (by kernel_rfl) ?_ _
          refine NoPanic.normal ?_
          go_wp2_with fail
          go_meet
          exact ⟨w3.heap.size, rfl, hs22.1, (by rw [HRC.out]; exact heap_alloc_new w3 _), hs22.2.1, hs22.2.2.1, (by simp), hs22.2.2.2.1, hs22.2.2.2.2⟩
        exact AllReadyH.nil
      exact AllReadyH.nil
    refine AllReadyH.cons (o := ⟨some 8, _, _, _, _, _⟩) rfl (fun K hK => ?_) ?_
    · go_simp
      have hh20 := VsS.then hHeld (one_below w3.drew (.cells (cfA zeroC) 24))
      refine hK.out _ _ hh20 (fun _ => ?_)
      clear hK K
      refine wpAnyH_ready (rs := [2]) (by kernel_rfl) (by simp) ?_
      refine AllReadyH.cons (o := ⟨some 26, _, _, _, _, _⟩) rfl (fun K hK => ?_) ?_
      · go_simp
        refine (CBIG.out _ hh20).mono ?_
        rintro e w' ⟨rfl, rfl⟩
        refine hK.out _ _ hh20 (fun _ => ?_)
        clear hK K
        refine wpAnyH_take (i := 3) (oi := ⟨some 27, _, _, _, _, _⟩) (v := ?_) rfl (by kernel_rfl) (by kernel_rfl) (by kernel_rfl) (fun _ _ _ h => h) (Or.inl ⟨by rfl, ?_⟩) hh20 ?_
        rotate_left
        · intro w hSw; (go_simp; try with_reducible rfl)
        simp only [Act.put, List.setIfInBounds_toArray, List.set_cons_zero, List.set_cons_succ]
        refine wpAnyH_take (i := 20) (oi := ⟨some 44, _, _, _, _, _⟩) (v := ?_) rfl (by kernel_rfl) (by kernel_rfl) (by kernel_rfl) (fun _ _ _ h => h) (Or.inl ⟨by rfl, ?_⟩) hh20 ?_
        rotate_left
        · intro w hSw; (go_simp; try with_reducible rfl)
        simp only [Act.put, List.setIfInBounds_toArray, List.set_cons_zero, List.set_cons_succ]
        refine wpAnyH_ready (rs := [22]) (by kernel_rfl) (by simp) ?_
        refine AllReadyH.cons (o := ⟨none, _, _, _, _, _⟩) rfl (fun K hK => ?_) ?_
        · go_simp
          have hs22 := VsS.drew (VsS.then h3 (one_below w3 (.cells #[.int .i64 (y0 : Int), .int .i64 (y4 : Int), .int .i64 (y5 : Int), .int .i64 (y6 : Int), .int .i64 (y7 : Int)] 24)))
          refine hK.out _ _ hs22 (fun _ => ?_)
          clear hK K
          refine wpAnyH_done (by kernel_rfl) ?_ _
          refine NoPanic.normal ?_
          go_wp2_with fail
          go_meet
          exact ⟨w3.heap.size, rfl, hs22.1, (by rw [HRC.out]; exact heap_alloc_new w3 _), hs22.2.1, hs22.2.2.1, (by simp), hs22.2.2.2.1, hs22.2.2.2.2⟩
        exact AllReadyH.nil
      exact AllReadyH.nil
    exact AllReadyH.nil
  case rest =>
    obtain ⟨b2, rfl, hG4⟩ := hcut
    obtain ⟨w4', hw4'⟩ : ∃ w4', w4' = wc := ⟨_, rfl⟩
    subst hw4'
    clear h3 H3 e4 e5 e6 e7 w4 w5 w6 w7 wI
    have d0 : ∀ w', GtS f b1 cf b2 w.heap.size w w' → w'.cell? ⟨b2, 0, none⟩ = some (.int .i64 cf.id) := fun w' h => h.2.1.cell 0
    have d1 : ∀ w', GtS f b1 cf b2 w.heap.size w w' → w'.cell? ⟨b2, 1, none⟩ = some (.int .i64 cf.k) := fun w' h => h.2.1.cell 1
    have d2 : ∀ w', GtS f b1 cf b2 w.heap.size w w' → w'.cell? ⟨b2, 2, none⟩ = some (.int .i64 cf.n) := fun w' h => h.2.1.cell 2
    have d3 : ∀ w', GtS f b1 cf b2 w.heap.size w w' → w'.cell? ⟨b2, 3, none⟩ = some (.int .i64 cf.t) := fun w' h => h.2.1.cell 3
    have d4 : ∀ w', GtS f b1 cf b2 w.heap.size w w' → w'.cell? ⟨b2, 4, none⟩ = some (.int .i64 cf.s) := fun w' h => h.2.1.cell 4
    have hla : ∀ w', GtS f b1 cf b2 w.heap.size w w' → (loadCellsFrom ⟨b1, 0, none⟩ 0 szFr #[]).run Tryz.prog w' = .ok (frA f) w' := fun w' h => h.1.load
    go_upto_region 5 with (fail)
    refine wp_region_noPanic ?_
    refine wp_region_held_drew (S := (fun w' => GtS f b1 cf b2 w.heap.size w w')) (by kernel_rfl) hG4.drew (fun hHeld5 => ?_)
    refine wpAnyH_take (i := 0) (oi := ⟨some 45, _, _, _, _, _⟩) (v := ?_) rfl (by kernel_rfl) (by kernel_rfl) (by kernel_rfl) (fun _ _ _ h => h) (Or.inl ⟨by rfl, ?_⟩) hHeld5 ?_
    rotate_left
    · intro w hSw; (go_simp; try with_reducible rfl)
    simp only [Act.put, List.setIfInBounds_toArray, List.set_cons_zero, List.set_cons_succ]
    refine wpAnyH_ready (rs := [1]) (by kernel_rfl) (by simp) (AllReadyH.cons rfl (fun K hK => ?_) AllReadyH.nil)
    go_simp
    refine (CR.out _).mono ?_
    rintro e w4 ⟨rfl, hb4⟩
    have h4 := GtS.then hHeld5 hb4
    clear hb4
    refine hK.out _ _ h4 (fun _ => ?_)
    clear hK K
    refine wpAnyH_take (i := 2) (oi := ⟨some 47, _, _, _, _, _⟩) (v := ?_) rfl (by kernel_rfl) (by kernel_rfl) (by kernel_rfl) (fun _ _ _ h => h) (Or.inl ⟨by rfl, ?_⟩) h4 ?_
    rotate_left
    · intro w hSw; (go_simp; try with_reducible rfl)
    simp only [Act.put, List.setIfInBounds_toArray, List.set_cons_zero, List.set_cons_succ]
    refine wpAnyH_take (i := 3) (oi := ⟨some 48, _, _, _, _, _⟩) (v := ?_) rfl (by kernel_rfl) (by kernel_rfl) (by kernel_rfl) (fun _ _ _ h => h) (Or.inl ⟨by rfl, ?_⟩) h4 ?_
    rotate_left
    · intro w hSw; (go_simp; try with_reducible rfl)
    simp only [Act.put, List.setIfInBounds_toArray, List.set_cons_zero, List.set_cons_succ]
    refine wpAnyH_take (i := 4) (oi := ⟨some 49, _, _, _, _, _⟩) (v := ?_) rfl (by kernel_rfl) (by kernel_rfl) (by kernel_rfl) (fun _ _ _ h => h) (Or.inl ⟨by rfl, ?_⟩) h4 ?_
    rotate_left
    · intro w hSw; (go_simp; try with_reducible rfl)
    simp only [Act.put, List.setIfInBounds_toArray, List.set_cons_zero, List.set_cons_succ]
    refine wpAnyH_take (i := 5) (oi := ⟨some 50, _, _, _, _, _⟩) (v := ?_) rfl (by kernel_rfl) (by kernel_rfl) (by kernel_rfl) (fun _ _ _ h => h) (Or.inl ⟨by rfl, ?_⟩) h4 ?_
    rotate_left
    · intro w hSw; (go_simp; try with_reducible rfl)
    simp only [Act.put, List.setIfInBounds_toArray, List.set_cons_zero, List.set_cons_succ]
    refine wpAnyH_take (i := 7) (oi := ⟨some 52, _, _, _, _, _⟩) (v := ?_) rfl (by kernel_rfl) (by kernel_rfl) (by kernel_rfl) (fun _ _ _ h => h) (Or.inl ⟨by rfl, ?_⟩) h4 ?_
    rotate_left
    · intro w hSw; (go_simp; try with_reducible rfl)
    simp only [Act.put, List.setIfInBounds_toArray, List.set_cons_zero, List.set_cons_succ]
    refine wpAnyH_ready (rs := [6]) (by kernel_rfl) (by simp) (AllReadyH.cons rfl (fun K hK => ?_) AllReadyH.nil)
    go_simp
    refine (CB.out _).mono ?_
    rintro e w5 ⟨rfl, hb5⟩
    have h5 := GtS.then h4 hb5
    clear hb5
    refine hK.out _ _ h5 (fun _ => ?_)
    clear hK K
    refine wpAnyH_take (i := 8) (oi := ⟨some 53, _, _, _, _, _⟩) (v := ?_) rfl (by kernel_rfl) (by kernel_rfl) (by kernel_rfl) (fun _ _ _ h => h) (Or.inl ⟨by rfl, ?_⟩) h5 ?_
    rotate_left
    · intro w hSw; (go_simp; try with_reducible rfl)
    simp only [Act.put, List.setIfInBounds_toArray, List.set_cons_zero, List.set_cons_succ]
    refine wpAnyH_take (i := 9) (oi := ⟨some 54, _, _, _, _, _⟩) (v := ?_) rfl (by kernel_rfl) (by kernel_rfl) (by kernel_rfl) (fun _ _ _ h => h) (Or.inl ⟨by rfl, ?_⟩) h5 ?_
    rotate_left
    · intro w hSw; (go_simp; try with_reducible rfl)
    simp only [Act.put, List.setIfInBounds_toArray, List.set_cons_zero, List.set_cons_succ]
    refine wpAnyH_done (by kernel_rfl) ?_ _
    refine NoPanic.normal ?_
    obtain ⟨z0, z1, z2, z3, z4⟩ := h5.2.2.1.cells
    obtain ⟨q0, q1, q2, q3, q4⟩ := h5.2.2.1.free
    obtain ⟨y0', y1', y2', y3', y4'⟩ := h5.2.1.cells
    have HF := Lib.hid (h5.2.2.1.fill ⟨0, 0, 0, 0, 0⟩).cells
    have HB := Lib.hid (fillC_below h5.2.2.2.2.2.2 (Nat.le_refl w.heap.size) ⟨0, 0, 0, 0, 0⟩)
    clear d0 d1 d2 d3 d4 hla h5
    go_wp2_with fail
    obtain ⟨g0, g1, g2, g3, g4⟩ := HF.out
    exact bodyPost_ret (v := .tuple #[.agg (cfA ⟨0, 0, 0, 0, 0⟩), .bool false]) (by simp [results, Tryz.results16, go_sem, g0, g1, g2, g3, g4]) rfl ⟨rfl, HB.out⟩
set_option maxHeartbeats 16000000 in
set_option maxRecDepth 100000 in
theorem vsuper_yes (w : World) (r : Value) (i : Int) (f : Fr) (hi : f.is) (hg : ∀ w' : World, Below w.heap.size w w' → Calls Tryz.prog 72 #[r, .int .i64 i, .int .i64 0, .int .i64 1, .int .i64 i, .int .i64 0] w' (FrameBit f true w')) (h1 : f.g = 1) (hr : CfRight (readC f.d)) (hn : f = supF (readC f.d) i) :
    Calls Tryz.prog 16 #[r, .int .i64 i] w (CfBit (readC f.d) true w) := by
  have CR := Lib.hid (fun w => show Calls Tryz.prog 74 #[.agg (cfA (readC f.d))] w (Bit true w) from by have := vright_any (readC f.d) w; rwa [show cfRightB (readC f.d) = true from decide_eq_true hr] at this)
  have CB := Lib.hid (fun w => vsuperframe_any (readC f.d) i w hr)
  have heq : ∀ w, (binOp .neq 103 (.agg (frA (supF (readC f.d) i))) (.agg (frA f))).run Tryz.prog w = .ok (.bool false) w := fun w => by
    exact neql_yes (supF_is _ _) hi hn.symm w
  have hgd := guard_frame
  have hcg : (Value.agg (frA (supF (readC f.d) i))).cells = frA (supF (readC f.d) i) := rfl
  clear hr hn
  generalize supF (readC f.d) i = g at *
  have H0 := Lib.hid (sgS_new w)
  have HG := Lib.hid (hg _ H0.out.2.2)
  have hz := szFr_run
  have hz0 := zero_frame
  have hcz : (Value.agg (frA zeroF)).cells = frA zeroF := rfl
  have hcf : (Value.agg (frA f)).cells = frA f := rfl
  have hsz : (frC zeroF).length = szFr := frC_length zeroF_is
  have hsf : (frC f).length = szFr := frC_length hi
  have hst : ∀ W : World, (storeCells ⟨W.heap.size, 0, none⟩ (frC f) 0).run Tryz.prog (W.alloc (.cells (frA zeroF) 103)) = .ok () (W.alloc (.cells (frA f) 103)) := fun W => storeCells_frame zeroF_is hi W
  have HI := Lib.hid hi
  have HG1 := Lib.hid h1
  clear hg hi h1
  go_enter Tryz.func16, Tryz.ntmps16
  go_wp2_with fail
  refine HG.out.mono ?_
  rintro e w1 ⟨rfl, hb1⟩
  have H1 := Lib.hid (SgS.then H0.out hb1)
  have c3 := (frIn_new w1 f HI.out).c3
  rw [HG1.out] at c3
  clear hb1
  go_upto_region 4 with (fail)
  clear hst
  have H3 := Lib.hid (show VsS f w1.heap.size w.heap.size w (w1.alloc (.cells (frA f) 103)) from ⟨frIn_new w1 f HI.out, (SgS.then H1.out (one_below w1 _)).1, by simp, (SgS.then H1.out (one_below w1 _)).2.1, (SgS.then H1.out (one_below w1 _)).2.2⟩)
  have h3 := H3.out
  clear c3
  generalize w1.alloc (.cells (frA f) 103) = w3 at *
  generalize w1.heap.size = b1 at *
  have CBIG := Lib.hid (fun w' (h : VsS f b1 w.heap.size w w') => bigN_any _ _ (f.d.take 4) w' (frIn_four h.1 h.2.2.1) (Nat.le_refl _) (by rw [List.length_take]; omega))
  have l4 : leV (f.d.take 4) < 4294967296 := by
    have h := leV_lt (f.d.take 4)
    have hl : (f.d.take 4).length ≤ 4 := by rw [List.length_take]; omega
    exact Nat.lt_of_lt_of_le h (Nat.le_trans (Nat.pow_le_pow_right (by decide) (show 8 * (f.d.take 4).length ≤ 32 by omega)) (by decide))
  have wI : IntKind.i64.wrap ((leV (f.d.take 4) : Nat) : Int) = ((leV (f.d.take 4) : Nat) : Int) := by rw [IntKind.wrap_i64]; omega
  have wB : ∀ k, IntKind.i64.wrap ((f.d.getD k 0).toNat : Int) = ((f.d.getD k 0).toNat : Int) := fun k => by have := u8_lt (f.d.getD k 0); rw [IntKind.wrap_i64]; omega
  have w4 := wB 4
  have w5 := wB 5
  have w6 := wB 6
  have w7 := wB 7
  have e4 : ∀ w', VsS f b1 w.heap.size w w' → w'.cell? ⟨b1, 8, none⟩ = some (.int .u8 ((f.d.getD 4 0).toNat : Int)) := fun w' h => frIn_byte (k := 4) h.1 (by omega)
  have e5 : ∀ w', VsS f b1 w.heap.size w w' → w'.cell? ⟨b1, 9, none⟩ = some (.int .u8 ((f.d.getD 5 0).toNat : Int)) := fun w' h => frIn_byte (k := 5) h.1 (by omega)
  have e6 : ∀ w', VsS f b1 w.heap.size w w' → w'.cell? ⟨b1, 10, none⟩ = some (.int .u8 ((f.d.getD 6 0).toNat : Int)) := fun w' h => frIn_byte (k := 6) h.1 (by omega)
  have e7 : ∀ w', VsS f b1 w.heap.size w w' → w'.cell? ⟨b1, 11, none⟩ = some (.int .u8 ((f.d.getD 7 0).toNat : Int)) := fun w' h => frIn_byte (k := 7) h.1 (by omega)
  have HRC := Lib.hid (show readC f.d = ⟨((leV (f.d.take 4) : Nat) : Int), ((f.d.getD 4 0).toNat : Int), ((f.d.getD 5 0).toNat : Int), ((f.d.getD 6 0).toNat : Int), ((f.d.getD 7 0).toNat : Int)⟩ from rfl)
  generalize readC f.d = cf at *
  clear wB l4
  generalize leV (f.d.take 4) = y0 at *
  generalize (f.d.getD 4 0).toNat = y4 at *
  generalize (f.d.getD 5 0).toNat = y5 at *
  generalize (f.d.getD 6 0).toNat = y6 at *
  generalize (f.d.getD 7 0).toNat = y7 at *
  go_cut [8] from 24 to 44 (fun p wx => ∃ b2, p = .pointer (some ⟨b2, 0, none⟩) ∧ GtS f b1 cf b2 w.heap.size w wx)
  case first =>
    refine wp_region_noPanic ?_
    refine wp_region_held_drew (S := (fun w' => VsS f b1 w.heap.size w w')) (by kernel_rfl) h3.drew (fun hHeld => ?_)
    refine wpAnyH_take (i := 0) (oi := ⟨some 24, _, _, _, _, _⟩) (v := ?_) rfl (by kernel_rfl) (by kernel_rfl) (by kernel_rfl) (fun _ _ _ h => h) (Or.inl ⟨by rfl, ?_⟩) hHeld ?_
    rotate_left
    · intro w hSw; (go_simp; try with_reducible rfl)
    simp only [Act.put, List.setIfInBounds_toArray, List.set_cons_zero, List.set_cons_succ]
    refine wpAnyH_take (i := 1) (oi := ⟨some 25, _, _, _, _, _⟩) (v := ?_) rfl (by kernel_rfl) (by kernel_rfl) (by kernel_rfl) (fun _ _ _ h => h) (Or.inl ⟨by rfl, ?_⟩) hHeld ?_
    rotate_left
    · intro w hSw; (go_simp; try with_reducible rfl)
    simp only [Act.put, List.setIfInBounds_toArray, List.set_cons_zero, List.set_cons_succ]
    refine wpAnyH_take (i := 4) (oi := ⟨some 28, _, _, _, _, _⟩) (v := ?_) rfl (by kernel_rfl) (by kernel_rfl) (by kernel_rfl) (fun _ _ _ h => h) (Or.inl ⟨by rfl, ?_⟩) hHeld ?_
    rotate_left
    · intro w hSw; (go_simp; try with_reducible rfl)
    simp only [Act.put, List.setIfInBounds_toArray, List.set_cons_zero, List.set_cons_succ]
    refine wpAnyH_take (i := 5) (oi := ⟨some 29, _, _, _, _, _⟩) (v := ?_) rfl (by kernel_rfl) (by kernel_rfl) (by kernel_rfl) (fun _ _ _ h => h) (Or.inl ⟨by rfl, ?_⟩) hHeld ?_
    rotate_left
    · intro w hSw; (go_simp; try with_reducible rfl)
    simp only [Act.put, List.setIfInBounds_toArray, List.set_cons_zero, List.set_cons_succ]
    refine wpAnyH_take (i := 6) (oi := ⟨some 30, _, _, _, _, _⟩) (v := ?_) rfl (by kernel_rfl) (by kernel_rfl) (by kernel_rfl) (fun _ _ _ h => h) (Or.inl ⟨by rfl, ?_⟩) hHeld ?_
    rotate_left
    · intro w hSw; (go_simp; try with_reducible rfl)
    simp only [Act.put, List.setIfInBounds_toArray, List.set_cons_zero, List.set_cons_succ]
    refine wpAnyH_take (i := 7) (oi := ⟨some 31, _, _, _, _, _⟩) (v := ?_) rfl (by kernel_rfl) (by kernel_rfl) (by kernel_rfl) (fun _ _ _ h => h) (Or.inl ⟨by rfl, ?_⟩) hHeld ?_
    rotate_left
    · intro w hSw; (go_simp; try with_reducible rfl)
    simp only [Act.put, List.setIfInBounds_toArray, List.set_cons_zero, List.set_cons_succ]
    refine wpAnyH_take (i := 8) (oi := ⟨some 32, _, _, _, _, _⟩) (v := ?_) rfl (by kernel_rfl) (by kernel_rfl) (by kernel_rfl) (fun _ _ _ h => h) (Or.inl ⟨by rfl, ?_⟩) hHeld ?_
    rotate_left
    · intro w hSw; (go_simp; try with_reducible rfl)
    simp only [Act.put, List.setIfInBounds_toArray, List.set_cons_zero, List.set_cons_succ]
    refine wpAnyH_take (i := 9) (oi := ⟨some 33, _, _, _, _, _⟩) (v := ?_) rfl (by kernel_rfl) (by kernel_rfl) (by kernel_rfl) (fun _ _ _ h => h) (Or.inl ⟨by rfl, ?_⟩) hHeld ?_
    rotate_left
    · intro w hSw; (go_simp; try with_reducible rfl)
    simp only [Act.put, List.setIfInBounds_toArray, List.set_cons_zero, List.set_cons_succ]
    refine wpAnyH_take (i := 10) (oi := ⟨some 34, _, _, _, _, _⟩) (v := ?_) rfl (by kernel_rfl) (by kernel_rfl) (by kernel_rfl) (fun _ _ _ h => h) (Or.inl ⟨by rfl, ?_⟩) hHeld ?_
    rotate_left
    · intro w hSw; (go_simp; try with_reducible rfl)
    simp only [Act.put, List.setIfInBounds_toArray, List.set_cons_zero, List.set_cons_succ]
    refine wpAnyH_take (i := 11) (oi := ⟨some 35, _, _, _, _, _⟩) (v := ?_) rfl (by kernel_rfl) (by kernel_rfl) (by kernel_rfl) (fun _ _ _ h => h) (Or.inl ⟨by rfl, ?_⟩) hHeld ?_
    rotate_left
    · intro w hSw; (go_simp; try with_reducible rfl)
    simp only [Act.put, List.setIfInBounds_toArray, List.set_cons_zero, List.set_cons_succ]
    refine wpAnyH_take (i := 12) (oi := ⟨some 36, _, _, _, _, _⟩) (v := ?_) rfl (by kernel_rfl) (by kernel_rfl) (by kernel_rfl) (fun _ _ _ h => h) (Or.inl ⟨by rfl, ?_⟩) hHeld ?_
    rotate_left
    · intro w hSw; (go_simp; try with_reducible rfl)
    simp only [Act.put, List.setIfInBounds_toArray, List.set_cons_zero, List.set_cons_succ]
    refine wpAnyH_take (i := 13) (oi := ⟨some 37, _, _, _, _, _⟩) (v := ?_) rfl (by kernel_rfl) (by kernel_rfl) (by kernel_rfl) (fun _ _ _ h => h) (Or.inl ⟨by rfl, ?_⟩) hHeld ?_
    rotate_left
    · intro w hSw; (go_simp; try with_reducible rfl)
    simp only [Act.put, List.setIfInBounds_toArray, List.set_cons_zero, List.set_cons_succ]
    refine wpAnyH_take (i := 14) (oi := ⟨some 38, _, _, _, _, _⟩) (v := ?_) rfl (by kernel_rfl) (by kernel_rfl) (by kernel_rfl) (fun _ _ _ h => h) (Or.inl ⟨by rfl, ?_⟩) hHeld ?_
    rotate_left
    · intro w hSw; (go_simp; try with_reducible rfl)
    simp only [Act.put, List.setIfInBounds_toArray, List.set_cons_zero, List.set_cons_succ]
    refine wpAnyH_take (i := 15) (oi := ⟨some 39, _, _, _, _, _⟩) (v := ?_) rfl (by kernel_rfl) (by kernel_rfl) (by kernel_rfl) (fun _ _ _ h => h) (Or.inl ⟨by rfl, ?_⟩) hHeld ?_
    rotate_left
    · intro w hSw; (go_simp; try with_reducible rfl)
    simp only [Act.put, List.setIfInBounds_toArray, List.set_cons_zero, List.set_cons_succ]
    refine wpAnyH_take (i := 16) (oi := ⟨some 40, _, _, _, _, _⟩) (v := ?_) rfl (by kernel_rfl) (by kernel_rfl) (by kernel_rfl) (fun _ _ _ h => h) (Or.inl ⟨by rfl, ?_⟩) hHeld ?_
    rotate_left
    · intro w hSw; (go_simp; try with_reducible rfl)
    simp only [Act.put, List.setIfInBounds_toArray, List.set_cons_zero, List.set_cons_succ]
    refine wpAnyH_take (i := 17) (oi := ⟨some 41, _, _, _, _, _⟩) (v := ?_) rfl (by kernel_rfl) (by kernel_rfl) (by kernel_rfl) (fun _ _ _ h => h) (Or.inl ⟨by rfl, ?_⟩) hHeld ?_
    rotate_left
    · intro w hSw; (go_simp; try with_reducible rfl)
    simp only [Act.put, List.setIfInBounds_toArray, List.set_cons_zero, List.set_cons_succ]
    refine wpAnyH_take (i := 18) (oi := ⟨some 42, _, _, _, _, _⟩) (v := ?_) rfl (by kernel_rfl) (by kernel_rfl) (by kernel_rfl) (fun _ _ _ h => h) (Or.inl ⟨by rfl, ?_⟩) hHeld ?_
    rotate_left
    · intro w hSw; (go_simp; try with_reducible rfl)
    simp only [Act.put, List.setIfInBounds_toArray, List.set_cons_zero, List.set_cons_succ]
    refine wpAnyH_take (i := 19) (oi := ⟨some 43, _, _, _, _, _⟩) (v := ?_) rfl (by kernel_rfl) (by kernel_rfl) (by kernel_rfl) (fun _ _ _ h => h) (Or.inl ⟨by rfl, ?_⟩) hHeld ?_
    rotate_left
    · intro w hSw; (go_simp; try with_reducible rfl)
    simp only [Act.put, List.setIfInBounds_toArray, List.set_cons_zero, List.set_cons_succ]
    refine wpAnyH_ready (rs := [2, 21]) (by kernel_rfl) (by simp) ?_
    refine AllReadyH.cons (o := ⟨some 26, _, _, _, _, _⟩) rfl (fun K hK => ?_) ?_
    · go_simp
      refine (CBIG.out _ hHeld).mono ?_
      rintro e w' ⟨rfl, rfl⟩
      refine hK.out _ _ hHeld (fun _ => ?_)
      clear hK K
      refine wpAnyH_take (i := 3) (oi := ⟨some 27, _, _, _, _, _⟩) (v := ?_) rfl (by kernel_rfl) (by kernel_rfl) (by kernel_rfl) (fun _ _ _ h => h) (Or.inl ⟨by rfl, ?_⟩) hHeld ?_
      rotate_left
      · intro w hSw; (go_simp; try with_reducible rfl)
      simp only [Act.put, List.setIfInBounds_toArray, List.set_cons_zero, List.set_cons_succ]
      refine wpAnyH_take (i := 20) (oi := ⟨some 44, _, _, _, _, _⟩) (v := ?_) rfl (by kernel_rfl) (by kernel_rfl) (by kernel_rfl) (fun _ _ _ h => h) (Or.inl ⟨by rfl, ?_⟩) hHeld ?_
      rotate_left
      · intro w hSw; (go_simp; try with_reducible rfl)
      simp only [Act.put, List.setIfInBounds_toArray, List.set_cons_zero, List.set_cons_succ]
      refine wpAnyH_ready (rs := [21]) (by kernel_rfl) (by simp) ?_
      refine AllReadyH.cons (o := ⟨some 8, _, _, _, _, _⟩) rfl (fun K hK => ?_) ?_
      · go_simp
        have hh21 := VsS.then hHeld (one_below w3.drew (.cells (cfA zeroC) 24))
        refine hK.out _ _ hh21 (fun _ => ?_)
        clear hK K
        refine wpAnyH_ready (rs := [22]) (by kernel_rfl) (by simp) ?_
        refine AllReadyH.cons (o := ⟨none, _, _, _, _, _⟩) rfl (fun K hK => ?_) ?_
        · go_simp
          have hs22 := VsS.drew (VsS.then h3 (one_below w3 (.cells #[.int .i64 (y0 : Int), .int .i64 (y4 : Int), .int .i64 (y5 : Int), .int .i64 (y6 : Int), .int .i64 (y7 : Int)] 24)))
          refine hK.out _ _ hs22 (fun _ => ?_)
          clear hK K
          refine wpAnyH_done (by kernel_rfl) ?_ _
          refine NoPanic.normal ?_
          go_wp2_with fail
          go_meet
          exact ⟨w3.heap.size, rfl, hs22.1, (by rw [HRC.out]; exact heap_alloc_new w3 _), hs22.2.1, hs22.2.2.1, (by simp), hs22.2.2.2.1, hs22.2.2.2.2⟩
        exact AllReadyH.nil
      exact AllReadyH.nil
    refine AllReadyH.cons (o := ⟨some 8, _, _, _, _, _⟩) rfl (fun K hK => ?_) ?_
    · go_simp
      have hh20 := VsS.then hHeld (one_below w3.drew (.cells (cfA zeroC) 24))
      refine hK.out _ _ hh20 (fun _ => ?_)
      clear hK K
      refine wpAnyH_ready (rs := [2]) (by kernel_rfl) (by simp) ?_
      refine AllReadyH.cons (o := ⟨some 26, _, _, _, _, _⟩) rfl (fun K hK => ?_) ?_
      · go_simp
        refine (CBIG.out _ hh20).mono ?_
        rintro e w' ⟨rfl, rfl⟩
        refine hK.out _ _ hh20 (fun _ => ?_)
        clear hK K
        refine wpAnyH_take (i := 3) (oi := ⟨some 27, _, _, _, _, _⟩) (v := ?_) rfl (by kernel_rfl) (by kernel_rfl) (by kernel_rfl) (fun _ _ _ h => h) (Or.inl ⟨by rfl, ?_⟩) hh20 ?_
        rotate_left
        · intro w hSw; (go_simp; try with_reducible rfl)
        simp only [Act.put, List.setIfInBounds_toArray, List.set_cons_zero, List.set_cons_succ]
        refine wpAnyH_take (i := 20) (oi := ⟨some 44, _, _, _, _, _⟩) (v := ?_) rfl (by kernel_rfl) (by kernel_rfl) (by kernel_rfl) (fun _ _ _ h => h) (Or.inl ⟨by rfl, ?_⟩) hh20 ?_
        rotate_left
        · intro w hSw; (go_simp; try with_reducible rfl)
        simp only [Act.put, List.setIfInBounds_toArray, List.set_cons_zero, List.set_cons_succ]
        refine wpAnyH_ready (rs := [22]) (by kernel_rfl) (by simp) ?_
        refine AllReadyH.cons (o := ⟨none, _, _, _, _, _⟩) rfl (fun K hK => ?_) ?_
        · go_simp
          have hs22 := VsS.drew (VsS.then h3 (one_below w3 (.cells #[.int .i64 (y0 : Int), .int .i64 (y4 : Int), .int .i64 (y5 : Int), .int .i64 (y6 : Int), .int .i64 (y7 : Int)] 24)))
          refine hK.out _ _ hs22 (fun _ => ?_)
          clear hK K
          refine wpAnyH_done (by kernel_rfl) ?_ _
          refine NoPanic.normal ?_
          go_wp2_with fail
          go_meet
          exact ⟨w3.heap.size, rfl, hs22.1, (by rw [HRC.out]; exact heap_alloc_new w3 _), hs22.2.1, hs22.2.2.1, (by simp), hs22.2.2.2.1, hs22.2.2.2.2⟩
        exact AllReadyH.nil
      exact AllReadyH.nil
    exact AllReadyH.nil
  case rest =>
    obtain ⟨b2, rfl, hG4⟩ := hcut
    obtain ⟨w4', hw4'⟩ : ∃ w4', w4' = wc := ⟨_, rfl⟩
    subst hw4'
    clear h3 H3 e4 e5 e6 e7 w4 w5 w6 w7 wI
    have d0 : ∀ w', GtS f b1 cf b2 w.heap.size w w' → w'.cell? ⟨b2, 0, none⟩ = some (.int .i64 cf.id) := fun w' h => h.2.1.cell 0
    have d1 : ∀ w', GtS f b1 cf b2 w.heap.size w w' → w'.cell? ⟨b2, 1, none⟩ = some (.int .i64 cf.k) := fun w' h => h.2.1.cell 1
    have d2 : ∀ w', GtS f b1 cf b2 w.heap.size w w' → w'.cell? ⟨b2, 2, none⟩ = some (.int .i64 cf.n) := fun w' h => h.2.1.cell 2
    have d3 : ∀ w', GtS f b1 cf b2 w.heap.size w w' → w'.cell? ⟨b2, 3, none⟩ = some (.int .i64 cf.t) := fun w' h => h.2.1.cell 3
    have d4 : ∀ w', GtS f b1 cf b2 w.heap.size w w' → w'.cell? ⟨b2, 4, none⟩ = some (.int .i64 cf.s) := fun w' h => h.2.1.cell 4
    have hla : ∀ w', GtS f b1 cf b2 w.heap.size w w' → (loadCellsFrom ⟨b1, 0, none⟩ 0 szFr #[]).run Tryz.prog w' = .ok (frA f) w' := fun w' h => h.1.load
    go_upto_region 5 with (fail)
    refine wp_region_noPanic ?_
    refine wp_region_held_drew (S := (fun w' => GtS f b1 cf b2 w.heap.size w w')) (by kernel_rfl) hG4.drew (fun hHeld5 => ?_)
    refine wpAnyH_take (i := 0) (oi := ⟨some 45, _, _, _, _, _⟩) (v := ?_) rfl (by kernel_rfl) (by kernel_rfl) (by kernel_rfl) (fun _ _ _ h => h) (Or.inl ⟨by rfl, ?_⟩) hHeld5 ?_
    rotate_left
    · intro w hSw; (go_simp; try with_reducible rfl)
    simp only [Act.put, List.setIfInBounds_toArray, List.set_cons_zero, List.set_cons_succ]
    refine wpAnyH_ready (rs := [1]) (by kernel_rfl) (by simp) (AllReadyH.cons rfl (fun K hK => ?_) AllReadyH.nil)
    go_simp
    refine (CR.out _).mono ?_
    rintro e w4 ⟨rfl, hb4⟩
    have h4 := GtS.then hHeld5 hb4
    clear hb4
    refine hK.out _ _ h4 (fun _ => ?_)
    clear hK K
    refine wpAnyH_take (i := 2) (oi := ⟨some 47, _, _, _, _, _⟩) (v := ?_) rfl (by kernel_rfl) (by kernel_rfl) (by kernel_rfl) (fun _ _ _ h => h) (Or.inl ⟨by rfl, ?_⟩) h4 ?_
    rotate_left
    · intro w hSw; (go_simp; try with_reducible rfl)
    simp only [Act.put, List.setIfInBounds_toArray, List.set_cons_zero, List.set_cons_succ]
    refine wpAnyH_take (i := 3) (oi := ⟨some 48, _, _, _, _, _⟩) (v := ?_) rfl (by kernel_rfl) (by kernel_rfl) (by kernel_rfl) (fun _ _ _ h => h) (Or.inl ⟨by rfl, ?_⟩) h4 ?_
    rotate_left
    · intro w hSw; (go_simp; try with_reducible rfl)
    simp only [Act.put, List.setIfInBounds_toArray, List.set_cons_zero, List.set_cons_succ]
    refine wpAnyH_take (i := 4) (oi := ⟨some 49, _, _, _, _, _⟩) (v := ?_) rfl (by kernel_rfl) (by kernel_rfl) (by kernel_rfl) (fun _ _ _ h => h) (Or.inl ⟨by rfl, ?_⟩) h4 ?_
    rotate_left
    · intro w hSw; (go_simp; try with_reducible rfl)
    simp only [Act.put, List.setIfInBounds_toArray, List.set_cons_zero, List.set_cons_succ]
    refine wpAnyH_take (i := 5) (oi := ⟨some 50, _, _, _, _, _⟩) (v := ?_) rfl (by kernel_rfl) (by kernel_rfl) (by kernel_rfl) (fun _ _ _ h => h) (Or.inl ⟨by rfl, ?_⟩) h4 ?_
    rotate_left
    · intro w hSw; (go_simp; try with_reducible rfl)
    simp only [Act.put, List.setIfInBounds_toArray, List.set_cons_zero, List.set_cons_succ]
    refine wpAnyH_take (i := 7) (oi := ⟨some 52, _, _, _, _, _⟩) (v := ?_) rfl (by kernel_rfl) (by kernel_rfl) (by kernel_rfl) (fun _ _ _ h => h) (Or.inl ⟨by rfl, ?_⟩) h4 ?_
    rotate_left
    · intro w hSw; (go_simp; try with_reducible rfl)
    simp only [Act.put, List.setIfInBounds_toArray, List.set_cons_zero, List.set_cons_succ]
    refine wpAnyH_ready (rs := [6]) (by kernel_rfl) (by simp) (AllReadyH.cons rfl (fun K hK => ?_) AllReadyH.nil)
    go_simp
    refine (CB.out _).mono ?_
    rintro e w5 ⟨rfl, hb5⟩
    have h5 := GtS.then h4 hb5
    clear hb5
    refine hK.out _ _ h5 (fun _ => ?_)
    clear hK K
    refine wpAnyH_take (i := 8) (oi := ⟨some 53, _, _, _, _, _⟩) (v := ?_) rfl (by kernel_rfl) (by kernel_rfl) (by kernel_rfl) (fun _ _ _ h => h) (Or.inl ⟨by rfl, ?_⟩) h5 ?_
    rotate_left
    · intro w hSw; (go_simp; try with_reducible rfl)
    simp only [Act.put, List.setIfInBounds_toArray, List.set_cons_zero, List.set_cons_succ]
    refine wpAnyH_take (i := 9) (oi := ⟨some 54, _, _, _, _, _⟩) (v := ?_) rfl (by kernel_rfl) (by kernel_rfl) (by kernel_rfl) (fun _ _ _ h => h) (Or.inl ⟨by rfl, ?_⟩) h5 ?_
    rotate_left
    · intro w hSw; (go_simp; try with_reducible rfl)
    simp only [Act.put, List.setIfInBounds_toArray, List.set_cons_zero, List.set_cons_succ]
    refine wpAnyH_done (by kernel_rfl) ?_ _
    refine NoPanic.normal ?_
    obtain ⟨z0, z1, z2, z3, z4⟩ := h5.2.2.1.cells
    obtain ⟨q0, q1, q2, q3, q4⟩ := h5.2.2.1.free
    obtain ⟨y0', y1', y2', y3', y4'⟩ := h5.2.1.cells
    have HF := Lib.hid (h5.2.2.1.fill cf).cells
    have HB := Lib.hid (fillC_below h5.2.2.2.2.2.2 (Nat.le_refl w.heap.size) cf)
    clear d0 d1 d2 d3 d4 hla h5
    go_wp2_with fail
    obtain ⟨g0, g1, g2, g3, g4⟩ := HF.out
    exact bodyPost_ret (v := .tuple #[.agg (cfA cf), .bool true]) (by simp [results, Tryz.results16, go_sem, g0, g1, g2, g3, g4]) rfl ⟨rfl, HB.out⟩
end Go.Proofs.YtidnmkghmaeniaaGreatDoor
/-
  (*staveref8.Rack).Super.
-/
namespace Go.Proofs.YtidnmkghmaeniaaGreatDoor
open Go.RowKit Go.Deep Crc Dk Qk Go.Maps Hf
set_option maxHeartbeats 2000000 in
set_option maxRecDepth 100000 in
theorem vsuper_old (w : World) (r : Value) (i : Int) (f : Fr) (hi : f.is) (hg : ∀ w' : World, Below w.heap.size w w' → Calls Tryz.prog 72 #[r, .int .i64 i, .int .i64 0, .int .i64 1, .int .i64 i, .int .i64 0] w' (FrameBit f true w')) (h1 : ¬ f.g = 1) :
    Calls Tryz.prog 16 #[r, .int .i64 i] w (CfBit zeroC false w) := by
  have H0 := Lib.hid (sgS_new w)
  have HG := Lib.hid (hg _ H0.out.2.2)
  have hz := szFr_run
  have hz0 := zero_frame
  have hcz : (Value.agg (frA zeroF)).cells = frA zeroF := rfl
  have hcf : (Value.agg (frA f)).cells = frA f := rfl
  have hsz : (frC zeroF).length = szFr := frC_length zeroF_is
  have hsf : (frC f).length = szFr := frC_length hi
  have hst : ∀ W : World, (storeCells ⟨W.heap.size, 0, none⟩ (frC f) 0).run Tryz.prog (W.alloc (.cells (frA zeroF) 103)) = .ok () (W.alloc (.cells (frA f) 103)) := fun W => storeCells_frame zeroF_is hi W
  have HI := Lib.hid hi
  have e1 : ((f.g : Int) == 1) = false := by simpa using h1
  have e2 : ¬ (f.g : Int) = 1 := h1
  clear hg hi h1
  go_enter Tryz.func16, Tryz.ntmps16
  go_wp2_with fail
  refine HG.out.mono ?_
  rintro e w1 ⟨rfl, hb1⟩
  have h1 := (SgS.then H0.out hb1).then (one_below w1 (.cells (frA f) 103))
  obtain ⟨z0, z1, z2, z3, z4⟩ := h1.1.cells
  obtain ⟨q0, q1, q2, q3, q4⟩ := h1.1.free
  have HF := Lib.hid (h1.1.fill ⟨0, 0, 0, 0, 0⟩).cells
  have HB := Lib.hid (fillC_below h1.2.2 (Nat.le_refl w.heap.size) zeroC)
  have c3 := (frIn_new w1 f HI.out).c3
  clear hb1 h1
  go_wp2_with fail
  obtain ⟨g0, g1, g2, g3, g4⟩ := HF.out
  exact bodyPost_ret (v := .tuple #[.agg (cfA ⟨0, 0, 0, 0, 0⟩), .bool false]) (by simp [results, Tryz.results16, go_sem, g0, g1, g2, g3, g4]) rfl ⟨rfl, HB.out⟩
theorem vsuper_any {lo : Nat} {K : Nat → Prop} {c : Lc} {F : Lf} {C E : Nat → Nat} {q q' : Rk} (w : World) (h : PX lo K w c F C E q q') (hlo : lo ≤ w.heap.size) (i : Int) :
    Calls Tryz.prog 16 #[.pointer (some ⟨F.t, 0, none⟩), .int .i64 i] w (CfBit (cfOf q' i) (cfHas q' i) w) := by
  have hg := fun (w' : World) (hb : Below w.heap.size w w') => vget_any w' (h.below hb hlo).1 (Nat.le_trans hlo hb.size) i 0 1 i 0
  cases hf : qfound q' i 0 1 i 0 with
  | false =>
    have e1 : cfHas q' i = false := by unfold cfHas; rw [hf]; rfl
    have e2 : qgot q' i 0 1 i 0 = zeroF := by unfold qgot; rw [hf]; rfl
    rw [e1, cfOf_no e1]
    rw [hf, e2] at hg
    exact vsuper_none w _ i hg
  | true =>
    have hi := qgot_is q' i 0 1 i 0
    rw [hf] at hg
    by_cases h1 : (qgot q' i 0 1 i 0).g = 1
    · by_cases hr : CfRight (readC (qgot q' i 0 1 i 0).d)
      · by_cases hn : qgot q' i 0 1 i 0 = supF (readC (qgot q' i 0 1 i 0).d) i
        · have e1 : cfHas q' i = true := by
            unfold cfHas supGood
            rw [hf, (frEq_iff _ _).2 hn, show cfRightB _ = true from decide_eq_true hr]; rfl
          have e2 : cfOf q' i = readC (qgot q' i 0 1 i 0).d := if_pos e1
          rw [e1, e2]
          exact vsuper_yes w _ i _ hi hg h1 hr hn
        · have e1 : cfHas q' i = false := by
            unfold cfHas supGood
            rw [hf, show frEq _ _ = false by rw [← Bool.not_eq_true, frEq_iff]; exact hn, show cfRightB _ = true from decide_eq_true hr]; rfl
          rw [e1, cfOf_no e1]
          exact vsuper_other w _ i _ hi hg h1 hr hn
      · have e1 : cfHas q' i = false := by
          unfold cfHas supGood
          rw [hf, show cfRightB _ = false from decide_eq_false hr]; rfl
        rw [e1, cfOf_no e1]
        exact vsuper_wrong w _ i _ hi hg h1 hr
    · have e1 : cfHas q' i = false := by
        unfold cfHas supGood
        rw [hf, show frEq _ _ = false by
          rw [← Bool.not_eq_true, frEq_iff]
          intro e
          exact h1 (by rw [e]; rfl)]
        simp
      rw [e1, cfOf_no e1]
      exact vsuper_old w _ i _ hi hg h1
end Go.Proofs.YtidnmkghmaeniaaGreatDoor
/-
  (*staveref8.Rack).Find.
-/
namespace Go.Proofs.YtidnmkghmaeniaaGreatDoor
open Go.RowKit Go.Deep Crc Dk Qk Go.Maps Hf
def CfNum (c : Cf) (v : Int) (w : World) (e : Ending) (w' : World) : Prop := e = .returned (.tuple #[.agg (cfA c), .int .i64 v]) ∧ Below w.heap.size w w'
/-- The walk's places: the answer's block, the first configuration's. -/
def VfS (cf : Cf) (b0 b1 : Nat) (w w' : World) : Prop := CfB cf b1 w' ∧ CfB zeroC b0 w' ∧ b0 < b1 ∧ b1 < w'.heap.size ∧ Below w.heap.size w w'
theorem VfS.then {cf : Cf} {b0 b1 : Nat} {w w1 w2 : World} (h : VfS cf b0 b1 w w1) (hb : Below w1.heap.size w1 w2) : VfS cf b0 b1 w w2 :=
  ⟨h.1.below h.2.2.2.1 hb, h.2.1.below (Nat.lt_trans h.2.2.1 h.2.2.2.1) hb, h.2.2.1, Nat.lt_of_lt_of_le h.2.2.2.1 hb.size, bthen h.2.2.2.2 hb⟩
theorem VfS.fill {cf : Cf} {b0 : Nat} {w w1 : World} (h : VfS cf b0 (w.heap.size + 1) w w1) (x : Cf) : VfS x b0 (w.heap.size + 1) w (fillC x (w.heap.size + 1) w1) := by
  have hb := fillC_below (B := w.heap.size + 1) (Below.refl (w.heap.size + 1) w1) (Nat.le_refl _) x
  exact ⟨h.1.fill x, h.2.1.below h.2.2.1 hb, h.2.2.1, Nat.lt_of_lt_of_le h.2.2.2.1 hb.size, h.2.2.2.2.trans (hb.mono (Nat.le_succ _))⟩
def RelVf (n : Nat) (q : Rk) (w : World) (v x : Value) (wr : World) : Prop :=
  ∃ m : Nat, m ≤ n ∧ x = .int .i64 m ∧ v = .int .i64 ((fnd q m).2 : Int) ∧ VfS (fnd q m).1 w.heap.size (w.heap.size + 1) w wr
set_option maxHeartbeats 4000000 in
set_option maxRecDepth 100000 in
theorem vfind_any {lo : Nat} {K : Nat → Prop} {c : Lc} {f : Lf} {C E : Nat → Nat} {q q' : Rk} (w : World) (h : PX lo K w c f C E q q') (hlo : lo ≤ w.heap.size) :
    Calls Tryz.prog 18 #[.pointer (some ⟨f.t, 0, none⟩)] w (CfNum (fndC q') (fcodeF q') w) := by
  have h0 : VfS zeroC w.heap.size (w.heap.size + 1) w ((w.alloc (.cells (cfA zeroC) 24)).alloc (.cells (cfA zeroC) 24)) :=
    ⟨by have := cfB_new (w.alloc (.cells (cfA zeroC) 24)) zeroC; simpa using this, (cfB_new w zeroC).below (B := w.heap.size + 1) (by omega) ((one_below _ _).mono (by simp)), Nat.lt_succ_self _, by simp, bthen (one_below _ _) (one_below _ _)⟩
  have HX := Lib.hid (fun (w' : World) (hb : Below w.heap.size w w') => (h.below hb hlo).1)
  have HLO := Lib.hid hlo
  have hD := (h.below h0.2.2.2.2 hlo).1.c0
  simp only [cfA, zeroC] at hD
  have H0 := Lib.hid h0
  have hn8 := h.prog.ok.n8
  have HQN := Lib.hid h.n
  have hgd := guard_conf
  clear h h0 hlo
  generalize q.n = n at *
  go_enter Tryz.func18, Tryz.ntmps18
  go_wp2_with fail
  go_loopw [5, 14] (fun v x wr => RelVf n q' w v x wr) (fun _ x _ => n - (intOf x).toNat)
  case atStart => exact ⟨0, Nat.zero_le _, rfl, rfl, H0.out⟩
  case round =>
    obtain ⟨m, hm, rfl, rfl, hs⟩ := hrel
    clear hD
    by_cases hlt : m < n
    · have HS := Lib.hid hs
      have HG := Lib.hid (vsuper_any wr (HX.out _ hs.2.2.2.2) (Nat.le_trans HLO.out hs.2.2.2.2.size) (m : Int))
      have HFN := Lib.hid (fnd_le q' m)
      clear hs
      go_wp2_with fail
      refine HG.out.mono ?_
      rintro e w2 ⟨rfl, hb2⟩
      have H3 := Lib.hid ((VfS.then HS.out hb2).then (one_below w2 (.cells (cfA (cfOf q' m)) 24)))
      have HC3 := Lib.hid (cfB_new w2 (cfOf q' m))
      have HL3 := Lib.hid (show w.heap.size + 1 < w2.heap.size from Nat.lt_of_lt_of_le HS.out.2.2.2.1 hb2.size)
      clear hb2
      cases hh : cfHas q' m with
      | false =>
        have HN := Lib.hid (fnd_no hh)
        generalize cfOf q' m = x at *
        clear hh
        go_wp2_with fail
        go_roundw
        case rel => exact ⟨m + 1, by omega, by go_num, by rw [HN.out], by rw [HN.out]; exact H3.out⟩
        case measure => simp [intOf]; omega
      | true =>
        by_cases hz : (fnd q' m).2 = 0
        · have HN := Lib.hid (fnd_yes hh hz)
          generalize cfOf q' m = x at *
          have h3 := H3.out
          have hc3 := HC3.out
          have hne : w.heap.size + 1 ≠ w2.heap.size := by have := HL3.out; omega
          obtain ⟨p0, p1, p2, p3, p4⟩ := h3.1.cells
          obtain ⟨f0, f1, f2, f3, f4⟩ := h3.1.free
          obtain ⟨g0, g1, g2, g3, g4⟩ := (h3.1.fill x).cells
          have HF := Lib.hid (h3.fill x)
          have heq : ∀ w, (binOp .eql 24 (.agg (cfA x)) (.agg (cfA x))).run Tryz.prog w = .ok (.bool true) w := fun w => by rw [eql_conf, decide_eq_true rfl]
          clear h3 hc3
          go_wp2_with fail
          go_roundw
          case rel => exact ⟨m + 1, by omega, by go_num, by rw [HN.out]; rfl, by rw [HN.out]; exact HF.out⟩
          case measure => simp [intOf]; omega
        · have hz1 : (((fnd q' m).2 : Int) == 0) = false := by simpa using hz
          have h3 := H3.out
          obtain ⟨p0, p1, p2, p3, p4⟩ := h3.1.cells
          by_cases hx : cfOf q' m = (fnd q' m).1
          · have HN := Lib.hid (fnd_same hh hz hx)
            generalize cfOf q' m = x at *
            have heq : ∀ w, (binOp .eql 24 (.agg (cfA x)) (.agg (cfA (fnd q' m).1))).run Tryz.prog w = .ok (.bool true) w := fun w => by rw [eql_conf, decide_eq_true hx]
            clear h3 hz hx
            generalize (fnd q' m).1 = y at *
            generalize (fnd q' m).2 = hv at *
            go_wp2_with fail
            go_roundw
            case rel =>
              have hb8 := HFN.out
              exact ⟨m + 1, by omega, by go_num, by rw [HN.out]; have e : wrap64 ((hv : Int) + 1) = ((hv + 1 : Nat) : Int) := (by unfold wrap64; omega); rw [e], by rw [HN.out]; exact H3.out⟩
            case measure => simp [intOf]; omega
          · have HN := Lib.hid (fnd_other hh hz hx)
            generalize hxx : cfOf q' m = x at *
            have heq : ∀ w, (binOp .eql 24 (.agg (cfA x)) (.agg (cfA (fnd q' m).1))).run Tryz.prog w = .ok (.bool false) w := fun w => by rw [eql_conf, decide_eq_false hx]
            have HE := Lib.hid (show fnd q' m = ((fnd q' m).1, (fnd q' m).2) from rfl)
            clear h3 hz hx hxx
            generalize (fnd q' m).1 = y at *
            generalize (fnd q' m).2 = hv at *
            go_wp2_with fail
            go_roundw
            case rel => exact ⟨m + 1, by omega, by go_num, by rw [HN.out, HE.out], by rw [HN.out, HE.out]; exact H3.out⟩
            case measure => simp [intOf]; omega
    · obtain rfl : m = n := by omega
      have HFF := Lib.hid (vfits_any wr (HX.out _ hs.2.2.2.2) (Nat.le_trans HLO.out hs.2.2.2.2.size) (fnd q' m).1)
      have HD1 := Lib.hid (show fndC q' = if fndOk q' = true then (fnd q' m).1 else zeroC by rw [← HQN.out]; rfl)
      have HD2 := Lib.hid (show fcodeF q' = if fndOk q' = true then 0 else 7 from rfl)
      have HD3 := Lib.hid (show fndOk q' = (decide ((fnd q' m).1.k ≤ (fnd q' m).2) && (fnd q' m).1.fits q') by rw [← HQN.out]; rfl)
      have HFN := Lib.hid (fnd_le q' m)
      generalize (fnd q' m).1 = y at *
      generalize (fnd q' m).2 = hv at *
      obtain ⟨p0, p1, p2, p3, p4⟩ := hs.1.cells
      obtain ⟨z0, z1, z2, z3, z4⟩ := hs.2.1.cells
      obtain ⟨f0, f1, f2, f3, f4⟩ := hs.2.1.free
      have HZ := Lib.hid (hs.2.1.fill ⟨0, 0, 0, 0, 0⟩).cells
      by_cases hz : hv = 0
      · subst hz
        have HO := Lib.hid (show fndOk q' = false by
          rw [HD3.out]
          cases hf : y.fits q' with
          | false => simp
          | true =>
            have := (fits_right hf).1.2.2.1
            rw [decide_eq_false (by omega)]; rfl)
        have HE := Lib.hid (fillC_below hs.2.2.2.2 (Nat.le_refl w.heap.size) ⟨0, 0, 0, 0, 0⟩)
        have hz1 : (((0 : Nat) : Int) == 0) = true := rfl
        clear hs
        go_wp2_with fail
        obtain ⟨g0, g1, g2, g3, g4⟩ := HZ.out
        exact bodyPost_ret (v := .tuple #[.agg (cfA ⟨0, 0, 0, 0, 0⟩), .int .i64 7]) (by simp [results, Tryz.results18, go_sem, g0, g1, g2, g3, g4]) rfl ⟨by rw [HD1.out, HD2.out, HO.out]; rfl, HE.out⟩
      have hz1 : ((hv : Int) == 0) = false := by simpa using hz
      by_cases hk : (hv : Int) < y.k
      · have HO := Lib.hid (show fndOk q' = false by rw [HD3.out, decide_eq_false (by omega)]; rfl)
        have HE := Lib.hid (fillC_below hs.2.2.2.2 (Nat.le_refl w.heap.size) ⟨0, 0, 0, 0, 0⟩)
        clear hs hz
        go_wp2_with fail
        obtain ⟨g0, g1, g2, g3, g4⟩ := HZ.out
        exact bodyPost_ret (v := .tuple #[.agg (cfA ⟨0, 0, 0, 0, 0⟩), .int .i64 7]) (by simp [results, Tryz.results18, go_sem, g0, g1, g2, g3, g4]) rfl ⟨by rw [HD1.out, HD2.out, HO.out]; rfl, HE.out⟩
      · have hk2 : decide (y.k ≤ (hv : Int)) = true := decide_eq_true (by omega)
        rw [hk2, Bool.true_and] at HD3
        clear hk2 hz
        cases hf : y.fits q' with
        | false =>
          have HO := Lib.hid (show fndOk q' = false by rw [HD3.out, hf])
          rw [hf] at HFF
          have HSS := Lib.hid hs
          clear hs hf
          go_wp2_with fail
          refine HFF.out.mono ?_
          rintro e w2 ⟨rfl, hb2⟩
          have h2 := VfS.then HSS.out hb2
          obtain ⟨y0, y1, y2, y3, y4⟩ := h2.2.1.cells
          obtain ⟨x0, x1, x2, x3, x4⟩ := h2.2.1.free
          have HZ2 := Lib.hid (h2.2.1.fill ⟨0, 0, 0, 0, 0⟩).cells
          have HE := Lib.hid (fillC_below h2.2.2.2.2 (Nat.le_refl w.heap.size) ⟨0, 0, 0, 0, 0⟩)
          clear h2 hb2
          go_wp2_with fail
          obtain ⟨g0, g1, g2, g3, g4⟩ := HZ2.out
          exact bodyPost_ret (v := .tuple #[.agg (cfA ⟨0, 0, 0, 0, 0⟩), .int .i64 7]) (by simp [results, Tryz.results18, go_sem, g0, g1, g2, g3, g4]) rfl ⟨by rw [HD1.out, HD2.out, HO.out]; rfl, HE.out⟩
        | true =>
          have HO := Lib.hid (show fndOk q' = true by rw [HD3.out, hf])
          rw [hf] at HFF
          have HSS := Lib.hid hs
          clear hs hf
          go_wp2_with fail
          refine HFF.out.mono ?_
          rintro e w2 ⟨rfl, hb2⟩
          have h2 := VfS.then HSS.out hb2
          obtain ⟨a0, a1, a2, a3, a4⟩ := h2.1.cells
          obtain ⟨y0, y1, y2, y3, y4⟩ := h2.2.1.cells
          obtain ⟨x0, x1, x2, x3, x4⟩ := h2.2.1.free
          have HZ2 := Lib.hid (h2.2.1.fill y).cells
          have HE := Lib.hid (fillC_below h2.2.2.2.2 (Nat.le_refl w.heap.size) y)
          clear h2 hb2
          go_wp2_with fail
          obtain ⟨g0, g1, g2, g3, g4⟩ := HZ2.out
          exact bodyPost_ret (v := .tuple #[.agg (cfA y), .int .i64 0]) (by simp [results, Tryz.results18, go_sem, g0, g1, g2, g3, g4]) rfl ⟨by rw [HD1.out, HD2.out, HO.out]; rfl, HE.out⟩
end Go.Proofs.YtidnmkghmaeniaaGreatDoor
/-
  staverun.New; the program's rack and the reference's beside each other (written by gensvtwo.py).
-/
namespace Qk
open Dk
theorem Alike.wipe {q q' : Rk} (h : Alike q q') {i : Nat} (hi : i < q.n) (b : Bool) : Alike (q.wipe i b) (q'.wipe i b) := by
  unfold Rk.wipe
  rw [h.s i hi]
  exact h.turn i _
end Qk
namespace Go.Proofs.YtidnmkghmaeniaaGreatDoor
open Go.RowKit Go.Deep Crc Dk Qk Go.Maps Hf
theorem alike_qrcode {q q' : Rk} (h : Qk.Alike q q') (i s : Int) : qrcode q' i s = qrcode q i s := by
  unfold qrcode
  by_cases hi : q.has i
  · rw [if_pos hi, if_pos ((h.has i).2 hi), h.off, h.at_ hi]
  · rw [if_neg hi, if_neg (fun e => hi ((h.has i).1 e))]
theorem alike_qval {q q' : Rk} (h : Qk.Alike q q') (i s : Int) : qval q' i s = qval q i s := by
  have e : (q'.has i ∧ q'.off = false) ↔ (q.has i ∧ q.off = false) := by rw [h.has, h.off]
  unfold qval
  by_cases hp : q.has i ∧ q.off = false
  · rw [if_pos (e.2 hp), if_pos hp, h.at_ hp.1]
  · rw [if_neg (fun x => hp (e.1 x)), if_neg hp]
theorem alike_found {q q' : Rk} (h : Qk.Alike q q') (i s kind slot stripe : Int) : qfound q' i s kind slot stripe = qfound q i s kind slot stripe := by
  unfold qfound; rw [alike_qrcode h, alike_qval h]
theorem alike_got {q q' : Rk} (h : Qk.Alike q q') (i s kind slot stripe : Int) : qgot q' i s kind slot stripe = qgot q i s kind slot stripe := by
  unfold qgot; rw [alike_found h, alike_qval h]
/-- Blocks that are kept may be fewer; a new one may be kept too. -/
theorem PX.less {lo : Nat} {K K' : Nat → Prop} {w : World} {c : Lc} {f : Lf} {C E : Nat → Nat} {q q' : Rk} (h : PX lo K w c f C E q q') (hk : ∀ k, K' k → K k) : PX lo K' w c f C E q q' :=
  ⟨h.prog, h.ok, h.n, h.k, h.cap, h.top, h.row, h.ref, h.inj, h.maps, h.lt, h.lP, h.ld, fun k hb => h.safe k (hk k hb)⟩
theorem PX.far {lo : Nat} {K : Nat → Prop} {w : World} {c : Lc} {f : Lf} {C E : Nat → Nat} {q q' : Rk} (h : PX lo K w c f C E q q') {g : Nat} (hg : w.heap.size ≤ g) : Clear g q.n c f C E := by
  have ht := (Array.getElem?_eq_some_iff.1 h.top).1
  refine ⟨by have := h.prog.lt.1; omega, fun i hi => ?_, by omega, fun i hi => ?_⟩
  · have := (h.prog.disk i hi).lt; omega
  · have := (h.ref i hi).lt; omega
theorem PX.more {lo : Nat} {K : Nat → Prop} {w w' : World} {c : Lc} {f : Lf} {C E : Nat → Nat} {q q' : Rk} (h : PX lo K w c f C E q q') (hb : Below w.heap.size w w') (hlo : lo ≤ w.heap.size) {g : Nat} (h1 : w.heap.size ≤ g) (h2 : g < w'.heap.size) :
    PX lo (fun k => K k ∨ k = g) w' c f C E q q' := by
  have h' := (h.below hb hlo).1
  refine ⟨h'.prog, h'.ok, h'.n, h'.k, h'.cap, h'.top, h'.row, h'.ref, h'.inj, h'.maps, h'.lt, h'.lP, h'.ld, fun k hk => ?_⟩
  rcases hk with hk | rfl
  · exact h'.safe k hk
  · exact ⟨h2, h.far h1⟩
def TwoAt (T : Nat) (c : Lc) (f : Lf) (w : World) : Prop := w.heap[T]? = some (.cells #[.pointer (some ⟨c.r, 0, none⟩), .pointer (some ⟨f.t, 0, none⟩)] 42 (0, 0))
def TwoNew (K : Nat → Prop) (n k : Nat) (w : World) (e : Ending) (w' : World) : Prop :=
  ∃ T c f, e = .returned (.pointer (some ⟨T, 0, none⟩)) ∧ TwoAt T c f w' ∧ PR w.heap.size (fun k => K k ∨ k = T) w' c f (newRk n k) (newRk n k) ∧ Below w.heap.size w w'
/-- A configuration in block b. -/
def TnS (cf : Cf) (b : Nat) (w w' : World) : Prop := CfB cf b w' ∧ b < w'.heap.size ∧ Below w.heap.size w w'
theorem TnS.then {cf : Cf} {b : Nat} {w w1 w2 : World} (h : TnS cf b w w1) (hb : Below w1.heap.size w1 w2) : TnS cf b w w2 := ⟨h.1.below h.2.1 hb, Nat.lt_of_lt_of_le h.2.1 hb.size, bthen h.2.2 hb⟩
theorem TnS.drew {cf : Cf} {b : Nat} {w w1 : World} (h : TnS cf b w w1) : TnS cf b w w1.drew := h.then (Below.drew (Below.refl _ _))
set_option maxHeartbeats 8000000 in
set_option maxRecDepth 100000 in
theorem two_new (K : Nat → Prop) (cf : Cf) (n k : Nat) (w : World) (hr : CfRight cf) (hn : cf.n = n) (hk : cf.secs = k) (B1 : 1 ≤ n) (B2 : n ≤ 8) (B3 : 1 ≤ k) (B4 : k ≤ 128) (hK : ∀ k, K k → k < w.heap.size) :
    Calls Tryz.prog 10 #[.agg (cfA cf)] w (TwoNew K n k w) := by
  have H0 := Lib.hid (show TnS cf w.heap.size w (w.alloc (.cells (cfA cf) 24)) from ⟨cfB_new w cf, by simp, one_below _ _⟩)
  have CK := Lib.hid (fun W => show Calls Tryz.prog 43 #[.agg (cfA cf)] W (Num (k : Int) W) from by have := ksectors_any cf W hr; rwa [hk] at this)
  have CN := Lib.hid (fun W => show Calls Tryz.prog 42 #[.int .i64 cf.n, .int .i64 (k : Int)] W (NewR n k W) from by rw [hn]; exact qnew_yes n k W B1 B2 B3 B4)
  have HN := Lib.hid hn
  clear hr hk hn
  have HK := Lib.hid hK
  clear hK
  go_enter Tryz.func10, Tryz.ntmps10
  go_upto_region 1 with (fail)
  have h0 := H0.out
  have HBS := Lib.hid (show w.heap.size ≤ (w.alloc (.cells (cfA cf) 24)).heap.size by simp)
  generalize w.alloc (.cells (cfA cf) 24) = w1 at *
  generalize hbb : w.heap.size = b at *
  have d0 : ∀ w', TnS cf b w w' → w'.cell? ⟨b, 0, none⟩ = some (.int .i64 cf.id) := fun w' h => h.1.cell 0
  have d1 : ∀ w', TnS cf b w w' → w'.cell? ⟨b, 1, none⟩ = some (.int .i64 cf.k) := fun w' h => h.1.cell 1
  have d2 : ∀ w', TnS cf b w w' → w'.cell? ⟨b, 2, none⟩ = some (.int .i64 cf.n) := fun w' h => h.1.cell 2
  have d3 : ∀ w', TnS cf b w w' → w'.cell? ⟨b, 3, none⟩ = some (.int .i64 cf.t) := fun w' h => h.1.cell 3
  have d4 : ∀ w', TnS cf b w w' → w'.cell? ⟨b, 4, none⟩ = some (.int .i64 cf.s) := fun w' h => h.1.cell 4
  refine wp_region_noPanic ?_
  refine wp_region_held_drew (S := (fun w' => TnS cf b w w')) (by kernel_rfl) h0.drew (fun hHeld => ?_)
  refine wpAnyH_take (i := 0) (oi := ⟨some 8, _, _, _, _, _⟩) (v := ?_) rfl (by kernel_rfl) (by kernel_rfl) (by kernel_rfl) (fun _ _ _ h => h) (Or.inl ⟨by rfl, ?_⟩) hHeld ?_
  rotate_left
  · intro w hSw; (go_simp; try with_reducible rfl)
  simp only [Act.put, List.setIfInBounds_toArray, List.set_cons_zero, List.set_cons_succ]
  refine wpAnyH_take (i := 1) (oi := ⟨some 9, _, _, _, _, _⟩) (v := ?_) rfl (by kernel_rfl) (by kernel_rfl) (by kernel_rfl) (fun _ _ _ h => h) (Or.inl ⟨by rfl, ?_⟩) hHeld ?_
  rotate_left
  · intro w hSw; (go_simp; try with_reducible rfl)
  simp only [Act.put, List.setIfInBounds_toArray, List.set_cons_zero, List.set_cons_succ]
  refine wpAnyH_take (i := 2) (oi := ⟨some 10, _, _, _, _, _⟩) (v := ?_) rfl (by kernel_rfl) (by kernel_rfl) (by kernel_rfl) (fun _ _ _ h => h) (Or.inl ⟨by rfl, ?_⟩) hHeld ?_
  rotate_left
  · intro w hSw; (go_simp; try with_reducible rfl)
  simp only [Act.put, List.setIfInBounds_toArray, List.set_cons_zero, List.set_cons_succ]
  refine wpAnyH_ready (rs := [3]) (by kernel_rfl) (by simp) (AllReadyH.cons rfl (fun K hK => ?_) AllReadyH.nil)
  go_simp
  refine (CK.out _).mono ?_
  rintro e w2 ⟨rfl, hb2⟩
  have h2 := TnS.then hHeld hb2
  refine hK.out _ _ h2 (fun _ => ?_)
  clear hK K
  refine wpAnyH_ready (rs := [4]) (by kernel_rfl) (by simp) (AllReadyH.cons rfl (fun K hK => ?_) AllReadyH.nil)
  go_simp
  refine (CN.out _).mono ?_
  rintro e w3 ⟨c, rfl, hR, hb⟩
  have h3 := TnS.then h2 hb
  refine hK.out _ _ h3 (fun _ => ?_)
  clear hK K
  refine wpAnyH_take (i := 5) (oi := ⟨some 7, _, _, _, _, _⟩) (v := ?_) rfl (by kernel_rfl) (by kernel_rfl) (by kernel_rfl) (fun _ _ _ h => h) (Or.inl ⟨by rfl, ?_⟩) h3 ?_
  rotate_left
  · intro w hSw; (go_simp; try with_reducible rfl)
  simp only [Act.put, List.setIfInBounds_toArray, List.set_cons_zero, List.set_cons_succ]
  refine wpAnyH_take (i := 6) (oi := ⟨some 13, _, _, _, _, _⟩) (v := ?_) rfl (by kernel_rfl) (by kernel_rfl) (by kernel_rfl) (fun _ _ _ h => h) (Or.inl ⟨by rfl, ?_⟩) h3 ?_
  rotate_left
  · intro w hSw; (go_simp; try with_reducible rfl)
  simp only [Act.put, List.setIfInBounds_toArray, List.set_cons_zero, List.set_cons_succ]
  refine wpAnyH_take (i := 7) (oi := ⟨some 14, _, _, _, _, _⟩) (v := ?_) rfl (by kernel_rfl) (by kernel_rfl) (by kernel_rfl) (fun _ _ _ h => h) (Or.inl ⟨by rfl, ?_⟩) h3 ?_
  rotate_left
  · intro w hSw; (go_simp; try with_reducible rfl)
  simp only [Act.put, List.setIfInBounds_toArray, List.set_cons_zero, List.set_cons_succ]
  refine wpAnyH_take (i := 8) (oi := ⟨some 3, _, _, _, _, _⟩) (v := ?_) rfl (by kernel_rfl) (by kernel_rfl) (by kernel_rfl) (fun _ _ _ h => h) (Or.inl ⟨by rfl, ?_⟩) h3 ?_
  rotate_left
  · intro w hSw; (go_simp; try with_reducible rfl)
  simp only [Act.put, List.setIfInBounds_toArray, List.set_cons_zero, List.set_cons_succ]
  refine wpAnyH_take (i := 9) (oi := ⟨some 4, _, _, _, _, _⟩) (v := ?_) rfl (by kernel_rfl) (by kernel_rfl) (by kernel_rfl) (fun _ _ _ h => h) (Or.inl ⟨by rfl, ?_⟩) h3 ?_
  rotate_left
  · intro w hSw; (go_simp; try with_reducible rfl)
  simp only [Act.put, List.setIfInBounds_toArray, List.set_cons_zero, List.set_cons_succ]
  refine wpAnyH_done (by kernel_rfl) ?_ _
  refine NoPanic.normal ?_
  have HLB := Lib.hid (show b ≤ w3.heap.size from by have := h3.2.2.size; omega)
  have HP := Lib.hid (fun (W : World) (hW : Below w3.heap.size w3 W) => (hR.lower (lo' := b) (by have := h2.2.2.size; omega)).below hW)
  have CV := Lib.hid (fun (W : World) (h : TnS cf b w3 W) => show Calls Tryz.prog 53 #[.int .i64 cf.n, .int .i64 (k : Int)] W (NewV b K c n k W) from by rw [HN.out]; exact vnew_yes (K := K) n k W (HP.out _ h.2.2) (Nat.le_trans HLB.out h.2.2.size) (fun k hk => by have := HK.out k hk; omega) B1 B2 B3 B4)
  have h3b : TnS cf b w3 w3 := ⟨h3.1, h3.2.1, Below.refl _ _⟩
  have HB3 := Lib.hid h3.2.2
  clear d0 d1 d2 d3 d4 h2 h3 hb hb2 h0 hR hHeld
  have d0 : ∀ w', TnS cf b w3 w' → w'.cell? ⟨b, 0, none⟩ = some (.int .i64 cf.id) := fun w' h => h.1.cell 0
  have d1 : ∀ w', TnS cf b w3 w' → w'.cell? ⟨b, 1, none⟩ = some (.int .i64 cf.k) := fun w' h => h.1.cell 1
  have d2 : ∀ w', TnS cf b w3 w' → w'.cell? ⟨b, 2, none⟩ = some (.int .i64 cf.n) := fun w' h => h.1.cell 2
  have d3 : ∀ w', TnS cf b w3 w' → w'.cell? ⟨b, 3, none⟩ = some (.int .i64 cf.t) := fun w' h => h.1.cell 3
  have d4 : ∀ w', TnS cf b w3 w' → w'.cell? ⟨b, 4, none⟩ = some (.int .i64 cf.s) := fun w' h => h.1.cell 4
  go_upto_region 2 with (fail)
  refine wp_region_noPanic ?_
  refine wp_region_held_drew (S := (fun w' => TnS cf b w3 w')) (by kernel_rfl) h3b.drew (fun hHeld2 => ?_)
  refine wpAnyH_take (i := 0) (oi := ⟨some 16, _, _, _, _, _⟩) (v := ?_) rfl (by kernel_rfl) (by kernel_rfl) (by kernel_rfl) (fun _ _ _ h => h) (Or.inl ⟨by rfl, ?_⟩) hHeld2 ?_
  rotate_left
  · intro w hSw; (go_simp; try with_reducible rfl)
  simp only [Act.put, List.setIfInBounds_toArray, List.set_cons_zero, List.set_cons_succ]
  refine wpAnyH_take (i := 1) (oi := ⟨some 17, _, _, _, _, _⟩) (v := ?_) rfl (by kernel_rfl) (by kernel_rfl) (by kernel_rfl) (fun _ _ _ h => h) (Or.inl ⟨by rfl, ?_⟩) hHeld2 ?_
  rotate_left
  · intro w hSw; (go_simp; try with_reducible rfl)
  simp only [Act.put, List.setIfInBounds_toArray, List.set_cons_zero, List.set_cons_succ]
  refine wpAnyH_take (i := 2) (oi := ⟨some 18, _, _, _, _, _⟩) (v := ?_) rfl (by kernel_rfl) (by kernel_rfl) (by kernel_rfl) (fun _ _ _ h => h) (Or.inl ⟨by rfl, ?_⟩) hHeld2 ?_
  rotate_left
  · intro w hSw; (go_simp; try with_reducible rfl)
  simp only [Act.put, List.setIfInBounds_toArray, List.set_cons_zero, List.set_cons_succ]
  refine wpAnyH_ready (rs := [3]) (by kernel_rfl) (by simp) (AllReadyH.cons rfl (fun K hK => ?_) AllReadyH.nil)
  go_simp
  refine (CK.out _).mono ?_
  rintro e w4 ⟨rfl, hb4⟩
  have h4 := TnS.then hHeld2 hb4
  refine hK.out _ _ h4 (fun _ => ?_)
  clear hK K
  refine wpAnyH_ready (rs := [4]) (by kernel_rfl) (by simp) (AllReadyH.cons rfl (fun K hK => ?_) AllReadyH.nil)
  go_simp
  refine (CV.out _ h4).mono ?_
  rintro e w5 ⟨f, rfl, hR2, hb5⟩
  have h5 := TnS.then h4 hb5
  refine hK.out _ _ h5 (fun _ => ?_)
  clear hK K
  refine wpAnyH_take (i := 5) (oi := ⟨some 15, _, _, _, _, _⟩) (v := ?_) rfl (by kernel_rfl) (by kernel_rfl) (by kernel_rfl) (fun _ _ _ h => h) (Or.inl ⟨by rfl, ?_⟩) h5 ?_
  rotate_left
  · intro w hSw; (go_simp; try with_reducible rfl)
  simp only [Act.put, List.setIfInBounds_toArray, List.set_cons_zero, List.set_cons_succ]
  refine wpAnyH_take (i := 6) (oi := ⟨some 21, _, _, _, _, _⟩) (v := ?_) rfl (by kernel_rfl) (by kernel_rfl) (by kernel_rfl) (fun _ _ _ h => h) (Or.inl ⟨by rfl, ?_⟩) h5 ?_
  rotate_left
  · intro w hSw; (go_simp; try with_reducible rfl)
  simp only [Act.put, List.setIfInBounds_toArray, List.set_cons_zero, List.set_cons_succ]
  refine wpAnyH_take (i := 7) (oi := ⟨some 22, _, _, _, _, _⟩) (v := ?_) rfl (by kernel_rfl) (by kernel_rfl) (by kernel_rfl) (fun _ _ _ h => h) (Or.inl ⟨by rfl, ?_⟩) h5 ?_
  rotate_left
  · intro w hSw; (go_simp; try with_reducible rfl)
  simp only [Act.put, List.setIfInBounds_toArray, List.set_cons_zero, List.set_cons_succ]
  refine wpAnyH_take (i := 8) (oi := ⟨some 5, _, _, _, _, _⟩) (v := ?_) rfl (by kernel_rfl) (by kernel_rfl) (by kernel_rfl) (fun _ _ _ h => h) (Or.inl ⟨by rfl, ?_⟩) h5 ?_
  rotate_left
  · intro w hSw; (go_simp; try with_reducible rfl)
  simp only [Act.put, List.setIfInBounds_toArray, List.set_cons_zero, List.set_cons_succ]
  refine wpAnyH_take (i := 9) (oi := ⟨some 6, _, _, _, _, _⟩) (v := ?_) rfl (by kernel_rfl) (by kernel_rfl) (by kernel_rfl) (fun _ _ _ h => h) (Or.inl ⟨by rfl, ?_⟩) h5 ?_
  rotate_left
  · intro w hSw; (go_simp; try with_reducible rfl)
  simp only [Act.put, List.setIfInBounds_toArray, List.set_cons_zero, List.set_cons_succ]
  refine wpAnyH_done (by kernel_rfl) ?_ _
  refine NoPanic.normal ?_
  have HZ := Lib.hid (show Below w.heap.size w w5 ∧ b ≤ w5.heap.size from ⟨bthen HB3.out h5.2.2, Nat.le_trans HLB.out h5.2.2.size⟩)
  obtain ⟨C, E, hx⟩ := hR2
  have HX := Lib.hid hx
  clear d0 d1 d2 d3 d4 h4 h5 h3b hb4 hb5 hx hHeld2
  go_wp2_with fail
  go_ret
  exact ⟨w5.heap.size, c, f, rfl, heap_alloc_new w5 _, ⟨C, E, by rw [hbb]; exact HX.out.more (one_below w5 _) HZ.out.2 (Nat.le_refl _) (by simp)⟩, bthen HZ.out.1 (one_below w5 _)⟩
end Go.Proofs.YtidnmkghmaeniaaGreatDoor
/-
  Alike racks: what Super and Find answer is the same.
-/
namespace Go.Proofs.YtidnmkghmaeniaaGreatDoor
open Go.RowKit Go.Deep Crc Dk Qk Go.Maps Hf
theorem alike_has {q q' : Rk} (h : Qk.Alike q q') (i : Int) : cfHas q' i = cfHas q i := by
  unfold cfHas; rw [alike_found h, alike_got h]
theorem alike_cfOf {q q' : Rk} (h : Qk.Alike q q') (i : Int) : cfOf q' i = cfOf q i := by
  unfold cfOf; rw [alike_has h, alike_got h]
theorem alike_fnd {q q' : Rk} (h : Qk.Alike q q') : ∀ m, fnd q' m = fnd q m
  | 0 => rfl
  | m + 1 => by
    have ih := alike_fnd h m
    unfold fnd
    rw [alike_has h, alike_cfOf h, ih]
theorem alike_fndOk {q q' : Rk} (h : Qk.Alike q q') : fndOk q' = fndOk q := by
  unfold fndOk; rw [h.n, alike_fnd h, alike_cfits h]
theorem alike_fndC {q q' : Rk} (h : Qk.Alike q q') : fndC q' = fndC q := by
  unfold fndC; rw [alike_fndOk h, h.n, alike_fnd h]
theorem alike_fcode {q q' : Rk} (h : Qk.Alike q q') : fcodeF q' = fcodeF q := by
  unfold fcodeF; rw [alike_fndOk h]
end Go.Proofs.YtidnmkghmaeniaaGreatDoor
