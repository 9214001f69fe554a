/-
  stavelaw8.RackApart: the walk.
-/
import Derived.Test.YtbokangpcjeofaaGreatDoorQApartM
import Derived.Test.YtbokangpcjeofaaGreatDoorWithinI
import Derived.Deep.RegionHeld3
namespace Go.Proofs.YtbokangpcjeofaaGreatDoor
open Go.RowKit Go.Deep Dk Qk Go.Maps Hf
def RelA1 (w0 : World) (c : Lc) (ci : Value) (wr : World) : Prop := ∃ d : Nat, d ≤ 4 ∧ ci = .int .i64 d ∧ QS w0 c (jR d (new 3)) wr
def RelA2 (d : Nat) (w0 : World) (c : Lc) (ci : Value) (wr : World) : Prop := ∃ m : Nat, m ≤ 3 ∧ ci = .int .i64 m ∧ QS w0 c (jR d (jA d m)) wr
def RelA3 (n : Nat) (q : Rk) (w0 : World) (c : Lc) (ci : Value) (wr : World) : Prop := ∃ d : Nat, d ≤ n ∧ ci = .int .i64 d ∧ QS w0 c q wr
structure ASt (w0 : World) (c : Lc) (q : Rk) (f : Fr) (b : Nat) (w : World) : Prop where
  st : RSt w0 c q f b w
theorem wrap_jx {d x : Nat} (hd : d < 4) (hx : x < 3) : IntKind.i64.wrap (IntKind.i64.wrap ((d : Int) * 3) + x) = (d : Int) * 3 + x := by
  have h1 : IntKind.i64.wrap ((d : Int) * 3) = (d : Int) * 3 := by unfold IntKind.wrap; simp [IntKind.bits, IntKind.signed]; omega
  rw [h1]
  unfold IntKind.wrap; simp [IntKind.bits, IntKind.signed]; omega
theorem get_frame {w0 w : World} {c : Lc} {q : Rk} (h : QS w0 c q w) {i s kind slot stripe : Int} {f : Fr} {b : Bool} (e : qfound q i s kind slot stripe = b ∧ qgot q i s kind slot stripe = f) :
    Calls Tryz.prog 29 #[.pointer (some ⟨c.r, 0, none⟩), .int .i64 i, .int .i64 s, .int .i64 kind, .int .i64 slot, .int .i64 stripe] w (FrameBit f b w) := by
  have := h.get i s kind slot stripe
  rwa [e.1, e.2] at this
theorem Stands.yes {q : Rk} {d x : Nat} (h : Stands q d x) : qfound q d x 2 d x = true ∧ qgot q d x 2 d x = jF d x := by
  obtain ⟨e1, e2⟩ := h 2 d x
  rw [asked_j] at e1 e2
  exact ⟨e1, e2⟩
theorem Stands.no {q : Rk} {d x : Nat} (h : Stands q d x) {k s t : Int} (ha : asked (jF d x) k s t = false) : qfound q d x k s t = false ∧ qgot q d x k s t = zeroF := by
  obtain ⟨e1, e2⟩ := h k s t
  rw [ha] at e1 e2
  exact ⟨e1, e2⟩
set_option maxHeartbeats 16000000 in
set_option maxRecDepth 100000 in
theorem apart_gone (i s k : Int) (w : World) (hT : Typ w) : Calls Tryz.prog 4 #[.int .i64 i, .int .i64 s, .int .i64 k, .bool true] w (Bit true w) := by
  have HT := Lib.hid hT
  have HN := Lib.hid (show Calls Tryz.prog 6 #[.int .i64 4, .int .i64 3] w (QNew w 4 3) from qs_new 4 3 w (by omega) (by omega) (by omega) (by omega))
  have hz := szFr_run
  have hz0 := zero_frame
  have hc0 : (Value.agg (frA zeroF)).cells = frA zeroF := rfl
  have hsz : (frC zeroF).length = szFr := frC_length zeroF_is
  have hst0 : ∀ W : World, (storeCells ⟨W.heap.size, 0, none⟩ (frC zeroF) 0).run Tryz.prog (W.alloc (.cells (frA zeroF) 42)) = .ok () (W.alloc (.cells (frA zeroF) 42)) := fun W => storeCells_frame zeroF_is zeroF_is W
  clear hT
  go_enter Tryz.func4, Tryz.ntmps4
  go_wp2_with fail
  refine HN.out.mono ?_
  rintro e w1 ⟨c, rfl, h1⟩
  rw [jR_start] at h1
  have H1 := Lib.hid h1
  clear h1
  go_wp2_with fail
  go_loopw [11] (fun ci wr => RelA1 w c ci wr) (fun ci _ => 4 - (RowKit.intOf ci).toNat)
  case atStart => exact ⟨0, Nat.zero_le _, rfl, H1.out⟩
  case round =>
    obtain ⟨d, hd, rfl, hqs⟩ := hrel
    have HS1 := Lib.hid hqs
    clear hqs
    by_cases hlt : d < 4
    · have i1 : (d : Int) < 4 := by omega
      go_wp2_with fail
      go_loopw [12] (fun ci wr => RelA2 d w c ci wr) (fun ci _ => 3 - (RowKit.intOf ci).toNat)
      case atStart => exact ⟨0, Nat.zero_le _, rfl, HS1.out⟩
      case round =>
        obtain ⟨m, hm, rfl, hqs⟩ := hrel
        have HS2 := Lib.hid hqs
        clear hqs
        by_cases hlt2 : m < 3
        · have i2 : (m : Int) < 3 := by omega
          have HFR := Lib.hid (show Calls Tryz.prog 11 #[.int .i64 2, .int .i64 (d : Int), .int .i64 (m : Int), .int .i64 5, .int .i64 ((d : Int) * 3 + m)] wr (FrameK (jF d m) wr) from frame_any 2 d m 5 ((d : Int) * 3 + m) wr)
          go_wp2_with fail
          refine HFR.out.mono ?_
          rintro e w2 ⟨rfl, hb2⟩
          have H2 := Lib.hid (HS2.out.below hb2)
          have CP := Lib.hid (put_any (jF d m) w2 (jF_is d m))
          unfold MadeB at CP
          clear hb2
          go_wp2_with fail
          refine CP.out.mono ?_
          rintro e w3 ⟨v3, rfl, ho3, hb3⟩
          have H3 := Lib.hid (H2.out.below hb3)
          have HW := Lib.hid (show Calls Tryz.prog 13 #[.pointer (some ⟨c.r, 0, none⟩), .int .i64 (d : Int), .int .i64 (m : Int), v3] w3 (QN w c 4 (jR d (jA d (m + 1))) .nilIface w3) from by
            have := H3.out.write (d : Int) (m : Int) v3 (jL d m) (slb_own (l := jL d m) ho3)
            rwa [(jR_write hlt hlt2).1, (jR_write hlt hlt2).2, evs_zero] at this)
          clear ho3 hb3 CP HFR
          go_wp2_with fail
          refine HW.out.mono ?_
          rintro e w4 ⟨rfl, h4, _⟩
          have H4 := Lib.hid h4
          clear h4
          go_wp2_with fail
          go_roundw
          case rel => exact ⟨m + 1, by omega, by go_num, H4.out⟩
          case measure => simp [RowKit.intOf]; omega
        · obtain rfl : m = 3 := by omega
          have HF := Lib.hid (HS2.out.flush (d : Int))
          rw [(jR_flush hlt).1, (jR_flush hlt).2, evs_zero] at HF
          go_wp2_with fail
          refine HF.out.mono ?_
          rintro e w4 ⟨rfl, h4, _⟩
          have H4 := Lib.hid h4
          clear h4
          go_wp2_with fail
          go_roundw
          case rel => exact ⟨d + 1, by omega, by go_num, H4.out⟩
          case measure => simp [RowKit.intOf]; omega
    · obtain rfl : d = 4 := by omega
      go_wp2_with fail
      refine (within_int i 0 3 wr (by omega) (by omega) (by omega)).mono ?_
      rintro e w' ⟨aa, ⟨ha1, ha2⟩, rfl, rfl⟩
      obtain ⟨a, rfl⟩ := Int.eq_ofNat_of_zero_le ha1
      go_wp2_with fail
      refine (within_int s 0 2 wr (by omega) (by omega) (by omega)).mono ?_
      rintro e w' ⟨bb, ⟨hb1, hb2⟩, rfl, rfl⟩
      obtain ⟨b, rfl⟩ := Int.eq_ofNat_of_zero_le hb1
      have HAB := Lib.hid (show a < 4 ∧ b < 3 by omega)
      clear ha1 ha2 hb1 hb2
      have HD := Lib.hid (show Calls Tryz.prog 22 #[.pointer (some ⟨c.r, 0, none⟩), .int .i64 (a : Int)] wr (QN w c 4 (jQ a ((jE a).wipe true)) (.bool true) wr) from by
        have := HS1.out.die (a : Int)
        rwa [(jQ_dies HAB.out.1).1, (jQ_dies HAB.out.1).2] at this)
      have HST0 := Lib.hid (fun (d x : Nat) (hd : d < 4) (hx : x < 3) (h : d ≠ a) => jQ_stands (a := a) (d := d) (x := x) ((jE a).wipe true) hd hx h)
      have HUP := Lib.hid (show (jQ a ((jE a).wipe true)).up (a : Int) = false by rw [jQ_up _ HAB.out.1]; rfl)
      have HQN := Lib.hid (show (jQ a ((jE a).wipe true)).n = 4 from rfl)
      have HBAD := Lib.hid (fun (x : Nat) => jQ_dead (a := a) (x := x) HAB.out.1)
      generalize (jQ a ((jE a).wipe true)) = Q at *
      go_wp2_with fail
      refine HD.out.mono ?_
      rintro e w2 ⟨rfl, h2, _⟩
      have H2 := Lib.hid h2
      clear h2
      go_wp2_with fail
      go_loopw [15] (fun ci wr => RelA3 4 Q w c ci wr) (fun ci _ => 4 - (RowKit.intOf ci).toNat)
      case atStart => exact ⟨0, Nat.zero_le _, rfl, H2.out⟩
      case round =>
        obtain ⟨d, hd, rfl, hqs⟩ := hrel
        have HS3 := Lib.hid hqs
        clear hqs
        by_cases hlt : d < 4
        · have i1 : (d : Int) < 4 := by omega
          go_wp2_with fail
          go_loopw [16] (fun ci wr => RelA3 3 Q w c ci wr) (fun ci _ => 3 - (RowKit.intOf ci).toNat)
          case atStart => exact ⟨0, Nat.zero_le _, rfl, HS3.out⟩
          case round =>
            obtain ⟨x, hx, rfl, hqs⟩ := hrel
            have HS4 := Lib.hid hqs
            clear hqs
            by_cases hlt2 : x < 3
            · have i2 : (x : Int) < 3 := by omega
              by_cases hda : d = a
              · have e1 : ((d : Int) == (a : Int)) = true := by simp [hda]
                have HGN := Lib.hid (by have := HBAD.out x; rwa [← hda] at this)
                clear hda
                have HN1 := Lib.hid (HGN.out 3 d x)
                have HN2 := Lib.hid (HGN.out 2 ((d : Int) + 1) x)
                have HN3 := Lib.hid (HGN.out 2 d ((x : Int) + 1))
                have HG := Lib.hid (get_frame HS4.out (HGN.out 2 d x))
                go_wp2_with fail
                refine HG.out.mono ?_
                rintro e w5 ⟨rfl, hb5⟩
                have h5 := (HS4.out.below hb5).below (one_below w5 (.cells (frA zeroF) 42))
                clear hb5
                go_wp2_with fail
                generalize w5.alloc (.cells (frA zeroF) 42) = W5 at *
                go_quiet (fail)
                have H5 := Lib.hid (h5.drewN nq)
                clear h5
                have H6 := Lib.hid (H5.out)
                have HP := Lib.hid (get_frame H6.out HN1.out)
                go_wp2_with fail
                refine HP.out.mono ?_
                rintro e w7 ⟨rfl, hb7⟩
                have H7 := Lib.hid ((H6.out.below hb7).below (one_below w7 (.cells (frA zeroF) 42)))
                clear hb7
                go_wp2_with fail
                generalize w7.alloc (.cells (frA zeroF) 42) = W7 at *
                refine (get_frame H7.out HN2.out).mono ?_
                rintro e w8 ⟨rfl, hb8⟩
                have H8 := Lib.hid ((H7.out.below hb8).below (one_below w8 (.cells (frA zeroF) 42)))
                clear hb8
                go_wp2_with fail
                generalize w8.alloc (.cells (frA zeroF) 42) = W8 at *
                refine (get_frame H8.out HN3.out).mono ?_
                rintro e w9 ⟨rfl, hb9⟩
                have H9 := Lib.hid ((H8.out.below hb9).below (one_below w9 (.cells (frA zeroF) 42)))
                clear hb9
                go_wp2_with fail
                go_roundw
                case rel => exact ⟨x + 1, by omega, by go_num, H9.out⟩
                case measure => simp [RowKit.intOf]; omega
              · have e1 : ((d : Int) == (a : Int)) = false := by simp; omega
                have HST := Lib.hid (HST0.out d x hlt hlt2 hda)
                clear hda
                have HN0 := Lib.hid HST.out.yes
                have HN1 := Lib.hid (HST.out.no (asked_j3 d x))
                have HN2 := Lib.hid (HST.out.no (asked_jd d x))
                have HN3 := Lib.hid (HST.out.no (asked_jx d x))
                have HFI := Lib.hid (jF_is d x)
                have HFR := Lib.hid (fun w => show Calls Tryz.prog 11 #[.int .i64 2, .int .i64 (d : Int), .int .i64 (x : Int), .int .i64 5, .int .i64 (IntKind.i64.wrap (IntKind.i64.wrap ((d : Int) * 3) + x))] w (FrameK (jF d x) w) from by
                  rw [wrap_jx hlt hlt2]
                  exact frame_any 2 d x 5 ((d : Int) * 3 + x) w)
                have HG := Lib.hid (get_frame HS4.out HN0.out)
                clear HN0
                generalize jF d x = f at *
                have hcf : (Value.agg (frA f)).cells = frA f := rfl
                have hsf : (frC f).length = szFr := frC_length HFI.out
                have hstf : ∀ W : World, (storeCells ⟨W.heap.size, 0, none⟩ (frC f) 0).run Tryz.prog (W.alloc (.cells (frA zeroF) 42)) = .ok () (W.alloc (.cells (frA f) 42)) := fun W => storeCells_frame zeroF_is HFI.out W
                go_wp2_with fail
                refine HG.out.mono ?_
                rintro e w5 ⟨rfl, hb5⟩
                have h5 : RSt w c Q f w5.heap.size (w5.alloc (.cells (frA f) 42)) := ⟨(HS4.out.below hb5).below (one_below _ _), frIn_new w5 f HFI.out, by simp⟩
                clear hb5
                go_wp2_with fail
                clear hstf
                generalize w5.heap.size = bb at *
                generalize w5.alloc (.cells (frA f) 42) = W5 at *
                have hla : ∀ w', RSt w c Q f bb w' → (loadCellsFrom ⟨bb, 0, none⟩ 0 szFr #[]).run Tryz.prog w' = .ok (frA f) w' := fun w' h => h.fr.load
                have hgd := guard_frame
                have hne := neql_yes HFI.out HFI.out rfl
                go_region_held3 (fun w' => RSt w c Q f bb w') (repeat (first | assumption | refine RSt.drew ?_)) (first
                  | (go_at_call 11; (with_reducible refine (HFR.out _).mono ?_); rintro e w6 ⟨rfl, hb6⟩; have h6 := RSt.below ‹_› hb6))
                have H5 := Lib.hid h6.qs
                clear h5 h6 hla hne hgd
                have H6 := Lib.hid (H5.out)
                have HP := Lib.hid (get_frame H6.out HN1.out)
                go_wp2_with fail
                refine HP.out.mono ?_
                rintro e w7 ⟨rfl, hb7⟩
                have H7 := Lib.hid ((H6.out.below hb7).below (one_below w7 (.cells (frA zeroF) 42)))
                clear hb7
                go_wp2_with fail
                generalize w7.alloc (.cells (frA zeroF) 42) = W7 at *
                refine (get_frame H7.out HN2.out).mono ?_
                rintro e w8 ⟨rfl, hb8⟩
                have H8 := Lib.hid ((H7.out.below hb8).below (one_below w8 (.cells (frA zeroF) 42)))
                clear hb8
                go_wp2_with fail
                generalize w8.alloc (.cells (frA zeroF) 42) = W8 at *
                refine (get_frame H8.out HN3.out).mono ?_
                rintro e w9 ⟨rfl, hb9⟩
                have H9 := Lib.hid ((H8.out.below hb9).below (one_below w9 (.cells (frA zeroF) 42)))
                clear hb9
                go_wp2_with fail
                go_roundw
                case rel => exact ⟨x + 1, by omega, by go_num, H9.out⟩
                case measure => simp [RowKit.intOf]; omega
            · obtain rfl : x = 3 := by omega
              go_wp2_with fail
              go_roundw
              case rel => exact ⟨d + 1, by omega, by go_num, HS4.out⟩
              case measure => simp [RowKit.intOf]; omega
        · obtain rfl : d = 4 := by omega
          have HU := Lib.hid (qup_any wr HS3.out.rack (a : Int))
          rw [HUP.out] at HU
          have hno : ∀ j : Int, ¬ (0 ≤ j ∧ j < 4) → ¬ Q.has j := fun j h e => h ⟨e.1, by have := e.2; rw [HQN.out] at this; exact this⟩
          have HDI := Lib.hid (show Calls Tryz.prog 22 #[.pointer (some ⟨c.r, 0, none⟩), .int .i64 4] wr (QN w c Q.n Q (.bool false) wr) from by
            have := HS3.out.die 4
            unfold Rk.dying at this
            rwa [if_neg (hno 4 (by omega)), decide_eq_false (hno 4 (by omega))] at this)
          have HRE := Lib.hid (fun W (h : QS w c Q W) => show Calls Tryz.prog 24 #[.pointer (some ⟨c.r, 0, none⟩), .int .i64 (-1)] W (QN w c Q.n Q (.bool false) W) from by
            have := h.replace (-1)
            unfold Rk.dying at this
            rwa [if_neg (hno (-1) (by omega)), decide_eq_false (hno (-1) (by omega))] at this)
          have HRO := Lib.hid (fun W (h : QS w c Q W) => show Calls Tryz.prog 26 #[.pointer (some ⟨c.r, 0, none⟩), .int .i64 9, .int .i64 0, .int .i64 0, .int .u32 1] W (QN w c Q.n Q (.bool false) W) from by
            have := h.rot 9 0 0 1
            unfold Rk.rotten Rk.rots at this
            rwa [if_neg (hno 9 (by omega)), decide_eq_false (hno 9 (by omega)), Bool.false_and] at this)
          clear hno
          go_wp2_with fail
          refine HU.out.mono ?_
          rintro e w' ⟨rfl, rfl⟩
          go_wp2_with fail
          refine HDI.out.mono ?_
          rintro e w20 ⟨rfl, h20, _⟩
          have H20 := Lib.hid h20
          clear h20
          go_wp2_with fail
          refine (HRE.out w20 H20.out).mono ?_
          rintro e w21 ⟨rfl, h21, _⟩
          have H21 := Lib.hid h21
          clear h21
          go_wp2_with fail
          refine (HRO.out w21 H21.out).mono ?_
          rintro e w22 ⟨rfl, h22, _⟩
          have H22 := Lib.hid h22
          clear h22
          go_wp2_with fail
          refine (rack_runs w22 (HT.out.below H22.out.base)).mono ?_
          rintro e w23 ⟨rfl, hb23⟩
          go_wp2_with fail
          go_ret
          exact bit rfl (H22.out.below hb23).base
set_option maxHeartbeats 16000000 in
set_option maxRecDepth 100000 in
theorem apart_rot (i s k : Int) (w : World) (hT : Typ w) : Calls Tryz.prog 4 #[.int .i64 i, .int .i64 s, .int .i64 k, .bool false] w (Bit true w) := by
  have HT := Lib.hid hT
  have HN := Lib.hid (show Calls Tryz.prog 6 #[.int .i64 4, .int .i64 3] w (QNew w 4 3) from qs_new 4 3 w (by omega) (by omega) (by omega) (by omega))
  have hz := szFr_run
  have hz0 := zero_frame
  have hc0 : (Value.agg (frA zeroF)).cells = frA zeroF := rfl
  have hsz : (frC zeroF).length = szFr := frC_length zeroF_is
  have hst0 : ∀ W : World, (storeCells ⟨W.heap.size, 0, none⟩ (frC zeroF) 0).run Tryz.prog (W.alloc (.cells (frA zeroF) 42)) = .ok () (W.alloc (.cells (frA zeroF) 42)) := fun W => storeCells_frame zeroF_is zeroF_is W
  clear hT
  go_enter Tryz.func4, Tryz.ntmps4
  go_wp2_with fail
  refine HN.out.mono ?_
  rintro e w1 ⟨c, rfl, h1⟩
  rw [jR_start] at h1
  have H1 := Lib.hid h1
  clear h1
  go_wp2_with fail
  go_loopw [11] (fun ci wr => RelA1 w c ci wr) (fun ci _ => 4 - (RowKit.intOf ci).toNat)
  case atStart => exact ⟨0, Nat.zero_le _, rfl, H1.out⟩
  case round =>
    obtain ⟨d, hd, rfl, hqs⟩ := hrel
    have HS1 := Lib.hid hqs
    clear hqs
    by_cases hlt : d < 4
    · have i1 : (d : Int) < 4 := by omega
      go_wp2_with fail
      go_loopw [12] (fun ci wr => RelA2 d w c ci wr) (fun ci _ => 3 - (RowKit.intOf ci).toNat)
      case atStart => exact ⟨0, Nat.zero_le _, rfl, HS1.out⟩
      case round =>
        obtain ⟨m, hm, rfl, hqs⟩ := hrel
        have HS2 := Lib.hid hqs
        clear hqs
        by_cases hlt2 : m < 3
        · have i2 : (m : Int) < 3 := by omega
          have HFR := Lib.hid (show Calls Tryz.prog 11 #[.int .i64 2, .int .i64 (d : Int), .int .i64 (m : Int), .int .i64 5, .int .i64 ((d : Int) * 3 + m)] wr (FrameK (jF d m) wr) from frame_any 2 d m 5 ((d : Int) * 3 + m) wr)
          go_wp2_with fail
          refine HFR.out.mono ?_
          rintro e w2 ⟨rfl, hb2⟩
          have H2 := Lib.hid (HS2.out.below hb2)
          have CP := Lib.hid (put_any (jF d m) w2 (jF_is d m))
          unfold MadeB at CP
          clear hb2
          go_wp2_with fail
          refine CP.out.mono ?_
          rintro e w3 ⟨v3, rfl, ho3, hb3⟩
          have H3 := Lib.hid (H2.out.below hb3)
          have HW := Lib.hid (show Calls Tryz.prog 13 #[.pointer (some ⟨c.r, 0, none⟩), .int .i64 (d : Int), .int .i64 (m : Int), v3] w3 (QN w c 4 (jR d (jA d (m + 1))) .nilIface w3) from by
            have := H3.out.write (d : Int) (m : Int) v3 (jL d m) (slb_own (l := jL d m) ho3)
            rwa [(jR_write hlt hlt2).1, (jR_write hlt hlt2).2, evs_zero] at this)
          clear ho3 hb3 CP HFR
          go_wp2_with fail
          refine HW.out.mono ?_
          rintro e w4 ⟨rfl, h4, _⟩
          have H4 := Lib.hid h4
          clear h4
          go_wp2_with fail
          go_roundw
          case rel => exact ⟨m + 1, by omega, by go_num, H4.out⟩
          case measure => simp [RowKit.intOf]; omega
        · obtain rfl : m = 3 := by omega
          have HF := Lib.hid (HS2.out.flush (d : Int))
          rw [(jR_flush hlt).1, (jR_flush hlt).2, evs_zero] at HF
          go_wp2_with fail
          refine HF.out.mono ?_
          rintro e w4 ⟨rfl, h4, _⟩
          have H4 := Lib.hid h4
          clear h4
          go_wp2_with fail
          go_roundw
          case rel => exact ⟨d + 1, by omega, by go_num, H4.out⟩
          case measure => simp [RowKit.intOf]; omega
    · obtain rfl : d = 4 := by omega
      go_wp2_with fail
      refine (within_int i 0 3 wr (by omega) (by omega) (by omega)).mono ?_
      rintro e w' ⟨aa, ⟨ha1, ha2⟩, rfl, rfl⟩
      obtain ⟨a, rfl⟩ := Int.eq_ofNat_of_zero_le ha1
      go_wp2_with fail
      refine (within_int s 0 2 wr (by omega) (by omega) (by omega)).mono ?_
      rintro e w' ⟨bb, ⟨hb1, hb2⟩, rfl, rfl⟩
      obtain ⟨b, rfl⟩ := Int.eq_ofNat_of_zero_le hb1
      have HAB := Lib.hid (show a < 4 ∧ b < 3 by omega)
      clear ha1 ha2 hb1 hb2
      go_wp2_with fail
      refine (within_int k 0 100 wr (by omega) (by omega) (by omega)).mono ?_
      rintro e w' ⟨pp, ⟨hp1, hp2⟩, rfl, rfl⟩
      obtain ⟨p, rfl⟩ := Int.eq_ofNat_of_zero_le hp1
      have HPP := Lib.hid (show p ≤ 124 by omega)
      clear hp1 hp2
      have HD := Lib.hid (show Calls Tryz.prog 26 #[.pointer (some ⟨c.r, 0, none⟩), .int .i64 (a : Int), .int .i64 (b : Int), .int .i64 (p : Int), .int .u32 1] wr (QN w c 4 (jQ a (rotD (jE a) b p 1)) (.bool true) wr) from by
        have := HS1.out.rot (a : Int) (b : Int) (p : Int) 1
        rwa [(jQ_rots HAB.out.1 HAB.out.2 HPP.out).1, (jQ_rots HAB.out.1 HAB.out.2 HPP.out).2] at this)
      have HST0 := Lib.hid (fun (d x : Nat) (hd : d < 4) (hx : x < 3) (h : d ≠ a) => jQ_stands (a := a) (d := d) (x := x) (rotD (jE a) b p 1) hd hx h)
      have HUP := Lib.hid (show (jQ a (rotD (jE a) b p 1)).up (a : Int) = true by rw [jQ_up _ HAB.out.1]; rw [rotD_dead, jE_dead]; rfl)
      have HQN := Lib.hid (show (jQ a (rotD (jE a) b p 1)).n = 4 from rfl)
      have HBAD := Lib.hid (jQ_rot (a := a) (b := b) (p := p) HAB.out.1 HAB.out.2 HPP.out)
      have HOFF := Lib.hid (fun (x : Nat) (hx : x < 3) (h : x ≠ b) => jQ_rot_off (a := a) (b := b) (p := p) (x := x) HAB.out.1 hx h)
      generalize (jQ a (rotD (jE a) b p 1)) = Q at *
      go_wp2_with fail
      refine HD.out.mono ?_
      rintro e w2 ⟨rfl, h2, _⟩
      have H2 := Lib.hid h2
      clear h2
      go_wp2_with fail
      go_loopw [15] (fun ci wr => RelA3 4 Q w c ci wr) (fun ci _ => 4 - (RowKit.intOf ci).toNat)
      case atStart => exact ⟨0, Nat.zero_le _, rfl, H2.out⟩
      case round =>
        obtain ⟨d, hd, rfl, hqs⟩ := hrel
        have HS3 := Lib.hid hqs
        clear hqs
        by_cases hlt : d < 4
        · have i1 : (d : Int) < 4 := by omega
          go_wp2_with fail
          go_loopw [16] (fun ci wr => RelA3 3 Q w c ci wr) (fun ci _ => 3 - (RowKit.intOf ci).toNat)
          case atStart => exact ⟨0, Nat.zero_le _, rfl, HS3.out⟩
          case round =>
            obtain ⟨x, hx, rfl, hqs⟩ := hrel
            have HS4 := Lib.hid hqs
            clear hqs
            by_cases hlt2 : x < 3
            · have i2 : (x : Int) < 3 := by omega
              by_cases hda : d = a
              · have e1 : ((d : Int) == (a : Int)) = true := by simp [hda]
                by_cases hxb : x = b
                · have e2 : ((x : Int) == (b : Int)) = true := by simp [hxb]
                  have HGN := Lib.hid (by have := HBAD.out; rwa [← hda, ← hxb] at this)
                  clear hda hxb
                  have HN1 := Lib.hid (HGN.out 3 d x)
                  have HN2 := Lib.hid (HGN.out 2 ((d : Int) + 1) x)
                  have HN3 := Lib.hid (HGN.out 2 d ((x : Int) + 1))
                  have HG := Lib.hid (get_frame HS4.out (HGN.out 2 d x))
                  go_wp2_with fail
                  refine HG.out.mono ?_
                  rintro e w5 ⟨rfl, hb5⟩
                  have h5 := (HS4.out.below hb5).below (one_below w5 (.cells (frA zeroF) 42))
                  clear hb5
                  go_wp2_with fail
                  generalize w5.alloc (.cells (frA zeroF) 42) = W5 at *
                  go_quiet (fail)
                  have H5 := Lib.hid (h5.drewN nq)
                  clear h5
                  have H6 := Lib.hid (H5.out)
                  have HP := Lib.hid (get_frame H6.out HN1.out)
                  go_wp2_with fail
                  refine HP.out.mono ?_
                  rintro e w7 ⟨rfl, hb7⟩
                  have H7 := Lib.hid ((H6.out.below hb7).below (one_below w7 (.cells (frA zeroF) 42)))
                  clear hb7
                  go_wp2_with fail
                  generalize w7.alloc (.cells (frA zeroF) 42) = W7 at *
                  refine (get_frame H7.out HN2.out).mono ?_
                  rintro e w8 ⟨rfl, hb8⟩
                  have H8 := Lib.hid ((H7.out.below hb8).below (one_below w8 (.cells (frA zeroF) 42)))
                  clear hb8
                  go_wp2_with fail
                  generalize w8.alloc (.cells (frA zeroF) 42) = W8 at *
                  refine (get_frame H8.out HN3.out).mono ?_
                  rintro e w9 ⟨rfl, hb9⟩
                  have H9 := Lib.hid ((H8.out.below hb9).below (one_below w9 (.cells (frA zeroF) 42)))
                  clear hb9
                  go_wp2_with fail
                  go_roundw
                  case rel => exact ⟨x + 1, by omega, by go_num, H9.out⟩
                  case measure => simp [RowKit.intOf]; omega
                · have e2 : ((x : Int) == (b : Int)) = false := by simp; omega
                  have HST := Lib.hid (by have := HOFF.out x hlt2 hxb; rwa [← hda] at this)
                  clear hda hxb
                  have HN0 := Lib.hid HST.out.yes
                  have HN1 := Lib.hid (HST.out.no (asked_j3 d x))
                  have HN2 := Lib.hid (HST.out.no (asked_jd d x))
                  have HN3 := Lib.hid (HST.out.no (asked_jx d x))
                  have HFI := Lib.hid (jF_is d x)
                  have HFR := Lib.hid (fun w => show Calls Tryz.prog 11 #[.int .i64 2, .int .i64 (d : Int), .int .i64 (x : Int), .int .i64 5, .int .i64 (IntKind.i64.wrap (IntKind.i64.wrap ((d : Int) * 3) + x))] w (FrameK (jF d x) w) from by
                    rw [wrap_jx hlt hlt2]
                    exact frame_any 2 d x 5 ((d : Int) * 3 + x) w)
                  have HG := Lib.hid (get_frame HS4.out HN0.out)
                  clear HN0
                  generalize jF d x = f at *
                  have hcf : (Value.agg (frA f)).cells = frA f := rfl
                  have hsf : (frC f).length = szFr := frC_length HFI.out
                  have hstf : ∀ W : World, (storeCells ⟨W.heap.size, 0, none⟩ (frC f) 0).run Tryz.prog (W.alloc (.cells (frA zeroF) 42)) = .ok () (W.alloc (.cells (frA f) 42)) := fun W => storeCells_frame zeroF_is HFI.out W
                  go_wp2_with fail
                  refine HG.out.mono ?_
                  rintro e w5 ⟨rfl, hb5⟩
                  have h5 : RSt w c Q f w5.heap.size (w5.alloc (.cells (frA f) 42)) := ⟨(HS4.out.below hb5).below (one_below _ _), frIn_new w5 f HFI.out, by simp⟩
                  clear hb5
                  go_wp2_with fail
                  clear hstf
                  generalize w5.heap.size = bb at *
                  generalize w5.alloc (.cells (frA f) 42) = W5 at *
                  have hla : ∀ w', RSt w c Q f bb w' → (loadCellsFrom ⟨bb, 0, none⟩ 0 szFr #[]).run Tryz.prog w' = .ok (frA f) w' := fun w' h => h.fr.load
                  have hgd := guard_frame
                  have hne := neql_yes HFI.out HFI.out rfl
                  go_region_held3 (fun w' => RSt w c Q f bb w') (repeat (first | assumption | refine RSt.drew ?_)) (first
                    | (go_at_call 11; (with_reducible refine (HFR.out _).mono ?_); rintro e w6 ⟨rfl, hb6⟩; have h6 := RSt.below ‹_› hb6))
                  have H5 := Lib.hid h6.qs
                  clear h5 h6 hla hne hgd
                  have H6 := Lib.hid (H5.out)
                  have HP := Lib.hid (get_frame H6.out HN1.out)
                  go_wp2_with fail
                  refine HP.out.mono ?_
                  rintro e w7 ⟨rfl, hb7⟩
                  have H7 := Lib.hid ((H6.out.below hb7).below (one_below w7 (.cells (frA zeroF) 42)))
                  clear hb7
                  go_wp2_with fail
                  generalize w7.alloc (.cells (frA zeroF) 42) = W7 at *
                  refine (get_frame H7.out HN2.out).mono ?_
                  rintro e w8 ⟨rfl, hb8⟩
                  have H8 := Lib.hid ((H7.out.below hb8).below (one_below w8 (.cells (frA zeroF) 42)))
                  clear hb8
                  go_wp2_with fail
                  generalize w8.alloc (.cells (frA zeroF) 42) = W8 at *
                  refine (get_frame H8.out HN3.out).mono ?_
                  rintro e w9 ⟨rfl, hb9⟩
                  have H9 := Lib.hid ((H8.out.below hb9).below (one_below w9 (.cells (frA zeroF) 42)))
                  clear hb9
                  go_wp2_with fail
                  go_roundw
                  case rel => exact ⟨x + 1, by omega, by go_num, H9.out⟩
                  case measure => simp [RowKit.intOf]; omega
              · have e1 : ((d : Int) == (a : Int)) = false := by simp; omega
                have HST := Lib.hid (HST0.out d x hlt hlt2 hda)
                clear hda
                have HN0 := Lib.hid HST.out.yes
                have HN1 := Lib.hid (HST.out.no (asked_j3 d x))
                have HN2 := Lib.hid (HST.out.no (asked_jd d x))
                have HN3 := Lib.hid (HST.out.no (asked_jx d x))
                have HFI := Lib.hid (jF_is d x)
                have HFR := Lib.hid (fun w => show Calls Tryz.prog 11 #[.int .i64 2, .int .i64 (d : Int), .int .i64 (x : Int), .int .i64 5, .int .i64 (IntKind.i64.wrap (IntKind.i64.wrap ((d : Int) * 3) + x))] w (FrameK (jF d x) w) from by
                  rw [wrap_jx hlt hlt2]
                  exact frame_any 2 d x 5 ((d : Int) * 3 + x) w)
                have HG := Lib.hid (get_frame HS4.out HN0.out)
                clear HN0
                generalize jF d x = f at *
                have hcf : (Value.agg (frA f)).cells = frA f := rfl
                have hsf : (frC f).length = szFr := frC_length HFI.out
                have hstf : ∀ W : World, (storeCells ⟨W.heap.size, 0, none⟩ (frC f) 0).run Tryz.prog (W.alloc (.cells (frA zeroF) 42)) = .ok () (W.alloc (.cells (frA f) 42)) := fun W => storeCells_frame zeroF_is HFI.out W
                go_wp2_with fail
                refine HG.out.mono ?_
                rintro e w5 ⟨rfl, hb5⟩
                have h5 : RSt w c Q f w5.heap.size (w5.alloc (.cells (frA f) 42)) := ⟨(HS4.out.below hb5).below (one_below _ _), frIn_new w5 f HFI.out, by simp⟩
                clear hb5
                go_wp2_with fail
                clear hstf
                generalize w5.heap.size = bb at *
                generalize w5.alloc (.cells (frA f) 42) = W5 at *
                have hla : ∀ w', RSt w c Q f bb w' → (loadCellsFrom ⟨bb, 0, none⟩ 0 szFr #[]).run Tryz.prog w' = .ok (frA f) w' := fun w' h => h.fr.load
                have hgd := guard_frame
                have hne := neql_yes HFI.out HFI.out rfl
                go_region_held3 (fun w' => RSt w c Q f bb w') (repeat (first | assumption | refine RSt.drew ?_)) (first
                  | (go_at_call 11; (with_reducible refine (HFR.out _).mono ?_); rintro e w6 ⟨rfl, hb6⟩; have h6 := RSt.below ‹_› hb6))
                have H5 := Lib.hid h6.qs
                clear h5 h6 hla hne hgd
                have H6 := Lib.hid (H5.out)
                have HP := Lib.hid (get_frame H6.out HN1.out)
                go_wp2_with fail
                refine HP.out.mono ?_
                rintro e w7 ⟨rfl, hb7⟩
                have H7 := Lib.hid ((H6.out.below hb7).below (one_below w7 (.cells (frA zeroF) 42)))
                clear hb7
                go_wp2_with fail
                generalize w7.alloc (.cells (frA zeroF) 42) = W7 at *
                refine (get_frame H7.out HN2.out).mono ?_
                rintro e w8 ⟨rfl, hb8⟩
                have H8 := Lib.hid ((H7.out.below hb8).below (one_below w8 (.cells (frA zeroF) 42)))
                clear hb8
                go_wp2_with fail
                generalize w8.alloc (.cells (frA zeroF) 42) = W8 at *
                refine (get_frame H8.out HN3.out).mono ?_
                rintro e w9 ⟨rfl, hb9⟩
                have H9 := Lib.hid ((H8.out.below hb9).below (one_below w9 (.cells (frA zeroF) 42)))
                clear hb9
                go_wp2_with fail
                go_roundw
                case rel => exact ⟨x + 1, by omega, by go_num, H9.out⟩
                case measure => simp [RowKit.intOf]; omega
            · obtain rfl : x = 3 := by omega
              go_wp2_with fail
              go_roundw
              case rel => exact ⟨d + 1, by omega, by go_num, HS4.out⟩
              case measure => simp [RowKit.intOf]; omega
        · obtain rfl : d = 4 := by omega
          have HU := Lib.hid (qup_any wr HS3.out.rack (a : Int))
          rw [HUP.out] at HU
          have hno : ∀ j : Int, ¬ (0 ≤ j ∧ j < 4) → ¬ Q.has j := fun j h e => h ⟨e.1, by have := e.2; rw [HQN.out] at this; exact this⟩
          have HDI := Lib.hid (show Calls Tryz.prog 22 #[.pointer (some ⟨c.r, 0, none⟩), .int .i64 4] wr (QN w c Q.n Q (.bool false) wr) from by
            have := HS3.out.die 4
            unfold Rk.dying at this
            rwa [if_neg (hno 4 (by omega)), decide_eq_false (hno 4 (by omega))] at this)
          have HRE := Lib.hid (fun W (h : QS w c Q W) => show Calls Tryz.prog 24 #[.pointer (some ⟨c.r, 0, none⟩), .int .i64 (-1)] W (QN w c Q.n Q (.bool false) W) from by
            have := h.replace (-1)
            unfold Rk.dying at this
            rwa [if_neg (hno (-1) (by omega)), decide_eq_false (hno (-1) (by omega))] at this)
          have HRO := Lib.hid (fun W (h : QS w c Q W) => show Calls Tryz.prog 26 #[.pointer (some ⟨c.r, 0, none⟩), .int .i64 9, .int .i64 0, .int .i64 0, .int .u32 1] W (QN w c Q.n Q (.bool false) W) from by
            have := h.rot 9 0 0 1
            unfold Rk.rotten Rk.rots at this
            rwa [if_neg (hno 9 (by omega)), decide_eq_false (hno 9 (by omega)), Bool.false_and] at this)
          clear hno
          go_wp2_with fail
          refine HU.out.mono ?_
          rintro e w' ⟨rfl, rfl⟩
          go_wp2_with fail
          refine HDI.out.mono ?_
          rintro e w20 ⟨rfl, h20, _⟩
          have H20 := Lib.hid h20
          clear h20
          go_wp2_with fail
          refine (HRE.out w20 H20.out).mono ?_
          rintro e w21 ⟨rfl, h21, _⟩
          have H21 := Lib.hid h21
          clear h21
          go_wp2_with fail
          refine (HRO.out w21 H21.out).mono ?_
          rintro e w22 ⟨rfl, h22, _⟩
          have H22 := Lib.hid h22
          clear h22
          go_wp2_with fail
          refine (rack_runs w22 (HT.out.below H22.out.base)).mono ?_
          rintro e w23 ⟨rfl, hb23⟩
          go_wp2_with fail
          go_ret
          exact bit rfl (H22.out.below hb23).base
theorem apart_any (i s k : Int) (b : Bool) (w : World) (hT : Typ w) : Calls Tryz.prog 4 #[.int .i64 i, .int .i64 s, .int .i64 k, .bool b] w (Bit true w) := by
  cases b
  · exact apart_rot i s k w hT
  · exact apart_gone i s k w hT
end Go.Proofs.YtbokangpcjeofaaGreatDoor
