/-
  stavelaw8.RackRuns: the chapter's runs.
-/
import Derived.Test.YtbokangpcjeofaaGreatDoorQS
import Derived.Test.YtbokangpcjeofaaGreatDoorQSec
import Derived.Test.YtbokangpcjeofaaGreatDoorQBlock
import Derived.Test.YtbokangpcjeofaaGreatDoorHFrEq

import Derived.Deep.RegionHeld3
namespace Go.Proofs.YtbokangpcjeofaaGreatDoor
open Go.RowKit Go.Deep Dk Qk Go.Maps Hf
def rq1 : Rk := (newRk 2 3).arm 2
def rq2 (l : Sec) : Rk := ⟨2, 3, upd (fun _ => new 3) 0 ((new 3).write 1 l), false, 1⟩
def rq3 (l m : Sec) : Rk := ⟨2, 3, upd (upd (fun _ => new 3) 0 ((new 3).write 1 l)) 1 ((new 3).write 1 m), false, 0⟩
def rq4 (l m : Sec) : Rk := ⟨2, 3, upd (upd (fun _ => new 3) 0 ((new 3).write 1 l)) 1 ((new 3).write 1 m), true, 0⟩
theorem rq2_eq {l : Sec} (h : l.length = 128) : rq1.write 0 1 l = rq2 l ∧ rq1.wcode 0 1 l.length = 0 := by
  obtain ⟨e1, e2⟩ := write_goes (q := rq1) (i := 0) (sec := 1) (l := l) rfl ⟨by decide, by decide, h⟩ (by decide)
  exact ⟨e1.trans rfl, e2⟩
theorem rq3_eq {l m : Sec} (h : m.length = 128) : (rq2 l).write 1 1 m = rq3 l m ∧ (rq2 l).wcode 1 1 m.length = 0 := by
  obtain ⟨e1, e2⟩ := write_goes (q := rq2 l) (i := 1) (sec := 1) (l := m) rfl ⟨by decide, (show (1 : Int) < 3 by decide), h⟩ (show ¬ (1 : Int) = 0 by decide)
  exact ⟨e1.trans rfl, e2⟩
theorem rq4_eq (l m : Sec) : (rq3 l m).flush 0 = rq4 l m ∧ (rq3 l m).fcode 0 = 5 := by
  obtain ⟨e1, e2⟩ := flush_last (q := rq3 l m) (i := 0) rfl rfl
  exact ⟨e1.trans rfl, e2⟩
def rq5 (l m : Sec) : Rk := (rq4 l m).boot fun i => [1].getD i 0
theorem qval_at {q : Rk} {i k : Nat} (h1 : i < q.n) (h2 : q.off = false) (h3 : (q.s i).dead = false) (h4 : k < (q.s i).n) : qval q (i : Int) (k : Int) = (q.s i).read k ∧ qrcode q (i : Int) (k : Int) = 0 := by
  have hh : q.has (i : Int) := ⟨by omega, by omega⟩
  have hn : inN (q.s i) (k : Int) := ⟨by omega, by omega⟩
  constructor
  · unfold qval
    rw [if_pos ⟨hh, h2⟩]
    unfold rval
    rw [Int.toNat_natCast, Int.toNat_natCast, if_pos ⟨h3, hn⟩]
  · unfold qrcode
    rw [if_pos hh, h2, if_neg (show ¬ false = true by decide)]
    unfold rcode
    rw [Int.toNat_natCast, h3, if_neg (show ¬ false = true by decide), if_pos hn]
theorem ks_one (l : Sec) : ((new 3).write 1 l).ks = [1] := rfl
theorem crash_one (l : Sec) : (((new 3).write 1 l).crash 1).read 1 = l := by
  show (((new 3).write 1 l).crash 1).st 1 = l
  rw [St.crash_st, ks_one, if_pos (by decide)]
  rfl
theorem rq5_0 (l m : Sec) : qval (rq5 l m) 0 1 = l ∧ qrcode (rq5 l m) 0 1 = 0 := by
  have h := qval_at (q := rq5 l m) (i := 0) (k := 1) (show 0 < 2 by decide) rfl (St.stores_dead _ _) (by rw [show ((rq5 l m).s 0).n = 3 from St.stores_n _ _]; decide)
  exact ⟨h.1.trans (crash_one l), h.2⟩
theorem rq5_1 (l m : Sec) : qval (rq5 l m) 1 1 = zer ∧ qrcode (rq5 l m) 1 1 = 0 := by
  have h := qval_at (q := rq5 l m) (i := 1) (k := 1) (show 1 < 2 by decide) rfl (St.stores_dead _ _) (by rw [show ((rq5 l m).s 1).n = 3 from St.stores_n _ _]; decide)
  exact ⟨h.1.trans (St.crash_none (s := (new 3).write 1 m) 1), h.2⟩
def rF : Fr := frK 3 0 1 2 3
theorem rF_right : rightB rF = true := by decide
theorem rq5_get (m : Sec) : qgot (rq5 (put rF) m) 0 1 3 0 1 = rF ∧ qfound (rq5 (put rF) m) 0 1 3 0 1 = true := by
  obtain ⟨e1, e2⟩ := rq5_0 (put rF) m
  obtain ⟨g1, g2⟩ := got_put (frK_is 3 0 1 2 3) rF_right
  have hf : qfound (rq5 (put rF) m) 0 1 3 0 1 = true := by
    unfold qfound
    rw [e1, e2, show goodB (put rF) = true from g1, show got (put rF) = rF from g2]
    rfl
  unfold qgot
  rw [hf, if_pos rfl, e1]
  exact ⟨g2, rfl⟩
theorem rq5_none (l m : Sec) : qfound (rq5 l m) 1 1 3 0 (-1) = false ∧ qgot (rq5 l m) 1 1 3 0 (-1) = zeroF := by
  obtain ⟨e1, e2⟩ := rq5_1 l m
  have hf : qfound (rq5 l m) 1 1 3 0 (-1) = false := by
    unfold qfound
    rw [e1, e2, show goodB zer = false from good_zeros, Bool.false_and, Bool.and_false]
  unfold qgot
  rw [hf]
  exact ⟨rfl, rfl⟩
/-- A rack, and a frame in a block of its own. -/
structure RSt (w0 : World) (c : Lc) (q : Rk) (f : Fr) (b : Nat) (w : World) : Prop where
  qs : QS w0 c q w
  fr : FrIn f b w
  lt : b < w.heap.size
theorem RSt.drew {w0 w : World} {c : Lc} {q : Rk} {f : Fr} {b : Nat} (h : RSt w0 c q f b w) : RSt w0 c q f b w.drew := ⟨h.qs.drew, h.fr, h.lt⟩
theorem RSt.below {w0 w w' : World} {c : Lc} {q : Rk} {f : Fr} {b : Nat} (h : RSt w0 c q f b w) (hb : Below w.heap.size w w') : RSt w0 c q f b w' := ⟨h.qs.below hb, h.fr.below h.lt hb, Nat.lt_of_lt_of_le h.lt hb.size⟩
theorem slu_one (w : World) : SlU (w.alloc (.cells #[.int .u64 1] 106)).heap.size (w.alloc (.cells #[.int .u64 1] 106)) (.slice (some ⟨w.heap.size, 0, none⟩) 1 1) [1] :=
  Or.inr ⟨w.heap.size, 0, 1, rfl, by simp, by decide, fun x hx => by
    obtain rfl : x = 0 := by simp at hx; omega
    exact new_cells w _ _ 0 _ rfl⟩
set_option maxHeartbeats 4000000 in
set_option maxRecDepth 100000 in
theorem rack_runs (w : World) (hT : Typ w) : Calls Tryz.prog 39 #[] w (Bit true w) := by
  have HT := Lib.hid hT
  have HN := Lib.hid (show Calls Tryz.prog 6 #[.int .i64 2, .int .i64 3] w (QNew w 2 3) from qs_new 2 3 w (by omega) (by omega) (by omega) (by omega))
  have hz := szFr_run
  have hz0 := zero_frame
  have hc0 : (Value.agg (frA zeroF)).cells = frA zeroF := rfl
  have hcf : (Value.agg (frA rF)).cells = frA rF := rfl
  have hsz : (frC zeroF).length = szFr := frC_length zeroF_is
  have hsf : (frC rF).length = szFr := frC_length (frK_is 3 0 1 2 3)
  have hst0 : ∀ W : World, (storeCells ⟨W.heap.size, 0, none⟩ (frC zeroF) 0).run Tryz.prog (W.alloc (.cells (frA zeroF) 42)) = .ok () (W.alloc (.cells (frA zeroF) 42)) := fun W => storeCells_frame zeroF_is zeroF_is W
  have hstf : ∀ W : World, (storeCells ⟨W.heap.size, 0, none⟩ (frC rF) 0).run Tryz.prog (W.alloc (.cells (frA zeroF) 42)) = .ok () (W.alloc (.cells (frA rF) 42)) := fun W => storeCells_frame zeroF_is (frK_is 3 0 1 2 3) W
  have HFI := Lib.hid (frK_is 3 0 1 2 3)
  clear hT
  go_enter Tryz.func39, Tryz.ntmps39
  go_wp2_with fail
  refine HN.out.mono ?_
  rintro e w1 ⟨c, rfl, h1⟩
  have H1 := Lib.hid h1
  clear h1
  have CF := Lib.hid (fun w => show Calls Tryz.prog 11 #[.int .i64 3, .int .i64 0, .int .i64 1, .int .i64 2, .int .i64 3] w (FrameK rF w) from frame_any 3 0 1 2 3 w)
  go_wp2_with fail
  refine (CF.out w1).mono ?_
  rintro e w2 ⟨rfl, hb2⟩
  have H2 := Lib.hid (H1.out.below hb2)
  clear hb2
  go_wp2_with fail
  refine (put_any rF w2 HFI.out).mono ?_
  rintro e w3 ⟨v3, rfl, ho3, hb3⟩
  have H3 := Lib.hid (H2.out.below hb3)
  have HL := Lib.hid (show (put rF).length = 128 from put_len HFI.out rF_right)
  have HV3 := Lib.hid (show RowN w2.heap.size w3 v3 (put rF) from rowN_own ho3)
  have HFAR := Lib.hid (show Far w2.heap.size c 2 from H2.out.rack.far)
  clear hb3 ho3
  have HGET := Lib.hid (rq5_get (secL 9))
  have HNONE := Lib.hid (rq5_none (put rF) (secL 9))
  generalize put rF = L at *
  go_wp2_with fail
  refine (H3.out.arm 2 (by omega) (by omega)).mono ?_
  rintro e w4 ⟨rfl, h4, hc4⟩
  have H4 := Lib.hid (show QS w c rq1 w4 from h4)
  have HV4 := Lib.hid (HV3.out.rc HFAR.out hc4)
  have HW5 := Lib.hid (show Calls Tryz.prog 13 #[.pointer (some ⟨c.r, 0, none⟩), .int .i64 0, .int .i64 1, v3] w4 (QN w c 2 (rq2 L) .nilIface w4) from by
    have := H4.out.write 0 1 v3 L HV4.out.slb
    rwa [(rq2_eq HL.out).1, (rq2_eq HL.out).2, evs_zero] at this)
  clear h4 hc4
  go_wp2_with fail
  refine HW5.out.mono ?_
  rintro e w5 ⟨rfl, h5, _⟩
  have H5 := Lib.hid h5
  clear h5
  go_wp2_with fail
  refine (sector_any 9 (by omega) w5).mono ?_
  rintro e w6 ⟨v6, rfl, hv6, hb6⟩
  have H6 := Lib.hid (H5.out.below hb6)
  have HW7 := Lib.hid (show Calls Tryz.prog 13 #[.pointer (some ⟨c.r, 0, none⟩), .int .i64 1, .int .i64 1, v6] w6 (QN w c 2 (rq3 L (secL 9)) .nilIface w6) from by
    have := H6.out.write 1 1 v6 (secL 9) hv6.slb
    rwa [(rq3_eq (secL_length 9)).1, (rq3_eq (secL_length 9)).2, evs_zero] at this)
  clear hv6 hb6
  go_wp2_with fail
  refine HW7.out.mono ?_
  rintro e w7 ⟨rfl, h7, _⟩
  have H7 := Lib.hid h7
  have HW8 := Lib.hid (show Calls Tryz.prog 15 #[.pointer (some ⟨c.r, 0, none⟩), .int .i64 0] w7 (QN w c 2 (rq4 L (secL 9)) (evs opQFlush 5 0) w7) from by
    have := h7.flush 0
    rwa [(rq4_eq L (secL 9)).1, (rq4_eq L (secL 9)).2] at this)
  rw [evs_some _ _ (by decide)] at HW8
  unfold wrapV errV at HW8
  clear h7
  go_wp2_with fail
  refine HW8.out.mono ?_
  rintro e w8 ⟨rfl, h8, _⟩
  have H8 := Lib.hid h8
  have HO8 := Lib.hid (show Calls Tryz.prog 34 #[.pointer (some ⟨c.r, 0, none⟩)] w8 (BitSame true w8) from h8.off)
  clear h8
  go_wp2_with fail
  refine HO8.out.mono ?_
  rintro e w' ⟨rfl, rfl⟩
  have HB9 := Lib.hid (show Calls Tryz.prog 19 #[.pointer (some ⟨c.r, 0, none⟩), .slice (some ⟨w8.heap.size, 0, none⟩) 1 1] (w8.alloc (.cells #[.int .u64 1] 106)) (QN w c 2 (rq5 L (secL 9)) (.tuple #[]) (w8.alloc (.cells #[.int .u64 1] 106))) from
    (H8.out.below (one_below w8 _)).boot _ [1] (slu_one w8) (fun x hx => by obtain rfl : x = 0 := by simp at hx; omega
                                                                            decide))
  go_wp2_with fail
  refine HB9.out.mono ?_
  rintro e w9 ⟨rfl, h9, _⟩
  have H9 := Lib.hid h9
  have HG10 := Lib.hid (show Calls Tryz.prog 29 #[.pointer (some ⟨c.r, 0, none⟩), .int .i64 0, .int .i64 1, .int .i64 3, .int .i64 0, .int .i64 1] w9 (FrameBit rF true w9) from by
    have := h9.get 0 1 3 0 1
    rwa [HGET.out.1, HGET.out.2] at this)
  clear h9
  go_wp2_with fail
  refine HG10.out.mono ?_
  rintro e w10 ⟨rfl, hb10⟩
  have H10 := Lib.hid (show RSt w c (rq5 L (secL 9)) rF w10.heap.size (w10.alloc (.cells (frA rF) 42)) from ⟨(H9.out.below hb10).below (one_below w10 _), frIn_new w10 rF HFI.out, by simp⟩)
  clear hb10
  go_wp2_with fail
  clear hstf
  generalize w10.heap.size = b at *
  generalize w10.alloc (.cells (frA rF) 42) = W10 at *
  have HG11 := Lib.hid (show Calls Tryz.prog 29 #[.pointer (some ⟨c.r, 0, none⟩), .int .i64 1, .int .i64 1, .int .i64 3, .int .i64 0, .int .i64 (-1)] W10 (FrameBit zeroF false W10) from by
    have := H10.out.qs.get 1 1 3 0 (-1)
    rwa [HNONE.out.1, HNONE.out.2] at this)
  refine HG11.out.mono ?_
  rintro e w11 ⟨rfl, hb11⟩
  have h11 := (H10.out.below hb11).below (one_below w11 (.cells (frA zeroF) 42))
  clear hb11
  go_wp2_with fail
  clear hst0
  generalize w11.alloc (.cells (frA zeroF) 42) = W11 at *
  have hla : ∀ w', RSt w c (rq5 L (secL 9)) rF b w' → (loadCellsFrom ⟨b, 0, none⟩ 0 szFr #[]).run Tryz.prog w' = .ok (frA rF) w' := fun w' h => h.fr.load
  have CK : ∀ w', RSt w c (rq5 L (secL 9)) rF b w' → Calls Tryz.prog 8 #[wrapV opQFlush 0 (errV 5)] w' (Num 5 w') := fun w' h => kind_err [(opQFlush, 0)] 5 w' _ rfl (HT.out.below h.qs.base)
  unfold wrapV errV at CK
  have CK := Lib.hid CK
  have CO := Lib.hid (fun w' (h : RSt w c (rq5 L (secL 9)) rF b w') => show Calls Tryz.prog 34 #[.pointer (some ⟨c.r, 0, none⟩)] w' (BitSame false w') from h.qs.off)
  have hgd := guard_frame
  have heq := eql_yes (show rF.is from HFI.out) (show rF.is from HFI.out) rfl
  go_region_held3 (fun w' => RSt w c (rq5 L (secL 9)) rF b w') (repeat (first | assumption | refine RSt.drew ?_)) (first
    | (go_at_call 8; (with_reducible refine (CK.out _ ?_).mono ?_); (repeat (first | assumption | refine RSt.drew ?_)); rintro e w12 ⟨rfl, hb12⟩; have h12 := RSt.below ‹_› hb12)
    | (go_at_call 34; (with_reducible refine (CO.out _ ?_).mono ?_); (repeat (first | assumption | refine RSt.drew ?_)); rintro e w' ⟨rfl, rfl⟩)
    | (go_at_call 11; (with_reducible refine (CF.out _).mono ?_); rintro e w13 ⟨rfl, hb13⟩; have h13 := RSt.below h12 hb13))
  go_wp2_with fail
  go_ret
  exact bit rfl h13.qs.base
end Go.Proofs.YtbokangpcjeofaaGreatDoor
