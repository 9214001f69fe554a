/-
  stavelaw8.RackPlaces: the walk.
-/
import Derived.Test.YtbokangpcjeofaaDoorQRuns
import Derived.Test.YtbokangpcjeofaaDoorWithinI
namespace Go.Proofs.YtbokangpcjeofaaDoor
open Go.RowKit Go.Deep Dk Qk Go.Maps Hf
/-- One frame waits, at sector y of disk x. -/
def pq (x y : Nat) (L : Sec) : Rk := (newRk 4 4).turn x ((new 4).write y L)
theorem pq_write {x y : Nat} {L : Sec} (hx : x < 4) (hy : y < 4) (hl : L.length = 128) : (newRk 4 4).write (x : Int) (y : Int) L = pq x y L ∧ (newRk 4 4).wcode (x : Int) (y : Int) L.length = 0 := by
  obtain ⟨e1, e2⟩ := write_goes (q := newRk 4 4) (i := (x : Int)) (sec := (y : Int)) (l := L) (ready_ok (show x < 4 from hx) rfl rfl) ⟨by omega, by show (y : Int) < (4 : Nat); omega, hl⟩ (show ¬ (-1 : Int) = 0 by decide)
  refine ⟨e1.trans ?_, e2⟩
  rw [Int.toNat_natCast, Int.toNat_natCast]
  rfl
theorem pq_val {x y i j : Nat} {L : Sec} (hi : i < 4) (hj : j < 4) : qval (pq x y L) (i : Int) (j : Int) = (if i = x ∧ j = y then L else zer) ∧ qrcode (pq x y L) (i : Int) (j : Int) = 0 := by
  by_cases hx : i = x
  · subst hx
    have hs : (pq i y L).s i = (new 4).write y L := turn_at _ _ _
    have h := qval_at (q := pq i y L) (i := i) (k := j) hi rfl (by rw [hs]; rfl) (by rw [hs]; exact hj)
    refine ⟨h.1.trans ?_, h.2⟩
    rw [hs]
    by_cases hy : j = y
    · subst hy
      rw [if_pos ⟨rfl, rfl⟩]
      show ((upd (new 4).wt j (some L)) j).getD ((new 4).st j) = L
      rw [upd_same]; rfl
    · rw [if_neg (fun e => hy e.2)]
      show ((upd (new 4).wt y (some L)) j).getD ((new 4).st j) = zer
      rw [upd_other _ _ hy]; rfl
  · have hs : (pq x y L).s i = new 4 := turn_off _ _ hx
    have h := qval_at (q := pq x y L) (i := i) (k := j) hi rfl (by rw [hs]; rfl) (by rw [hs]; exact hj)
    refine ⟨h.1.trans ?_, h.2⟩
    rw [hs, if_neg (fun e => hx e.1)]; rfl
theorem pq_hit {x y : Nat} {L : Sec} {f : Fr} (hx : x < 4) (hy : y < 4) (hg : goodB L = true) (hf : got L = f) (kind slot stripe : Int) :
    qfound (pq x y L) (x : Int) (y : Int) kind slot stripe = asked f kind slot stripe ∧ qgot (pq x y L) (x : Int) (y : Int) kind slot stripe = if asked f kind slot stripe = true then f else zeroF := by
  obtain ⟨e1, e2⟩ := pq_val (x := x) (y := y) (i := x) (j := y) (L := L) hx hy
  rw [if_pos ⟨rfl, rfl⟩] at e1
  have h : qfound (pq x y L) (x : Int) (y : Int) kind slot stripe = asked f kind slot stripe := by
    unfold qfound
    rw [e2, e1, hg, hf, decide_eq_true rfl, Bool.true_and, Bool.true_and]
  exact ⟨h, by unfold qgot; rw [h, e1, hf]⟩
theorem pq_miss {x y i j : Nat} {L : Sec} (hi : i < 4) (hj : j < 4) (hno : ¬ (i = x ∧ j = y)) (kind slot stripe : Int) :
    qfound (pq x y L) (i : Int) (j : Int) kind slot stripe = false ∧ qgot (pq x y L) (i : Int) (j : Int) kind slot stripe = zeroF := by
  obtain ⟨e1, e2⟩ := pq_val (x := x) (y := y) (i := i) (j := j) (L := L) hi hj
  rw [if_neg hno] at e1
  have h : qfound (pq x y L) (i : Int) (j : Int) kind slot stripe = false := by
    unfold qfound
    rw [e1, show goodB zer = false from good_zeros, Bool.false_and, Bool.and_false]
  exact ⟨h, by unfold qgot; rw [h]; rfl⟩
theorem asked_all (f : Fr) : asked f f.k f.s f.t = true := by unfold asked; simp
theorem asked_any (f : Fr) : asked f f.k f.s (-1) = true := by unfold asked; simp
theorem asked_slot (f : Fr) (i : Int) : asked f f.k i f.t = (i == f.s) := by
  unfold asked
  by_cases h : f.s = i
  · simp [h]
  · have : (i == f.s) = false := by simp; exact fun e => h e.symm
    rw [this, decide_eq_false h, Bool.false_and, Bool.and_false]
theorem asked_stripe (f : Fr) {i : Int} (hi : 0 ≤ i) : asked f f.k f.s i = (i == f.t) := by
  unfold asked
  rw [decide_eq_false (show ¬ i < 0 by omega)]
  by_cases h : f.t = i
  · simp [h]
  · have : (i == f.t) = false := by simp; exact fun e => h e.symm
    rw [this, decide_eq_false h]; simp
theorem asked_kind (f : Fr) (i : Int) : asked f i f.s f.t = (i == f.k) := by
  unfold asked
  by_cases h : f.k = i
  · simp [h]
  · have : (i == f.k) = false := by simp; exact fun e => h e.symm
    rw [this, decide_eq_false h, Bool.false_and]
theorem ite_is {b : Bool} {f : Fr} (h : f.is) : (if b = true then f else zeroF).is := by cases b; exact zeroF_is; exact h
theorem RSt.next {w0 w w' : World} {c : Lc} {q q' : Rk} {f : Fr} {b n : Nat} (h : RSt w0 c q f b w) (hq : QS w0 c q' w') (hf : Far b c n) (hc : RC c n w w') : RSt w0 c q' f b w' :=
  ⟨hq, ⟨h.fr.1, fun j v hv => (World.cell?_of_block (a := ⟨b, j, none⟩) (hc.block b h.lt (by have := hf.1; omega) (fun i hi => by have := hf.2 i hi; omega))).trans (h.fr.2 j v hv)⟩, Nat.lt_of_lt_of_le h.lt hc.size⟩
def RelP1 (w0 : World) (c : Lc) (q : Rk) (f : Fr) (b : Nat) (ci : Value) (wr : World) : Prop := ∃ i : Nat, i ≤ 4 ∧ ci = .int .i64 i ∧ RSt w0 c q f b wr
theorem RSt.frame {w0 w w' : World} {c : Lc} {q : Rk} {f : Fr} {b : Nat} (h : RSt w0 c q f b w) (hb : Below w.heap.size w w') (g : Fr) : RSt w0 c q f b (w'.alloc (.cells (frA g) 31)) := (h.below hb).below (one_below _ _)
set_option maxHeartbeats 16000000 in
set_option maxRecDepth 100000 in
theorem places_any (kind slot stripe gen n d s : Int) (w : World) (hT : Typ w) : Calls Tryd.prog 6 #[.int .i64 kind, .int .i64 slot, .int .i64 stripe, .int .i64 gen, .int .i64 n, .int .i64 d, .int .i64 s] w (Bit true w) := by
  have HT := Lib.hid hT
  have HN := Lib.hid (show Calls Tryd.prog 7 #[.int .i64 4, .int .i64 4] w (QNew w 4 4) from qs_new 4 4 w (by omega) (by omega) (by omega) (by omega))
  have hz := szFr_run
  have hz0 := zero_frame
  have hc0 : (Value.agg (frA zeroF)).cells = frA zeroF := rfl
  have hsz : (frC zeroF).length = szFr := frC_length zeroF_is
  clear hT
  go_enter Tryd.func6, Tryd.ntmps6
  go_wp2_with fail
  refine HN.out.mono ?_
  rintro e w1 ⟨c, rfl, h1⟩
  have H1 := Lib.hid h1
  clear h1
  go_wp2_with fail
  refine (within_int kind 1 3 w1 (by omega) (by omega) (by omega)).mono ?_
  rintro e w' ⟨K, ⟨hk1, hk2⟩, rfl, rfl⟩
  have HK := Lib.hid (show 1 ≤ K ∧ K ≤ 3 from ⟨hk1, hk2⟩)
  clear hk1 hk2
  go_wp2_with fail
  refine (within_int slot 0 3 w1 (by omega) (by omega) (by omega)).mono ?_
  rintro e w' ⟨S, ⟨hs1, hs2⟩, rfl, rfl⟩
  go_wp2_with fail
  refine (within_int stripe 0 3 w1 (by omega) (by omega) (by omega)).mono ?_
  rintro e w' ⟨T, ⟨ht1, ht2⟩, rfl, rfl⟩
  go_wp2_with fail
  refine (within_int gen 0 99 w1 (by omega) (by omega) (by omega)).mono ?_
  rintro e w' ⟨G, ⟨hg1, hg2⟩, rfl, rfl⟩
  have HR := Lib.hid (show rightB (frK K S T G n) = true from decide_eq_true ⟨HK.out.1, HK.out.2, hs1, by show S < 8; omega, ht1, by show T < 64; omega, hg1, by show G ≤ 1152921504606846976; omega⟩)
  have HFK := Lib.hid (show (frK K S T G n).k = K from rfl)
  have CF := Lib.hid (frame_any K S T G n w1)
  have HFI := Lib.hid (frK_is K S T G n)
  clear hs1 hs2 ht1 ht2 hg1 hg2
  go_wp2_with fail
  generalize frK K S T G n = f at *
  have hcf : (Value.agg (frA f)).cells = frA f := rfl
  have hsf : (frC f).length = szFr := frC_length HFI.out
  have hstf : ∀ W : World, (storeCells ⟨W.heap.size, 0, none⟩ (frC f) 0).run Tryd.prog (W.alloc (.cells (frA zeroF) 31)) = .ok () (W.alloc (.cells (frA f) 31)) := fun W => storeCells_frame zeroF_is HFI.out W
  refine CF.out.mono ?_
  rintro e w2 ⟨rfl, hb2⟩
  have HFAR := Lib.hid (show Far w2.heap.size c 4 from H1.out.rack.far.mono hb2.size)
  have H2 := Lib.hid (show RSt w c (newRk 4 4) f w2.heap.size (w2.alloc (.cells (frA f) 31)) from ⟨(H1.out.below hb2).below (one_below _ _), frIn_new w2 f HFI.out, by simp⟩)
  clear hb2
  go_wp2_with fail
  generalize w2.heap.size = b at *
  generalize w2.alloc (.cells (frA f) 31) = W2 at *
  refine (within_int d 0 3 W2 (by omega) (by omega) (by omega)).mono ?_
  rintro e w' ⟨xx, ⟨hx1, hx2⟩, rfl, rfl⟩
  obtain ⟨x, rfl⟩ := Int.eq_ofNat_of_zero_le hx1
  go_wp2_with fail
  refine (within_int s 0 3 W2 (by omega) (by omega) (by omega)).mono ?_
  rintro e w' ⟨yy, ⟨hy1, hy2⟩, rfl, rfl⟩
  obtain ⟨y, rfl⟩ := Int.eq_ofNat_of_zero_le hy1
  have HX := Lib.hid (show x < 4 ∧ y < 4 by omega)
  clear hx1 hx2 hy1 hy2
  have hld := H2.out.fr.load
  have CP := Lib.hid (put_any f W2 HFI.out)
  have HPG := Lib.hid (got_put HFI.out HR.out)
  have HPL := Lib.hid (put_len HFI.out HR.out)
  unfold MadeB at CP
  generalize put f = L at *
  go_wp2_with fail
  refine CP.out.mono ?_
  rintro e w3 ⟨v3, rfl, ho3, hb3⟩
  have H3 := Lib.hid (H2.out.below hb3)
  have HW := Lib.hid (show Calls Tryd.prog 11 #[.pointer (some ⟨c.r, 0, none⟩), .int .i64 (x : Int), .int .i64 (y : Int), v3] w3 (QN w c 4 (pq x y L) .nilIface w3) from by
    have := H3.out.qs.write (x : Int) (y : Int) v3 L (slb_own (l := L) ho3)
    rwa [(pq_write HX.out.1 HX.out.2 HPL.out).1, (pq_write HX.out.1 HX.out.2 HPL.out).2, evs_zero] at this)
  clear ho3 hb3 hld
  go_wp2_with fail
  refine HW.out.mono ?_
  rintro e w4 ⟨rfl, h4, hc4⟩
  have H4 := Lib.hid (show RSt w c (pq x y L) f b w4 from H3.out.next h4 HFAR.out hc4)
  clear h4 hc4
  have hst0 : ∀ W : World, (storeCells ⟨W.heap.size, 0, none⟩ (frC zeroF) 0).run Tryd.prog (W.alloc (.cells (frA zeroF) 31)) = .ok () (W.alloc (.cells (frA zeroF) 31)) := fun W => storeCells_frame zeroF_is zeroF_is W
  go_wp2_with fail
  go_loopw [21] (fun ci wr => RelP1 w c (pq x y L) f b ci wr) (fun ci _ => 4 - (RowKit.intOf ci).toNat)
  case atStart => exact ⟨0, Nat.zero_le _, rfl, H4.out⟩
  case round =>
    obtain ⟨i, hi, rfl, hqs⟩ := hrel
    have HS1 := Lib.hid hqs
    clear hqs
    by_cases hlt : i < 4
    · have i1 : (i : Int) < 4 := by omega
      go_wp2_with fail
      go_loopw [22] (fun ci wr => RelP1 w c (pq x y L) f b ci wr) (fun ci _ => 4 - (RowKit.intOf ci).toNat)
      case atStart => exact ⟨0, Nat.zero_le _, rfl, HS1.out⟩
      case round =>
        obtain ⟨j, hj, rfl, hqs⟩ := hrel
        have HS2 := Lib.hid hqs
        have x1 := hqs.fr.c1
        have x2 := hqs.fr.c2
        clear hqs
        by_cases hlt2 : j < 4
        · have j1 : (j : Int) < 4 := by omega
          by_cases hit : i = x ∧ j = y
          · obtain ⟨rfl, rfl⟩ := hit
            have HG := Lib.hid (show Calls Tryd.prog 16 #[.pointer (some ⟨c.r, 0, none⟩), .int .i64 (i : Int), .int .i64 (j : Int), .int .i64 K, .int .i64 f.s, .int .i64 f.t] wr (FrameBit f true wr) from by
              have := HS2.out.qs.get (i : Int) (j : Int) K f.s f.t
              obtain ⟨e1, e2⟩ := pq_hit (L := L) HX.out.1 HX.out.2 HPG.out.1 HPG.out.2 K f.s f.t
              have hA : asked f K f.s f.t = true := by rw [← HFK.out]; exact asked_all f
              rw [hA] at e1 e2
              rwa [e1, e2, if_pos rfl] at this)
            go_wp2_with fail
            refine HG.out.mono ?_
            rintro e w5 ⟨rfl, hb5⟩
            have H5 := Lib.hid (HS2.out.frame hb5 f)
            have hl1 := (frIn_new w5 f HFI.out).load
            have hl2 := (HS2.out.frame hb5 f).fr.load
            have hgd := guard_frame
            have hneq := neql_yes HFI.out HFI.out rfl
            clear hb5
            go_wp2_with fail
            go_roundw
            case rel => exact ⟨j + 1, by omega, by go_num, H5.out⟩
            case measure => simp [RowKit.intOf]; omega
          · have HG := Lib.hid (show Calls Tryd.prog 16 #[.pointer (some ⟨c.r, 0, none⟩), .int .i64 (i : Int), .int .i64 (j : Int), .int .i64 K, .int .i64 f.s, .int .i64 f.t] wr (FrameBit zeroF false wr) from by
              have := HS2.out.qs.get (i : Int) (j : Int) K f.s f.t
              rwa [(pq_miss (L := L) hlt hlt2 hit K f.s f.t).1, (pq_miss (L := L) hlt hlt2 hit K f.s f.t).2] at this)
            by_cases hix : i = x
            · subst hix
              have hjy : ((j : Int) == (y : Int)) = false := by simp; intro e; exact hit ⟨rfl, by omega⟩
              clear hit
              go_wp2_with fail
              refine HG.out.mono ?_
              rintro e w5 ⟨rfl, hb5⟩
              have H5 := Lib.hid (HS2.out.frame hb5 zeroF)
              clear hb5
              go_wp2_with fail
              go_roundw
              case rel => exact ⟨j + 1, by omega, by go_num, H5.out⟩
              case measure => simp [RowKit.intOf]; omega
            · have hixb : ((i : Int) == (x : Int)) = false := by simp; intro e; exact hix (by omega)
              clear hit hix
              go_wp2_with fail
              refine HG.out.mono ?_
              rintro e w5 ⟨rfl, hb5⟩
              have H5 := Lib.hid (HS2.out.frame hb5 zeroF)
              clear hb5
              go_wp2_with fail
              go_roundw
              case rel => exact ⟨j + 1, by omega, by go_num, H5.out⟩
              case measure => simp [RowKit.intOf]; omega
        · obtain rfl : j = 4 := by omega
          have EA : ∃ (a1 : Bool) (g1 : Fr), ((i : Int) == f.s) = a1 ∧ (if a1 = true then f else zeroF) = g1 ∧ g1.is := ⟨_, _, rfl, rfl, ite_is HFI.out⟩
          obtain ⟨a1, g1, ea1, ea2, ea3⟩ := EA
          have EB : ∃ (a2 : Bool) (g2 : Fr), ((i : Int) == f.t) = a2 ∧ (if a2 = true then f else zeroF) = g2 ∧ g2.is := ⟨_, _, rfl, rfl, ite_is HFI.out⟩
          obtain ⟨a2, g2, eb1, eb2, eb3⟩ := EB
          have EC : ∃ (a3 : Bool) (g3 : Fr), ((i : Int) == K) = a3 ∧ (if a3 = true then f else zeroF) = g3 ∧ g3.is := ⟨_, _, rfl, rfl, ite_is HFI.out⟩
          obtain ⟨a3, g3, ec1, ec2, ec3⟩ := EC
          have HE1 := Lib.hid (show ((i : Int) == f.s) = a1 ∧ (if a1 = true then f else zeroF) = g1 from ⟨ea1, ea2⟩)
          have HE2 := Lib.hid (show ((i : Int) == f.t) = a2 ∧ (if a2 = true then f else zeroF) = g2 from ⟨eb1, eb2⟩)
          have HE3 := Lib.hid (show ((i : Int) == K) = a3 ∧ (if a3 = true then f else zeroF) = g3 from ⟨ec1, ec2⟩)
          clear ea2 eb2 ec2
          have hg1 : (Value.agg (frA g1)).cells = frA g1 := rfl
          have hg2 : (Value.agg (frA g2)).cells = frA g2 := rfl
          have hg3 : (Value.agg (frA g3)).cells = frA g3 := rfl
          have hs1 : (frC g1).length = szFr := frC_length ea3
          have hs2 : (frC g2).length = szFr := frC_length eb3
          have hs3 : (frC g3).length = szFr := frC_length ec3
          have ht1 : ∀ W : World, (storeCells ⟨W.heap.size, 0, none⟩ (frC g1) 0).run Tryd.prog (W.alloc (.cells (frA zeroF) 31)) = .ok () (W.alloc (.cells (frA g1) 31)) := fun W => storeCells_frame zeroF_is ea3 W
          have ht2 : ∀ W : World, (storeCells ⟨W.heap.size, 0, none⟩ (frC g2) 0).run Tryd.prog (W.alloc (.cells (frA zeroF) 31)) = .ok () (W.alloc (.cells (frA g2) 31)) := fun W => storeCells_frame zeroF_is eb3 W
          have ht3 : ∀ W : World, (storeCells ⟨W.heap.size, 0, none⟩ (frC g3) 0).run Tryd.prog (W.alloc (.cells (frA zeroF) 31)) = .ok () (W.alloc (.cells (frA g3) 31)) := fun W => storeCells_frame zeroF_is ec3 W
          have HG1 := Lib.hid (show Calls Tryd.prog 16 #[.pointer (some ⟨c.r, 0, none⟩), .int .i64 (x : Int), .int .i64 (y : Int), .int .i64 K, .int .i64 (i : Int), .int .i64 f.t] wr (FrameBit g1 a1 wr) from by
            have := HS2.out.qs.get (x : Int) (y : Int) K (i : Int) f.t
            obtain ⟨e1, e2⟩ := pq_hit (L := L) HX.out.1 HX.out.2 HPG.out.1 HPG.out.2 K (i : Int) f.t
            rw [show asked f K (i : Int) f.t = a1 by rw [← HFK.out, asked_slot]; exact HE1.out.1] at e1 e2
            rwa [e1, e2, HE1.out.2] at this)
          go_wp2_with fail
          refine HG1.out.mono ?_
          rintro e w5 ⟨rfl, hb5⟩
          have H5 := Lib.hid (HS2.out.frame hb5 g1)
          have y1 := H5.out.fr.c1
          have y2 := H5.out.fr.c2
          clear hb5
          go_wp2_with fail
          generalize w5.alloc (.cells (frA g1) 31) = W5 at *
          clear ht1
          have HG2 := Lib.hid (show Calls Tryd.prog 16 #[.pointer (some ⟨c.r, 0, none⟩), .int .i64 (x : Int), .int .i64 (y : Int), .int .i64 K, .int .i64 f.s, .int .i64 (i : Int)] W5 (FrameBit g2 a2 W5) from by
            have := H5.out.qs.get (x : Int) (y : Int) K f.s (i : Int)
            obtain ⟨e1, e2⟩ := pq_hit (L := L) HX.out.1 HX.out.2 HPG.out.1 HPG.out.2 K f.s (i : Int)
            rw [show asked f K f.s (i : Int) = a2 by rw [← HFK.out, asked_stripe f (by omega)]; exact HE2.out.1] at e1 e2
            rwa [e1, e2, HE2.out.2] at this)
          refine HG2.out.mono ?_
          rintro e w6 ⟨rfl, hb6⟩
          have H6 := Lib.hid (H5.out.frame hb6 g2)
          have z1 := H6.out.fr.c1
          have z2 := H6.out.fr.c2
          clear hb6
          go_wp2_with fail
          generalize w6.alloc (.cells (frA g2) 31) = W6 at *
          clear ht2
          have HG3 := Lib.hid (show Calls Tryd.prog 16 #[.pointer (some ⟨c.r, 0, none⟩), .int .i64 (x : Int), .int .i64 (y : Int), .int .i64 (i : Int), .int .i64 f.s, .int .i64 f.t] W6 (FrameBit g3 a3 W6) from by
            have := H6.out.qs.get (x : Int) (y : Int) (i : Int) f.s f.t
            obtain ⟨e1, e2⟩ := pq_hit (L := L) HX.out.1 HX.out.2 HPG.out.1 HPG.out.2 (i : Int) f.s f.t
            rw [show asked f (i : Int) f.s f.t = a3 by rw [asked_kind, HFK.out]; exact HE3.out.1] at e1 e2
            rwa [e1, e2, HE3.out.2] at this)
          refine HG3.out.mono ?_
          rintro e w7 ⟨rfl, hb7⟩
          have H7 := Lib.hid (H6.out.frame hb7 g3)
          have q1 := H7.out.fr.c1
          have q2 := H7.out.fr.c2
          clear hb7
          go_wp2_with fail
          go_roundw
          case rel => exact ⟨i + 1, by omega, by go_num, H7.out⟩
          case measure => simp [RowKit.intOf]; omega
    · obtain rfl : i = 4 := by omega
      have x1 := HS1.out.fr.c1
      have HG := Lib.hid (show Calls Tryd.prog 16 #[.pointer (some ⟨c.r, 0, none⟩), .int .i64 (x : Int), .int .i64 (y : Int), .int .i64 K, .int .i64 f.s, .int .i64 (-1)] wr (FrameBit f true wr) from by
        have := HS1.out.qs.get (x : Int) (y : Int) K f.s (-1)
        obtain ⟨e1, e2⟩ := pq_hit (L := L) HX.out.1 HX.out.2 HPG.out.1 HPG.out.2 K f.s (-1)
        rw [show asked f K f.s (-1) = true by rw [← HFK.out]; exact asked_any f] at e1 e2
        rwa [e1, e2, if_pos rfl] at this)
      go_wp2_with fail
      refine HG.out.mono ?_
      rintro e w8 ⟨rfl, hb8⟩
      have H8 := Lib.hid (HS1.out.frame hb8 f)
      have HRR := Lib.hid (rack_runs _ (HT.out.below H8.out.qs.base))
      clear hb8
      go_wp2_with (refine HRR.out.mono ?_; rintro e w9 ⟨rfl, hb9⟩)
      go_ret
      exact bit rfl (H8.out.below hb9).qs.base
end Go.Proofs.YtbokangpcjeofaaDoor
