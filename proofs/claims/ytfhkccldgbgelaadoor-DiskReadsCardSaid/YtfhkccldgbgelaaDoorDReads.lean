/-
  stavelaw6.DiskReads: the walk.
-/
import Derived.Test.YtfhkccldgbgelaaDoorDReadL
import Derived.Deep.CutBlock
import Derived.Deep.DeepCutAuto
namespace Go.Proofs.YtfhkccldgbgelaaDoor
open Go.RowKit Go.Deep Dk Go.Maps
/-- A map's block apart from the disk's and the array's. -/
def Off (b d S M A B : Nat) : Prop := b ≠ d ∧ b ≠ S ∧ b ≠ M ∧ b ≠ A ∧ B ≤ b
def RelR1 (d S M A : Nat) (w0 : World) (len : Nat) (mv c : Value) (wr : World) : Prop :=
  ∃ (m : Nat) (s : St) (f : Nat → Nat) (b : Nat) (D : DataW Unit), m ≤ len ∧ m ≤ 30 ∧ mv = .map (some b) ∧ c = .int .i64 m ∧ Off b d S M A w0.heap.size ∧ DiskIn wr d S M s ∧ Has s 5 f ∧ Arr wr A 67 5 f ∧ MapB wr b D s ∧ Below w0.heap.size w0 wr
def CutR1 (d S M A : Nat) (w0 : World) (mv : Value) (wx : World) : Prop :=
  ∃ (s : St) (f : Nat → Nat) (b : Nat) (D : DataW Unit), mv = .map (some b) ∧ Off b d S M A w0.heap.size ∧ DiskIn wx d S M s ∧ Has s 5 f ∧ Arr wx A 67 5 f ∧ MapB wx b D s ∧ Below w0.heap.size w0 wx
theorem five_zero : (#[.int .u8 0, .int .u8 0, .int .u8 0, .int .u8 0, .int .u8 0] : Array Value).toList = bytesV (tab 5 fun _ => 0) := by kernel_rfl
theorem out_no {n0 : Int} {s : St} (h : s.n = 5) (h0 : 0 ≤ n0) (l : List UInt8) : ¬ (0 ≤ 5 + n0 ∧ 5 + n0 < s.n ∧ l.length = 128) := by rw [h]; omega
set_option maxHeartbeats 16000000 in
set_option maxRecDepth 100000 in
theorem reads_any (v0 : Value) (l : List Ak) (i short : Int) (w : World) (hT : Typ w) (hA : SlA w.heap.size w v0 l) (hok : ∀ q ∈ l, q.Ok) :
    Calls Tryd.prog 9 #[v0, .int .i64 i, .int .i64 short] w (Bit true w) := by
  have HT := Lib.hid hT
  have HOK := Lib.hid (fun k (hk : k < l.length) => asks_ok hok hk)
  obtain ⟨a, cap, rfl⟩ := hA.len
  have HA := Lib.hid hA
  have HN := Lib.hid (show Calls Tryd.prog 10 #[.int .i64 5] w (NewDisk 5 w) from new_yes 5 w (by omega) (by omega))
  have hmm := @run_makeMap Tryd.prog
  clear hT hA hok
  go_enter Tryd.func9, Tryd.ntmps9
  go_wp2_with fail
  refine HN.out.mono ?_
  rintro e x0 ⟨d, S, M, rfl, hD, h1, h2, h3, hb⟩
  have HD0 := Lib.hid hD
  have HB0 := Lib.hid hb
  have hl0 := hD.lt
  have hdS : w.heap.size ≤ d ∧ w.heap.size ≤ S ∧ w.heap.size ≤ M := ⟨h1, h2, h3⟩
  have HAN := Lib.hid (Arr.made x0 67 5 _ five_zero)
  have hsz : (x0.alloc (.cells #[.int .u8 0, .int .u8 0, .int .u8 0, .int .u8 0, .int .u8 0] 67)).heap.size = x0.heap.size + 1 := by simp
  have HMN := Lib.hid (MapB.made (x0.alloc (.cells #[.int .u8 0, .int .u8 0, .int .u8 0, .int .u8 0, .int .u8 0] 67)) (s := new 5) (fun _ => rfl))
  rw [hsz] at HMN
  have HAD := Lib.hid (show x0.heap.size ≠ d ∧ x0.heap.size ≠ S ∧ x0.heap.size ≠ M by omega)
  have HAW := Lib.hid (hb.size)
  have HOFF := Lib.hid (show Off (x0.heap.size + 1) d S M x0.heap.size w.heap.size from ⟨by omega, by omega, by omega, by omega, by have := hb.size; omega⟩)
  have HLT := Lib.hid (show d < x0.heap.size + 1 ∧ S < x0.heap.size + 1 ∧ M < x0.heap.size + 1 by omega)
  clear hD hb h1 h2 h3 hl0 hsz
  go_upto_block 0 with (fail)
  generalize hB' : x0.heap.size + 1 = bm at *
  generalize hA' : x0.heap.size = A at *
  clear hA' hB'
  go_cut [10] (fun mv wx => CutR1 d S M A w mv wx)
  case first =>
    go_wp2_with fail
    go_loopw [10, 11] (fun mv c wr => RelR1 d S M A w l.length mv c wr) (fun _ c _ => l.length - (RowKit.intOf c).toNat)
    case atStart => exact ⟨0, _, _, _, _, Nat.zero_le _, Nat.zero_le _, rfl, rfl, HOFF.out, (HD0.out.below (one_below _ _)).below (one_below _ _), Has.new (by omega), HAN.out.below (one_below _ _), HMN.out, balloc (balloc HB0.out _) _⟩
    case round =>
      obtain ⟨k, s, f, b, D, hk, hk30, rfl, rfl, hO, hD, hH, hR, hM, hb⟩ := hrel
      have HD := Lib.hid hD
      have HH := Lib.hid hH
      have HR := Lib.hid hR
      have HMB := Lib.hid hM
      have HBD := Lib.hid hO
      have HB := Lib.hid hb
      by_cases hlt : k < l.length
      · by_cases hlt30 : k < 30
        · obtain ⟨bq, o, rfl, hbl, hq⟩ := HA.out.at_ (wr := wr) (fun b hb' => hb.block b hb') hlt
          have hqo := HOK.out k hlt
          generalize l.getD k a0 = q at hq hqo
          have HQ := Lib.hid hq
          have c0 := hq.kind
          have c1 := hq.i
          have c3 := hq.x
          have i1 : (k : Int) < l.length := by omega
          have i2 : (0 : Int) ≤ k := by omega
          have i3 : (k : Int) < 30 := by omega
          clear hq hD hb hH hR hM hO
          go_wp2_with fail
          refine (within_int q.i 0 4 _ (by omega) (by omega) (by omega)).mono ?_
          rintro e w' ⟨n0, ⟨hn1, hn2⟩, rfl, rfl⟩
          obtain ⟨n, rfl⟩ := Int.eq_ofNat_of_zero_le hn1
          have hn3 : n < 5 := by omega
          clear hn1 hn2
          by_cases hq2 : q.kind = 2
          · have e2 : (q.kind == 2) = true := by simpa using hq2
            clear hq2
            have HFL := Lib.hid (flush_yes wr HD.out HH.out.dead)
            go_wp2_with fail
            refine (HFL.out).mono ?_
            rintro e x1 ⟨rfl, hD1, hG1⟩
            have HB1 := Lib.hid (HB.out.trans (hG1.below HB.out.size hdS.1 hdS.2.1 hdS.2.2))
            have HD1 := Lib.hid hD1
            have HR_1 := Lib.hid (HR.out.chg HAD.out.1 HAD.out.2.1 HAD.out.2.2 hG1)
            have HQ_1 := Lib.hid (HQ.out.keep (w' := x1) (hG1.block bq HQ.out.lt (by omega) (by omega) (by omega)))
            clear hD1 hG1
            have HH2 := Lib.hid HH.out.flush
            have hlt0 := HD1.out.lt
            have hltA := HR_1.out.lt
            have HMB2 := Lib.hid (MapB.made x1 (s := s.flush) (St.flush_wt HH.out.ok))
            have HBD2 := Lib.hid (show Off x1.heap.size d S M A w.heap.size from ⟨by omega, by omega, by omega, by omega, HB1.out.size⟩)
            have HD2 := Lib.hid (HD1.out.below (one_below _ (.map #[] 0)))
            have HR2 := Lib.hid (HR_1.out.below (one_below _ (.map #[] 0)))
            have HB2 := Lib.hid (balloc HB1.out (.map #[] 0))
            clear hlt0 hltA
            have HSF := Lib.hid (show s.flush = s.flush from rfl)
            have HR9 := Lib.hid (show Calls Tryd.prog 14 #[.pointer (some ⟨d, 0, none⟩), .int .i64 (n : Int)] (x1.alloc (.map #[] 0)) (Reads (secL (f n)) (x1.alloc (.map #[] 0))) from by have := read_yes (x1.alloc (.map #[] 0)) HD2.out HH2.out.dead n (by rw [HH2.out.num]; exact hn3); rwa [HH2.out.read n hn3] at this)
            have HL9 := Lib.hid HD2.out.lt
            go_wp2_with fail
            generalize hbb : x1.heap.size = b2 at *
            generalize x1.alloc (.map #[] 0) = y0 at *
            clear hbb
            refine HR9.out.mono ?_
            rintro e y1 ⟨v9, rfl, hv9, hb9⟩
            have HB3 := Lib.hid (HB2.out.trans (hb9.mono HB2.out.size))
            have HD3 := Lib.hid (HD2.out.below hb9)
            have HR3 := Lib.hid (HR2.out.below hb9)
            have HMB3 := Lib.hid (HMB2.out.keep (hb9.block b2 HMB2.out.lt))
            have HV9_0 := Lib.hid hv9
            clear hb9 hv9
            have hcn := HR3.out.cell HH2.out.lt hn3
            have hfn := HH2.out.lt n
            generalize hy : f n = y at *
            clear hy
            go_wp2_with fail
            refine (sector_any y hfn _).mono ?_
            rintro e x21 ⟨v21, rfl, hv21, hb21⟩
            have HB21 := Lib.hid (HB3.out.trans (hb21.mono HB3.out.size))
            have HD21 := Lib.hid (HD3.out.below hb21)
            have HV9_21 := Lib.hid (HV9_0.out.below hb21)
            have HR_21 := Lib.hid (HR3.out.below hb21)
            have HMB_21 := Lib.hid (HMB3.out.keep (hb21.block b2 HMB3.out.lt))
            clear hb21
            have HV21_0 := Lib.hid hv21
            clear hv21
            have HS22 := Lib.hid (show Calls Tryd.prog 17 #[v9, v21] x21 (Bit true x21) by
                have := same_bytes x21.heap.size v9 v21 (secL y) (secL y) x21 HV9_21.out.slb HV21_0.out.slb (Nat.le_refl _) (by rw [secL_length]; omega)
                rwa [decide_eq_true (rfl)] at this)
            go_wp2_with fail
            refine (HS22.out).mono ?_
            rintro e x22 ⟨rfl, hb22⟩
            have HB22 := Lib.hid (HB21.out.trans (hb22.mono HB21.out.size))
            have HD22 := Lib.hid (HD21.out.below hb22)
            have HV9_22 := Lib.hid (HV9_21.out.below hb22)
            have HV21_22 := Lib.hid (HV21_0.out.below hb22)
            have HR_22 := Lib.hid (HR_21.out.below hb22)
            have HMB_22 := Lib.hid (HMB_21.out.keep (hb22.block b2 HMB_21.out.lt))
            clear hb22
            have HWT := Lib.hid (waits_any x22 HD22.out)
            go_wp2_with fail
            refine (HWT.out).mono ?_
            rintro e x23 ⟨v23, rfl, ho23, hb23⟩
            obtain ⟨ga23, ca23, rfl, -⟩ := own_slice ho23
            clear ho23
            have HB23 := Lib.hid (HB22.out.trans (hb23.mono HB22.out.size))
            have HD23 := Lib.hid (HD22.out.below hb23)
            have HR_23 := Lib.hid (HR_22.out.below hb23)
            have HMB_23 := Lib.hid (HMB_22.out.keep (hb23.block b2 HMB_22.out.lt))
            clear hb23
            have hlen := HMB_23.out.len 3
            go_wp2_with fail
            go_roundw
            case rel => exact ⟨k + 1, _, _, _, _, by omega, by omega, rfl, by go_num, HBD2.out, HD23.out, HH2.out, HR_23.out, HMB_23.out, HB23.out⟩
            case measure => simp [RowKit.intOf]; omega
          · have e2 : (q.kind == 2) = false := by simpa using hq2
            clear hq2
            go_wp2_with fail
            refine (sector_any q.x hqo.x _).mono ?_
            rintro e x41 ⟨v41, rfl, hv41, hb41⟩
            have HB41 := Lib.hid (HB.out.trans (hb41.mono HB.out.size))
            have HD41 := Lib.hid (HD.out.below hb41)
            have HR_41 := Lib.hid (HR.out.below hb41)
            have HQ_41 := Lib.hid (HQ.out.keep (w' := x41) (hb41.block bq HQ.out.lt))
            have HMB_41 := Lib.hid (HMB.out.keep (hb41.block b HMB.out.lt))
            clear hb41
            have HV41_0 := Lib.hid hv41
            clear hv41
            have HWR := Lib.hid (show Calls Tryd.prog 11 #[.pointer (some ⟨d, 0, none⟩), .int .i64 (n : Int), v41] x41 (NextD d S M (s.write n (secL q.x)) .nilIface x41) from write_yes x41 HD41.out HH.out.dead n v41 (secL q.x) (by rw [HH.out.num]; exact hn3) HV41_0.out.slb (secL_length q.x))
            go_wp2_with fail
            refine (HWR.out).mono ?_
            rintro e x42 ⟨rfl, hD42, hG42⟩
            have HB42 := Lib.hid (HB41.out.trans (hG42.below HB41.out.size hdS.1 hdS.2.1 hdS.2.2))
            have HD42 := Lib.hid hD42
            have HR_42 := Lib.hid (HR_41.out.chg HAD.out.1 HAD.out.2.1 HAD.out.2.2 hG42)
            have HQ_42 := Lib.hid (HQ_41.out.keep (w' := x42) (hG42.block bq HQ_41.out.lt (by omega) (by omega) (by omega)))
            have HMB_42 := Lib.hid (HMB_41.out.keep (hG42.block b HMB_41.out.lt HBD.out.1 HBD.out.2.1 HBD.out.2.2.1))
            clear hD42 hG42
            have c3 := HQ_42.out.x
            obtain ⟨v8, hv8⟩ : ∃ v, x42.cell? ⟨A, n, none⟩ = some v := ⟨_, HR_42.out.cell HH.out.lt hn3⟩
            have hf8 := HR_42.out.frozen n
            have HRS := Lib.hid (HR_42.out.set (k := n) hqo.x)
            have HDS := Lib.hid (HD42.out.keep (w' := x42.setCell ⟨A, n, none⟩ (.int .u8 (q.x : Int))) (heap_setCell_other _ _ _ _ (fun e => HAD.out.1 e.symm)) (heap_setCell_other _ _ _ _ (fun e => HAD.out.2.1 e.symm)) (heap_setCell_other _ _ _ _ (fun e => HAD.out.2.2 e.symm)))
            have HBS := Lib.hid (HB42.out.setCell (p := ⟨A, n, none⟩) HAW.out (.int .u8 (q.x : Int)))
            have HMS := Lib.hid (HMB_42.out.keep (w' := x42.setCell ⟨A, n, none⟩ (.int .u8 (q.x : Int))) (heap_setCell_other _ _ _ _ HBD.out.2.2.2.1))
            have hks := ks_bound s HH.out.num
            have hsz := HMS.out.size
            have hos := HMS.out.own
            have hbl1 := plainElem_bool (H := Unit) Tryd.underlying4 true
            clear c0 c1
            generalize hws : x42.setCell ⟨A, n, none⟩ (.int .u8 (q.x : Int)) = xs at *
            go_wp2_with (at_mapUpdate; refine wpList_mapUpdate_own _ rfl _ _ _ 54 rfl 3 4 keyed Tryd.underlying54 (plainElem Tryd.prog 4) b (Maps.size D) D rfl hos (by unfold maxLen; omega) _ _ (kI n) rfl rfl (key_kI (by omega)) _ [] hbl1 ?_; intro xm hownm hgm)
            have HH2 := Lib.hid (HH.out.write hn3 hqo.x)
            have HMM := Lib.hid (HMS.out.put (l := secL q.x) (by rw [HH.out.num]; exact hn3) hownm)
            have hltS := HDS.out.lt
            have HDM := Lib.hid (HDS.out.keep (hgm.block d hltS.1 (by have := HBD.out.1; intro e; cases e; exact this rfl)) (hgm.block S hltS.2.1 (by have := HBD.out.2.1; intro e; cases e; exact this rfl)) (hgm.block M hltS.2.2 (by have := HBD.out.2.2.1; intro e; cases e; exact this rfl)))
            have HRM := Lib.hid (HRS.out.keep (hgm.block A HRS.out.lt (by have := HBD.out.2.2.2.1; intro e; cases e; exact this rfl)))
            have HBM := Lib.hid (show Below w.heap.size w xm from ⟨hgm.os.trans HBS.out.os, hgm.tape.trans HBS.out.tape, hgm.output.trans HBS.out.output, Nat.le_trans HBS.out.size hgm.size, fun k hk => (hgm.block k (Nat.lt_of_lt_of_le hk HBS.out.size) (by have := HBD.out.2.2.2.2; intro e; cases e; omega)).trans (HBS.out.block k hk)⟩)
            clear hownm hgm hos hsz hks hltS hws hv8 hf8 c3
            generalize s.write n (secL q.x) = s2 at *
            generalize upd f n q.x = f2 at *
            have HL61 := Lib.hid HDM.out.lt
            have HR61 := Lib.hid (show Calls Tryd.prog 14 #[.pointer (some ⟨d, 0, none⟩), .int .i64 (n : Int)] xm (Reads (secL (f2 n)) xm) from by have := read_yes xm HDM.out HH2.out.dead n (by rw [HH2.out.num]; exact hn3); rwa [HH2.out.read n hn3] at this)
            refine (HR61.out).mono ?_
            rintro e x61 ⟨v61, rfl, hv61, hb61⟩
            have HB61 := Lib.hid (HBM.out.trans (hb61.mono HBM.out.size))
            have HD61 := Lib.hid (HDM.out.below hb61)
            have HR_61 := Lib.hid (HRM.out.below hb61)
            have HMB_61 := Lib.hid (HMM.out.keep (hb61.block b HMM.out.lt))
            clear hb61
            have HV61_0 := Lib.hid hv61
            clear hv61
            have hcn := HR_61.out.cell HH2.out.lt hn3
            have hfn := HH2.out.lt n
            generalize hy : f2 n = y at *
            clear hy
            go_wp2_with fail
            refine (sector_any y hfn _).mono ?_
            rintro e x62 ⟨v62, rfl, hv62, hb62⟩
            have HB62 := Lib.hid (HB61.out.trans (hb62.mono HB61.out.size))
            have HD62 := Lib.hid (HD61.out.below hb62)
            have HV61_62 := Lib.hid (HV61_0.out.below hb62)
            have HR_62 := Lib.hid (HR_61.out.below hb62)
            have HMB_62 := Lib.hid (HMB_61.out.keep (hb62.block b HMB_61.out.lt))
            clear hb62
            have HV62_0 := Lib.hid hv62
            clear hv62
            have HS63 := Lib.hid (show Calls Tryd.prog 17 #[v61, v62] x62 (Bit true x62) by
                have := same_bytes x62.heap.size v61 v62 (secL y) (secL y) x62 HV61_62.out.slb HV62_0.out.slb (Nat.le_refl _) (by rw [secL_length]; omega)
                rwa [decide_eq_true (rfl)] at this)
            go_wp2_with fail
            refine (HS63.out).mono ?_
            rintro e x63 ⟨rfl, hb63⟩
            have HB63 := Lib.hid (HB62.out.trans (hb63.mono HB62.out.size))
            have HD63 := Lib.hid (HD62.out.below hb63)
            have HV61_63 := Lib.hid (HV61_62.out.below hb63)
            have HV62_63 := Lib.hid (HV62_0.out.below hb63)
            have HR_63 := Lib.hid (HR_62.out.below hb63)
            have HMB_63 := Lib.hid (HMB_62.out.keep (hb63.block b HMB_62.out.lt))
            clear hb63
            have HWT := Lib.hid (waits_any x63 HD63.out)
            go_wp2_with fail
            refine (HWT.out).mono ?_
            rintro e x64 ⟨v64, rfl, ho64, hb64⟩
            obtain ⟨ga64, ca64, rfl, -⟩ := own_slice ho64
            clear ho64
            have HB64 := Lib.hid (HB63.out.trans (hb64.mono HB63.out.size))
            have HD64 := Lib.hid (HD63.out.below hb64)
            have HR_64 := Lib.hid (HR_63.out.below hb64)
            have HMB_64 := Lib.hid (HMB_63.out.keep (hb64.block b HMB_63.out.lt))
            clear hb64
            have hlen := HMB_64.out.len 3
            go_wp2_with fail
            go_roundw
            case rel => exact ⟨k + 1, _, _, _, _, by omega, by omega, rfl, by go_num, HBD.out, HD64.out, HH2.out, HR_64.out, HMB_64.out, HB64.out⟩
            case measure => simp [RowKit.intOf]; omega
        · have i1 : (k : Int) < l.length := by omega
          have i2 : ¬ (k : Int) < 30 := by omega
          clear hD hb hH hR hM hO
          go_wp2_with fail
          go_meet
          exact ⟨s, f, b, D, rfl, HBD.out, HD.out, HH.out, HR.out, HMB.out, HB.out⟩
      · have i1 : ¬ (k : Int) < l.length := by omega
        clear hD hb hH hR hM hO
        go_wp2_with fail
        go_meet
        exact ⟨s, f, b, D, rfl, HBD.out, HD.out, HH.out, HR.out, HMB.out, HB.out⟩
  case rest =>
    obtain ⟨s, f, b, D, rfl, hO, hD, hH, hR, hM, hb⟩ := hcut
    have HDC := Lib.hid hD
    have HH := Lib.hid hH
    have HR := Lib.hid hR
    have HMB := Lib.hid hM
    have HBD := Lib.hid hO
    have HBC := Lib.hid hb
    clear hD hH hR hM hO hb HN HD0 HB0 HAN HMN HOFF hmm
    go_wp2_with fail
    refine (within_int i 0 9 _ (by omega) (by omega) (by omega)).mono ?_
    rintro e w' ⟨n0, ⟨hn1, hn2⟩, rfl, rfl⟩
    have hno : ∀ (l : List UInt8), ¬ (0 ≤ 5 + n0 ∧ 5 + n0 < s.n ∧ l.length = 128) := out_no HH.out.num hn1
    have HNO := Lib.hid hno
    clear hno
    go_wp2_with fail
    refine (sector_any 1 (by omega) _).mono ?_
    rintro e x101 ⟨v101, rfl, hv101, hb101⟩
    have HB101 := Lib.hid (HBC.out.trans (hb101.mono HBC.out.size))
    have HD101 := Lib.hid (HDC.out.below hb101)
    have HR_101 := Lib.hid (HR.out.below hb101)
    have HMB_101 := Lib.hid (HMB.out.keep (hb101.block b HMB.out.lt))
    clear hb101
    have HV101_0 := Lib.hid hv101
    clear hv101
    have HE1 := Lib.hid (write_out HD101.out HH.out.dead (5 + n0) HV101_0.out.slb (HNO.out _))
    unfold Err1 wrapV errV at HE1
    go_wp2_with fail
    refine (HE1.out).mono ?_
    rintro e w' ⟨rfl, rfl⟩
    go_wp2_with fail
    refine (within_int short 0 127 _ (by omega) (by omega) (by omega)).mono ?_
    rintro e w' ⟨m0, ⟨hm1, hm2⟩, rfl, rfl⟩
    obtain ⟨m, rfl⟩ := Int.eq_ofNat_of_zero_le hm1
    have hm3 : m ≤ 127 := by omega
    clear hm1 hm2
    have hmk := make_u8 m (by omega)
    have HE2 := Lib.hid (write_out (v := .slice (some ⟨x101.heap.size, 0, none⟩) m m) (l := zeros m) (HD101.out.below (one_below _ (.cells (madeCells #[.int .u8 0] m) 5))) HH.out.dead 1 (slb_own (by have := made_own x101 x101.heap.size m (Nat.le_refl _) (by omega); rwa [zeros_length])) (fun h => by have := h.2.2; rw [zeros_length] at this; omega))
    unfold Err1 wrapV errV at HE2
    go_wp2_with fail
    refine HE2.out.mono ?_
    rintro e w' ⟨rfl, rfl⟩
    have hb102 := one_below x101 (.cells (madeCells #[.int .u8 0] m) 5)
    generalize (x101.alloc (.cells (madeCells #[.int .u8 0] m) 5)) = x102 at *
    have HB102 := Lib.hid (HB101.out.trans (hb102.mono HB101.out.size))
    have HD102 := Lib.hid (HD101.out.below hb102)
    have HR_102 := Lib.hid (HR_101.out.below hb102)
    have HMB_102 := Lib.hid (HMB_101.out.keep (hb102.block b HMB_101.out.lt))
    clear hb102
    clear hmk
    have HE3 := Lib.hid (read_no x102 HD102.out HH.out.dead (-1) (by omega))
    unfold Err2 wrapV errV at HE3
    go_wp2_with fail
    refine (HE3.out).mono ?_
    rintro e w' ⟨rfl, rfl⟩
    have HWH := Lib.hid (show Calls Tryd.prog 36 #[wrapV opWrite (5 + n0) (errV 1)] x102 (Place opWrite (5 + n0) true x102) from where_err [(opWrite, 5 + n0)] 1 x102 _ rfl (HT.out.below HB102.out))
    unfold wrapV errV at HWH
    go_wp2_with fail
    refine (HWH.out).mono ?_
    rintro e x103 ⟨rfl, hb103⟩
    have HB103 := Lib.hid (HB102.out.trans (hb103.mono HB102.out.size))
    have HD103 := Lib.hid (HD102.out.below hb103)
    have HR_103 := Lib.hid (HR_102.out.below hb103)
    have HMB_103 := Lib.hid (HMB_102.out.keep (hb103.block b HMB_102.out.lt))
    clear hb103
    go_wp2_with fail
    refine (kind_err [(opWrite, 5 + n0)] 1 x103 _ rfl (HT.out.below HB103.out)).mono ?_
    rintro e x104 ⟨rfl, hb104⟩
    have HB104 := Lib.hid (HB103.out.trans (hb104.mono HB103.out.size))
    have HD104 := Lib.hid (HD103.out.below hb104)
    have HR_104 := Lib.hid (HR_103.out.below hb104)
    have HMB_104 := Lib.hid (HMB_103.out.keep (hb104.block b HMB_103.out.lt))
    clear hb104
    go_wp2_with fail
    refine (kind_err [(opWrite, 1)] 1 x104 _ rfl (HT.out.below HB104.out)).mono ?_
    rintro e x105 ⟨rfl, hb105⟩
    have HB105 := Lib.hid (HB104.out.trans (hb105.mono HB104.out.size))
    have HD105 := Lib.hid (HD104.out.below hb105)
    have HR_105 := Lib.hid (HR_104.out.below hb105)
    have HMB_105 := Lib.hid (HMB_104.out.keep (hb105.block b HMB_104.out.lt))
    clear hb105
    go_wp2_with fail
    refine (kind_err [(opRead, -1)] 1 x105 _ rfl (HT.out.below HB105.out)).mono ?_
    rintro e x106 ⟨rfl, hb106⟩
    have HB106 := Lib.hid (HB105.out.trans (hb106.mono HB105.out.size))
    have HD106 := Lib.hid (HD105.out.below hb106)
    have HR_106 := Lib.hid (HR_105.out.below hb106)
    have HMB_106 := Lib.hid (HMB_105.out.keep (hb106.block b HMB_105.out.lt))
    clear hb106
    have HWT := Lib.hid (waits_any x106 HD106.out)
    go_wp2_with fail
    refine (HWT.out).mono ?_
    rintro e x107 ⟨v107, rfl, ho107, hb107⟩
    obtain ⟨ga107, ca107, rfl, -⟩ := own_slice ho107
    clear ho107
    have HB107 := Lib.hid (HB106.out.trans (hb107.mono HB106.out.size))
    have HD107 := Lib.hid (HD106.out.below hb107)
    have HR_107 := Lib.hid (HR_106.out.below hb107)
    have HMB_107 := Lib.hid (HMB_106.out.keep (hb107.block b HMB_106.out.lt))
    clear hb107
    have hlen := HMB_107.out.len 3
    have HL108 := Lib.hid HD107.out.lt
    have HR108 := Lib.hid (show Calls Tryd.prog 14 #[.pointer (some ⟨d, 0, none⟩), .int .i64 1] x107 (Reads (secL (f 1)) x107) from by have := read_yes x107 HD107.out HH.out.dead 1 (by rw [HH.out.num]; omega); rwa [HH.out.read 1 (by omega)] at this)
    go_wp2_with fail
    refine (HR108.out).mono ?_
    rintro e x108 ⟨v108, rfl, hv108, hb108⟩
    have HB108 := Lib.hid (HB107.out.trans (hb108.mono HB107.out.size))
    have HD108 := Lib.hid (HD107.out.below hb108)
    have HR_108 := Lib.hid (HR_107.out.below hb108)
    have HMB_108 := Lib.hid (HMB_107.out.keep (hb108.block b HMB_107.out.lt))
    clear hb108
    have HV108_0 := Lib.hid hv108
    clear hv108
    clear hlen
    have hcn := HR_108.out.cell HH.out.lt (k := 1) (by omega)
    have hfn := HH.out.lt 1
    generalize hy : f 1 = y at *
    clear hy
    go_wp2_with fail
    refine (sector_any y hfn _).mono ?_
    rintro e x109 ⟨v109, rfl, hv109, hb109⟩
    have HB109 := Lib.hid (HB108.out.trans (hb109.mono HB108.out.size))
    have HD109 := Lib.hid (HD108.out.below hb109)
    have HV108_109 := Lib.hid (HV108_0.out.below hb109)
    have HR_109 := Lib.hid (HR_108.out.below hb109)
    have HMB_109 := Lib.hid (HMB_108.out.keep (hb109.block b HMB_108.out.lt))
    clear hb109
    have HV109_0 := Lib.hid hv109
    clear hv109
    have HS110 := Lib.hid (show Calls Tryd.prog 17 #[v108, v109] x109 (Bit true x109) by
        have := same_bytes x109.heap.size v108 v109 (secL y) (secL y) x109 HV108_109.out.slb HV109_0.out.slb (Nat.le_refl _) (by rw [secL_length]; omega)
        rwa [decide_eq_true (rfl)] at this)
    go_wp2_with fail
    refine (HS110.out).mono ?_
    rintro e x110 ⟨rfl, hb110⟩
    have HB110 := Lib.hid (HB109.out.trans (hb110.mono HB109.out.size))
    have HD110 := Lib.hid (HD109.out.below hb110)
    have HV108_110 := Lib.hid (HV108_109.out.below hb110)
    have HV109_110 := Lib.hid (HV109_0.out.below hb110)
    have HR_110 := Lib.hid (HR_109.out.below hb110)
    have HMB_110 := Lib.hid (HMB_109.out.keep (hb110.block b HMB_109.out.lt))
    clear hb110
    go_wp2_with fail
    refine (disk_runs x110 (HT.out.below HB110.out)).mono ?_
    rintro e x111 ⟨rfl, hb111⟩
    have HB111 := Lib.hid (HB110.out.trans (hb111.mono HB110.out.size))
    have HD111 := Lib.hid (HD110.out.below hb111)
    have HR_111 := Lib.hid (HR_110.out.below hb111)
    have HMB_111 := Lib.hid (HMB_110.out.keep (hb111.block b HMB_110.out.lt))
    clear hb111
    go_wp2_with fail
    go_ret
    exact ⟨rfl, HB111.out⟩
end Go.Proofs.YtfhkccldgbgelaaDoor
