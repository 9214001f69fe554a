/-
  stavelaw6.DiskTears: the walk.
-/
import Derived.Test.YtfhkccldgbgelaaDoorDArr
import Derived.Deep.CutBlock
import Derived.Deep.DeepCutAuto
namespace Go.Proofs.YtfhkccldgbgelaaDoor
open Go.RowKit Go.Deep Dk Go.Maps
def RelT1 (d S M A C : Nat) (w0 : World) (len : Nat) (c : Value) (wr : World) : Prop :=
  ∃ (m : Nat) (s : St) (f : Nat → Nat), m ≤ len ∧ m ≤ 20 ∧ c = .int .i64 m ∧ DiskIn wr d S M s ∧ Has s 6 f ∧ Arr wr A 63 6 f ∧ Arr wr C 63 6 (fun _ => 0) ∧ Below w0.heap.size w0 wr
def CutT1 (d S M A C : Nat) (w0 : World) (wx : World) : Prop :=
  ∃ (s : St) (f : Nat → Nat), DiskIn wx d S M s ∧ Has s 6 f ∧ Arr wx A 63 6 f ∧ Arr wx C 63 6 (fun _ => 0) ∧ Below w0.heap.size w0 wx
def RelT2 (d S M A C : Nat) (f : Nat → Nat) (w0 : World) (len : Nat) (c : Value) (wr : World) : Prop :=
  ∃ (m : Nat) (s : St) (g : Nat → Nat), m ≤ len ∧ m ≤ 20 ∧ c = .int .i64 m ∧ DiskIn wr d S M s ∧ Sto s 6 f ∧ Has s 6 g ∧ Arr wr A 63 6 f ∧ Arr wr C 63 6 g ∧ Below w0.heap.size w0 wr
def CutT2 (d S M A C : Nat) (f : Nat → Nat) (w0 : World) (wx : World) : Prop :=
  ∃ (s : St) (g : Nat → Nat), DiskIn wx d S M s ∧ Sto s 6 f ∧ Has s 6 g ∧ Arr wx A 63 6 f ∧ Arr wx C 63 6 g ∧ Below w0.heap.size w0 wx
def RelT3 (d S M A C : Nat) (s : St) (f g : Nat → Nat) (w0 : World) (c : Value) (wr : World) : Prop :=
  ∃ m : Nat, m ≤ 6 ∧ c = .int .i64 m ∧ DiskIn wr d S M s ∧ Arr wr A 63 6 f ∧ Arr wr C 63 6 g ∧ Below w0.heap.size w0 wr
theorem six_zero : (#[.int .u8 0, .int .u8 0, .int .u8 0, .int .u8 0, .int .u8 0, .int .u8 0] : Array Value).toList = bytesV (tab 6 fun _ => 0) := by kernel_rfl
theorem size_six : (Tryd.prog.info? 63).map (·.size) = some 6 := by kernel_rfl
/-- One small array is laid over another. -/
theorem Arr.load {w : World} {A : Nat} {f : Nat → Nat} (h : Arr w A 63 6 f) : (Instr.loadAt 63 (.pointer (some ⟨A, 0, none⟩))).run Tryd.prog w = .ok (.agg (bytesV (tab 6 f)).toArray) w := by
  have := run_loadVar_row (P := Tryd.prog) w A 63 63 _ _ _ h Tryd.underlying63 rfl (by rw [size_six]; simp [bytesV_length, tab_length])
  simp only [Instr.loadAt, Instr.sureAddr, Sem.run_bind, Sem.run_pure, Result.andThen_ok, this]
theorem wpList_load_arr {ops : Array Oper} {rest : List Oper} {op : Oper} {a : Act} {w : World} {Q : Exit → Act → World → Prop} (hgd : op.guard = none) (x : Operand) (ho : op.op = .load 63 x)
    (A : Nat) (hx : a.eval x = .pointer (some ⟨A, 0, none⟩)) {f : Nat → Nat} (h : Arr w A 63 6 f)
    (hk : wpList Tryd.prog ops Q rest (a.put op.dst (.agg (bytesV (tab 6 f)).toArray)) w) : wpList Tryd.prog ops Q (op :: rest) a w :=
  wpList_load_row hgd 63 x ho A hx 63 _ _ _ h Tryd.underlying63 rfl (by rw [size_six]; simp [bytesV_length, tab_length]) hk
theorem store_arr {w : World} {C : Nat} {f g : Nat → Nat} (h : Arr w C 63 6 g) : (storeVar 63 ⟨C, 0, none⟩ (.agg (bytesV (tab 6 f)).toArray)).run Tryd.prog w = .ok () (w.setRow C (bytesV (tab 6 f)).toArray) :=
  run_storeVar_row w C 63 63 _ _ h (by rw [size_six]; simp [bytesV_length, tab_length]) (by simp [bytesV_length, tab_length]) (all_oneCell_toArray (bytesV_one _))
theorem Arr.laid {w : World} {C : Nat} {f g : Nat → Nat} (h : Arr w C 63 6 g) : Arr (w.setRow C (bytesV (tab 6 f)).toArray) C 63 6 f := setRow_heap w C _ _ _ _ h
theorem same_either {y z : Sec} {k : Nat} {s : St} (h : s.read k = y ∨ s.read k = z) : ¬ (¬ s.read k = y ∧ ¬ s.read k = z) := fun ⟨a, b⟩ => h.elim a b
set_option maxHeartbeats 8000000 in
set_option maxRecDepth 100000 in
theorem tears_any (v0 v1 : Value) (l more : List Ak) (bits : Nat) (w : World) (hT : Typ w) (hA : SlA w.heap.size w v0 l) (hA2 : SlA w.heap.size w v1 more) (hok : ∀ q ∈ l, q.Ok) (hok2 : ∀ q ∈ more, q.Ok) (hbits : bits < 18446744073709551616) :
    Calls Tryd.prog 5 #[v0, v1, .int .u64 (bits : Int)] w (Bit true w) := by
  have HT := Lib.hid hT
  have HOK := Lib.hid (fun k (hk : k < l.length) => asks_ok hok hk)
  have HOK2 := Lib.hid (fun k (hk : k < more.length) => asks_ok hok2 hk)
  obtain ⟨a, cap, rfl⟩ := hA.len
  obtain ⟨a2, cap2, rfl⟩ := hA2.len
  have HA := Lib.hid hA
  have HA2 := Lib.hid hA2
  have HN := Lib.hid (show Calls Tryd.prog 10 #[.int .i64 6] w (NewDisk 6 w) from new_yes 6 w (by omega) (by omega))
  clear hT hA hA2 hok hok2
  go_enter Tryd.func5, Tryd.ntmps5
  go_wp2_with fail
  refine HN.out.mono ?_
  rintro e x0 ⟨d, S, M, rfl, hD, h1, h2, h3, hb⟩
  have HD0 := Lib.hid hD
  have HB0 := Lib.hid hb
  have hl0 := hD.lt
  have hdS : w.heap.size ≤ d ∧ w.heap.size ≤ S ∧ w.heap.size ≤ M := ⟨h1, h2, h3⟩
  have HAN := Lib.hid (Arr.made x0 63 6 _ six_zero)
  have HCN := Lib.hid (Arr.made (x0.alloc (.cells #[.int .u8 0, .int .u8 0, .int .u8 0, .int .u8 0, .int .u8 0, .int .u8 0] 63)) 63 6 _ six_zero)
  have hsz : (x0.alloc (.cells #[.int .u8 0, .int .u8 0, .int .u8 0, .int .u8 0, .int .u8 0, .int .u8 0] 63)).heap.size = x0.heap.size + 1 := by simp
  rw [hsz] at HCN
  have HAD := Lib.hid (show x0.heap.size ≠ d ∧ x0.heap.size ≠ S ∧ x0.heap.size ≠ M by omega)
  have HCD := Lib.hid (show x0.heap.size + 1 ≠ d ∧ x0.heap.size + 1 ≠ S ∧ x0.heap.size + 1 ≠ M by omega)
  have HAC := Lib.hid (show x0.heap.size ≠ x0.heap.size + 1 by omega)
  have HAW := Lib.hid (hb.size)
  have HCW := Lib.hid (show w.heap.size ≤ x0.heap.size + 1 by have := hb.size; omega)
  clear hD hb h1 h2 h3 hl0 hsz
  go_upto_block 0 with (fail)
  generalize hC' : x0.heap.size + 1 = C at *
  generalize hA' : x0.heap.size = A at *
  clear hC' hA'
  go_cut [] (fun wx => CutT1 d S M A C w wx)
  case first =>
    go_wp2_with fail
    go_loopw [11] (fun c wr => RelT1 d S M A C w l.length c wr) (fun c _ => l.length - (RowKit.intOf c).toNat)
    case atStart => exact ⟨0, _, _, Nat.zero_le _, Nat.zero_le _, rfl, (HD0.out.below (one_below _ _)).below (one_below _ _), Has.new (by omega), HAN.out.below (one_below _ _), HCN.out, balloc (balloc HB0.out _) _⟩
    case round =>
      obtain ⟨k, s, f, hk, hk20, rfl, hD, hH, hR, hC, hb⟩ := hrel
      have HD := Lib.hid hD
      have HH := Lib.hid hH
      have HR := Lib.hid hR
      have HC := Lib.hid hC
      have HB := Lib.hid hb
      by_cases hlt : k < l.length
      · by_cases hlt20 : k < 20
        · obtain ⟨b, o, rfl, hbl, hq⟩ := HA.out.at_ (wr := wr) (fun b hb' => hb.block b hb') hlt
          have hqo := HOK.out k hlt
          generalize l.getD k a0 = q at hq hqo
          have HQ := Lib.hid hq
          have c1 := hq.i
          have c3 := hq.x
          have i1 : (k : Int) < l.length := by omega
          have i2 : (0 : Int) ≤ k := by omega
          have i3 : (k : Int) < 20 := by omega
          clear hq hD hb hH hR hC
          go_wp2_with fail
          refine (within_int q.i 0 5 _ (by omega) (by omega) (by omega)).mono ?_
          rintro e w' ⟨n0, ⟨hn1, hn2⟩, rfl, rfl⟩
          obtain ⟨n, rfl⟩ := Int.eq_ofNat_of_zero_le hn1
          have hn3 : n < 6 := by omega
          clear hn1 hn2
          go_wp2_with fail
          refine (sector_any q.x hqo.x _).mono ?_
          rintro e x1 ⟨v1, rfl, hv1, hb1⟩
          have HB1 := Lib.hid (HB.out.trans (hb1.mono HB.out.size))
          have HD1 := Lib.hid (HD.out.below hb1)
          have HR_1 := Lib.hid (HR.out.below hb1)
          have HC_1 := Lib.hid (HC.out.below hb1)
          have HQ_1 := Lib.hid (HQ.out.keep (w' := x1) (hb1.block b HQ.out.lt))
          clear hb1
          have HV1_0 := Lib.hid hv1
          clear hv1
          have HWR := Lib.hid (show Calls Tryd.prog 11 #[.pointer (some ⟨d, 0, none⟩), .int .i64 (n : Int), v1] x1 (NextD d S M (s.write n (secL q.x)) .nilIface x1) from write_yes x1 HD1.out HH.out.dead n v1 (secL q.x) (by rw [HH.out.num]; exact hn3) HV1_0.out.slb (secL_length q.x))
          go_wp2_with fail
          refine (HWR.out).mono ?_
          rintro e x2 ⟨rfl, hD2, hG2⟩
          have HB2 := Lib.hid (HB1.out.trans (hG2.below HB1.out.size hdS.1 hdS.2.1 hdS.2.2))
          have HD2 := Lib.hid hD2
          have HR_2 := Lib.hid (HR_1.out.chg HAD.out.1 HAD.out.2.1 HAD.out.2.2 hG2)
          have HC_2 := Lib.hid (HC_1.out.chg HCD.out.1 HCD.out.2.1 HCD.out.2.2 hG2)
          have HQ_2 := Lib.hid (HQ_1.out.keep (w' := x2) (hG2.block b HQ_1.out.lt (by omega) (by omega) (by omega)))
          clear hD2 hG2
          have c3 := HQ_2.out.x
          obtain ⟨v9, hv9⟩ : ∃ v, x2.cell? ⟨A, n, none⟩ = some v := ⟨_, HR_2.out.cell HH.out.lt hn3⟩
          have hf9 := HR_2.out.frozen n
          have HX3 := Lib.hid (HR_2.out.set (k := n) hqo.x)
          have HY3 := Lib.hid (HC_2.out.keep (w' := x2.setCell ⟨A, n, none⟩ (.int .u8 (q.x : Int))) (heap_setCell_other _ _ _ _ (HAC.out.symm)))
          have HD3 := Lib.hid (HD2.out.keep (w' := x2.setCell ⟨A, n, none⟩ (.int .u8 (q.x : Int))) (heap_setCell_other _ _ _ _ (fun e => HAD.out.1 e.symm)) (heap_setCell_other _ _ _ _ (fun e => HAD.out.2.1 e.symm)) (heap_setCell_other _ _ _ _ (fun e => HAD.out.2.2 e.symm)))
          have HB3 := Lib.hid (HB2.out.setCell (p := ⟨A, n, none⟩) HAW.out (.int .u8 (q.x : Int)))
          clear c1
          go_wp2_with fail
          go_roundw
          case rel => exact ⟨k + 1, _, _, by omega, by omega, by go_num, HD3.out, HH.out.write hn3 hqo.x, HX3.out, HY3.out, HB3.out⟩
          case measure => simp [RowKit.intOf]; omega
        · have i1 : (k : Int) < l.length := by omega
          have i2 : ¬ (k : Int) < 20 := by omega
          clear hD hb hH hR hC
          go_wp2_with fail
          go_meet
          exact ⟨s, f, HD.out, HH.out, HR.out, HC.out, HB.out⟩
      · have i1 : ¬ (k : Int) < l.length := by omega
        clear hD hb hH hR hC
        go_wp2_with fail
        go_meet
        exact ⟨s, f, HD.out, HH.out, HR.out, HC.out, HB.out⟩
  case rest =>
    obtain ⟨s, f, hD, hH, hR, hC, hb⟩ := hcut
    have HDC := Lib.hid hD
    have HH := Lib.hid hH
    have HR := Lib.hid hR
    have HC := Lib.hid hC
    have HBC := Lib.hid hb
    clear hD hH hR hC hb HN HD0 HB0 HAN HCN
    go_wp2_with fail
    have HFL := Lib.hid (flush_yes wc HDC.out HH.out.dead)
    refine HFL.out.mono ?_
    rintro e x1 ⟨rfl, hD1, hG1⟩
    have HB1 := Lib.hid (HBC.out.trans (hG1.below HBC.out.size hdS.1 hdS.2.1 hdS.2.2))
    have HR1 := Lib.hid (HR.out.chg HAD.out.1 HAD.out.2.1 HAD.out.2.2 hG1)
    have HC1 := Lib.hid (HC.out.chg HCD.out.1 HCD.out.2.1 HCD.out.2.2 hG1)
    have HC2 := Lib.hid (HC1.out.laid (f := f))
    have HR2 := Lib.hid (HR1.out.keep (w' := x1.setRow C (bytesV (tab 6 f)).toArray) (setRow_other x1 C A _ HAC.out))
    have HD2 := Lib.hid (hD1.keep (w' := x1.setRow C (bytesV (tab 6 f)).toArray) (setRow_other x1 C d _ HCD.out.1.symm) (setRow_other x1 C S _ HCD.out.2.1.symm) (setRow_other x1 C M _ HCD.out.2.2.symm))
    have HB2 := Lib.hid (show Below w.heap.size w (x1.setRow C (bytesV (tab 6 f)).toArray) from ⟨HB1.out.os, HB1.out.tape, HB1.out.output, by rw [size_setRow]; exact HB1.out.size, fun k hk => (setRow_other x1 C k _ (by have := HCW.out; omega)).trans (HB1.out.block k hk)⟩)
    have HS := Lib.hid HH.out.stored
    have HH2 := Lib.hid HH.out.flush
    have HST := Lib.hid (store_arr (f := f) HC1.out)
    generalize s.flush = t at *
    clear hD1 hG1
    go_upto_block 2 with (first
      | (refine wpList_load_arr rfl _ rfl A rfl HR1.out ?_)
      | (refine wpList_store_run rfl 63 _ _ rfl _ _ rfl rfl HST.out ?_)
      | fail)
    generalize x1.setRow C (bytesV (tab 6 f)).toArray = x2 at *
    go_cut [] (fun wx => CutT2 d S M A C f w wx)
    case first =>
      go_wp2_with fail
      go_loopw [13] (fun c wr => RelT2 d S M A C f w more.length c wr) (fun c _ => more.length - (RowKit.intOf c).toNat)
      case atStart => exact ⟨0, _, _, Nat.zero_le _, Nat.zero_le _, rfl, HD2.out, HS.out, HH2.out, HR2.out, HC2.out, HB2.out⟩
      case round =>
        obtain ⟨k, s, g, hk, hk20, rfl, hD, hS, hH, hR, hC, hb⟩ := hrel
        have HD := Lib.hid hD
        have HS := Lib.hid hS
        have HH := Lib.hid hH
        have HR := Lib.hid hR
        have HC := Lib.hid hC
        have HB := Lib.hid hb
        by_cases hlt : k < more.length
        · by_cases hlt20 : k < 20
          · obtain ⟨b, o, rfl, hbl, hq⟩ := HA2.out.at_ (wr := wr) (fun b hb' => hb.block b hb') hlt
            have hqo := HOK2.out k hlt
            generalize more.getD k a0 = q at hq hqo
            have HQ := Lib.hid hq
            have c1 := hq.i
            have c3 := hq.x
            have i1 : (k : Int) < more.length := by omega
            have i2 : (0 : Int) ≤ k := by omega
            have i3 : (k : Int) < 20 := by omega
            clear hq hD hb hH hR hC hS
            go_wp2_with fail
            refine (within_int q.i 0 5 _ (by omega) (by omega) (by omega)).mono ?_
            rintro e w' ⟨n0, ⟨hn1, hn2⟩, rfl, rfl⟩
            obtain ⟨n, rfl⟩ := Int.eq_ofNat_of_zero_le hn1
            have hn3 : n < 6 := by omega
            clear hn1 hn2
            go_wp2_with fail
            refine (sector_any q.x hqo.x _).mono ?_
            rintro e x51 ⟨v51, rfl, hv51, hb51⟩
            have HB51 := Lib.hid (HB.out.trans (hb51.mono HB.out.size))
            have HD51 := Lib.hid (HD.out.below hb51)
            have HR_51 := Lib.hid (HR.out.below hb51)
            have HC_51 := Lib.hid (HC.out.below hb51)
            have HQ_51 := Lib.hid (HQ.out.keep (w' := x51) (hb51.block b HQ.out.lt))
            clear hb51
            have HV51_0 := Lib.hid hv51
            clear hv51
            have HWR := Lib.hid (show Calls Tryd.prog 11 #[.pointer (some ⟨d, 0, none⟩), .int .i64 (n : Int), v51] x51 (NextD d S M (s.write n (secL q.x)) .nilIface x51) from write_yes x51 HD51.out HH.out.dead n v51 (secL q.x) (by rw [HH.out.num]; exact hn3) HV51_0.out.slb (secL_length q.x))
            go_wp2_with fail
            refine (HWR.out).mono ?_
            rintro e x52 ⟨rfl, hD52, hG52⟩
            have HB52 := Lib.hid (HB51.out.trans (hG52.below HB51.out.size hdS.1 hdS.2.1 hdS.2.2))
            have HD52 := Lib.hid hD52
            have HR_52 := Lib.hid (HR_51.out.chg HAD.out.1 HAD.out.2.1 HAD.out.2.2 hG52)
            have HC_52 := Lib.hid (HC_51.out.chg HCD.out.1 HCD.out.2.1 HCD.out.2.2 hG52)
            have HQ_52 := Lib.hid (HQ_51.out.keep (w' := x52) (hG52.block b HQ_51.out.lt (by omega) (by omega) (by omega)))
            clear hD52 hG52
            have c3 := HQ_52.out.x
            obtain ⟨v9, hv9⟩ : ∃ v, x52.cell? ⟨C, n, none⟩ = some v := ⟨_, HC_52.out.cell HH.out.lt hn3⟩
            have hf9 := HC_52.out.frozen n
            have HX3 := Lib.hid (HC_52.out.set (k := n) hqo.x)
            have HY3 := Lib.hid (HR_52.out.keep (w' := x52.setCell ⟨C, n, none⟩ (.int .u8 (q.x : Int))) (heap_setCell_other _ _ _ _ (HAC.out)))
            have HD3 := Lib.hid (HD52.out.keep (w' := x52.setCell ⟨C, n, none⟩ (.int .u8 (q.x : Int))) (heap_setCell_other _ _ _ _ (fun e => HCD.out.1 e.symm)) (heap_setCell_other _ _ _ _ (fun e => HCD.out.2.1 e.symm)) (heap_setCell_other _ _ _ _ (fun e => HCD.out.2.2 e.symm)))
            have HB3 := Lib.hid (HB52.out.setCell (p := ⟨C, n, none⟩) HCW.out (.int .u8 (q.x : Int)))
            clear c1
            go_wp2_with fail
            go_roundw
            case rel => exact ⟨k + 1, _, _, by omega, by omega, by go_num, HD3.out, HS.out.write hn3, HH.out.write hn3 hqo.x, HY3.out, HX3.out, HB3.out⟩
            case measure => simp [RowKit.intOf]; omega
          · have i1 : (k : Int) < more.length := by omega
            have i2 : ¬ (k : Int) < 20 := by omega
            clear hD hb hH hR hC hS
            go_wp2_with fail
            go_meet
            exact ⟨s, g, HD.out, HS.out, HH.out, HR.out, HC.out, HB.out⟩
        · have i1 : ¬ (k : Int) < more.length := by omega
          clear hD hb hH hR hC hS
          go_wp2_with fail
          go_meet
          exact ⟨s, g, HD.out, HS.out, HH.out, HR.out, HC.out, HB.out⟩
    case rest =>
      obtain ⟨u, g, hD, hS, hH, hR, hC, hb⟩ := hcut
      have HDC := Lib.hid hD
      have HU := Lib.hid hS
      have HG := Lib.hid hH
      have HR := Lib.hid hR
      have HC := Lib.hid hC
      have HBC := Lib.hid hb
      clear hD hS hH hR hC hb
      have hks : u.ks.length ≤ 6 := by have := u.ks_length; rw [HU.out.num] at this; exact this
      have HWT := Lib.hid (waits_any wc HDC.out)
      generalize hkl : u.ks = ks at HWT hks
      clear hkl
      go_wp2_with fail
      refine (HWT.out).mono ?_
      rintro e x101 ⟨v101, rfl, ho101, hb101⟩
      obtain ⟨ga101, ca101, rfl, -⟩ := own_slice ho101
      clear ho101
      have HB101 := Lib.hid (HBC.out.trans (hb101.mono HBC.out.size))
      have HD101 := Lib.hid (HDC.out.below hb101)
      have HR_101 := Lib.hid (HR.out.below hb101)
      have HC_101 := Lib.hid (HC.out.below hb101)
      clear hb101
      have HCR := Lib.hid (show Calls Tryd.prog 13 #[.pointer (some ⟨d, 0, none⟩), .int .u64 (bits : Int)] x101 (NextD d S M (u.crash bits) (.tuple #[]) x101) from crash_any x101 HD101.out bits hbits)
      go_wp2_with fail
      refine (HCR.out).mono ?_
      rintro e x102 ⟨rfl, hD102, hG102⟩
      have HB102 := Lib.hid (HB101.out.trans (hG102.below HB101.out.size hdS.1 hdS.2.1 hdS.2.2))
      have HD102 := Lib.hid hD102
      have HR_102 := Lib.hid (HR_101.out.chg HAD.out.1 HAD.out.2.1 HAD.out.2.2 hG102)
      have HC_102 := Lib.hid (HC_101.out.chg HCD.out.1 HCD.out.2.1 HCD.out.2.2 hG102)
      clear hD102 hG102
      have HEI := Lib.hid (show ∀ k, k < 6 → (u.crash bits).read k = secL (f k) ∨ (u.crash bits).read k = secL (g k) from fun k hk => (St.crash_either HU.out.ok bits k).imp (fun e => e.trans (HU.out.st k hk)) (fun e => e.trans (HG.out.read k hk)))
      have HN6 := Lib.hid (show (u.crash bits).n = 6 from (crashed_n u bits).trans HU.out.num)
      have HDD := Lib.hid (show (u.crash bits).dead = false from (crashed_dead u bits).trans HU.out.dead)
      have HWT2 := Lib.hid (waits_any x102 HD102.out)
      rw [St.crash_ks] at HWT2
      have HLF := Lib.hid HU.out.lt
      have HLG := Lib.hid HG.out.lt
      generalize u.crash bits = t at *
      go_wp2_with fail
      refine (HWT2.out).mono ?_
      rintro e x103 ⟨v103, rfl, ho103, hb103⟩
      obtain ⟨ga103, ca103, rfl, -⟩ := own_slice ho103
      clear ho103
      have HB103 := Lib.hid (HB102.out.trans (hb103.mono HB102.out.size))
      have HD103 := Lib.hid (HD102.out.below hb103)
      have HR_103 := Lib.hid (HR_102.out.below hb103)
      have HC_103 := Lib.hid (HC_102.out.below hb103)
      clear hb103
      have i9 : (ks.length : Int) ≤ 6 := by omega
      go_wp2_with fail
      go_loopw [16] (fun c wr => RelT3 d S M A C t f g w c wr) (fun c _ => 6 - (RowKit.intOf c).toNat)
      case atStart => exact ⟨0, by omega, rfl, HD103.out, HR_103.out, HC_103.out, HB103.out⟩
      case round =>
        obtain ⟨m, hm, rfl, hDm, hRm, hCm, hbm⟩ := hrel
        have HDm := Lib.hid hDm
        have HRm := Lib.hid hRm
        have HCm := Lib.hid hCm
        have HBm := Lib.hid hbm
        clear hDm hRm hCm hbm
        by_cases hlt4 : m < 6
        · have hi1 : (m : Int) < 6 := by omega
          have HL301 := Lib.hid HDm.out.lt
          have HR301 := Lib.hid (show Calls Tryd.prog 14 #[.pointer (some ⟨d, 0, none⟩), .int .i64 (m : Int)] wr (Reads (t.read m) wr) from read_yes wr HDm.out HDD.out m (by rw [HN6.out]; exact hlt4))
          go_wp2_with fail
          refine (HR301.out).mono ?_
          rintro e x301 ⟨v301, rfl, hv301, hb301⟩
          have HB301 := Lib.hid (HBm.out.trans (hb301.mono HBm.out.size))
          have HD301 := Lib.hid (HDm.out.below hb301)
          have HR_301 := Lib.hid (HRm.out.below hb301)
          have HC_301 := Lib.hid (HCm.out.below hb301)
          clear hb301
          have HV301_0 := Lib.hid hv301
          clear hv301
          have HE := Lib.hid (HEI.out m hlt4)
          have HLN := Lib.hid (show (t.read m).length = 128 by rcases HE.out with e | e <;> rw [e] <;> exact secL_length _)
          have hcm := HR_301.out.cell HLF.out hlt4
          have hfm := HLF.out m
          have hgm := HLG.out m
          have HFE := Lib.hid (show f m = f m from rfl)
          generalize f m = y at hcm hfm HE
          clear HFE
          generalize t.read m = rd at *
          go_wp2_with fail
          refine (sector_any y hfm _).mono ?_
          rintro e x302 ⟨v302, rfl, hv302, hb302⟩
          have HB302 := Lib.hid (HB301.out.trans (hb302.mono HB301.out.size))
          have HD302 := Lib.hid (HD301.out.below hb302)
          have HV301_302 := Lib.hid (HV301_0.out.below hb302)
          have HR_302 := Lib.hid (HR_301.out.below hb302)
          have HC_302 := Lib.hid (HC_301.out.below hb302)
          clear hb302
          have HV302_0 := Lib.hid hv302
          clear hv302
          have HS303 := Lib.hid (same_bytes x302.heap.size v301 v302 rd (secL y) x302 HV301_302.out.slb HV302_0.out.slb (Nat.le_refl _) (by rw [HLN.out]; omega))
          by_cases hyy : rd = secL y
          · rw [decide_eq_true hyy] at HS303
            clear hyy
            go_wp2_with fail
            refine (HS303.out).mono ?_
            rintro e x303 ⟨rfl, hb303⟩
            have HB303 := Lib.hid (HB302.out.trans (hb303.mono HB302.out.size))
            have HD303 := Lib.hid (HD302.out.below hb303)
            have HR_303 := Lib.hid (HR_302.out.below hb303)
            have HC_303 := Lib.hid (HC_302.out.below hb303)
            clear hb303
            go_wp2_with fail
            go_roundw
            case rel => exact ⟨m + 1, by omega, by go_num, HD303.out, HR_303.out, HC_303.out, HB303.out⟩
            case measure => simp [RowKit.intOf]; omega
          · rw [decide_eq_false hyy] at HS303
            have hzz : rd = secL (g m) := HE.out.resolve_left hyy
            clear hyy
            go_wp2_with fail
            refine (HS303.out).mono ?_
            rintro e x303 ⟨rfl, hb303⟩
            have HB303 := Lib.hid (HB302.out.trans (hb303.mono HB302.out.size))
            have HD303 := Lib.hid (HD302.out.below hb303)
            have HV301_303 := Lib.hid (HV301_302.out.below hb303)
            have HR_303 := Lib.hid (HR_302.out.below hb303)
            have HC_303 := Lib.hid (HC_302.out.below hb303)
            clear hb303
            have hcc2 := HC_303.out.cell HLG.out hlt4
            go_wp2_with fail
            refine (sector_any (g m) hgm _).mono ?_
            rintro e x304 ⟨v304, rfl, hv304, hb304⟩
            have HB304 := Lib.hid (HB303.out.trans (hb304.mono HB303.out.size))
            have HD304 := Lib.hid (HD303.out.below hb304)
            have HV301_304 := Lib.hid (HV301_303.out.below hb304)
            have HR_304 := Lib.hid (HR_303.out.below hb304)
            have HC_304 := Lib.hid (HC_303.out.below hb304)
            clear hb304
            have HV304_0 := Lib.hid hv304
            clear hv304
            have HS305 := Lib.hid (same_bytes x304.heap.size v301 v304 rd (secL (g m)) x304 HV301_304.out.slb HV304_0.out.slb (Nat.le_refl _) (by rw [HLN.out]; omega))
            rw [decide_eq_true hzz] at HS305
            clear hzz
            go_wp2_with fail
            refine (HS305.out).mono ?_
            rintro e x305 ⟨rfl, hb305⟩
            have HB305 := Lib.hid (HB304.out.trans (hb305.mono HB304.out.size))
            have HD305 := Lib.hid (HD304.out.below hb305)
            have HR_305 := Lib.hid (HR_304.out.below hb305)
            have HC_305 := Lib.hid (HC_304.out.below hb305)
            clear hb305
            go_wp2_with fail
            go_roundw
            case rel => exact ⟨m + 1, by omega, by go_num, HD305.out, HR_305.out, HC_305.out, HB305.out⟩
            case measure => simp [RowKit.intOf]; omega
        · obtain rfl : m = 6 := by omega
          go_wp2_with fail
          refine (disk_runs wr (HT.out.below HBm.out)).mono ?_
          rintro e x401 ⟨rfl, hb401⟩
          have HB401 := Lib.hid (HBm.out.trans (hb401.mono HBm.out.size))
          have HD401 := Lib.hid (HDm.out.below hb401)
          clear hb401
          go_wp2_with fail
          go_ret
          exact ⟨rfl, HB401.out⟩
end Go.Proofs.YtfhkccldgbgelaaDoor
