/-
  stavelaw3.GfTwice: the walk.
-/
import Derived.Test.YtdpjbemhgcdeoaaFAdds
import Derived.Test.YtdpjbemhgcdeoaaTwoApp
namespace Go.Proofs.Ytdpjbemhgcdeoaa
open Go.RowKit Go.Deep Gf
def CutTwice (w1 : World) (n : Nat) (s13 s14 : Value) (wx : World) : Prop := ∃ l1 : List UInt8, l1.length = n ∧ Twin w1 s13 s14 l1 l1 wx
theorem run_min_4 {P : Program} (w : World) (ts : Array TypeId) (t : TypeId) (a b c d n : Nat) (h : n = min (min (min a b) c) d) :
    (Builtin.min_ ts t #[.int .i64 (a : Int), .int .i64 (b : Int), .int .i64 (c : Int), .int .i64 (d : Int)]).run P w = .ok (.int .i64 (n : Int)) w := by
  have e : (n : Int) = if (d : Int) < (if (c : Int) < (if (b : Int) < a then (b : Int) else a) then (c : Int) else (if (b : Int) < a then (b : Int) else a)) then (d : Int) else (if (c : Int) < (if (b : Int) < a then (b : Int) else a) then (c : Int) else (if (b : Int) < a then (b : Int) else a)) := by
    repeat' split
    all_goals omega
  rw [e]
  simp [Builtin.min_, Builtin.min2]
theorem own_ne {w : World} {B e n k : Nat} {v : Value} {xs : List Value} (h : w.ownsRow B e 1 v n xs) (hk : k < B) : v.ownBlock ≠ some k := fun e' => by have := (own_block h e').1; omega
/-- The first k sums, noughts behind them. -/
def sumL (la lb : List UInt8) (n k : Nat) : List UInt8 := (xorB la lb).take k ++ List.replicate (n - k) 0
theorem xorB_length {la lb : List UInt8} {n : Nat} (ha : la.length = n) (hb : lb.length = n) : (xorB la lb).length = n := by simp [xorB, ha, hb]
theorem sumL_set {la lb : List UInt8} {n k : Nat} (ha : la.length = n) (hb : lb.length = n) (hk : k < n) :
    (bytesV (sumL la lb n k)).set k (.int .u8 (((la.getD k 0).toNat ^^^ (lb.getD k 0).toNat : Nat) : Int)) = bytesV (sumL la lb n (k + 1)) := by
  have hx := xorB_length ha hb
  obtain ⟨j, hj⟩ : ∃ j, n - k = j + 1 := ⟨n - k - 1, by omega⟩
  have hj' : n - (k + 1) = j := by omega
  have hke : (xorB la lb)[k]'(by omega) = la.getD k 0 ^^^ lb.getD k 0 := by
    have h1 : k < la.length := by omega
    have h2 : k < lb.length := by omega
    simp [xorB, List.getD, h1, h2]
  have e1 : sumL la lb n k = (xorB la lb).take k ++ 0 :: List.replicate j 0 := by unfold sumL; rw [hj, List.replicate_succ]
  have e2 : sumL la lb n (k + 1) = (xorB la lb).take k ++ (la.getD k 0 ^^^ lb.getD k 0) :: List.replicate j 0 := by
    unfold sumL; rw [hj', List.take_succ_eq_append_getElem (by omega), hke, List.append_assoc]; rfl
  have e3 : (bytesV ((xorB la lb).take k)).length = k := by rw [bytesV_length, List.length_take]; omega
  rw [e1, e2, bytesV_append, bytesV_append]
  conv => lhs; arg 2; rw [← e3]
  rw [List.set_append_right _ _ (Nat.le_refl _), Nat.sub_self]
  show _ ++ (Value.int .u8 _) :: _ = _ ++ (Value.int .u8 (la.getD k 0 ^^^ lb.getD k 0).toNat) :: _
  rw [UInt8.toNat_xor]
theorem sum_start (w5 : World) (la lb : List UInt8) (n : Nat) (_ha : la.length = n) (_hb : lb.length = n) (hn : n ≤ 30) :
    (w5.alloc (.cells (madeCells #[.int .u8 0] n) 5)).ownsRow w5.heap.size 5 1 (.slice (some ⟨w5.heap.size, 0, none⟩) n n) n (bytesV (sumL la lb n 0)) := by
  have := own_new w5 w5.heap.size (madeCells #[.int .u8 0] n) 5 1 n (Nat.le_refl _) (by rw [size_madeCells]; omega) (by unfold maxLen; omega)
  rwa [made_u8, show List.replicate n 0 = sumL la lb n 0 by simp [sumL]] at this
def RelSum (w5 : World) (la lb : List UInt8) (n : Nat) (i : Value) (wr : World) : Prop :=
  ∃ k : Nat, k ≤ n ∧ i = .int .i64 k ∧ wr.ownsRow w5.heap.size 5 1 (.slice (some ⟨w5.heap.size, 0, none⟩) n n) n (bytesV (sumL la lb n k)) ∧ Below w5.heap.size w5 wr
set_option maxHeartbeats 2000000 in
set_option maxRecDepth 100000 in
theorem twice_any (tv av bv : Value) (ts as_ bs : List UInt8) (x y : Nat) (w : World) (ht : SlB w.heap.size w tv ts) (ha : SlB w.heap.size w av as_) (hb : SlB w.heap.size w bv bs) (hx : x < 256) (hy : y < 256) (hlt : ts.length ≤ maxLen) (hla : as_.length ≤ maxLen) (hlb : bs.length ≤ maxLen) :
    Calls Try.prog 9 #[tv, av, bv, .int .u8 x, .int .u8 y] w (Bit true w) := by
  unfold maxLen at hlt hla hlb
  have HT := Lib.hid ht
  have HA := Lib.hid ha
  have HB := Lib.hid hb
  obtain ⟨a1, cap1, rfl, hc1⟩ := ht.len
  obtain ⟨a2, cap2, rfl, hc2⟩ := ha.len
  obtain ⟨a3, cap3, rfl, hc3⟩ := hb.len
  clear ht ha hb
  go_enter Try.func9, Try.ntmps9
  go_wp2_with fail
  go_at_call 10
  refine (make_any _).mono ?_
  rintro e w1 ⟨rfl, hF, hz, hbl⟩
  have HF := Lib.hid hF
  have HZ := Lib.hid hz
  clear hF hz
  obtain ⟨n, hn⟩ : ∃ n, n = min (min (min ts.length as_.length) bs.length) 30 := ⟨_, rfl⟩
  have hmin : (Builtin.min_ #[3, 3, 3, 3] 3 #[.int .i64 ts.length, .int .i64 as_.length, .int .i64 bs.length, .int .i64 30]).run Try.prog w1 = .ok (.int .i64 n) w1 := run_min_4 w1 _ _ ts.length as_.length bs.length 30 n hn
  have n1 : n ≤ ts.length := by omega
  have n2 : n ≤ as_.length := by omega
  have n3 : n ≤ bs.length := by omega
  have n4 : n ≤ 30 := by omega
  clear hn
  have HT1 := Lib.hid (slb_take (HT.out.below hbl) n1)
  have HA1 := Lib.hid (slb_take (HA.out.below hbl) n2)
  have HB1 := Lib.hid (slb_take (HB.out.below hbl) n3)
  have HSRC := Lib.hid (show ∀ o : Obj, SlB w.heap.size (w1.alloc o).drew (.slice a1 n cap1) (ts.take n) from fun o => SlB.mono HT1.out (fun b o' hb => (one_below w1 o).cell (p := ⟨b, o', none⟩) (by have := HZ.out; show b < _; omega)))
  have HTW := Lib.hid (HT1.out.wider (show w.heap.size ≤ w1.heap.size by have := HZ.out; omega))
  have i1 : (n : Int) ≤ cap1 := by omega
  have i0 : (0 : Int) ≤ n := by omega
  go_upto_region 5 with fail
  go_cut [13, 14] (fun s13 s14 wx => CutTwice w1 n s13 s14 wx)
  case first =>
    go_region_held3 (fun w' => Below w1.heap.size w1 w') (repeat (first | assumption | exact Below.refl _ _ | apply Below.drew | apply below_drewN | apply balloc)) (first
      | (refine step_append_bytes (o := ⟨some 36, _, _, _, _, _⟩) _ rfl (.tmp 32) (.tmp 35) (by rfl) w1.heap.size _ 0 [] (by rfl) ?_ w1.heap.size _ (ts.take n) (by rfl) ?_ ?_ ?_ ?_; exact (empty_new w1.heap.size w2 _ (H131.out.below.size) (by rfl)); exact HTW.out.below (by (repeat (first | assumption | exact Below.refl _ _ | apply Below.drew | apply below_drewN | apply balloc))); (first | omega | (simp only [List.length_take]; omega)); exact Below.size (B := w1.heap.size) (w := w1) (by (repeat (first | assumption | exact Below.refl _ _ | apply Below.drew | apply below_drewN | apply balloc))); intro v3 w3 hown hg; have hC := twin_of (one_push H131.out (.cells #[] 5) (by rfl) (by (repeat (first | assumption | exact Below.refl _ _ | apply Below.drew | apply below_drewN | apply balloc)))) (empty_new w1.heap.size w2 _ H131.out.below.size (by rfl)) (one_ne H131.out) hown hg; have hb3 := hC.below; have HC := Lib.hid hC; clear hown hg hC)
      | (refine step_append_bytes (o := ⟨some 36, _, _, _, _, _⟩) _ rfl (.tmp 32) (.tmp 35) (by rfl) w1.heap.size _ 0 [] (by rfl) ?_ w1.heap.size _ (ts.take n) (by rfl) ?_ ?_ ?_ ?_; exact HE31.out.1; exact HTW.out.below (by (repeat (first | assumption | exact Below.refl _ _ | apply Below.drew | apply below_drewN | apply balloc))); (first | omega | (simp only [List.length_take]; omega)); exact Below.size (B := w1.heap.size) (w := w1) (by (repeat (first | assumption | exact Below.refl _ _ | apply Below.drew | apply below_drewN | apply balloc))); intro v3 w3 hown hg; have hC := twin_of H131.out HE31.out.1 HE31.out.2 hown hg; have hb3 := hC.below; have HC := Lib.hid hC; clear hown hg hC)
      | (refine step_append_bytes (o := ⟨some 31, _, _, _, _, _⟩) _ rfl (.tmp 27) (.tmp 30) (by rfl) w1.heap.size _ 0 [] (by rfl) ?_ w1.heap.size _ (ts.take n) (by rfl) ?_ ?_ ?_ ?_; exact (empty_new w1.heap.size w1 _ (Nat.le_refl _) (by rfl)); exact HTW.out.below (by (repeat (first | assumption | exact Below.refl _ _ | apply Below.drew | apply below_drewN | apply balloc))); (first | omega | (simp only [List.length_take]; omega)); exact Below.size (B := w1.heap.size) (w := w1) (by (repeat (first | assumption | exact Below.refl _ _ | apply Below.drew | apply below_drewN | apply balloc))); intro v2 w2 hown hg; have h1 := one_of (by (repeat (first | assumption | exact Below.refl _ _ | apply Below.drew | apply below_drewN | apply balloc))) (empty_new w1.heap.size w1 _ (Nat.le_refl _) (by rfl)) hown hg; have hb2 := h1.below; have H131 := Lib.hid h1; clear hown hg h1)
      | (refine step_append_bytes (o := ⟨some 31, _, _, _, _, _⟩) _ rfl (.tmp 27) (.tmp 30) (by rfl) w1.heap.size _ 0 [] (by rfl) ?_ w1.heap.size _ (ts.take n) (by rfl) ?_ ?_ ?_ ?_; exact ((empty_new w1.heap.size w1 (w1.alloc (.cells #[] 5)) (Nat.le_refl _) (by rfl)).push (.cells #[] 5) (by rfl)); exact HTW.out.below (by (repeat (first | assumption | exact Below.refl _ _ | apply Below.drew | apply below_drewN | apply balloc))); (first | omega | (simp only [List.length_take]; omega)); exact Below.size (B := w1.heap.size) (w := w1) (by (repeat (first | assumption | exact Below.refl _ _ | apply Below.drew | apply below_drewN | apply balloc))); intro v2 w2 hown hg; have h1 := one_of (by (repeat (first | assumption | exact Below.refl _ _ | apply Below.drew | apply below_drewN | apply balloc))) ((empty_new w1.heap.size w1 (w1.alloc (.cells #[] 5)) (Nat.le_refl _) (by rfl)).push (.cells #[] 5) (by rfl)) hown hg; have hb2 := h1.below; have H131 := Lib.hid h1; have HE31 := Lib.hid (Empty.kept (g := w1.heap.size) (g' := w1.heap.size + 1) (empty_new' w1.heap.size (w1.alloc (.cells #[] 5)) _ (w1.heap.size + 1) (by simp) (by simp) (by rfl)) hg (by omega)); clear hown hg h1)
      | (refine step_append_bytes (o := ⟨some 31, _, _, _, _, _⟩) _ rfl (.tmp 27) (.tmp 30) (by rfl) w1.heap.size _ 0 [] (by rfl) ?_ w1.heap.size _ (ts.take n) (by rfl) ?_ ?_ ?_ ?_; exact (empty_new' w1.heap.size (w1.alloc (.cells #[] 5)) _ (w1.heap.size + 1) (by simp) (by simp) (by rfl)); exact HTW.out.below (by (repeat (first | assumption | exact Below.refl _ _ | apply Below.drew | apply below_drewN | apply balloc))); (first | omega | (simp only [List.length_take]; omega)); exact Below.size (B := w1.heap.size) (w := w1) (by (repeat (first | assumption | exact Below.refl _ _ | apply Below.drew | apply below_drewN | apply balloc))); intro v2 w2 hown hg; have h1 := one_of (by (repeat (first | assumption | exact Below.refl _ _ | apply Below.drew | apply below_drewN | apply balloc))) (empty_new' w1.heap.size (w1.alloc (.cells #[] 5)) _ (w1.heap.size + 1) (by simp) (by simp) (by rfl)) hown hg; have hb2 := h1.below; have H131 := Lib.hid h1; have HE31 := Lib.hid (Empty.kept (g := w1.heap.size + 1) (g' := w1.heap.size) ((empty_new w1.heap.size w1 (w1.alloc (.cells #[] 5)) (Nat.le_refl _) (by rfl)).push (.cells #[] 5) (by rfl)) hg (by omega)); clear hown hg h1)
      )
    all_goals
      go_wp2_with fail
      go_meet
      exact ⟨ts.take n, by rw [List.length_take]; omega, HC.out⟩
  case rest =>
    obtain ⟨l1, hl1, htw⟩ := hcut
    have T0 := Lib.hid htw
    obtain ⟨g13, c13, rfl, hc13⟩ := own_slice htw.fst
    obtain ⟨g14, c14, rfl, hc14⟩ := own_slice htw.snd
    clear htw
    have HL := Lib.hid hl1
    have hl1' : l1.length ≤ 30 := by omega
    have hfb : w.heap.size < w1.heap.size := by have := HZ.out; omega
    have F0 := Lib.hid (HF.out.below hfb T0.out.below)
    obtain ⟨la, hla⟩ : ∃ la, as_.take n = la := ⟨_, rfl⟩
    obtain ⟨lb, hlb'⟩ : ∃ lb, bs.take n = lb := ⟨_, rfl⟩
    have hla1 : la.length = n := by rw [← hla, List.length_take]; omega
    have hlb1 : lb.length = n := by rw [← hlb', List.length_take]; omega
    have HLA := Lib.hid hla1
    have HLB := Lib.hid hlb1
    have HSA := Lib.hid (show SlB w1.heap.size w1 (.slice a2 n cap2) la from by have := HA1.out.wider (B' := w1.heap.size) (by omega); rwa [hla] at this)
    have HSB := Lib.hid (show SlB w1.heap.size w1 (.slice a3 n cap3) lb from by have := HB1.out.wider (B' := w1.heap.size) (by omega); rwa [hlb'] at this)
    have hla2 : la.length ≤ 30 := by omega
    have hlb2 : lb.length ≤ 30 := by omega
    have x1 := u8_xor_nat x y hx hy
    have i2 : (n : Int) ≤ cap2 := by omega
    have i3 : (n : Int) ≤ cap3 := by omega
    clear hla hlb' hla1 hlb1 hl1
    go_wp2_with fail
    go_at_call 20
    refine (add_any w.heap.size w1.heap.size w1.heap.size _ _ l1 la x wc F0.out hx T0.out.fst (HSA.out.below T0.out.below) T0.out.below.size (own_ne T0.out.fst hfb) (by first | omega | (simp only [addB_length]; omega)) (by omega)).mono ?_
    rintro e w2 ⟨rfl, ha, hg⟩
    have T1 := Lib.hid (T0.out.fst_to ha hg)
    have F1 := Lib.hid (F0.out.grew hg (own_ne T0.out.fst hfb))
    clear ha hg
    go_wp2_with fail
    go_at_call 20
    refine (add_any w.heap.size w1.heap.size w1.heap.size _ _ (addB l1 la x) la y w2 F1.out hy T1.out.fst (HSA.out.below T1.out.below) T1.out.below.size (own_ne T1.out.fst hfb) (by first | omega | (simp only [addB_length]; omega)) (by omega)).mono ?_
    rintro e w3 ⟨rfl, ha, hg⟩
    have T2 := Lib.hid (T1.out.fst_to ha hg)
    have F2 := Lib.hid (F1.out.grew hg (own_ne T1.out.fst hfb))
    clear ha hg
    go_wp2_with fail
    go_at_call 20
    refine (add_any w.heap.size w1.heap.size w1.heap.size _ _ l1 la (x ^^^ y) w3 F2.out (xor_lt hx hy) T2.out.snd (HSA.out.below T2.out.below) T2.out.below.size (own_ne T2.out.snd hfb) (by first | omega | (simp only [addB_length]; omega)) (by omega)).mono ?_
    rintro e w4 ⟨rfl, ha, hg⟩
    have T3 := Lib.hid (T2.out.snd_to ha hg)
    have F3 := Lib.hid (F2.out.grew hg (own_ne T2.out.snd hfb))
    clear ha hg
    have hsame : decide (addB (addB l1 la x) la y = addB l1 la (x ^^^ y)) = true := decide_eq_true (addB_two l1 la x y hx hy)
    have HSAME := Lib.hid hsame
    clear hsame
    go_wp2_with fail
    go_at_call 21
    refine (same_bytes w4.heap.size _ _ (addB (addB l1 la x) la y) (addB l1 la (x ^^^ y)) w4 (by have := slb_own T3.out.fst; simpa only [addB_length] using this) (by have := slb_own T3.out.snd; simpa only [addB_length] using this) (Nat.le_refl _) (by simp only [addB_length]; omega)).mono ?_
    rw [HSAME.out]
    rintro e w5 ⟨rfl, hb5⟩
    have T4 := Lib.hid (T3.out.below_ hb5)
    have F4 := Lib.hid (F3.out.below (by have := T3.out.below.size; omega) hb5)
    clear hb5
    obtain ⟨i0, hi0, hz0, hz1, hz2⟩ := info_u8
    have hbig : i0.bytes * n ≤ 281474976710656 := by rw [hz2]; omega
    have hmk := run_make_row (P := Try.prog) 33 5 i0 (.int .u8 0) Try.underlying33 hi0 hz0 hz1 rfl .i64 .i64 n hbig (by omega) w5
    clear hi0 hz0 hz1 hz2 hbig
    have HN5 := Lib.hid (sum_start w5 la lb n HLA.out HLB.out (by omega))
    go_wp2_with fail
    go_loopw [68] (fun i wr => RelSum w5 la lb n i wr) (fun i _ => n - (intOf i).toNat)
    case atStart => exact ⟨0, by omega, rfl, HN5.out, one_below _ _⟩
    case round =>
      obtain ⟨k, hk, rfl, hown, hb⟩ := hrel
      have HO := Lib.hid hown
      have HB6 := Lib.hid hb
      clear hown hb
      by_cases hkn : k < n
      · have hka : k < la.length := by rw [HLA.out]; exact hkn
        have hkb : k < lb.length := by rw [HLB.out]; exact hkn
        have hb16 : Below w1.heap.size w1 wr := T4.out.below.trans (HB6.out.mono T4.out.below.size)
        have hsa : SlB w1.heap.size w1 (.slice a2 la.length cap2) la := by rw [HLA.out]; exact HSA.out
        have hsb : SlB w1.heap.size w1 (.slice a3 lb.length cap3) lb := by rw [HLB.out]; exact HSB.out
        obtain ⟨b1, o1, q1, h1, e1⟩ := hsa.byte (Nat.le_refl _) hb16 hka
        obtain ⟨b2, o2, q2, h2, e2⟩ := hsb.byte (Nat.le_refl _) hb16 hkb
        injection h1 with h1 _ h1'
        injection h2 with h2 _ h2'
        subst h1 h1' h2 h2'
        have HS := Lib.hid (sumL_set HLA.out HLB.out hkn)
        have hl1 : (la.getD k 0).toNat < 256 := UInt8.toNat_lt _
        have hl2 : (lb.getD k 0).toNat < 256 := UInt8.toNat_lt _
        have hx1 := u8_xor_nat (la.getD k 0).toNat (lb.getD k 0).toNat hl1 hl2
        have c1 : ∃ u, wr.cell? ⟨w5.heap.size, k, none⟩ = some u := by
          have hlen : k < (bytesV (sumL la lb n k)).length := by rw [bytesV_length]; simp [sumL, xorB_length HLA.out HLB.out]; omega
          exact ⟨_, own_cell HO.out (List.getElem?_eq_getElem hlen)⟩
        obtain ⟨u, c1⟩ := c1
        have c2 := own_frozen HO.out k
        have i4 : (k : Int) < as_.length := by omega
        have i5 : (k : Int) < bs.length := by omega
        clear hsa hsb hb16
        generalize (la.getD k 0).toNat = ak at *
        generalize (lb.getD k 0).toNat = bk at *
        go_wp2_with fail
        go_region
        all_goals
          go_wp2_with fail
          go_roundw
          case rel => exact ⟨k + 1, by omega, by go_num, by have := own_set HO.out k (.int .u8 ((ak ^^^ bk : Nat) : Int)); rwa [HS.out] at this, (HB6.out.setCell (p := ⟨w5.heap.size, k, none⟩) (Nat.le_refl _) _).drew⟩
          case measure => simp [intOf]; omega
      · obtain rfl : k = n := by omega
        have hxl := xorB_length HLA.out HLB.out
        have hse : sumL la lb k k = xorB la lb := by unfold sumL; rw [Nat.sub_self, List.replicate_zero, List.append_nil, List.take_of_length_le (by omega)]
        have HXL := Lib.hid hxl
        have HQ0 := Lib.hid (show wr.ownsRow w5.heap.size 5 1 (.slice (some ⟨w5.heap.size, 0, none⟩) k k) (xorB la lb).length (bytesV (xorB la lb)) by have := HO.out; rw [hse] at this; rwa [hxl])
        clear hxl hse
        have T5 := Lib.hid (T4.out.below_ HB6.out)
        have F5 := Lib.hid (F4.out.below (by have := T4.out.below.size; omega) HB6.out)
        go_wp2_with fail
        go_at_call 20
        refine (add_any w.heap.size w1.heap.size w1.heap.size _ _ (addB (addB l1 la x) la y) lb x wr F5.out hx T5.out.fst (HSB.out.below T5.out.below) T5.out.below.size (own_ne T5.out.fst hfb) (by first | omega | (simp only [addB_length]; omega)) (by first | omega | (rw [HXL.out]; omega))).mono ?_
        rintro e w6 ⟨rfl, ha, hg⟩
        have T6 := Lib.hid (T5.out.fst_to ha hg)
        have F6 := Lib.hid (F5.out.grew hg (own_ne T5.out.fst hfb))
        have HQ1 := Lib.hid (World.ownsRow.kept HQ0.out hg.by_ (own_apart T4.out.fst HO.out (Nat.le_refl _)))
        clear ha hg
        go_wp2_with fail
        go_at_call 20
        refine (add_any w.heap.size w1.heap.size w1.heap.size _ _ (addB (addB (addB l1 la x) la y) lb x) la x w6 F6.out hx T6.out.fst (HSA.out.below T6.out.below) T6.out.below.size (own_ne T6.out.fst hfb) (by first | omega | (simp only [addB_length]; omega)) (by first | omega | (rw [HXL.out]; omega))).mono ?_
        rintro e w7 ⟨rfl, ha, hg⟩
        have T7 := Lib.hid (T6.out.fst_to ha hg)
        have F7 := Lib.hid (F6.out.grew hg (own_ne T6.out.fst hfb))
        have HQ2 := Lib.hid (World.ownsRow.kept HQ1.out hg.by_ (own_apart T4.out.fst HO.out (Nat.le_refl _)))
        clear ha hg
        go_wp2_with fail
        go_at_call 20
        refine (add_any w.heap.size w1.heap.size w7.heap.size _ _ (addB l1 la (x ^^^ y)) (xorB la lb) x w7 F7.out hx T7.out.snd (slb_own HQ2.out) (Nat.le_refl _) (own_ne T7.out.snd hfb) (by first | omega | (simp only [addB_length]; omega)) (by first | omega | (rw [HXL.out]; omega))).mono ?_
        rintro e w8 ⟨rfl, ha, hg⟩
        have T8 := Lib.hid (T7.out.snd_to ha hg)
        have F8 := Lib.hid (F7.out.grew hg (own_ne T7.out.snd hfb))
        clear ha hg
        have hsame : decide (addB (addB (addB (addB l1 la x) la y) lb x) la x = addB (addB l1 la (x ^^^ y)) (xorB la lb) x) = true := decide_eq_true (by rw [addB_two l1 la x y hx hy]; exact addB_sum _ _ _ _ (by rw [HLA.out, HLB.out]))
        have HSAME2 := Lib.hid hsame
        clear hsame
        go_wp2_with fail
        go_at_call 21
        refine (same_bytes w8.heap.size _ _ (addB (addB (addB (addB l1 la x) la y) lb x) la x) (addB (addB l1 la (x ^^^ y)) (xorB la lb) x) w8 (by have := slb_own T8.out.fst; simpa only [addB_length] using this) (by have := slb_own T8.out.snd; simpa only [addB_length] using this) (Nat.le_refl _) (by simp only [addB_length]; omega)).mono ?_
        rw [HSAME2.out]
        rintro e w9 ⟨rfl, hb9⟩
        have HB9 := Lib.hid (T8.out.below.trans (hb9.mono T8.out.below.size))
        clear hb9
        go_wp2_with fail
        go_at_call 3
        refine (runs_any _).mono ?_
        rintro e w10 ⟨rfl, hb10⟩
        go_wp2
        go_ret
        exact bit rfl (bthen (hbl.trans (HB9.out.mono (by omega))) hb10)
end Go.Proofs.Ytdpjbemhgcdeoaa
