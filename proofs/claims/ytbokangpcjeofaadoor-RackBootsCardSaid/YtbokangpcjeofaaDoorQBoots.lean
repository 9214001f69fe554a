/-
  stavelaw8.RackBoots: the walk.
-/
import Derived.Test.YtbokangpcjeofaaDoorQRuns
import Derived.Test.YtbokangpcjeofaaDoorWithinI
import Derived.Test.YtbokangpcjeofaaDoorSameB
import Derived.Test.YtbokangpcjeofaaDoorOpenU
namespace Go.Proofs.YtbokangpcjeofaaDoor
open Go.RowKit Go.Deep Dk Qk Go.Maps Hf
/-! ### one disk -/
def bA : Nat → St
  | 0 => new 4
  | m + 1 => (bA m).write m (secL m)
def bB (y : Nat) : Nat → St
  | 0 => (bA 4).flush
  | m + 1 => (bB y m).write (m + 1) (secL y)
theorem bA_n : ∀ m, (bA m).n = 4
  | 0 => rfl
  | m + 1 => bA_n m
theorem bA_dead : ∀ m, (bA m).dead = false
  | 0 => rfl
  | m + 1 => bA_dead m
theorem bB_n (y : Nat) : ∀ m, (bB y m).n = 4
  | 0 => (St.stores_n _ _).trans (bA_n 4)
  | m + 1 => bB_n y m
theorem bB_dead (y : Nat) : ∀ m, (bB y m).dead = false
  | 0 => (St.stores_dead _ _).trans (bA_dead 4)
  | m + 1 => bB_dead y m
theorem fin_ks (y : Nat) : (bB y 3).ks = [1, 2, 3] := rfl
theorem picks3 (b : Nat) (s : Nat) (h1 : 1 ≤ s) (h3 : s ≤ 3) : (s ∈ picks b [1, 2, 3] 3) = (bitOf b (s - 1) = true) := by
  have e : picks b [1, 2, 3] 3 = (if bitOf b 0 then [1] else []) ++ (if bitOf b 1 then [2] else []) ++ (if bitOf b 2 then [3] else []) := by
    rw [picks_succ, picks_succ, picks_succ, picks_zero]
    cases bitOf b 0 <;> cases bitOf b 1 <;> cases bitOf b 2 <;> rfl
  rw [e]
  have h : s = 1 ∨ s = 2 ∨ s = 3 := by omega
  rcases h with rfl | rfl | rfl
  · show _ = (bitOf b 0 = true)
    cases bitOf b 0 <;> cases bitOf b 1 <;> cases bitOf b 2 <;> simp
  · show _ = (bitOf b 1 = true)
    cases bitOf b 0 <;> cases bitOf b 1 <;> cases bitOf b 2 <;> simp
  · show _ = (bitOf b 2 = true)
    cases bitOf b 0 <;> cases bitOf b 1 <;> cases bitOf b 2 <;> simp
theorem picks0 (b : Nat) : ¬ 0 ∈ picks b [1, 2, 3] 3 := by
  rw [picks_succ, picks_succ, picks_succ, picks_zero]
  cases bitOf b 0 <;> cases bitOf b 1 <;> cases bitOf b 2 <;> decide
/-- What sector s has behind the boot. -/
def bWant (y b s : Nat) : Nat := if 0 < s ∧ bitOf b (s - 1) = true then y else s
theorem bA_flush_st {s : Nat} (h : s < 4) : ((bA 4).flush).st s = secL s := by
  have h' : s = 0 ∨ s = 1 ∨ s = 2 ∨ s = 3 := by omega
  rcases h' with rfl | rfl | rfl | rfl <;> rfl
theorem bB_st (y : Nat) : ∀ m, (bB y m).st = ((bA 4).flush).st
  | 0 => rfl
  | m + 1 => bB_st y m
theorem fin_read (y b s : Nat) (h : s < 4) : ((bB y 3).crash b).read s = secL (bWant y b s) := by
  show ((bB y 3).crash b).st s = _
  rw [St.crash_st, fin_ks, show [1, 2, 3].length = 3 from rfl]
  unfold bWant
  by_cases h0 : 0 < s
  · by_cases hb : bitOf b (s - 1) = true
    · rw [if_pos (by rw [picks3 b s (by omega) (by omega)]; exact hb), if_pos ⟨h0, hb⟩]
      have h' : s = 1 ∨ s = 2 ∨ s = 3 := by omega
      rcases h' with rfl | rfl | rfl <;> rfl
    · rw [if_neg (by rw [picks3 b s (by omega) (by omega)]; exact hb), if_neg (fun e => hb e.2), bB_st, bA_flush_st h]
  · obtain rfl : s = 0 := by omega
    rw [if_neg (picks0 b), if_neg (fun e => h0 e.1), bB_st, bA_flush_st h]
/-! ### the rack -/
def bR (k d y : Nat) (t : St) : Rk := ⟨k, 4, fun j => if j < d then bB y 3 else if j = d then t else new 4, false, -1⟩
theorem bR_spent (k d y : Nat) (t : St) : (bR k d y t).spent = bR k d y t := rfl
theorem bR_turn (k d y : Nat) (t t' : St) : (bR k d y t).turn d t' = bR k d y t' := by
  unfold bR Rk.turn
  have : upd (fun j => if j < d then bB y 3 else if j = d then t else new 4) d t' = fun j => if j < d then bB y 3 else if j = d then t' else new 4 := by
    funext j
    by_cases e : j = d
    · subst e; rw [upd_same, if_neg (by omega), if_pos rfl]
    · rw [upd_other _ _ e]
      by_cases h : j < d
      · rw [if_pos h, if_pos h]
      · rw [if_neg h, if_neg h, if_neg e, if_neg e]
  show Rk.mk _ _ (upd _ d t') _ _ = _
  rw [this]
theorem bR_next (k d y : Nat) : bR k d y (bB y 3) = bR k (d + 1) y (new 4) := by
  unfold bR
  have : (fun j => if j < d then bB y 3 else if j = d then bB y 3 else new 4) = fun j => if j < d + 1 then bB y 3 else if j = d + 1 then new 4 else new 4 := by
    funext j
    by_cases h : j < d
    · rw [if_pos h, if_pos (by omega)]
    · rw [if_neg h]
      by_cases e : j = d
      · rw [if_pos e, if_pos (by omega)]
      · rw [if_neg e, if_neg (by omega)]; split <;> rfl
  rw [this]
theorem bR_start (k y : Nat) : newRk k 4 = bR k 0 y (new 4) := by
  unfold bR newRk
  have : (fun _ : Nat => new 4) = fun j => if j < 0 then bB y 3 else if j = 0 then new 4 else new 4 := by
    funext j; rw [if_neg (by omega)]; split <;> rfl
  rw [this]
theorem bR_at (k d y : Nat) (t : St) : (bR k d y t).s d = t := by
  show (if d < d then bB y 3 else if d = d then t else new 4) = t
  rw [if_neg (by omega), if_pos rfl]
theorem bR_write {k d y m : Nat} {t : St} {l : Sec} (hd : d < k) (ht : t.dead = false) (hm : m < 4) (hl : l.length = 128) :
    (bR k d y t).write (d : Int) (m : Int) l = bR k d y (t.write m l) ∧ (bR k d y t).wcode (d : Int) (m : Int) l.length = 0 := by
  obtain ⟨e1, e2⟩ := write_goes (q := bR k d y t) (i := (d : Int)) (sec := (m : Int)) (l := l) (ready_ok (show d < k from hd) rfl (by rw [bR_at]; exact ht)) ⟨by omega, by show (m : Int) < (4 : Nat); omega, hl⟩ (show ¬ (-1 : Int) = 0 by decide)
  refine ⟨e1.trans ?_, e2⟩
  rw [bR_spent, Int.toNat_natCast, Int.toNat_natCast, bR_at, bR_turn]
theorem bR_flush {k d y : Nat} {t : St} (hd : d < k) (ht : t.dead = false) :
    (bR k d y t).flush (d : Int) = bR k d y t.flush ∧ (bR k d y t).fcode (d : Int) = 0 := by
  obtain ⟨e1, e2⟩ := flush_goes (q := bR k d y t) (i := (d : Int)) (ready_ok (show d < k from hd) rfl (by rw [bR_at]; exact ht)) (show ¬ (-1 : Int) = 0 by decide)
  refine ⟨e1.trans ?_, e2⟩
  rw [bR_spent, Int.toNat_natCast, bR_at, bR_turn]
/-- Behind the boot. -/
def bE (k y : Nat) (bits : Nat → Nat) : Rk := (bR k k y (new 4)).boot bits
theorem bE_s {k y d : Nat} (bits : Nat → Nat) (hd : d < k) : (bE k y bits).s d = (bB y 3).crash (bits d) := by
  show (if d < k then (if d < k then bB y 3 else if d = k then new 4 else new 4).crash (bits d) else _) = _
  rw [if_pos hd, if_pos hd]
theorem bE_read {k y d s : Nat} (bits : Nat → Nat) (hd : d < k) (hs : s < 4) : qval (bE k y bits) (d : Int) (s : Int) = secL (bWant y (bits d) s) ∧ qrcode (bE k y bits) (d : Int) (s : Int) = 0 := by
  have hn : ((bE k y bits).s d).n = 4 := by rw [bE_s bits hd]; exact (St.stores_n _ _).trans (bB_n y 3)
  have h := qval_at (q := bE k y bits) (i := d) (k := s) (show d < k from hd) rfl (by rw [bE_s bits hd]; exact (St.stores_dead _ _).trans (bB_dead y 3)) (by rw [hn]; exact hs)
  refine ⟨h.1.trans ?_, h.2⟩
  rw [bE_s bits hd, fin_read y _ s hs]
theorem bE_write {k y : Nat} (bits : Nat → Nat) (h1 : 1 ≤ k) {l : Sec} (hl : l.length = 128) : (bE k y bits).wcode 0 0 l.length = 0 := by
  have hd : ((bE k y bits).s 0).dead = false := by rw [bE_s bits (by omega)]; exact (St.stores_dead _ _).trans (bB_dead y 3)
  exact (write_goes (q := bE k y bits) (i := ((0 : Nat) : Int)) (sec := 0) (l := l) (ready_ok (i := 0) (show 0 < k by omega) rfl hd) ⟨by decide, (by show (0 : Int) < (4 : Nat); decide), hl⟩ (show ¬ (-1 : Int) = 0 by decide)).2
def RelB1 (k y : Nat) (w0 : World) (c : Lc) (ci : Value) (wr : World) : Prop := ∃ d : Nat, d ≤ k ∧ ci = .int .i64 d ∧ QS w0 c (bR k d y (new 4)) wr
def RelB2 (k d y : Nat) (w0 : World) (c : Lc) (ci : Value) (wr : World) : Prop := ∃ m : Nat, m ≤ 4 ∧ ci = .int .i64 m ∧ QS w0 c (bR k d y (bA m)) wr
def RelB3 (k d y : Nat) (w0 : World) (c : Lc) (ci : Value) (wr : World) : Prop := ∃ m : Nat, m ≤ 3 ∧ ci = .int .i64 ((m + 1 : Nat) : Int) ∧ QS w0 c (bR k d y (bB y m)) wr
def RelB4 (k y : Nat) (bits : Nat → Nat) (w0 : World) (c : Lc) (ci : Value) (wr : World) : Prop := ∃ d : Nat, d ≤ k ∧ ci = .int .i64 d ∧ QS w0 c (bE k y bits) wr
def RelB5 (k y : Nat) (bits : Nat → Nat) (w0 : World) (c : Lc) (ci : Value) (wr : World) : Prop := ∃ m : Nat, m ≤ 4 ∧ ci = .int .i64 m ∧ QS w0 c (bE k y bits) wr
set_option maxHeartbeats 16000000 in
set_option maxRecDepth 100000 in
theorem boots_any (n : Int) (v0 : Value) (l : List Nat) (x : Nat) (w : World) (hT : Typ w) (hA : SlU w.heap.size w v0 l) (hl : ∀ i, i < l.length → l.getD i 0 < 18446744073709551616) (hx : x < 256) : Calls Tryd.prog 5 #[.int .i64 n, v0, .int .u8 (x : Int)] w (Bit true w) := by
  have HT := Lib.hid hT
  obtain ⟨a, cap, rfl⟩ := hA.len
  have HA := Lib.hid hA
  have HL := Lib.hid hl
  have hor : Go.bits .or .u8 (x : Int) 128 = ((x ||| 128 : Nat) : Int) := u8_or_nat x 128 hx (by omega)
  have hy : x ||| 128 < 256 := Nat.or_lt_two_pow (n := 8) hx (by omega)
  generalize x ||| 128 = y at hor hy
  clear hT hA hl
  go_enter Tryd.func5, Tryd.ntmps5
  go_wp2_with fail
  refine (within_int n 1 5 w (by omega) (by omega) (by omega)).mono ?_
  rintro e w' ⟨kk, ⟨hk1, hk2⟩, rfl, rfl⟩
  obtain ⟨k, rfl⟩ := Int.eq_ofNat_of_zero_le (show 0 ≤ kk by omega)
  have HK := Lib.hid (show 1 ≤ k ∧ k ≤ 5 by omega)
  have hk5 : k ≤ 5 := by omega
  have HN := Lib.hid (show Calls Tryd.prog 7 #[.int .i64 (k : Int), .int .i64 4] w (QNew w k 4) from qs_new k 4 w (by omega) (by omega) (by omega) (by omega))
  clear hk1 hk2
  go_wp2_with fail
  refine HN.out.mono ?_
  rintro e w1 ⟨c, rfl, h1⟩
  rw [bR_start k y] at h1
  have H1 := Lib.hid h1
  clear h1
  go_wp2_with fail
  go_loopw [10] (fun ci wr => RelB1 k y w c ci wr) (fun ci _ => k - (RowKit.intOf ci).toNat)
  case atStart => exact ⟨0, Nat.zero_le _, rfl, H1.out⟩
  case round =>
    obtain ⟨d, hd, rfl, hqs⟩ := hrel
    have HS1 := Lib.hid hqs
    clear hqs
    by_cases hlt : d < k
    · go_wp2_with fail
      go_loopw [11] (fun ci wr => RelB2 k d y w c ci wr) (fun ci _ => 4 - (RowKit.intOf ci).toNat)
      case atStart => exact ⟨0, Nat.zero_le _, rfl, HS1.out⟩
      case round =>
        obtain ⟨m, hm, rfl, hqs⟩ := hrel
        have HS2 := Lib.hid hqs
        clear hqs
        by_cases hlt2 : m < 4
        · have HV := Lib.hid (sector_any m (by omega) wr)
          go_wp2_with fail
          refine HV.out.mono ?_
          rintro e w3 ⟨v3, rfl, hv3, hb3⟩
          obtain ⟨e1, e2⟩ := bR_write (k := k) (d := d) (y := y) (m := m) (t := bA m) (l := secL m) hlt (bA_dead m) hlt2 (secL_length m)
          have HW := Lib.hid ((HS2.out.below hb3).write (d : Int) (m : Int) v3 (secL m) hv3.slb)
          rw [e1, e2, evs_zero] at HW
          clear e1 e2 hv3 hb3
          go_wp2_with fail
          refine HW.out.mono ?_
          rintro e w4 ⟨rfl, h4, _⟩
          have H4 := Lib.hid h4
          clear h4
          go_wp2_with fail
          go_roundw
          case rel => exact ⟨m + 1, by omega, by go_num, H4.out⟩
          case measure => simp [RowKit.intOf]; omega
        · obtain rfl : m = 4 := by omega
          obtain ⟨e1, e2⟩ := bR_flush (k := k) (d := d) (y := y) (t := bA 4) hlt (bA_dead 4)
          have HF := Lib.hid (HS2.out.flush (d : Int))
          rw [e1, e2, evs_zero] at HF
          clear e1 e2
          go_wp2_with fail
          refine HF.out.mono ?_
          rintro e w4 ⟨rfl, h4, _⟩
          have H4 := Lib.hid (show QS w c (bR k d y (bB y 0)) w4 from h4)
          clear h4
          go_wp2_with fail
          go_loopw [12] (fun ci wr => RelB3 k d y w c ci wr) (fun ci _ => 4 - (RowKit.intOf ci).toNat)
          case atStart => exact ⟨0, Nat.zero_le _, rfl, H4.out⟩
          case round =>
            obtain ⟨m, hm, rfl, hqs⟩ := hrel
            have HS3 := Lib.hid hqs
            clear hqs
            by_cases hlt3 : m < 3
            · have HV := Lib.hid (sector_any y hy wr)
              go_wp2_with fail
              refine HV.out.mono ?_
              rintro e w5 ⟨v5, rfl, hv5, hb5⟩
              obtain ⟨e1, e2⟩ := bR_write (k := k) (d := d) (y := y) (m := m + 1) (t := bB y m) (l := secL y) hlt (bB_dead y m) (by omega) (secL_length y)
              have HW := Lib.hid ((HS3.out.below hb5).write (d : Int) ((m + 1 : Nat) : Int) v5 (secL y) hv5.slb)
              rw [e1, e2, evs_zero] at HW
              clear e1 e2 hv5 hb5
              go_wp2_with fail
              refine HW.out.mono ?_
              rintro e w6 ⟨rfl, h6, _⟩
              have H6 := Lib.hid h6
              clear h6
              go_wp2_with fail
              go_roundw
              case rel => exact ⟨m + 1, by omega, by go_num, H6.out⟩
              case measure => simp [RowKit.intOf]; omega
            · obtain rfl : m = 3 := by omega
              have H7 := Lib.hid (show QS w c (bR k (d + 1) y (new 4)) wr from HS3.out.congr (bR_next k d y))
              go_wp2_with fail
              go_roundw
              case rel => exact ⟨d + 1, by omega, by go_num, H7.out⟩
              case measure => simp [RowKit.intOf]; omega
    · obtain rfl : d = k := by omega
      have HB := Lib.hid (HS1.out.boot (.slice a l.length cap) l ((HA.out.below HS1.out.base).wider HS1.out.le) HL.out)
      go_wp2_with fail
      refine HB.out.mono ?_
      rintro e w8 ⟨rfl, h8, _⟩
      have H8 := Lib.hid (show QS w c (bE d y fun i => l.getD i 0) w8 from h8)
      clear h8
      go_wp2_with fail
      go_loopw [13] (fun ci wr => RelB4 d y (fun i => l.getD i 0) w c ci wr) (fun ci _ => d - (RowKit.intOf ci).toNat)
      case atStart => exact ⟨0, Nat.zero_le _, rfl, H8.out⟩
      case round =>
        obtain ⟨j, hj, rfl, hqs⟩ := hrel
        have HS4 := Lib.hid hqs
        clear hqs
        by_cases hlt4 : j < d
        · by_cases hb : j < l.length
          · have hb' : (j : Int) < l.length := by omega
            obtain ⟨b, o, cap', e, cb⟩ := ((HA.out.below HS4.out.base).wider HS4.out.le).num hb
            injection e with e _ e2
            subst e e2
            have HBJ := Lib.hid (HL.out j hb)
            generalize hbt0 : l.getD j 0 = bt at *
            have HBE := Lib.hid hbt0
            clear hbt0
            go_wp2_with fail
            go_loopw [15] (fun ci wr => RelB5 d y (fun i => l.getD i 0) w c ci wr) (fun ci _ => 4 - (RowKit.intOf ci).toNat)
            case atStart => exact ⟨0, Nat.zero_le _, rfl, HS4.out⟩
            case round =>
              obtain ⟨m, hm, rfl, hqs⟩ := hrel
              have HS5 := Lib.hid hqs
              clear hqs
              by_cases hlt5 : m < 4
              · by_cases hm0 : m = 0
                · have hm1 : ¬ 0 < m := by omega
                  have HW := Lib.hid (show bWant y ((fun i => l.getD i 0) j) m = m from if_neg (fun e => by omega))
                  clear hm0
                  obtain ⟨e1, e2⟩ := bE_read (k := d) (y := y) (d := j) (s := m) (fun i => l.getD i 0) hlt4 hlt5
                  have HRD := Lib.hid (HS5.out.read (j : Int) (m : Int))
                  unfold ReadQ at HRD
                  rw [rerr_good e2, e1, HW.out] at HRD
                  clear e1 e2
                  go_wp2_with fail
                  refine HRD.out.mono ?_
                  rintro e w10 ⟨v10, rfl, hv10, hb10⟩
                  have H10 := Lib.hid (HS5.out.below hb10)
                  have HV10 := Lib.hid hv10
                  clear hv10 hb10
                  go_wp2_with fail
                  refine (sector_any m (by omega) w10).mono ?_
                  rintro e w11 ⟨v11, rfl, hv11, hb11⟩
                  have H11 := Lib.hid (H10.out.below hb11)
                  have HSM := Lib.hid (show Calls Tryd.prog 21 #[v10, v11] w11 (Bit true w11) by
                      have := same_bytes w11.heap.size v10 v11 (secL m) (secL m) w11 ((HV10.out.below hb11).wider hb11.size) hv11.slb (Nat.le_refl _) (by rw [secL_length]; omega)
                      rwa [decide_eq_true rfl] at this)
                  clear hv11 hb11
                  go_wp2_with fail
                  refine HSM.out.mono ?_
                  rintro e w12 ⟨rfl, hb12⟩
                  have H12 := Lib.hid (H11.out.below hb12)
                  clear hb12
                  go_wp2_with fail
                  go_roundw
                  case rel => exact ⟨m + 1, by omega, by go_num, H12.out⟩
                  case measure => simp [RowKit.intOf]; omega
                · skip
                  have hm1 : 0 < m := by omega
                  have hm2 : m - 1 < 64 := by omega
                  have hbt : (Go.bits .and .u64 (((bt : Nat) : Int) / 2 ^ (m - 1)) 1 == 1) = bitOf bt (m - 1) := by
                    have := bit_test bt (m - 1) HBJ.out
                    rwa [Nat.mod_eq_of_lt hm2] at this
                  cases hB : bitOf bt (m - 1) with
                  | true =>
                    rw [hB] at hbt
                    have HW := Lib.hid (show bWant y ((fun i => l.getD i 0) j) m = y by show bWant y (l.getD j 0) m = _; rw [HBE.out]; exact if_pos ⟨by omega, hB⟩)
                    clear hm0 hm2
                    clear hB
                    obtain ⟨e1, e2⟩ := bE_read (k := d) (y := y) (d := j) (s := m) (fun i => l.getD i 0) hlt4 hlt5
                    have HRD := Lib.hid (HS5.out.read (j : Int) (m : Int))
                    unfold ReadQ at HRD
                    rw [rerr_good e2, e1, HW.out] at HRD
                    clear e1 e2
                    go_wp2_with fail
                    refine HRD.out.mono ?_
                    rintro e w10 ⟨v10, rfl, hv10, hb10⟩
                    have H10 := Lib.hid (HS5.out.below hb10)
                    have HV10 := Lib.hid hv10
                    clear hv10 hb10
                    go_wp2_with fail
                    refine (sector_any y hy w10).mono ?_
                    rintro e w11 ⟨v11, rfl, hv11, hb11⟩
                    have H11 := Lib.hid (H10.out.below hb11)
                    have HSM := Lib.hid (show Calls Tryd.prog 21 #[v10, v11] w11 (Bit true w11) by
                        have := same_bytes w11.heap.size v10 v11 (secL y) (secL y) w11 ((HV10.out.below hb11).wider hb11.size) hv11.slb (Nat.le_refl _) (by rw [secL_length]; omega)
                        rwa [decide_eq_true rfl] at this)
                    clear hv11 hb11
                    go_wp2_with fail
                    refine HSM.out.mono ?_
                    rintro e w12 ⟨rfl, hb12⟩
                    have H12 := Lib.hid (H11.out.below hb12)
                    clear hb12
                    go_wp2_with fail
                    go_roundw
                    case rel => exact ⟨m + 1, by omega, by go_num, H12.out⟩
                    case measure => simp [RowKit.intOf]; omega
                  | false =>
                    rw [hB] at hbt
                    have HW := Lib.hid (show bWant y ((fun i => l.getD i 0) j) m = m by show bWant y (l.getD j 0) m = _; rw [HBE.out]; exact if_neg (fun e => by have := e.2; rw [hB] at this; cases this))
                    clear hm0 hm2
                    clear hB
                    obtain ⟨e1, e2⟩ := bE_read (k := d) (y := y) (d := j) (s := m) (fun i => l.getD i 0) hlt4 hlt5
                    have HRD := Lib.hid (HS5.out.read (j : Int) (m : Int))
                    unfold ReadQ at HRD
                    rw [rerr_good e2, e1, HW.out] at HRD
                    clear e1 e2
                    go_wp2_with fail
                    refine HRD.out.mono ?_
                    rintro e w10 ⟨v10, rfl, hv10, hb10⟩
                    have H10 := Lib.hid (HS5.out.below hb10)
                    have HV10 := Lib.hid hv10
                    clear hv10 hb10
                    go_wp2_with fail
                    refine (sector_any m (by omega) w10).mono ?_
                    rintro e w11 ⟨v11, rfl, hv11, hb11⟩
                    have H11 := Lib.hid (H10.out.below hb11)
                    have HSM := Lib.hid (show Calls Tryd.prog 21 #[v10, v11] w11 (Bit true w11) by
                        have := same_bytes w11.heap.size v10 v11 (secL m) (secL m) w11 ((HV10.out.below hb11).wider hb11.size) hv11.slb (Nat.le_refl _) (by rw [secL_length]; omega)
                        rwa [decide_eq_true rfl] at this)
                    clear hv11 hb11
                    go_wp2_with fail
                    refine HSM.out.mono ?_
                    rintro e w12 ⟨rfl, hb12⟩
                    have H12 := Lib.hid (H11.out.below hb12)
                    clear hb12
                    go_wp2_with fail
                    go_roundw
                    case rel => exact ⟨m + 1, by omega, by go_num, H12.out⟩
                    case measure => simp [RowKit.intOf]; omega
              · obtain rfl : m = 4 := by omega
                go_wp2_with fail
                go_roundw
                case rel => exact ⟨j + 1, by omega, by go_num, HS5.out⟩
                case measure => simp [RowKit.intOf]; omega
          · have hb' : ¬ (j : Int) < l.length := by omega
            have HBE := Lib.hid (show l.getD j 0 = 0 by simp [List.getD]; rw [List.getElem?_eq_none (by omega)]; rfl)
            go_wp2_with fail
            go_loopw [15] (fun ci wr => RelB5 d y (fun i => l.getD i 0) w c ci wr) (fun ci _ => 4 - (RowKit.intOf ci).toNat)
            case atStart => exact ⟨0, Nat.zero_le _, rfl, HS4.out⟩
            case round =>
              obtain ⟨m, hm, rfl, hqs⟩ := hrel
              have HS5 := Lib.hid hqs
              clear hqs
              by_cases hlt5 : m < 4
              · by_cases hm0 : m = 0
                · have hm1 : ¬ 0 < m := by omega
                  have HW := Lib.hid (show bWant y ((fun i => l.getD i 0) j) m = m from if_neg (fun e => by omega))
                  clear hm0
                  obtain ⟨e1, e2⟩ := bE_read (k := d) (y := y) (d := j) (s := m) (fun i => l.getD i 0) hlt4 hlt5
                  have HRD := Lib.hid (HS5.out.read (j : Int) (m : Int))
                  unfold ReadQ at HRD
                  rw [rerr_good e2, e1, HW.out] at HRD
                  clear e1 e2
                  go_wp2_with fail
                  refine HRD.out.mono ?_
                  rintro e w10 ⟨v10, rfl, hv10, hb10⟩
                  have H10 := Lib.hid (HS5.out.below hb10)
                  have HV10 := Lib.hid hv10
                  clear hv10 hb10
                  go_wp2_with fail
                  refine (sector_any m (by omega) w10).mono ?_
                  rintro e w11 ⟨v11, rfl, hv11, hb11⟩
                  have H11 := Lib.hid (H10.out.below hb11)
                  have HSM := Lib.hid (show Calls Tryd.prog 21 #[v10, v11] w11 (Bit true w11) by
                      have := same_bytes w11.heap.size v10 v11 (secL m) (secL m) w11 ((HV10.out.below hb11).wider hb11.size) hv11.slb (Nat.le_refl _) (by rw [secL_length]; omega)
                      rwa [decide_eq_true rfl] at this)
                  clear hv11 hb11
                  go_wp2_with fail
                  refine HSM.out.mono ?_
                  rintro e w12 ⟨rfl, hb12⟩
                  have H12 := Lib.hid (H11.out.below hb12)
                  clear hb12
                  go_wp2_with fail
                  go_roundw
                  case rel => exact ⟨m + 1, by omega, by go_num, H12.out⟩
                  case measure => simp [RowKit.intOf]; omega
                · skip
                  have hm1 : 0 < m := by omega
                  have hm2 : m - 1 < 64 := by omega
                  have hbt : (Go.bits .and .u64 ((0 : Int) / 2 ^ (m - 1)) 1 == 1) = false := by rw [Int.zero_ediv]; decide
                  have HW := Lib.hid (show bWant y ((fun i => l.getD i 0) j) m = m by show bWant y (l.getD j 0) m = _; rw [HBE.out]; exact if_neg (fun e => by have := e.2; simp [bitOf] at this))
                  clear hm0 hm2
                  obtain ⟨e1, e2⟩ := bE_read (k := d) (y := y) (d := j) (s := m) (fun i => l.getD i 0) hlt4 hlt5
                  have HRD := Lib.hid (HS5.out.read (j : Int) (m : Int))
                  unfold ReadQ at HRD
                  rw [rerr_good e2, e1, HW.out] at HRD
                  clear e1 e2
                  go_wp2_with fail
                  refine HRD.out.mono ?_
                  rintro e w10 ⟨v10, rfl, hv10, hb10⟩
                  have H10 := Lib.hid (HS5.out.below hb10)
                  have HV10 := Lib.hid hv10
                  clear hv10 hb10
                  go_wp2_with fail
                  refine (sector_any m (by omega) w10).mono ?_
                  rintro e w11 ⟨v11, rfl, hv11, hb11⟩
                  have H11 := Lib.hid (H10.out.below hb11)
                  have HSM := Lib.hid (show Calls Tryd.prog 21 #[v10, v11] w11 (Bit true w11) by
                      have := same_bytes w11.heap.size v10 v11 (secL m) (secL m) w11 ((HV10.out.below hb11).wider hb11.size) hv11.slb (Nat.le_refl _) (by rw [secL_length]; omega)
                      rwa [decide_eq_true rfl] at this)
                  clear hv11 hb11
                  go_wp2_with fail
                  refine HSM.out.mono ?_
                  rintro e w12 ⟨rfl, hb12⟩
                  have H12 := Lib.hid (H11.out.below hb12)
                  clear hb12
                  go_wp2_with fail
                  go_roundw
                  case rel => exact ⟨m + 1, by omega, by go_num, H12.out⟩
                  case measure => simp [RowKit.intOf]; omega
              · obtain rfl : m = 4 := by omega
                go_wp2_with fail
                go_roundw
                case rel => exact ⟨j + 1, by omega, by go_num, HS5.out⟩
                case measure => simp [RowKit.intOf]; omega
        · obtain rfl : j = d := by omega
          have HSV := Lib.hid (sector_any x hx wr)
          have HO := Lib.hid (show Calls Tryd.prog 14 #[.pointer (some ⟨c.r, 0, none⟩)] wr (BitSame false wr) from HS4.out.off)
          go_wp2_with (first
            | (go_at_call 14; refine HO.out.mono ?_; rintro e w' ⟨rfl, rfl⟩)
            | (go_at_call 12; refine HSV.out.mono ?_; rintro e w20 ⟨v20, rfl, hv20, hb20⟩; have HW := Lib.hid ((HS4.out.below hb20).write 0 0 v20 (secL x) hv20.slb); rw [bE_write _ HK.out.1 (secL_length x), evs_zero] at HW; clear hv20 hb20)
            | (go_at_call 11; refine HW.out.mono ?_; rintro e w21 ⟨rfl, h21, _⟩; have H21 := Lib.hid h21; have HRR := Lib.hid (rack_runs w21 (HT.out.below h21.base)); clear h21)
            | (go_at_call 3; refine HRR.out.mono ?_; rintro e w22 ⟨rfl, hb22⟩))
          go_ret
          exact bit rfl (H21.out.below hb22).base
end Go.Proofs.YtbokangpcjeofaaDoor
