/-
  stavelaw14.TapeBack: the walk.
-/
import Derived.Test.YtilljaneegbhlaaGreatPSome
namespace Go.Proofs.YtilljaneegbhlaaGreat
open Go.RowKit Go.Deep Crc Dk Qk Go.Maps Hf
/-- Each entry of these can be in a stripe. -/
def eachB (k : Int) (l : List (List UInt8)) : Bool := l.all fun e => decide (0 < e.length) && decide ((e.length : Int) ≤ 108 * k - 2)
theorem encE_snoc (l : List (List UInt8)) (e : List UInt8) : (encE (l ++ [e])).length = (encE l).length + 2 + e.length := by
  rw [encE, List.flatMap_append, List.length_append, List.flatMap_cons, List.flatMap_nil, List.append_nil, entB_len, ← encE]; omega
theorem eachB_snoc (k : Int) (l : List (List UInt8)) (e : List UInt8) : eachB k (l ++ [e]) = (eachB k l && (decide (0 < e.length) && decide ((e.length : Int) ≤ 108 * k - 2))) := by simp [eachB]
theorem encE_bound {l : List (List UInt8)} {s : Nat} (h : ∀ e ∈ l, e.length ≤ s) : (encE l).length ≤ l.length * (s + 2) := by
  induction l with
  | nil => exact Nat.zero_le _
  | cons e l ih =>
    have h1 := ih fun x hx => h x (List.mem_cons_of_mem _ hx)
    have h2 := h e (List.mem_cons_self ..)
    rw [show encE (e :: l) = entB e ++ encE l from rfl, List.length_append, entB_len, List.length_cons, Nat.add_mul]
    omega
/-- When entries are filled. -/
theorem fill_when (k : Nat) (l : List (List UInt8)) : ((decide (0 < l.length) && eachB k l) = true ∧ (encE l).length ≤ 108 * k) ↔ fillL k l ≠ [] := by
  constructor
  · rintro ⟨h1, h2⟩
    rw [Bool.and_eq_true, eachB, List.all_eq_true] at h1
    refine (fillL_fits (List.length_pos_iff.1 (of_decide_eq_true h1.1)) (fun e he => ?_) h2).2
    have := h1.2 e he
    rw [Bool.and_eq_true] at this
    exact List.length_pos_iff.1 (of_decide_eq_true this.1)
  · intro h
    obtain ⟨_, h2, h3, h4⟩ := fillL_is h
    refine ⟨?_, h3⟩
    rw [Bool.and_eq_true, eachB, List.all_eq_true]
    refine ⟨decide_eq_true (List.length_pos_iff.2 h4), fun e he => ?_⟩
    have := h2 e he
    rw [Bool.and_eq_true]
    exact ⟨decide_eq_true (List.length_pos_iff.2 this.1), decide_eq_true this.2⟩
theorem someL_is (mo : Nat) (ls : List (List UInt8)) : (someL mo ls).length ≤ 6 ∧ ∀ e ∈ someL mo ls, e.length ≤ mo := by
  refine ⟨by unfold someL pieces; rw [tabL_length]; omega, fun e he => ?_⟩
  unfold someL pieces tabL at he
  obtain ⟨i, _, rfl⟩ := List.mem_map.1 he
  rw [piece_length]; omega
def RelBk (k : Int) (es : List (List UInt8)) (w : World) (s f i : Value) (wr : World) : Prop :=
  ∃ m : Nat, m ≤ es.length ∧ i = .int .i64 m ∧ s = .int .i64 ((encE (es.take m)).length : Nat) ∧ f = .bool (decide (0 < es.length) && eachB k (es.take m)) ∧ Below w.heap.size w wr
set_option maxHeartbeats 8000000 in
set_option maxRecDepth 100000 in
theorem tback_any (w : World) (k_ n_ : Int) (v : Value) (ls : List (List UInt8)) (h : SlBs w.heap.size w v ls) (hl : ls.length ≤ maxLen) (hls : ∀ l ∈ ls, l.length ≤ maxLen) :
    Calls Tryz.prog 5 #[.int .i64 k_, .int .i64 n_, v] w (Bit true w) := by
  obtain ⟨a, cap, rfl, hcap⟩ := h.len
  have CX := Lib.hid (fixed_any k_ n_ 2 1 w (by omega) (by omega))
  have CS := Lib.hid (fun w' (hb : Below w.heap.size w w') => some_any w' (.slice a ls.length cap) ls 200 (by omega) ((h.below hb).wider hb.size) hl hls)
  clear h hl hls hcap
  go_enter Tryz.func5, Tryz.ntmps5
  go_wp2_with fail
  refine CX.out.mono ?_
  rintro e w1 ⟨cf, ⟨hok, ht, hs⟩, rfl, hb1⟩
  obtain ⟨id, ck, cn, ct, cs⟩ := cf
  obtain ⟨k, hk⟩ : ∃ k : Nat, ck = k := ⟨ck.toNat, by have := hok.2.1; change 1 ≤ ck at this; omega⟩
  subst hk
  have HK := Lib.hid (show 1 ≤ k ∧ k ≤ 4 by have h1 := hok.2.1; have h2 := hok.2.2.1; change (1 : Int) ≤ (k : Int) at h1; change (k : Int) ≤ 4 at h2; omega)
  obtain ⟨w2, hw2⟩ : ∃ w2, w2 = w1.alloc (.cells (cfA ⟨id, k, cn, ct, cs⟩) 23) := ⟨_, rfl⟩
  have H2 := Lib.hid (show CfB ⟨id, k, cn, ct, cs⟩ w1.heap.size w2 ∧ w1.heap.size < w2.heap.size ∧ Below w.heap.size w w2 by rw [hw2]; exact ⟨cfB_new w1 _, by simp, bthen hb1 (one_below _ _)⟩)
  have hcR : w1.alloc (.cells #[.int .i64 id, .int .i64 k, .int .i64 cn, .int .i64 ct, .int .i64 cs] 23) = w2 := hw2.symm
  have hcf : cfA ⟨id, k, cn, ct, cs⟩ = #[.int .i64 id, .int .i64 k, .int .i64 cn, .int .i64 ct, .int .i64 cs] := rfl
  rw [hcf]
  clear hw2 hb1 hok ht hs CX
  go_wp2_with fail
  clear hcR
  refine (CS.out _ H2.out.2.2).mono ?_
  rintro e w3 ⟨v3, us, rfl, ho3, hb3⟩
  obtain ⟨es, hes⟩ : ∃ es, es = someL 200 ls := ⟨_, rfl⟩
  rw [← hes] at ho3
  have HIS := Lib.hid (show es.length ≤ 6 ∧ ∀ e ∈ es, e.length ≤ 200 by rw [hes]; exact someL_is 200 ls)
  have HO3 := Lib.hid ho3.slbs
  have HB3 := Lib.hid (bthen H2.out.2.2 hb3)
  have HC3 := Lib.hid (CfB.below H2.out.1 H2.out.2.1 hb3)
  have HS3 := Lib.hid (Nat.lt_of_lt_of_le H2.out.2.1 hb3.size)
  obtain ⟨g3, c3, rfl, -⟩ := own_slice ho3.top
  clear ho3 hb3 hes CS H2
  go_wp2_with fail
  go_loopw [9, 10, 24] (fun s f i wr => RelBk k es w3 s f i wr) (fun _ _ i _ => es.length - (intOf i).toNat)
  case atStart =>
    refine ⟨0, Nat.zero_le _, rfl, rfl, ?_, Below.refl _ _⟩
    rw [List.take_zero]
    simp [eachB]
  case round =>
    obtain ⟨m, hm, rfl, rfl, rfl, hB⟩ := hrel
    have HB := Lib.hid hB
    have h6 := HIS.out.1
    by_cases hlt : m < es.length
    · obtain ⟨b1, o1, cap1, u, e1, _, hb1, hu0, hu2⟩ := HO3.out.row hlt
      have hu1 : wr.cell? ⟨b1, o1 + m, none⟩ = some u := (hB.cell (p := ⟨b1, o1 + m, none⟩) hb1).trans hu0
      injection e1 with e1 _ e2
      subst e1 e2
      obtain ⟨au, cu, rfl, hcu⟩ := hu2.len
      have hxl : (es.getD m []).length ≤ 200 := HIS.out.2 _ (by simp [List.getD, hlt])
      have HT := Lib.hid (show es.take (m + 1) = es.take m ++ [es.getD m []] by rw [List.take_succ_eq_append_getElem hlt]; simp [List.getD, hlt])
      have hsz : (encE (es.take m)).length ≤ 1300 := by
        have h1 := encE_bound (l := es.take m) (s := 200) fun e he => HIS.out.2 e (List.mem_of_mem_take he)
        rw [List.length_take] at h1
        have h2 : Nat.min m es.length ≤ 6 := Nat.le_trans (Nat.min_le_right _ _) h6
        have h3 : Nat.min m es.length * 202 ≤ 6 * 202 := Nat.mul_le_mul_right _ h2
        have h4 : min m es.length = Nat.min m es.length := rfl
        omega
      have d1 : wr.cell? ⟨w1.heap.size, 1, none⟩ = some (.int .i64 (k : Int)) := (CfB.below HC3.out HS3.out hB).cell 1
      have hk := HK.out
      generalize hF : (decide (0 < es.length) && eachB k (es.take m)) = F at *
      have HF := Lib.hid hF
      generalize hS : (encE (es.take m)).length = S at *
      have HSS := Lib.hid hS
      clear hB hu0 hu2 hF hS
      have hFn : (decide (0 < es.length) && eachB k (es.take (m + 1))) = (F && (decide (0 < (es.getD m []).length) && decide (((es.getD m []).length : Int) ≤ 108 * (k : Int) - 2))) := by rw [HT.out, eachB_snoc, ← Bool.and_assoc, HF.out]
      have HFN := Lib.hid hFn
      have HSN := Lib.hid (show (encE (es.take (m + 1))).length = S + 2 + (es.getD m []).length by rw [HT.out, encE_snoc, HSS.out])
      clear hFn
      generalize es.getD m [] = x at *
      cases F
      · go_wp2_with fail
        go_roundw
        case rel => exact ⟨m + 1, hlt, by go_num, by rw [HSN.out]; congr 1, by rw [HFN.out, Bool.false_and], HB.out⟩
        case measure => simp [intOf]; omega
      · by_cases hx0 : 0 < x.length
        · by_cases hx1 : (x.length : Int) ≤ 108 * (k : Int) - 2
          · have e1 : decide ((x.length : Int) ≤ (k : Int) * 108 - 2) = true := decide_eq_true (by omega)
            have HE := Lib.hid (show (true && (decide (0 < x.length) && decide ((x.length : Int) ≤ 108 * (k : Int) - 2))) = true by rw [decide_eq_true hx0, decide_eq_true hx1]; rfl)
            go_wp2_with fail
            go_roundw
            case rel => exact ⟨m + 1, hlt, by go_num, by rw [HSN.out]; congr 1, by rw [HFN.out, HE.out], HB.out⟩
            case measure => simp [intOf]; omega
          · have e1 : decide ((x.length : Int) ≤ (k : Int) * 108 - 2) = false := decide_eq_false (by omega)
            have HE := Lib.hid (show (true && (decide (0 < x.length) && decide ((x.length : Int) ≤ 108 * (k : Int) - 2))) = false by rw [decide_eq_false hx1, Bool.and_false, Bool.and_false])
            go_wp2_with fail
            go_roundw
            case rel => exact ⟨m + 1, hlt, by go_num, by rw [HSN.out]; congr 1, by rw [HFN.out, HE.out], HB.out⟩
            case measure => simp [intOf]; omega
        · have hx2 : x.length = 0 := by omega
          have HE := Lib.hid (show (true && (decide (0 < x.length) && decide ((x.length : Int) ≤ 108 * (k : Int) - 2))) = false by rw [decide_eq_false hx0]; rfl)
          go_wp2_with fail
          go_roundw
          case rel => exact ⟨m + 1, hlt, by go_num, by rw [HSN.out]; congr 1; omega, by rw [HFN.out, HE.out], HB.out⟩
          case measure => simp [intOf]; omega
    · obtain rfl : m = es.length := by omega
      rw [List.take_length]
      have HSZ := Lib.hid (show (encE es).length ≤ 1300 by
        have h1 := encE_bound (l := es) (s := 200) HIS.out.2
        have h2 : es.length * 202 ≤ 6 * 202 := Nat.mul_le_mul_right _ h6
        omega)
      have HW := Lib.hid (fill_when k es)
      have HCR := Lib.hid (CfB.below HC3.out HS3.out hB)
      obtain ⟨d0, d1, d2, d3, d4⟩ : wr.cell? ⟨w1.heap.size, 0, none⟩ = some (.int .i64 id) ∧ wr.cell? ⟨w1.heap.size, 1, none⟩ = some (.int .i64 (k : Int)) ∧ wr.cell? ⟨w1.heap.size, 2, none⟩ = some (.int .i64 cn) ∧ wr.cell? ⟨w1.heap.size, 3, none⟩ = some (.int .i64 ct) ∧ wr.cell? ⟨w1.heap.size, 4, none⟩ = some (.int .i64 cs) := CfB.cells HCR.out
      have HSR := Lib.hid (Nat.lt_of_lt_of_le HS3.out hB.size)
      have HOR := Lib.hid ((HO3.out.below hB).wider hB.size)
      have CF := Lib.hid (show Calls Tryz.prog 7 #[.agg #[.int .i64 id, .int .i64 (k : Int), .int .i64 cn, .int .i64 ct, .int .i64 cs], .slice g3 es.length c3] wr (FillOut k es wr) from fill_any wr ⟨id, k, cn, ct, cs⟩ (show (1 : Int) ≤ (k : Int) by have := HK.out; omega) (show (k : Int) ≤ 8 by have := HK.out; omega) _ es HOR.out (by omega))
      generalize hF : (decide (0 < es.length) && eachB k es) = F at *
      generalize hS : (encE es).length = S at *
      clear hF hS hB
      go_wp2_with fail
      clear d0 d1 d2 d3 d4
      refine CF.out.mono ?_
      rintro e w5 ⟨hb5, ⟨h0, rfl⟩ | ⟨h0, v5, rfl, ho5⟩⟩
      · have HB5 := Lib.hid hb5
        have d1 : w5.cell? ⟨w1.heap.size, 1, none⟩ = some (.int .i64 (k : Int)) := (CfB.below HCR.out HSR.out hb5).cell 1
        have hk := HK.out
        have hsz := HSZ.out
        have HBW := Lib.hid (bthen (bthen HB3.out HB.out) hb5)
        have HNO := Lib.hid (show ¬ (F = true ∧ S ≤ 108 * k) from fun h => (HW.out.1 h) h0)
        clear h0 hb5 HW
        cases F
        · go_wp2_with fail
          refine (truns_any _).mono ?_
          rintro e w6 ⟨rfl, hb6⟩
          have HB6 := Lib.hid hb6
          clear hb6
          go_wp2_with fail
          go_ret
          exact bit rfl (bthen HBW.out HB6.out)
        · have hbig : (k : Int) * 108 < (S : Int) := by have : ¬ S ≤ 108 * k := fun h => HNO.out ⟨rfl, h⟩; omega
          have e1 : decide ((k : Int) * 108 < (S : Int)) = true := decide_eq_true hbig
          go_wp2_with fail
          refine (truns_any _).mono ?_
          rintro e w6 ⟨rfl, hb6⟩
          have HB6 := Lib.hid hb6
          clear hb6
          go_wp2_with fail
          go_ret
          exact bit rfl (bthen HBW.out HB6.out)
      · have HB5 := Lib.hid hb5
        have d1 : w5.cell? ⟨w1.heap.size, 1, none⟩ = some (.int .i64 (k : Int)) := (CfB.below HCR.out HSR.out hb5).cell 1
        have hk := HK.out
        have hsz := HSZ.out
        have HBW := Lib.hid (bthen (bthen HB3.out HB.out) hb5)
        obtain ⟨rfl, hS2⟩ := HW.out.2 h0
        have e1 : decide ((k : Int) * 108 < (S : Int)) = false := decide_eq_false (by omega)
        have hlen := (fillL_len h0).1
        have HEM := Lib.hid (empty_fill (by have := HK.out; omega) h0)
        have CE := Lib.hid (empty_any w5 v5 (fillL k es) (slK_own ho5 (fillL_len h0).2 rfl) (by rw [hlen]; omega))
        have HO5 := Lib.hid (HOR.out.below hb5)
        obtain ⟨g5, c5, rfl, -, -, -, -, -⟩ := own_some ho5 (by rw [hlen]; omega)
        rw [hlen] at CE
        rw [hlen]
        clear h0 hb5 HW ho5 hlen hS2
        go_wp2_with fail
        refine CE.out.mono ?_
        rintro e w6 ⟨v6, us6, rfl, ho6, hb6⟩
        rw [HEM.out] at ho6
        have HB6 := Lib.hid (bthen HBW.out hb6)
        have CR := Lib.hid (rows_any w6.heap.size v6 (.slice g3 es.length c3) es es w6 ho6.slbs ((HO5.out.below (hb6.mono (by have := HB5.out.size; omega))).wider (Nat.le_trans HB5.out.size hb6.size)) (Nat.le_refl _) (by have := HIS.out.1; omega) fun l hl => by have := HIS.out.2 l hl; omega)
        obtain ⟨g6, c6, rfl, -⟩ := own_slice ho6.top
        clear ho6 hb6 CE
        go_wp2_with fail
        refine CR.out.mono ?_
        rintro e w7 ⟨rfl, hb7⟩
        have HB7 := Lib.hid (bthen HB6.out hb7)
        clear hb7 CR
        simp only [decide_true]
        go_wp2_with fail
        refine (truns_any _).mono ?_
        rintro e w8 ⟨rfl, hb8⟩
        have HB8 := Lib.hid hb8
        clear hb8
        go_wp2_with fail
        go_ret
        exact bit rfl (bthen HB7.out HB8.out)
end Go.Proofs.YtilljaneegbhlaaGreat
