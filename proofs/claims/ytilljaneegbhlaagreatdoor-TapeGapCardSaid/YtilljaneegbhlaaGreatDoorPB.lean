/-
  stavebook.Same of bytes.
-/
import Derived.Test.YtilljaneegbhlaaGreatDoorZBytes
import Derived.Test.YtilljaneegbhlaaGreatDoorPA
import Derived.Lib.SlBytesConst
namespace Go.Proofs.YtilljaneegbhlaaGreatDoor
open Go.RowKit

def RelSmB (l m : List UInt8) (w : World) (c : Value) (wr : World) : Prop := ∃ k : Nat, k ≤ l.length ∧ c = .int .i64 k ∧ (∀ x, x < k → l.getD x 0 = m.getD x 0) ∧ Below w.heap.size w wr
set_option maxHeartbeats 1000000 in
theorem same_bytes (B : Nat) (va vb : Value) (l m : List UInt8) (w : World) (ha : SlB B w va l) (hb : SlB B w vb m) (hB : B ≤ w.heap.size) (hl : l.length ≤ 100000) :
    Calls Tryz.prog 16 #[va, vb] w (Bit (decide (l = m)) w) := by
  have HA := Lib.hid ha
  have HM := Lib.hid hb
  by_cases hlen : l.length = m.length
  · obtain ⟨a1, cap1, rfl, _⟩ := ha.len
    obtain ⟨a2, cap2, rfl, _⟩ := hb.len
    have Hlen := Lib.hid hlen
    generalize hr : decide (l = m) = r
    have Hr := Lib.hid hr
    clear ha hb hr
    rw [← hlen]
    clear hlen
    go_enter Tryz.func16, Tryz.ntmps16
    go_wp2_with fail
    go_loopw [5] (fun c wr => RelSmB l m w c wr) (fun c _ => l.length - (intOf c).toNat)
    case atStart => exact ⟨0, Nat.zero_le _, rfl, fun x hx => absurd hx (by omega), Below.refl _ _⟩
    case round =>
      obtain ⟨k, hk, rfl, hno, hB1⟩ := hrel
      have Hno := Lib.hid hno
      have HB1 := Lib.hid hB1
      by_cases hlt : k < l.length
      · obtain ⟨b, o, cap', h1, h2⟩ := HA.out.byte hB hB1 hlt
        obtain ⟨b', o', cap'', h3, h4⟩ := HM.out.byte hB hB1 (k := k) (by have := Hlen.out; omega)
        rw [← Hlen.out] at h3
        injection h1 with h1 h1' h1''
        injection h3 with h3 h3' h3''
        subst h1 h1'' h3 h3''
        clear h1' h3' hno hB1
        by_cases he : l.getD k 0 = m.getD k 0
        · have He := Lib.hid he
          rw [← he] at h4
          clear he
          generalize hx : l.getD k 0 = x at *
          have Hx := Lib.hid hx; clear hx
          go_wp2_with fail
          go_quiet (fail)
          go_wp2_with fail
          go_roundw
          case rel =>
            refine ⟨k + 1, by omega, by go_num, fun y hy => ?_, below_drewN HB1.out _⟩
            rcases Nat.lt_or_ge y k with h | h
            · exact Hno.out y h
            · obtain rfl : y = k := by omega
              rw [Hx.out]; exact He.out
          case measure => simp [intOf]; omega
        · have hne : ((l.getD k 0).toNat : Int) ≠ (m.getD k 0).toNat := fun e => he (UInt8.toNat_inj.1 (by omega))
          have e1 : (((l.getD k 0).toNat : Int) == (m.getD k 0).toNat) = false := by simpa using hne
          have e2 : (((l.getD k 0).toNat : Int) != (m.getD k 0).toNat) = true := by simpa using hne
          have He := Lib.hid (show ¬ l = m from fun e => he (by rw [e]))
          clear he hne
          generalize l.getD k 0 = x at *
          generalize m.getD k 0 = y at *
          go_wp2_with fail
          go_quiet (fail)
          go_wp2_with fail
          go_ret
          exact bit (by rw [← Hr.out]; simpa using He.out) (below_drewN HB1.out _)
      · obtain rfl : k = l.length := by omega
        clear hno hB1
        go_wp2_with fail
        go_ret
        exact bit (by rw [← Hr.out, decide_eq_true (list_eq_getD Hlen.out Hno.out)]) HB1.out
  · obtain ⟨a1, cap1, rfl, _⟩ := ha.len
    obtain ⟨a2, cap2, rfl, _⟩ := hb.len
    have e2 : ((l.length : Int) != m.length) = true := by simpa using (by omega : ¬ (l.length : Int) = m.length)
    have hne : decide (l = m) = false := decide_eq_false fun e => hlen (by rw [e])
    rw [hne]
    clear ha hb hlen hne HA HM
    go_enter Tryz.func16, Tryz.ntmps16
    go_wp2_with fail
    go_ret
    exact ⟨rfl, Below.refl _ _⟩
end Go.Proofs.YtilljaneegbhlaaGreatDoor
/-
  stavelaw14.rows, stavelaw14.all.
-/
namespace Go.Proofs.YtilljaneegbhlaaGreatDoor
open Go.RowKit Go.Deep Crc Dk Qk Go.Maps Hf
def RelRw (ls ms : List (List UInt8)) (w : World) (c : Value) (wr : World) : Prop := ∃ k : Nat, k ≤ ls.length ∧ c = .int .i64 k ∧ (∀ x, x < k → ls.getD x [] = ms.getD x []) ∧ Below w.heap.size w wr
theorem rows_ext {ls ms : List (List UInt8)} (hl : ls.length = ms.length) (h : ∀ x, x < ls.length → ls.getD x [] = ms.getD x []) : ls = ms := by
  refine List.ext_getElem hl fun i h1 h2 => ?_
  have := h i h1
  simpa [List.getD, h1, h2] using this
set_option maxHeartbeats 2000000 in
set_option maxRecDepth 100000 in
theorem rows_any (B : Nat) (va vb : Value) (ls ms : List (List UInt8)) (w : World) (ha : SlBs B w va ls) (hb : SlBs B w vb ms) (hB : B ≤ w.heap.size) (hl : ls.length ≤ 1000) (hs : ∀ l ∈ ls, l.length ≤ 100000) :
    Calls Tryz.prog 44 #[va, vb] w (Bit (decide (ls = ms)) w) := by
  have HA := Lib.hid ha
  have HM := Lib.hid hb
  have HS := Lib.hid hs
  obtain ⟨a1, cap1, rfl, hc1⟩ := ha.len
  obtain ⟨a2, cap2, rfl, hc2⟩ := hb.len
  clear ha hb hs
  by_cases hlen : ls.length = ms.length
  · have HLEN := Lib.hid hlen
    generalize hr : decide (ls = ms) = r
    have HR := Lib.hid hr
    clear hr
    rw [← HLEN.out] at hc2 ⊢
    clear hlen
    go_enter Tryz.func44, Tryz.ntmps44
    go_wp2_with fail
    go_loopw [13] (fun c wr => RelRw ls ms w c wr) (fun c _ => ls.length - (intOf c).toNat)
    case atStart => exact ⟨0, Nat.zero_le _, rfl, (fun x hx => by omega), Below.refl _ _⟩
    case round =>
      obtain ⟨k, hk, rfl, hno, hb⟩ := hrel
      have HN := Lib.hid hno
      have HB := Lib.hid hb
      by_cases hlt : k < ls.length
      · obtain ⟨b, o, cap, u, e1, _, hbB, hu1, hu2⟩ := (HA.out.below (Below.mono hb hB)).row hlt
        obtain ⟨b', o', cap', u', e1', _, hbB', hu1', hu2'⟩ := (HM.out.below (Below.mono hb hB)).row (i := k) (by have := HLEN.out; omega)
        rw [← HLEN.out] at e1'
        injection e1 with e1 _ e2
        injection e1' with e1' _ e2'
        subst e1 e2 e1' e2'
        have hmem : ls.getD k [] ∈ ls := by simp [List.getD, hlt]
        have HC := Lib.hid (same_bytes B u u' (ls.getD k []) (ms.getD k []) wr.drew (hu2.below (Below.refl _ _).drew) (hu2'.below (Below.refl _ _).drew) (Nat.le_trans hB hb.size) (HS.out _ hmem))
        obtain ⟨aa, ca, rfl, _⟩ := hu2.len
        obtain ⟨ab, cb, rfl, _⟩ := hu2'.len
        have hkl : (k : Int) < ls.length := by omega
        clear hno hb hu2 hu2' hmem
        generalize (ls.getD k []).length = m1 at *
        generalize (ms.getD k []).length = m2 at *
        cases hd : decide (ls.getD k [] = ms.getD k [])
        · rw [hd] at HC
          have HD := Lib.hid hd
          clear hd
          go_wp2_with fail
          go_still_tail 8, (by kernel_rfl)
          go_wp2_with fail
          refine HC.out.mono ?_
          rintro e w2 ⟨rfl, hb2⟩
          have HB2 := Lib.hid hb2
          clear hb2
          go_wp2_with fail
          go_ret
          refine bit ?_ (bthen (HB.out.drew) HB2.out)
          rw [← HR.out]
          exact (decide_eq_false fun e => by have := of_decide_eq_false HD.out; exact this (by rw [e])).symm
        · rw [hd] at HC
          have HD := Lib.hid hd
          clear hd
          go_wp2_with fail
          go_still_tail 8, (by kernel_rfl)
          go_wp2_with fail
          refine HC.out.mono ?_
          rintro e w2 ⟨rfl, hb2⟩
          have HB2 := Lib.hid hb2
          clear hb2
          go_wp2_with fail
          go_roundw
          case rel =>
            refine ⟨k + 1, by omega, by go_num, fun x hx => ?_, bthen (HB.out.drew) HB2.out⟩
            by_cases e : x = k
            · rw [e]; exact of_decide_eq_true HD.out
            · exact HN.out x (by omega)
          case measure => simp [intOf]; omega
      · obtain rfl : k = ls.length := by omega
        clear hno hb
        go_wp2_with fail
        go_ret
        exact bit (by rw [← HR.out]; exact (decide_eq_true (rows_ext HLEN.out HN.out)).symm) HB.out
  · have e2 : ((ls.length : Int) != ms.length) = true := by simpa using (by omega : ¬ (ls.length : Int) = ms.length)
    rw [decide_eq_false (fun e => hlen (by rw [e]))]
    clear hlen
    go_enter Tryz.func44, Tryz.ntmps44
    go_wp2_with fail
    go_ret
    exact ⟨rfl, Below.refl _ _⟩
def RelAl (Ls Ms : List (List (List UInt8))) (w : World) (c : Value) (wr : World) : Prop := ∃ k : Nat, k ≤ Ls.length ∧ c = .int .i64 k ∧ (∀ x, x < k → Ls.getD x [] = Ms.getD x []) ∧ Below w.heap.size w wr
theorem alls_ext {Ls Ms : List (List (List UInt8))} (hl : Ls.length = Ms.length) (h : ∀ x, x < Ls.length → Ls.getD x [] = Ms.getD x []) : Ls = Ms := by
  refine List.ext_getElem hl fun i h1 h2 => ?_
  have := h i h1
  simpa [List.getD, h1, h2] using this
set_option maxHeartbeats 2000000 in
set_option maxRecDepth 100000 in
theorem all_any {S S' : Nat → Prop} (va vb : Value) (Ls Ms : List (List (List UInt8))) (w : World) (ha : SlAt S w va Ls) (hb : SlAt S' w vb Ms) (hl : Ls.length ≤ 1000) (hs : ∀ ls ∈ Ls, ls.length ≤ 1000 ∧ ∀ l ∈ ls, l.length ≤ 100000) :
    Calls Tryz.prog 46 #[va, vb] w (Bit (decide (Ls = Ms)) w) := by
  have HA := Lib.hid ha
  have HM := Lib.hid hb
  have HS := Lib.hid hs
  obtain ⟨a1, cap1, rfl, hc1⟩ := ha.len
  obtain ⟨a2, cap2, rfl, hc2⟩ := hb.len
  clear ha hb hs
  by_cases hlen : Ls.length = Ms.length
  · have HLEN := Lib.hid hlen
    generalize hr : decide (Ls = Ms) = r
    have HR := Lib.hid hr
    clear hr
    rw [← HLEN.out] at hc2 ⊢
    clear hlen
    go_enter Tryz.func46, Tryz.ntmps46
    go_wp2_with fail
    go_loopw [13] (fun c wr => RelAl Ls Ms w c wr) (fun c _ => Ls.length - (intOf c).toNat)
    case atStart => exact ⟨0, Nat.zero_le _, rfl, (fun x hx => by omega), Below.refl _ _⟩
    case round =>
      obtain ⟨k, hk, rfl, hno, hb⟩ := hrel
      have HN := Lib.hid hno
      have HB := Lib.hid hb
      by_cases hlt : k < Ls.length
      · obtain ⟨b, o, cap, u, e1, _, hu1, hu2⟩ := (HA.out.agr (Agr.of_below hb)).row hlt
        obtain ⟨b', o', cap', u', e1', _, hu1', hu2'⟩ := (HM.out.agr (Agr.of_below hb)).row (i := k) (by have := HLEN.out; omega)
        rw [← HLEN.out] at e1'
        injection e1 with e1 _ e2
        injection e1' with e1' _ e2'
        subst e1 e2 e1' e2'
        have hmem : Ls.getD k [] ∈ Ls := by simp [List.getD, hlt]
        have hA := (hu2.agr (Agr.of_below (Below.refl _ wr).drew)).slbs
        have hA' := (hu2'.agr (Agr.of_below (Below.refl _ wr).drew)).slbs
        have HC := Lib.hid (rows_any wr.drew.heap.size u u' (Ls.getD k []) (Ms.getD k []) wr.drew hA hA' (Nat.le_refl _) (HS.out _ hmem).1 (HS.out _ hmem).2)
        obtain ⟨aa, ca, rfl, _⟩ := hA.len
        obtain ⟨ab, cb, rfl, _⟩ := hA'.len
        have hkl : (k : Int) < Ls.length := by omega
        clear hno hb hu2 hu2' hmem hA hA'
        generalize (Ls.getD k []).length = m1 at *
        generalize (Ms.getD k []).length = m2 at *
        cases hd : decide (Ls.getD k [] = Ms.getD k [])
        · rw [hd] at HC
          have HD := Lib.hid hd
          clear hd
          go_wp2_with fail
          go_still_tail 8, (by kernel_rfl)
          go_wp2_with fail
          refine HC.out.mono ?_
          rintro e w2 ⟨rfl, hb2⟩
          have HB2 := Lib.hid hb2
          clear hb2
          go_wp2_with fail
          go_ret
          refine bit ?_ (bthen (HB.out.drew) HB2.out)
          rw [← HR.out]
          exact (decide_eq_false fun e => by have := of_decide_eq_false HD.out; exact this (by rw [e])).symm
        · rw [hd] at HC
          have HD := Lib.hid hd
          clear hd
          go_wp2_with fail
          go_still_tail 8, (by kernel_rfl)
          go_wp2_with fail
          refine HC.out.mono ?_
          rintro e w2 ⟨rfl, hb2⟩
          have HB2 := Lib.hid hb2
          clear hb2
          go_wp2_with fail
          go_roundw
          case rel =>
            refine ⟨k + 1, by omega, by go_num, fun x hx => ?_, bthen (HB.out.drew) HB2.out⟩
            by_cases e : x = k
            · rw [e]; exact of_decide_eq_true HD.out
            · exact HN.out x (by omega)
          case measure => simp [intOf]; omega
      · obtain rfl : k = Ls.length := by omega
        clear hno hb
        go_wp2_with fail
        go_ret
        exact bit (by rw [← HR.out]; exact (decide_eq_true (alls_ext HLEN.out HN.out)).symm) HB.out
  · have e2 : ((Ls.length : Int) != Ms.length) = true := by simpa using (by omega : ¬ (Ls.length : Int) = Ms.length)
    rw [decide_eq_false (fun e => hlen (by rw [e]))]
    clear hlen
    go_enter Tryz.func46, Tryz.ntmps46
    go_wp2_with fail
    go_ret
    exact ⟨rfl, Below.refl _ _⟩
end Go.Proofs.YtilljaneegbhlaaGreatDoor
/-
  A tape in a law's walk: tape.Open, Append, Used.
-/
namespace Go.Proofs.YtilljaneegbhlaaGreatDoor
open Go.RowKit Go.Deep Crc Dk Qk Go.Maps Hf
def tapA (b : Nat) (u : Int) : Array Value := #[.pointer (some ⟨b, 0, none⟩), .int .i64 u]
/-- A tape in block t, over the volume in block b. -/
def TpB (t b : Nat) (u : Int) (w : World) : Prop := w.heap[t]? = some (.cells (tapA b u) 81 (0, 0))
theorem TpB.lt {t b : Nat} {u : Int} {w : World} (h : TpB t b u w) : t < w.heap.size := (Array.getElem?_eq_some_iff.1 h).1
theorem TpB.cell {t b : Nat} {u : Int} {w : World} (h : TpB t b u w) (i : Nat) : w.cell? ⟨t, i, none⟩ = (tapA b u)[i]? := by rw [cell_of_row _ t i _ _ (0, 0) h]
theorem TpB.free {t b : Nat} {u : Int} {w : World} (h : TpB t b u w) (i : Nat) : w.frozen? ⟨t, i, none⟩ = false := frozen_of_row w t i _ _ h
theorem TpB.below {t b : Nat} {u : Int} {w w' : World} (h : TpB t b u w) (hb : Below w.heap.size w w') : TpB t b u w' := by unfold TpB; rw [hb.block t h.lt]; exact h
theorem TpB.set {t b : Nat} {u : Int} {w : World} (h : TpB t b u w) (u' : Int) : TpB t b u' (w.setCell ⟨t, 1, none⟩ (.int .i64 u')) := by
  have := heap_setCell_same w t 1 _ _ (.int .i64 u') h
  exact this
/-- What turns where a tape is written. -/
structure RCT (c : Lc) (n b t : Nat) (w w' : World) : Prop where
  os : w'.os = w.os
  tape : w'.tape = w.tape
  output : w'.output = w.output
  size : w.heap.size ≤ w'.heap.size
  block : ∀ k, k < w.heap.size → k ≠ c.r → k ≠ b → k ≠ t → (∀ i, i < n → k ≠ c.d i ∧ k ≠ c.S i ∧ k ≠ c.M i) → w'.heap[k]? = w.heap[k]?
theorem RCT.trans {c : Lc} {n b t : Nat} {w w1 w2 : World} (h : RCT c n b t w w1) (h2 : RCT c n b t w1 w2) : RCT c n b t w w2 :=
  ⟨h2.os.trans h.os, h2.tape.trans h.tape, h2.output.trans h.output, Nat.le_trans h.size h2.size, fun k hk a b c d => (h2.block k (Nat.lt_of_lt_of_le hk h.size) a b c d).trans (h.block k hk a b c d)⟩
theorem RCV.rct {c : Lc} {n b : Nat} {w w' : World} (h : RCV c n b w w') (t : Nat) : RCT c n b t w w' := ⟨h.os, h.tape, h.output, h.size, fun k hk a b _ d => h.block k hk a b d⟩
theorem Below.rct {w w' : World} (h : Below w.heap.size w w') (c : Lc) (n b t : Nat) : RCT c n b t w w' := ⟨h.os, h.tape, h.output, h.size, fun k hk _ _ _ _ => h.block k hk⟩
theorem RCT.set (c : Lc) (n b t i : Nat) (v : Value) (w : World) : RCT c n b t w (w.setCell ⟨t, i, none⟩ v) :=
  ⟨rfl, rfl, rfl, ((Below.refl 0 w).setCell (p := ⟨t, i, none⟩) (Nat.zero_le _) v).size, fun k _ _ _ ht _ => heap_setCell_other w ⟨t, i, none⟩ k v ht⟩
theorem Agr.of_rct {lo B n b t : Nat} {S : Nat → Prop} {w w' : World} {c : Lc} {q : Rk} (h : RCT c n b t w w') (hr : RackIn lo w c q) (hn : q.n = n) (hf : Far B c n) (hS : ∀ k, S k → (k < lo ∨ B ≤ k) ∧ k ≠ b ∧ k ≠ t) : Agr S w w' := by
  refine ⟨h.size, fun k hk hs => ?_⟩
  subst hn
  obtain ⟨hS, hb, ht⟩ := hS k hs
  rcases hS with hlt | hge
  · refine h.block k hk ?_ hb ht fun i hi => ?_
    · have := hr.lr; omega
    · have := hr.ld i hi; omega
  · refine h.block k hk ?_ hb ht fun i hi => ?_
    · have := hf.1; omega
    · have := hf.2 i hi; omega
/-- A tape in a law's walk. -/
structure TW (w1 : World) (c : Lc) (cf : Cf) (n : Nat) (q : Rk) (g : Int) (down : Bool) (b t : Nat) (u : Int) (w : World) : Prop where
  vw : VW w1 c cf n q g down b w
  tp : TpB t b u w
  farv : FarV t c n
  ne : t ≠ b
  le : w1.heap.size ≤ t
theorem TW.below {w1 : World} {c : Lc} {cf : Cf} {n : Nat} {q : Rk} {g : Int} {down : Bool} {b t : Nat} {u : Int} {w w' : World} (h : TW w1 c cf n q g down b t u w) (hb : Below w.heap.size w w') : TW w1 c cf n q g down b t u w' :=
  ⟨h.vw.below hb, h.tp.below hb, h.farv, h.ne, h.le⟩
theorem TpB.rcv {t b n : Nat} {u : Int} {w w' : World} {c : Lc} (h : TpB t b u w) (hf : FarV t c n) (hne : t ≠ b) (hc : RCV c n b w w') : TpB t b u w' := by
  unfold TpB
  rw [hc.block t h.lt (by have := hf.1.1; omega) hne fun i hi => by have := hf.1.2 i hi; omega]
  exact h
theorem TW.setU {w1 : World} {c : Lc} {cf : Cf} {n : Nat} {q : Rk} {g : Int} {down : Bool} {b t : Nat} {u : Int} {w : World} (h : TW w1 c cf n q g down b t u w) (u' : Int) : TW w1 c cf n q g down b t u' (w.setCell ⟨t, 1, none⟩ (.int .i64 u')) := by
  have hq := h.vw.qs
  refine ⟨⟨⟨hq.rack.setV (by rw [h.vw.nn]; exact h.farv) 1 _, hq.base.setCell (p := ⟨t, 1, none⟩) h.le _⟩, h.vw.nn, ?_, h.vw.farv, h.vw.le⟩, h.tp.set u', h.farv, h.ne, h.le⟩
  have := h.vw.vb
  unfold VB at this ⊢
  rw [heap_setCell_other w ⟨t, 1, none⟩ b _ fun e => h.ne e.symm]
  exact this
theorem own_rct {w w' : World} {B e k m n b t : Nat} {c : Lc} {v : Value} {xs : List Value} (h : w.ownsRow B e k v m xs) (hf : Far B c n) (hc : RCT c n b t w w') (hb : v.ownBlock ≠ some b) (ht : v.ownBlock ≠ some t) : w'.ownsRow B e k v m xs := by
  obtain ⟨h1, h2⟩ := h
  refine ⟨h1, ?_⟩
  rcases h2 with h2 | ⟨g, cap, cur, rfl, hg, hh, r⟩
  · exact Or.inl h2
  · refine Or.inr ⟨g, cap, cur, rfl, hg, ?_, r⟩
    have hl : g < w.heap.size := (Array.getElem?_eq_some_iff.1 hh).1
    rw [hc.block g hl (by have := hf.1; omega) (fun e => hb (by rw [e]; rfl)) (fun e => ht (by rw [e]; rfl)) fun i hi => by have := hf.2 i hi; omega]
    exact hh
/-- A row of entries' slices stays where a tape is written. -/
theorem OwnT.rct {lo B n b t : Nat} {S : Nat → Prop} {w w' : World} {c : Lc} {q : Rk} {cf : Cf} {r : Nat} {g : Int} {down : Bool} {u : Int} {v : Value} {us : List Value} {Ls : List (List (List UInt8))} (h : OwnT B S w v us Ls) (hc : RCT c n b t w w')
    (hr : RackIn lo w c q) (hn : q.n = n) (hf : Far B c n) (hv : VB cf r g down b w) (ht : TpB t b u w) (hS : ∀ k, S k → (k < lo ∨ B ≤ k) ∧ k ≠ b ∧ k ≠ t) : OwnT B S w' v us Ls :=
  h.next (Agr.of_rct hc hr hn hf hS) (own_rct h.top hf hc (own_kind_ne h.top hv (by decide)) (own_kind_ne h.top ht (by decide)))
/-! ### Open -/
def opTOpen : ByteArray := ⟨#[116, 97, 112, 101, 46, 79, 112, 101, 110]⟩
/-- An opening of a tape where enough disks have all. -/
def TOp (w1 : World) (c : Lc) (cf : Cf) (n : Nat) (V : Vl) (Y : Option Rc) (P : Nat → Bool) (q : Rk) (M : Int) (w : World) (e : Ending) (w' : World) : Prop :=
  ∃ q' : Rk, RC c n w w' ∧ RackIn w1.heap.size w' c q' ∧ q'.n = q.n ∧ q'.k = q.k ∧ ((∃ (b : Nat) (g : Int) (V' : Vl), VW w1 c cf n q' g false b w' ∧ w.heap.size ≤ b ∧ Free q q' ∧ Live cf V' P q' g ∧ Evo cf V Y V' none ∧ g ≤ M ∧
      (((ldOf cf V' q' cf.t.toNat).e = 0 ∧ ∃ t lv us, e = .returned (.tuple #[.pointer (some ⟨t, 0, none⟩), lv, .nilIface]) ∧ TW w1 c cf n q' g false b t ((ldOf cf V' q' cf.t.toNat).l.length : Nat) w' ∧ w.heap.size ≤ t ∧ OwnT w.heap.size (fun k => w.heap.size ≤ k) w' lv us (ldOf cf V' q' cf.t.toNat).l) ∨
       ((ldOf cf V' q' cf.t.toNat).e = -1 ∧ e = .returned (.tuple #[.pointer none, nilB, wrapV opTOpen 0 (lossV (ldOf cf V' q' cf.t.toNat).x 0 1)])))) ∨
    (∃ v, KV 5 v ∧ e = .returned (.tuple #[.pointer none, nilB, v]) ∧ q.rem ≠ -1 ∧ q'.off = true ∧ ∃ V' Y', Down cf V' Y' P q' M ∧ Evo cf V Y V' Y'))
theorem OwnT.base {B B' : Nat} {S S' : Nat → Prop} {w : World} {v : Value} {us : List Value} {Ls : List (List (List UInt8))} (h : OwnT B S w v us Ls) (hB : B' ≤ B) (hs : ∀ k, S k → S' k) : OwnT B' S' w v us Ls :=
  ⟨own_base h.top hB, fun i hi => (h.each i hi).sub fun k _ hk => ⟨hs k hk.1, hk.2⟩⟩
set_option maxHeartbeats 4000000 in
set_option maxRecDepth 100000 in
theorem topen_any {w1 : World} {c : Lc} {cf : Cf} {n : Nat} {V : Vl} {Y : Option Rc} {P : Nat → Bool} {q : Rk} {M : Int} {w : World} (h : QS w1 c q w) (hn : q.n = n) (hR : Raw cf V Y P q M) (hP : Enough cf P q.n) :
    Calls Tryz.prog 11 #[.pointer (some ⟨c.r, 0, none⟩)] w (TOp w1 c cf n V Y P q M w) := by
  have CO := Lib.hid (qs_opens h hn hR hP)
  have HP := Lib.hid hP
  clear h hn hR hP
  go_enter Tryz.func11, Tryz.ntmps11
  go_wp2_with fail
  refine CO.out.mono ?_
  rintro e w2 ⟨q2, hrc, hrk, hn2, hk2, ⟨b, g, V2, rfl, hvw, hwb, hfr, hl, hev, hg⟩ | ⟨v, hkv, rfl, hrem, hoff, hdn⟩⟩
  · have HRC := Lib.hid hrc
    have HN := Lib.hid (show q2.n = q.n ∧ q2.k = q.k from ⟨hn2, hk2⟩)
    have HVW := Lib.hid hvw
    have HX := Lib.hid (show w.heap.size ≤ b ∧ Free q q2 ∧ Live cf V2 P q2 g ∧ Evo cf V Y V2 none ∧ g ≤ M from ⟨hwb, hfr, hl, hev, hg⟩)
    have CL := Lib.hid (load_any w2 hvw hl.inv hl.on)
    have HCD := Lib.hid (fun (s : Nat) (hs : (s : Int) < cf.t) => (hl.read (by rw [hn2]; exact HP.out) (t := s) hs).1)
    clear hrc hrk hn2 hk2 hvw hwb hfr hl hev hg
    go_wp2_with fail
    refine CL.out.mono ?_
    rintro e w3 ⟨hb3, ⟨h0, v3, us, rfl, ho3⟩ | ⟨h0, rfl⟩ | ⟨s, hs, h0, _⟩⟩
    · have HO3 := Lib.hid ho3
      have HB3 := Lib.hid hb3
      have H0 := Lib.hid h0
      obtain ⟨g3, c3, rfl, -⟩ := own_slice ho3.top
      clear h0 hb3 ho3
      generalize hld : ldOf cf V2 q2 cf.t.toNat = ld at *
      go_wp2_with fail
      refine bodyPost_ret (v := .tuple #[.pointer (some ⟨w3.heap.size, 0, none⟩), .slice g3 ld.l.length c3, .nilIface]) (by simp [results, Tryz.results11, go_sem]) rfl ?_
      have hv3 := (HVW.out.below HB3.out)
      have hb4 := one_below w3 (.cells #[.pointer (some ⟨b, 0, none⟩), .int .i64 (ld.l.length : Int)] 81)
      have hfv : FarV w3.heap.size c n := by
        have := hv3.qs.rack.farV (Nat.le_refl w3.heap.size)
        rwa [hv3.nn] at this
      have hsz2 : w.heap.size ≤ w2.heap.size := HRC.out.size
      have hrc3 : RC c n w w3 := HRC.out.trans (RC.of_below HB3.out)
      refine ⟨q2, hrc3.trans (RC.of_below hb4), (hv3.below hb4).qs.rack, HN.out.1, HN.out.2, Or.inl ⟨b, g, V2, hv3.below hb4, HX.out.1, HX.out.2.1, HX.out.2.2.1, HX.out.2.2.2.1, HX.out.2.2.2.2, Or.inl ?_⟩⟩
      rw [hld]
      refine ⟨H0.out, _, _, us, rfl, ⟨hv3.below hb4, heap_alloc_new w3 _, hfv, fun e => ?_, ?_⟩, Nat.le_trans hsz2 HB3.out.size, (HO3.out.below hb4).base hsz2 fun k hk => Nat.le_trans hsz2 hk⟩
      · have := hv3.vb.lt; omega
      · exact Nat.le_trans hv3.qs.le (Nat.le_refl _)
    · have HB3 := Lib.hid hb3
      have H0 := Lib.hid h0
      have CW := Lib.hid (wrap_some opTOpen 0 52 (.agg #[.int .i64 (ldOf cf V2 q2 cf.t.toNat).x, .int .i64 0, .int .i64 1]) w3)
      clear hb3 h0
      generalize hld : ldOf cf V2 q2 cf.t.toNat = ld at *
      have hlv : lossV (ld.x : Int) 0 1 = .iface 52 (.agg #[.int .i64 ld.x, .int .i64 0, .int .i64 1]) := rfl
      rw [hlv]
      go_wp2_with fail
      refine CW.out.mono ?_
      rintro e w4 ⟨rfl, rfl⟩
      go_wp2_with fail
      refine bodyPost_ret (v := .tuple #[.pointer none, nilB, wrapV opTOpen 0 (lossV ld.x 0 1)]) (by simp [results, Tryz.results11, go_sem, nilB, lossV, wrapV, opTOpen]) rfl ?_
      have hv3 := (HVW.out.below HB3.out)
      refine ⟨q2, HRC.out.trans (RC.of_below HB3.out), hv3.qs.rack, HN.out.1, HN.out.2, Or.inl ⟨b, g, V2, hv3, HX.out.1, HX.out.2.1, HX.out.2.2.1, HX.out.2.2.2.1, HX.out.2.2.2.2, Or.inr ?_⟩⟩
      rw [hld]
      exact ⟨H0.out, rfl⟩
    · exact absurd (HCD.out s hs) h0
  · have HH := Lib.hid (show RC c n w w2 ∧ RackIn w1.heap.size w2 c q2 ∧ q2.n = q.n ∧ q2.k = q.k ∧ q.rem ≠ -1 ∧ q2.off = true ∧ ∃ V' Y', Down cf V' Y' P q2 M ∧ Evo cf V Y V' Y' from ⟨hrc, hrk, hn2, hk2, hrem, hoff, hdn⟩)
    obtain ⟨T, x, rfl⟩ := hkv.some (by decide)
    have CW := Lib.hid (wrap_kv hkv opTOpen 0 w2)
    clear hrc hrk hn2 hk2 hrem hoff hdn hkv
    go_wp2_with fail
    refine CW.out.mono ?_
    rintro e w3 ⟨⟨v3, rfl, hkv3⟩, rfl⟩
    have HK3 := Lib.hid hkv3
    obtain ⟨T3, x3, rfl⟩ := hkv3.some (by decide)
    clear hkv3
    go_wp2_with fail
    refine bodyPost_ret (v := .tuple #[.pointer none, nilB, .iface T3 x3]) (by simp [results, Tryz.results11, go_sem, nilB]) rfl ?_
    exact ⟨q2, HH.out.1, HH.out.2.1, HH.out.2.2.1, HH.out.2.2.2.1, Or.inr ⟨_, HK3.out, rfl, HH.out.2.2.2.2⟩⟩
/-! ### commit, Append -/
/-- What commit leaves. -/
def TCm (w1 : World) (c : Lc) (cf : Cf) (n : Nat) (V : Vl) (P : Nat → Bool) (q : Rk) (g : Int) (b s : Nat) (own : List (List UInt8)) (w : World) (e : Ending) (w' : World) : Prop :=
  (((fillL cf.k.toNat own = [] ∧ e = .returned (errV 11)) ∨ (fillL cf.k.toNat own ≠ [] ∧ (s : Int) = cf.t ∧ e = .returned (errV 8))) ∧ Below w.heap.size w w') ∨
  (fillL cf.k.toNat own ≠ [] ∧ (s : Int) < cf.t ∧ VCm w1 c cf n V P q g b s (fillL cf.k.toNat own) w e w')
set_option maxHeartbeats 4000000 in
set_option maxRecDepth 100000 in
theorem tcommit_any {w1 : World} {c : Lc} {cf : Cf} {n : Nat} {V : Vl} {P : Nat → Bool} {q : Rk} {g : Int} {b t : Nat} {u : Int} {w : World} (h : TW w1 c cf n q g false b t u w) (hL : Live cf V P q g) (hP : Enough cf P q.n) (hg : g < 1152921504606846976)
    {s : Nat} (hs : (s : Int) ≤ cf.t) (v : Value) (own : List (List UInt8)) (hv : SlBs w.heap.size w v own) (hl : own.length ≤ 100000) :
    Calls Tryz.prog 40 #[.pointer (some ⟨t, 0, none⟩), .int .i64 s, v] w (TCm w1 c cf n V P q g b s own w) := by
  have HTW := Lib.hid h
  have HL := Lib.hid hL
  have HP := Lib.hid hP
  have HV := Lib.hid hv
  obtain ⟨id, ck, cn, ct, cs⟩ := cf
  obtain ⟨a0, cap, rfl, hcap⟩ := hv.len
  have hr := hL.on.right
  have HK := Lib.hid (show 1 ≤ ck ∧ ck ≤ 8 from ⟨hr.2.2.1, Int.le_trans hr.2.2.2.1 hr.2.2.2.2.1⟩)
  change (s : Int) ≤ ct at hs
  have CC := Lib.hid (show Calls Tryz.prog 67 #[.pointer (some ⟨b, 0, none⟩)] w (fun e w' => e = .returned (.agg #[.int .i64 id, .int .i64 ck, .int .i64 cn, .int .i64 ct, .int .i64 cs]) ∧ Below w.heap.size w w') from vconf_any w h.vw.vb)
  have c0 : w.cell? ⟨t, 0, none⟩ = some (.pointer (some ⟨b, 0, none⟩)) := h.tp.cell 0
  clear h hL hP hv hr
  go_enter Tryz.func40, Tryz.ntmps40
  go_wp2_with fail
  refine CC.out.mono ?_
  rintro e w2 ⟨rfl, hb2⟩
  have HB2 := Lib.hid hb2
  clear hb2 CC c0
  obtain ⟨w3, hw3⟩ : ∃ w3, w3 = w2.alloc (.cells #[.int .i64 id, .int .i64 ck, .int .i64 cn, .int .i64 ct, .int .i64 cs] 24) := ⟨_, rfl⟩
  have H3 := Lib.hid (show CfB ⟨id, ck, cn, ct, cs⟩ w2.heap.size w3 ∧ w2.heap.size < w3.heap.size ∧ Below w2.heap.size w2 w3 by rw [hw3]; exact ⟨cfB_new w2 ⟨id, ck, cn, ct, cs⟩, by simp, one_below _ _⟩)
  have hB3 : Below w.heap.size w w3 := bthen HB2.out H3.out.2.2
  have HB3 := Lib.hid hB3
  have CF := Lib.hid (show Calls Tryz.prog 23 #[.agg #[.int .i64 id, .int .i64 ck, .int .i64 cn, .int .i64 ct, .int .i64 cs], .slice a0 own.length cap] w3 (FillOut ck.toNat own w3) from fill_any w3 ⟨id, ck, cn, ct, cs⟩ HK.out.1 HK.out.2 _ own ((HV.out.below hB3).wider hB3.size) hl)
  have hcR : w2.alloc (.cells #[.int .i64 id, .int .i64 ck, .int .i64 cn, .int .i64 ct, .int .i64 cs] 24) = w3 := hw3.symm
  clear hw3 hB3
  have q26 : ∀ (w : World) (a : Option Addr) (n c n' c' : Nat), (binOp .eql 59 (.slice a n c) (.slice none n' c')).run Tryz.prog w = .ok (.bool a.isNone) w := fun w a n c n' c' => Lib.run_eql_slice_nil w _ _ a n c n' c' Tryz.underlying59
  obtain ⟨d0, d1, d2, d3, d4⟩ : w3.cell? ⟨w2.heap.size, 0, none⟩ = some (.int .i64 id) ∧ w3.cell? ⟨w2.heap.size, 1, none⟩ = some (.int .i64 ck) ∧ w3.cell? ⟨w2.heap.size, 2, none⟩ = some (.int .i64 cn) ∧ w3.cell? ⟨w2.heap.size, 3, none⟩ = some (.int .i64 ct) ∧ w3.cell? ⟨w2.heap.size, 4, none⟩ = some (.int .i64 cs) := CfB.cells H3.out.1
  go_wp2_with fail
  clear hcR d0 d1 d2 d3 d4
  refine CF.out.mono ?_
  rintro e w4 ⟨hb4, ⟨h0, rfl⟩ | ⟨h0, v4, rfl, ho4⟩⟩
  · have HB4 := Lib.hid hb4
    have H0 := Lib.hid h0
    clear hb4 h0
    go_wp2_with fail
    go_ret
    exact Or.inl ⟨Or.inl ⟨H0.out, rfl⟩, bthen HB3.out HB4.out⟩
  · have HB4 := Lib.hid (bthen HB3.out hb4)
    have H0 := Lib.hid h0
    have HBK := Lib.hid (show BkB w3.heap.size (fillL ck.toNat own) v4 w4 from ⟨(fillL_len h0).2, ho4⟩)
    obtain ⟨g4, c4, rfl, -, -, -, -, -⟩ := own_some ho4 (List.length_pos_iff.2 h0)
    have d3 : w4.cell? ⟨w2.heap.size, 3, none⟩ = some (.int .i64 ct) := (CfB.below H3.out.1 H3.out.2.1 hb4).cell 3
    have c0 : w4.cell? ⟨t, 0, none⟩ = some (.pointer (some ⟨b, 0, none⟩)) := (HTW.out.tp.below HB4.out).cell 0
    have HS3 := Lib.hid (show w.heap.size ≤ w3.heap.size from HB3.out.size)
    clear hb4 h0 ho4
    by_cases hsc : (s : Int) = ct
    · have e1 : ((s : Int) == ct) = true := by simp [hsc]
      have HSC := Lib.hid hsc
      clear hsc
      go_wp2_with fail
      go_ret
      exact Or.inl ⟨Or.inr ⟨H0.out, HSC.out, rfl⟩, HB4.out⟩
    · have e1 : ((s : Int) == ct) = false := by simp [hsc]
      have HSC := Lib.hid (show (s : Int) < ct by omega)
      have CM := Lib.hid (show Calls Tryz.prog 22 #[.pointer (some ⟨b, 0, none⟩), .int .i64 s, .slice (some ⟨g4, 0, none⟩) (fillL ck.toNat own).length c4] w4 _ from
        (HTW.out.vw.below HB4.out).commits HL.out HP.out hg (s := s) HSC.out (fillL_len H0.out).1 HBK.out (by
          have := HTW.out.vw.qs.rack.far
          rw [HTW.out.vw.nn] at this
          exact this.mono HS3.out))
      clear hsc
      go_wp2_with fail
      refine CM.out.mono ?_
      rintro e w5 ⟨v5, q5, rfl, hrc, hx⟩
      have HX := Lib.hid hx
      have HRC := Lib.hid hrc
      clear hx hrc
      go_wp2_with fail
      go_ret
      exact Or.inr ⟨H0.out, HSC.out, v5, q5, rfl, ((RC.of_below HB4.out).rcv b).trans HRC.out, HX.out⟩
def opTApp : ByteArray := ⟨#[116, 97, 112, 101, 46, 65, 112, 112, 101, 110, 100]⟩
/-- What Append leaves. -/
def TAp (w1 : World) (c : Lc) (cf : Cf) (n : Nat) (V : Vl) (P : Nat → Bool) (q : Rk) (g : Int) (b t u : Nat) (own : List (List UInt8)) (w : World) (e : Ending) (w' : World) : Prop :=
  (((fillL cf.k.toNat own = [] ∧ ∃ v, KV 11 v ∧ e = .returned (.tuple #[.int .i64 0, v])) ∨ (fillL cf.k.toNat own ≠ [] ∧ (u : Int) = cf.t ∧ ∃ v, KV 8 v ∧ e = .returned (.tuple #[.int .i64 0, v]))) ∧ Below w.heap.size w w') ∨
  (fillL cf.k.toNat own ≠ [] ∧ (u : Int) < cf.t ∧ ∃ q' : Rk, RCT c n b t w w' ∧ q'.n = q.n ∧ q'.k = q.k ∧
    ((e = .returned (.tuple #[.int .i64 u, .nilIface]) ∧ Free q q' ∧ TW w1 c cf n q' (g + 1) false b t ((u + 1 : Nat) : Int) w' ∧ Live cf (addY cf V (cRec g u (fillL cf.k.toNat own))) P q' (g + 1)) ∨
     (∃ v, KV 5 v ∧ e = .returned (.tuple #[.int .i64 0, v]) ∧ q.rem ≠ -1 ∧ TW w1 c cf n q' (g + 1) true b t u w' ∧ q'.off = true ∧ Down cf V (some (cRec g u (fillL cf.k.toNat own))) P q' (g + 1))))
set_option maxHeartbeats 4000000 in
set_option maxRecDepth 100000 in
theorem tapp_any {w1 : World} {c : Lc} {cf : Cf} {n : Nat} {V : Vl} {P : Nat → Bool} {q : Rk} {g : Int} {b t u : Nat} {w : World} (h : TW w1 c cf n q g false b t u w) (hL : Live cf V P q g) (hP : Enough cf P q.n) (hg : g < 1152921504606846976)
    (hs : (u : Int) ≤ cf.t) (v : Value) (own : List (List UInt8)) (hv : SlBs w.heap.size w v own) (hl : own.length ≤ 100000) :
    Calls Tryz.prog 12 #[.pointer (some ⟨t, 0, none⟩), v] w (TAp w1 c cf n V P q g b t u own w) := by
  have HTW := Lib.hid h
  have CM := Lib.hid (tcommit_any h hL hP hg hs v own hv hl)
  have hu : (u : Int) ≤ 64 := Int.le_trans hs hL.on.right.2.2.2.2.2.2.1
  obtain ⟨a0, cap, rfl, hcap⟩ := hv.len
  have c1 : w.cell? ⟨t, 1, none⟩ = some (.int .i64 u) := h.tp.cell 1
  clear h hL hP hv hs hcap
  go_enter Tryz.func12, Tryz.ntmps12
  go_wp2_with fail
  refine CM.out.mono ?_
  clear c1 CM
  rintro e w2 (⟨⟨h0, rfl⟩ | ⟨h0, h1, rfl⟩, hb⟩ | ⟨h0, h1, v2, q2, rfl, hrc, hn, hk, ⟨rfl, hf, hvw, hl2⟩ | ⟨hkv, hrem, hvw, hoff, hd⟩⟩)
  · have HB := Lib.hid hb
    have H0 := Lib.hid h0
    have CW := Lib.hid (wrap_some opTApp u 40 (.int .i64 11) w2)
    clear hb h0
    have he : errV 11 = .iface 40 (.int .i64 11) := rfl
    rw [he]
    go_wp2_with fail
    refine CW.out.mono ?_
    rintro e w3 ⟨rfl, rfl⟩
    go_wp2_with fail
    refine bodyPost_ret (v := .tuple #[.int .i64 0, wrapV opTApp u (errV 11)]) (by simp [results, Tryz.results12, go_sem, errV, wrapV, opTApp]) rfl ?_
    exact Or.inl ⟨Or.inl ⟨H0.out, _, (KV.err (by decide)).wrap (by decide) _ _, rfl⟩, HB.out⟩
  · have HB := Lib.hid hb
    have H0 := Lib.hid (And.intro h0 h1)
    have CW := Lib.hid (wrap_some opTApp u 40 (.int .i64 8) w2)
    clear hb h0 h1
    have he : errV 8 = .iface 40 (.int .i64 8) := rfl
    rw [he]
    go_wp2_with fail
    refine CW.out.mono ?_
    rintro e w3 ⟨rfl, rfl⟩
    go_wp2_with fail
    refine bodyPost_ret (v := .tuple #[.int .i64 0, wrapV opTApp u (errV 8)]) (by simp [results, Tryz.results12, go_sem, errV, wrapV, opTApp]) rfl ?_
    exact Or.inl ⟨Or.inr ⟨H0.out.1, H0.out.2, _, (KV.err (by decide)).wrap (by decide) _ _, rfl⟩, HB.out⟩
  · have H0 := Lib.hid (And.intro h0 h1)
    have HX := Lib.hid (show q2.n = q.n ∧ q2.k = q.k ∧ Free q q2 ∧ Live cf (addY cf V (cRec g u (fillL cf.k.toNat own))) P q2 (g + 1) from ⟨hn, hk, hf, hl2⟩)
    have hT : TW w1 c cf n q2 (g + 1) false b t u w2 := ⟨hvw, HTW.out.tp.rcv HTW.out.farv HTW.out.ne hrc, HTW.out.farv, HTW.out.ne, HTW.out.le⟩
    have HT := Lib.hid hT
    have HRC := Lib.hid hrc
    have c1 : w2.cell? ⟨t, 1, none⟩ = some (.int .i64 u) := hT.tp.cell 1
    have f1 : w2.frozen? ⟨t, 1, none⟩ = false := hT.tp.free 1
    clear h0 h1 hrc hn hk hf hvw hl2 hT
    go_wp2_with fail
    refine bodyPost_ret (v := .tuple #[.int .i64 u, .nilIface]) (by simp [results, Tryz.results12, go_sem]) rfl ?_
    refine Or.inr ⟨H0.out.1, H0.out.2, q2, (HRC.out.rct t).trans (RCT.set _ _ _ _ _ _ _), HX.out.1, HX.out.2.1, Or.inl ⟨rfl, HX.out.2.2.1, ?_, HX.out.2.2.2⟩⟩
    exact HT.out.setU _
  · have H0 := Lib.hid (And.intro h0 h1)
    have HX := Lib.hid (show q2.n = q.n ∧ q2.k = q.k ∧ q.rem ≠ -1 ∧ q2.off = true ∧ Down cf V (some (cRec g u (fillL cf.k.toNat own))) P q2 (g + 1) from ⟨hn, hk, hrem, hoff, hd⟩)
    have HT := Lib.hid (show TW w1 c cf n q2 (g + 1) true b t u w2 from ⟨hvw, HTW.out.tp.rcv HTW.out.farv HTW.out.ne hrc, HTW.out.farv, HTW.out.ne, HTW.out.le⟩)
    have HRC := Lib.hid hrc
    obtain ⟨T, x, rfl⟩ := hkv.some (by decide)
    have CW := Lib.hid (wrap_kv hkv opTApp u w2)
    clear h0 h1 hrc hn hk hrem hvw hoff hd hkv
    go_wp2_with fail
    refine CW.out.mono ?_
    rintro e w3 ⟨⟨v3, rfl, hkv3⟩, rfl⟩
    have HK3 := Lib.hid hkv3
    obtain ⟨T3, x3, rfl⟩ := hkv3.some (by decide)
    clear hkv3
    go_wp2_with fail
    refine bodyPost_ret (v := .tuple #[.int .i64 0, .iface T3 x3]) (by simp [results, Tryz.results12, go_sem]) rfl ?_
    exact Or.inr ⟨H0.out.1, H0.out.2, q2, HRC.out.rct t, HX.out.1, HX.out.2.1, Or.inr ⟨_, HK3.out, rfl, HX.out.2.2.1, HT.out, HX.out.2.2.2.1, HX.out.2.2.2.2⟩⟩
theorem tused_any {t b : Nat} {u : Int} (w : World) (h : TpB t b u w) : Calls Tryz.prog 14 #[.pointer (some ⟨t, 0, none⟩)] w (fun e w' => e = .returned (.int .i64 u) ∧ w = w') := by
  have c1 : w.cell? ⟨t, 1, none⟩ = some (.int .i64 u) := h.cell 1
  clear h
  go_enter Tryz.func14, Tryz.ntmps14
  go_wp2_with fail
  go_ret
  exact ⟨rfl, rfl⟩
/-! ### a tape whose stripes are used in their order -/
theorem ld_taped {cf : Cf} {V : Vl} {P : Nat → Bool} {q : Rk} {g : Int} {Ls : List (List (List UInt8))} (hL : Live cf V P q g) (hP : Enough cf P q.n) (h : Taped cf.t.toNat V.G V.B Ls) : ldOf cf V q cf.t.toNat = ⟨Ls, 0, 0⟩ := by
  have := loadN_taped (C := fun s => tcode q cf s) h cf.t.toNat (Nat.le_refl _) fun s hs => (hL.read hP (t := s) (by omega)).1
  rw [List.take_of_length_le h.len] at this
  exact this
/-- An opening where the power stays. -/
def TOk (w1 : World) (c : Lc) (cf : Cf) (n : Nat) (Y : Option Rc) (P : Nat → Bool) (q : Rk) (M : Int) (Ls : List (List (List UInt8))) (w : World) (e : Ending) (w' : World) : Prop :=
  ∃ (q' : Rk) (b t : Nat) (g : Int) (V' : Vl) (lv : Value) (us : List Value) (Ls' : List (List (List UInt8))), e = .returned (.tuple #[.pointer (some ⟨t, 0, none⟩), lv, .nilIface]) ∧ RC c n w w' ∧ q'.n = q.n ∧ q'.k = q.k ∧ q'.rem = -1 ∧ Live cf V' P q' g ∧ g ≤ M ∧
    Taped cf.t.toNat V'.G V'.B Ls' ∧ (Ls' = Ls ∨ ∃ y, Y = some y ∧ Ls' = Ls ++ [emptyL y.b]) ∧ TW w1 c cf n q' g false b t (Ls'.length : Nat) w' ∧ w.heap.size ≤ b ∧ w.heap.size ≤ t ∧ OwnT w.heap.size (fun k => w.heap.size ≤ k) w' lv us Ls'
theorem topen_ok {w1 : World} {c : Lc} {cf : Cf} {n : Nat} {V : Vl} {Y : Option Rc} {P : Nat → Bool} {q : Rk} {M : Int} {w : World} {Ls : List (List (List UInt8))} (h : QS w1 c q w) (hn : q.n = n) (hR : Raw cf V Y P q M) (hP : Enough cf P q.n) (hrem : q.rem = -1)
    (hT : Taped cf.t.toNat V.G V.B Ls) (hY : ∀ y, Y = some y → y.t.toNat = Ls.length ∧ 1 < y.q ∧ Ls.length < cf.t.toNat) :
    Calls Tryz.prog 11 #[.pointer (some ⟨c.r, 0, none⟩)] w (TOk w1 c cf n Y P q M Ls w) := by
  refine (topen_any h hn hR hP).mono ?_
  rintro e w' ⟨q', hrc, hrk, hn', hk', ⟨b, g, V', hvw, hwb, hfr, hl, hev, hg, hx⟩ | ⟨v, _, _, hne, _⟩⟩
  · have hT' : ∃ Ls', Taped cf.t.toNat V'.G V'.B Ls' ∧ (Ls' = Ls ∨ ∃ y, Y = some y ∧ Ls' = Ls ++ [emptyL y.b]) := by
      rcases hev.old with ⟨h1, h2, _⟩ | ⟨y, h1, _, h2, h3⟩
      · exact ⟨Ls, hT.congr h1 h2, Or.inl rfl⟩
      · obtain ⟨y1, y2, y3⟩ := hY y h1
        refine ⟨Ls ++ [emptyL y.b], (hT.add y3 y2 rfl).congr (by rw [h2, y1]) (by rw [h3, y1]), Or.inr ⟨y, h1, rfl⟩⟩
    obtain ⟨Ls', hT', hLs⟩ := hT'
    have hld := ld_taped hl (by rw [hn']; exact hP) hT'
    rw [hld] at hx
    rcases hx with ⟨_, t, lv, us, rfl, htw, hwt, hot⟩ | ⟨h0, _⟩
    · exact ⟨q', b, t, g, V', lv, us, Ls', rfl, hrc, hn', hk', hfr hrem, hl, hg, hT', hLs, htw, hwb, hwt, hot⟩
    · exact absurd h0 (by simp)
  · exact absurd hrem hne
theorem v0_taped (cf : Cf) : Taped cf.t.toNat (V0 cf).G (V0 cf).B [] := taped_none _ _ fun _ _ => Int.le_refl _
/-- A stripe more. -/
theorem addY_taped {cf : Cf} {V : Vl} {Ls : List (List (List UInt8))} {g : Int} {own : List (List UInt8)} (h : Taped cf.t.toNat V.G V.B Ls) (hu : (Ls.length : Int) < cf.t) (hg : 1 ≤ g) (hk : cf.k.toNat ≤ 600) (h0 : fillL cf.k.toNat own ≠ []) :
    Taped cf.t.toNat (addY cf V (cRec g Ls.length (fillL cf.k.toNat own))).G (addY cf V (cRec g Ls.length (fillL cf.k.toNat own))).B (Ls ++ [own]) := by
  have := h.add (by omega : Ls.length < cf.t.toNat) (g := g + 1) (by omega) (empty_fill hk h0)
  exact this
end Go.Proofs.YtilljaneegbhlaaGreatDoor
/-
  stavelaw14.TapeRuns.
-/
namespace Go.Proofs.YtilljaneegbhlaaGreatDoor
open Go.RowKit Go.Deep Crc Dk Qk Go.Maps Hf
def cP : Cf := ⟨9, 1, 1, 2, 1⟩
theorem cP_on : On (newRk 1 4) cP := (pl_new (by decide) (by decide) (by decide) (by decide) (by decide)).on
def lP : List (List UInt8) := [[97], [98, 99]]
theorem lP_fill : fillL 1 lP = [blkAt (encE lP) 0] ∧ (blkAt (encE lP) 0).take 7 = [1, 0, 97, 2, 0, 98, 99] := ⟨by decide, by decide⟩
theorem lP_ne : fillL 1 lP ≠ [] := by rw [lP_fill.1]; simp
theorem lP1_ne : fillL 1 (lP.take 1) ≠ [] := by decide
theorem lP_empty : emptyL (fillL 1 lP) = lP := empty_fill (by decide) lP_ne
theorem lP1_empty : emptyL (fillL 1 (lP.take 1)) = lP.take 1 := empty_fill (by decide) lP1_ne
/-- A literal of two entries. -/
theorem lit_rows {w : World} (o : Obj) : SlAs (fun k => w.heap.size ≤ k) ((((w.alloc o).alloc (.cells #[.int .u8 97] 5 (1, 2))).alloc (.cells #[.int .u8 98, .int .u8 99] 5 (2, 3))).alloc (.cells #[.slice (some ⟨w.heap.size + 1, 0, none⟩) 1 1, .slice (some ⟨w.heap.size + 2, 0, none⟩) 2 2] 37))
    (.slice (some ⟨w.heap.size + 3, 0, none⟩) 2 2) lP := by
  have e1 : ∀ (x : World) (a b c : Obj), (((x.alloc a).alloc b).alloc c).heap.size = x.heap.size + 3 := fun x a b c => by simp
  have hz : ((((w.alloc o).alloc (.cells #[.int .u8 97] 5 (1, 2))).alloc (.cells #[.int .u8 98, .int .u8 99] 5 (2, 3))).alloc (.cells #[.slice (some ⟨w.heap.size + 1, 0, none⟩) 1 1, .slice (some ⟨w.heap.size + 2, 0, none⟩) 2 2] 37)).heap.size = w.heap.size + 4 := by simp
  refine Or.inr ⟨w.heap.size + 3, 0, 2, rfl, by rw [hz]; omega, by omega, fun i hi => ?_, by decide, by decide⟩
  match i with
  | 0 =>
    refine ⟨.slice (some ⟨w.heap.size + 1, 0, none⟩) 1 1, ?_, ⟨Or.inr ⟨w.heap.size + 1, 0, 1, rfl, by rw [hz]; omega, fun x hx => ?_, by decide, by decide⟩, fun b o' cap e h0 => ?_⟩⟩
    · have := new_cells (((w.alloc o).alloc (.cells #[.int .u8 97] 5 (1, 2))).alloc (.cells #[.int .u8 98, .int .u8 99] 5 (2, 3))) #[.slice (some ⟨w.heap.size + 1, 0, none⟩) 1 1, .slice (some ⟨w.heap.size + 2, 0, none⟩) 2 2] 37 0 _ rfl
      rw [e1] at this
      exact this
    · match x with
      | 0 =>
        have h1 := World.cell?_alloc_mark (w.alloc o) #[.int .u8 97] 5 (1, 2) 0
        have h2 := (((Below.refl _ _).alloc (Nat.le_refl _) (.cells #[.int .u8 98, .int .u8 99] 5 (2, 3))).alloc (by simp) (.cells #[.slice (some ⟨w.heap.size + 1, 0, none⟩) 1 1, .slice (some ⟨w.heap.size + 2, 0, none⟩) 2 2] 37)).cell (w := (w.alloc o).alloc (.cells #[.int .u8 97] 5 (1, 2))) (p := ⟨(w.alloc o).heap.size, 0, none⟩) (by simp)
        have e : (w.alloc o).heap.size = w.heap.size + 1 := by simp
        rw [e] at h1 h2
        exact h2.trans h1
      | x + 1 => exact absurd hx (by simp [lP])
    · injection e with e _ _; injection e with e; injection e with e _ _; omega
  | 1 =>
    refine ⟨.slice (some ⟨w.heap.size + 2, 0, none⟩) 2 2, ?_, ⟨Or.inr ⟨w.heap.size + 2, 0, 2, rfl, by rw [hz]; omega, fun x hx => ?_, by decide, by decide⟩, fun b o' cap e h0 => ?_⟩⟩
    · have := new_cells (((w.alloc o).alloc (.cells #[.int .u8 97] 5 (1, 2))).alloc (.cells #[.int .u8 98, .int .u8 99] 5 (2, 3))) #[.slice (some ⟨w.heap.size + 1, 0, none⟩) 1 1, .slice (some ⟨w.heap.size + 2, 0, none⟩) 2 2] 37 1 _ rfl
      rw [e1] at this
      exact this
    · have e : ((w.alloc o).alloc (.cells #[.int .u8 97] 5 (1, 2))).heap.size = w.heap.size + 2 := by simp
      have h2 := ((Below.refl _ _).alloc (Nat.le_refl _) (.cells #[.slice (some ⟨w.heap.size + 1, 0, none⟩) 1 1, .slice (some ⟨w.heap.size + 2, 0, none⟩) 2 2] 37)).cell (w := (((w.alloc o).alloc (.cells #[.int .u8 97] 5 (1, 2))).alloc (.cells #[.int .u8 98, .int .u8 99] 5 (2, 3)))) (p := ⟨((w.alloc o).alloc (.cells #[.int .u8 97] 5 (1, 2))).heap.size, x, none⟩) (by simp)
      match x with
      | 0 =>
        have h1 := World.cell?_alloc_mark ((w.alloc o).alloc (.cells #[.int .u8 97] 5 (1, 2))) #[.int .u8 98, .int .u8 99] 5 (2, 3) 0
        rw [e] at h1 h2
        exact h2.trans h1
      | 1 =>
        have h1 := World.cell?_alloc_mark ((w.alloc o).alloc (.cells #[.int .u8 97] 5 (1, 2))) #[.int .u8 98, .int .u8 99] 5 (2, 3) 1
        rw [e] at h1 h2
        exact h2.trans h1
      | x + 2 => exact absurd hx (by simp [lP])
    · injection e with e _ _; injection e with e; injection e with e _ _; omega
  | i + 2 => exact absurd hi (by simp [lP])
/-- The first of them alone. -/
theorem SlAs.one {S : Nat → Prop} {w : World} {b o c : Nat} {ls : List (List UInt8)} (h : SlAs S w (.slice (some ⟨b, o, none⟩) ls.length c) ls) (h1 : 0 < ls.length) : SlAs S w (.slice (some ⟨b, o, none⟩) 1 c) (ls.take 1) := by
  rcases h with ⟨rfl, _⟩ | ⟨b', o', cap, e, h2, h3, h4, h5, h6⟩
  · simp at h1
  · injection e with e _ ec
    injection e with e
    injection e with e1 e2 _
    subst e1 e2 ec
    have hl : (ls.take 1).length = 1 := by rw [List.length_take]; omega
    refine Or.inr ⟨b, o, c, by rw [hl], h2, h3, fun i hi => ?_, by omega, by omega⟩
    rw [hl] at hi
    obtain ⟨u, hu, hx⟩ := h4 i (by omega)
    refine ⟨u, hu, ?_⟩
    rw [show (ls.take 1).getD i [] = ls.getD i [] from by simp [List.getD, show i = 0 by omega]]
    exact hx
theorem blk_piece {w : World} {B g c n cap : Nat} {d : List UInt8} (h : w.ownsRow B 87 108 (.slice (some ⟨g, 0, none⟩) 1 c) 1 ([d].map bytesV).flatten) (hd : d.length = 108) (h0 : 0 < n) (hn : n ≤ 108) (hc : n ≤ cap) :
    SlB w.heap.size w (.slice (some ⟨g, 0, none⟩) n cap) (d.take n) := by
  have hl : (d.take n).length = n := by rw [List.length_take]; omega
  have hg : g < w.heap.size := (own_block' h rfl).2
  refine Or.inr ⟨g, 0, cap, by rw [hl], hg, fun x hx => ?_, by omega, by omega⟩
  rw [hl] at hx
  have := holds_own h x (.int .u8 (d.getD x 0).toNat) (by
    rw [List.map_singleton, List.flatten_singleton]
    exact bytesV_at (by omega))
  rw [Nat.zero_add, this]
  simp [List.getD, hx]
/-- Two slices of entries in a literal. -/
theorem lit_two {S : Nat → Prop} {w : World} {u v : Value} {ls ms : List (List UInt8)} (hu : SlAs S w u ls) (hv : SlAs S w v ms) : SlAt (fun _ => True) (w.alloc (.cells #[u, v] 22)) (.slice (some ⟨w.heap.size, 0, none⟩) 2 2) [ls, ms] := by
  have ha : Agr S w (w.alloc (.cells #[u, v] 22)) := Agr.of_below (one_below _ _)
  refine Or.inr ⟨w.heap.size, 0, 2, rfl, by simp, trivial, fun i hi => ?_, by simp, by simp⟩
  match i with
  | 0 => exact ⟨u, new_cells _ _ _ 0 _ rfl, (hu.agr ha).sub fun _ _ _ => trivial⟩
  | 1 => exact ⟨v, new_cells _ _ _ 1 _ rfl, (hv.agr ha).sub fun _ _ _ => trivial⟩
  | i + 2 => exact absurd hi (by simp)
set_option maxHeartbeats 8000000 in
set_option maxRecDepth 100000 in
theorem truns_any (w : World) : Calls Tryz.prog 18 #[] w (Bit true w) := by
  obtain ⟨wa, hwa⟩ : ∃ wa, wa = ((((w.alloc (.cells (cfA cP) 24)).alloc (.cells #[.int .u8 97] 5 (1, 2))).alloc (.cells #[.int .u8 98, .int .u8 99] 5 (2, 3))).alloc (.cells #[.slice (some ⟨w.heap.size + 1, 0, none⟩) 1 1, .slice (some ⟨w.heap.size + 2, 0, none⟩) 2 2] 37)) := ⟨_, rfl⟩
  have HA := Lib.hid (show CfB cP w.heap.size wa ∧ w.heap.size < wa.heap.size ∧ Below w.heap.size w wa ∧ SlAs (fun k => w.heap.size ≤ k) wa (.slice (some ⟨w.heap.size + 2 + 1, 0, none⟩) 2 2) lP by
    rw [hwa]
    refine ⟨CfB.below (cfB_new w cP) (by simp) (((one_below _ _).trans ((one_below _ _).mono (by simp))).trans ((one_below _ _).mono (by simp))), by simp; omega, ?_, lit_rows _⟩
    exact balloc (balloc (balloc (one_below _ _) _) _) _)
  have CF := Lib.hid (show Calls Tryz.prog 23 #[.agg #[.int .i64 9, .int .i64 1, .int .i64 1, .int .i64 2, .int .i64 1], .slice (some ⟨w.heap.size + 2 + 1, 0, none⟩) 2 2] wa (FillOut 1 lP wa) from fill_any wa cP (by decide) (by decide) _ lP HA.out.2.2.2.slbs (by decide))
  have hcA : ((((w.alloc (.cells #[.int .i64 9, .int .i64 1, .int .i64 1, .int .i64 2, .int .i64 1] 24)).alloc (.cells #[.int .u8 97] 5 (1, 2))).alloc (.cells #[.int .u8 98, .int .u8 99] 5 (2, 3))).alloc (.cells #[.slice (some ⟨w.heap.size + 1, 0, none⟩) 1 1, .slice (some ⟨w.heap.size + 2, 0, none⟩) 2 2] 37)) = wa := hwa.symm
  obtain ⟨d0, d1, d2, d3, d4⟩ : wa.cell? ⟨w.heap.size, 0, none⟩ = some (.int .i64 9) ∧ wa.cell? ⟨w.heap.size, 1, none⟩ = some (.int .i64 1) ∧ wa.cell? ⟨w.heap.size, 2, none⟩ = some (.int .i64 1) ∧ wa.cell? ⟨w.heap.size, 3, none⟩ = some (.int .i64 2) ∧ wa.cell? ⟨w.heap.size, 4, none⟩ = some (.int .i64 1) := CfB.cells HA.out.1
  clear hwa
  have hcv1 := Lib.run_convert_bytes_const (w.alloc (.cells #[.int .i64 9, .int .i64 1, .int .i64 1, .int .i64 2, .int .i64 1] 24)) 37 5 #[.int .u8 97] 1 1 Tryz.underlying37 Tryz.underlying5
  have hcv2 := Lib.run_convert_bytes_const ((w.alloc (.cells #[.int .i64 9, .int .i64 1, .int .i64 1, .int .i64 2, .int .i64 1] 24)).alloc (.cells #[.int .u8 97] 5 (1, 2))) 37 5 #[.int .u8 98, .int .u8 99] 2 2 Tryz.underlying37 Tryz.underlying5
  have hs1 : (w.alloc (.cells #[.int .i64 9, .int .i64 1, .int .i64 1, .int .i64 2, .int .i64 1] 24)).heap.size = w.heap.size + 1 := by simp
  have hs2 : ((w.alloc (.cells #[.int .i64 9, .int .i64 1, .int .i64 1, .int .i64 2, .int .i64 1] 24)).alloc (.cells #[.int .u8 97] 5 (1, 2))).heap.size = w.heap.size + 2 := by simp
  rw [hs1] at hcv1
  rw [hs2] at hcv2
  go_enter Tryz.func18, Tryz.ntmps18
  go_wp2_with fail
  clear hcA hcv1 hcv2 hs1 hs2 d0 d1 d2 d3 d4
  generalize w.heap.size + 2 + 1 = bl at *
  refine CF.out.mono ?_
  rintro e w2 ⟨hb2, ⟨h0, _⟩ | ⟨_, v2, rfl, ho2⟩⟩
  · exact absurd h0 lP_ne
  have HB2 := Lib.hid hb2
  have hlen : (fillL 1 lP).length = 1 := by rw [lP_fill.1]; rfl
  rw [hlen] at ho2
  have HO2 := Lib.hid ho2
  obtain ⟨g2, c2, rfl, -, -, -, -, -⟩ := own_some ho2 (by decide)
  have HL2 := Lib.hid (HA.out.2.2.2.agr (Agr.of_below hb2))
  have HC2 := Lib.hid (CfB.below HA.out.1 HA.out.2.1 hb2)
  have HN := Lib.hid (show Calls Tryz.prog 8 #[.int .i64 1, .int .i64 4] w2 (QNew w2 1 4) from qs_new 1 4 w2 (by omega) (by omega) (by omega) (by omega))
  have HMF := Lib.hid (make_free cP_on (fun _ _ => rfl) rfl (by decide))
  clear hb2 ho2 hlen CF
  go_wp2_with fail
  refine HN.out.mono ?_
  rintro e w3 ⟨c, rfl, h3⟩
  have H3 := Lib.hid h3
  have HC3 := Lib.hid (CfB.below HC2.out (Nat.lt_of_lt_of_le HA.out.2.1 HB2.out.size) h3.base)
  have CM := Lib.hid (show Calls Tryz.prog 10 #[.pointer (some ⟨c.r, 0, none⟩), .agg #[.int .i64 9, .int .i64 1, .int .i64 1, .int .i64 2, .int .i64 1]] w3 _ from vmake_any w3 h3.rack cP)
  obtain ⟨d0, d1, d2, d3, d4⟩ : w3.cell? ⟨w.heap.size, 0, none⟩ = some (.int .i64 9) ∧ w3.cell? ⟨w.heap.size, 1, none⟩ = some (.int .i64 1) ∧ w3.cell? ⟨w.heap.size, 2, none⟩ = some (.int .i64 1) ∧ w3.cell? ⟨w.heap.size, 3, none⟩ = some (.int .i64 2) ∧ w3.cell? ⟨w.heap.size, 4, none⟩ = some (.int .i64 1) := CfB.cells HC3.out
  clear h3
  go_wp2_with fail
  refine CM.out.mono ?_
  rintro e w4 ⟨v4, rfl, hkv, hr4, hc4⟩
  obtain rfl := hkv.nil HMF.out.1
  have HQ4 := Lib.hid (H3.out.next hr4 hc4)
  have HE := Lib.hid (allP_enough HMF.out.2.1.tnt.on.fits)
  have CO := Lib.hid (topen_ok HQ4.out (show (Rk.vmake (newRk 1 4) cP).n = 1 from vmake_n _ _) HMF.out.2.1 HE.out HMF.out.2.2 (v0_taped cP) (fun y e => by cases e))
  clear hkv hr4 hc4 d0 d1 d2 d3 d4
  go_wp2_with fail
  refine CO.out.mono ?_
  rintro e w5 ⟨q5, b, t, g, V5, lv, us, Ls, rfl, hrc5, hn5, hk5, hrem5, hl5, hg5, ht5, rfl | ⟨y, hy, _⟩, htw5, hwb, hwt, hot5⟩
  rotate_left
  · cases hy
  have hT5 := Lib.hid htw5
  have HL5 := Lib.hid hl5
  have HR5 := Lib.hid hrem5
  have HTP5 := Lib.hid ht5
  have HG5 := Lib.hid (show g < 100 by omega)
  have HE5 := Lib.hid (show Enough cP (allP (Rk.vmake (newRk 1 4) cP)) q5.n by rw [hn5]; exact HE.out)
  obtain ⟨gl, cl, rfl, -⟩ := own_slice hot5.top
  have HL2L := Lib.hid (HL2.out.sub (S' := fun k => k < w2.heap.size) fun k hk _ => hk)
  have CA := Lib.hid (tapp_any (u := 0) htw5 hl5 HE5.out (by omega) (by decide) _ lP (HL2L.out.agr (Agr.of_below htw5.vw.qs.base)).slbs (by decide))
  clear hrc5 hn5 hk5 hrem5 hl5 hg5 ht5 htw5 hwb hwt hot5 HE HMF
  simp only [List.length_nil] at *
  go_wp2_with fail
  refine CA.out.mono ?_
  rintro e w6 (⟨⟨h0, _⟩ | ⟨_, h1, _⟩, _⟩ | ⟨_, _, q6, hrc6, hn6, hk6, ⟨rfl, hf6, htw6, hl6⟩ | ⟨_, _, _, hne, _⟩⟩)
  · exact absurd h0 lP_ne
  · exact absurd h1 (by decide)
  rotate_left
  · exact absurd HR5.out hne
  have HT6 := Lib.hid htw6
  have HL6 := Lib.hid hl6
  have HR6 := Lib.hid (hf6 HR5.out)
  have HTP6 := Lib.hid (addY_taped (own := lP) HTP5.out (by decide) HL5.out.s1 (by decide) lP_ne)
  have HE6 := Lib.hid (show Enough cP (allP (Rk.vmake (newRk 1 4) cP)) q6.n by rw [hn6]; exact HE5.out)
  have HLX := Lib.hid (SlAs.one (ls := lP) (HL2L.out.agr (Agr.of_below htw6.vw.qs.base)) (by decide))
  have CA2 := Lib.hid (tapp_any (u := 1) htw6 hl6 HE6.out (by have := HG5.out; omega) (by decide) _ (lP.take 1) HLX.out.slbs (by decide))
  clear hrc6 hn6 hk6 hf6 htw6 hl6 CA
  go_wp2_with fail
  refine CA2.out.mono ?_
  rintro e w7 (⟨⟨h0, _⟩ | ⟨_, h1, _⟩, _⟩ | ⟨_, _, q7, hrc7, hn7, hk7, ⟨rfl, hf7, htw7, hl7⟩ | ⟨_, _, _, hne, _⟩⟩)
  · exact absurd h0 lP1_ne
  · exact absurd h1 (by decide)
  rotate_left
  · exact absurd HR6.out hne
  have HTP7 := Lib.hid (addY_taped (own := lP.take 1) HTP6.out (by decide) (by have := HL6.out.s1; omega) (by decide) lP1_ne)
  have HE7 := Lib.hid (show Enough cP (allP (Rk.vmake (newRk 1 4) cP)) q7.n by rw [hn7]; exact HE6.out)
  have CO2 := Lib.hid (topen_ok htw7.vw.qs htw7.vw.nn hl7.raw HE7.out (hf7 HR6.out) HTP7.out (fun y e => by cases e))
  clear hrc7 hn7 hk7 hf7 htw7 hl7 CA2
  go_wp2_with fail
  refine CO2.out.mono ?_
  rintro e w8 ⟨q8, b8, t8, g8, V8, lv8, us8, Ls8, rfl, hrc8, hn8, hk8, hrem8, hl8, hg8, ht8, rfl | ⟨y, hy, _⟩, htw8, hwb8, hwt8, hot8⟩
  rotate_left
  · cases hy
  have HT8 := Lib.hid htw8
  have HO8 := Lib.hid hot8
  obtain ⟨g8', c8', rfl, -⟩ := own_slice hot8.top
  have hb8 := htw8.vw.qs.base
  have HB8 := Lib.hid hb8
  have HA8 := Lib.hid (HL2L.out.agr (Agr.of_below hb8))
  have HB0 := Lib.hid (show Below w.heap.size w w8 from bthen (bthen HA.out.2.2.1 HB2.out) hb8)
  have CS := Lib.hid (show Calls Tryz.prog 16 #[.slice (some ⟨g2, 0, none⟩) 7 108, .slice (some ⟨w8.heap.size, 0, none⟩) 7 7] (w8.alloc (.cells #[.int .u8 1, .int .u8 0, .int .u8 97, .int .u8 2, .int .u8 0, .int .u8 98, .int .u8 99] 5)) _ from
    same_bytes (w8.heap.size + 1) _ _ _ _ _ (((blk_piece (n := 7) (cap := 108) (by have := own_below HO2.out hb8; rwa [lP_fill.1] at this) (blkAt_len _ _) (by decide) (by decide) (by decide)).below (one_below _ _)).wider (Nat.le_succ _)) (new_slb [1, 0, 97, 2, 0, 98, 99] rfl rfl) (by simp) (by rw [lP_fill.2]; decide))
  rw [lP_fill.2] at CS
  clear hrc8 hn8 hk8 hrem8 hl8 hg8 ht8 htw8 hwb8 hwt8 hot8 hb8 CO2
  go_wp2_with fail
  refine CS.out.mono ?_
  rintro e w9 ⟨rfl, hb9⟩
  have HB9 := Lib.hid (bthen (one_below w8 _) hb9)
  have CE := Lib.hid (show Calls Tryz.prog 45 #[.slice (some ⟨g2, 0, none⟩) 1 c2] w9 (EmptyOut (fillL 1 lP) w9) from empty_any w9 _ (fillL 1 lP) (slK_own (n := 1) (own_below (own_below HO2.out HB8.out) HB9.out) (fillL_len lP_ne).2 (by rw [lP_fill.1]; rfl)) (by rw [lP_fill.1]; decide))
  clear hb9 CS
  simp only [decide_true]
  go_wp2_with fail
  refine CE.out.mono ?_
  rintro e w10 ⟨v10, us10, rfl, ho10, hb10⟩
  rw [lP_empty] at ho10
  have HB10 := Lib.hid (bthen HB9.out hb10)
  have CR := Lib.hid (rows_any w10.heap.size v10 (.slice (some ⟨bl, 0, none⟩) 2 2) lP lP w10 ho10.slbs (HA8.out.agr (Agr.of_below HB10.out)).slbs (Nat.le_refl _) (by decide) (by decide))
  obtain ⟨g10, c10, rfl, -⟩ := own_slice ho10.top
  clear ho10 hb10 CE
  go_wp2_with fail
  refine CR.out.mono ?_
  rintro e w11 ⟨rfl, hb11⟩
  have HB11 := Lib.hid (bthen HB10.out hb11)
  have CU := Lib.hid (tused_any w11 ((HT8.out.below HB11.out).tp))
  simp only [decide_true]
  clear hb11 CR
  go_wp2_with fail
  refine CU.out.mono ?_
  rintro e w12 ⟨rfl, rfl⟩
  have HA11 := Lib.hid (HA8.out.agr (Agr.of_below HB11.out))
  have CL := Lib.hid (all_any _ _ _ _ (w11.alloc (.cells #[.slice (some ⟨bl, 0, none⟩) 2 2, .slice (some ⟨bl, 0, none⟩) 1 2] 22)) ((HO8.out.below HB11.out).below (one_below _ _)).slAt (lit_two HA11.out (SlAs.one (ls := lP) HA11.out (by decide))) (by decide) (by decide))
  clear CU
  go_wp2_with fail
  refine CL.out.mono ?_
  rintro e w13 ⟨rfl, hb13⟩
  have HB13 := Lib.hid hb13
  have hd : decide ([] ++ [lP] ++ [lP.take 1] = [lP, lP.take 1]) = true := by decide
  rw [hd]
  clear hb13 CL
  go_wp2_with fail
  go_ret
  exact bit rfl (bthen HB0.out (bthen (bthen HB11.out (one_below _ _)) HB13.out))
end Go.Proofs.YtilljaneegbhlaaGreatDoor
