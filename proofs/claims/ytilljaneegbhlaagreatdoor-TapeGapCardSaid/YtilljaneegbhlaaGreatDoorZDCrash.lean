import Derived.Test.YtilljaneegbhlaaGreatDoorZDWaits
import Derived.Test.YtilljaneegbhlaaGreatDoorZDWipe
import Derived.Laws.BitsAllLaws
namespace Go.Proofs.YtilljaneegbhlaaGreatDoor
open Go.RowKit Go.Deep Dk Go.Maps
def intsV (ks : List Nat) : List Value := ks.map fun (i : Nat) => Value.int .i64 (i : Int)
theorem intsV_at {ks : List Nat} {m : Nat} (h : m < ks.length) : (intsV ks)[m]? = some (.int .i64 ((ks.getD m 0 : Nat) : Int)) := by simp [intsV, List.getD, h]
variable {d M : Nat}
theorem own_chg {w w' : World} {S B e n : Nat} {v : Value} {xs : List Value} (h : w.ownsRow B e 1 v n xs) (hd : d < B) (hS : S < B) (hM : M < B) (hc : Chg d S M w w') : w'.ownsRow B e 1 v n xs := by
 obtain ⟨h1, h2⟩ := h
 refine ⟨h1, ?_⟩
 rcases h2 with h2 | ⟨g, cap, cur, hv, hg, hh, r⟩
 ·exact Or.inl h2
 ·refine Or.inr ⟨g, cap, cur, hv, hg, ?_, r⟩
  rw [hc.block g (Array.getElem?_eq_some_iff.1 hh).1 (by omega) (by omega) (by omega)]; exact hh
def RelFl (d S M : Nat) (t : Nat → St) (w1 : World) (B : Nat) (ks : List Nat) (v c : Value) (wr : World) : Prop :=
 ∃ m : Nat, m ≤ ks.length ∧ c = .int .i64 m ∧ DiskIn wr d S M (t m) ∧ wr.ownsRow B 3 1 v ks.length (intsV ks) ∧ Chg d S M w1 wr
theorem take_next (s : St) {ks : List Nat} {m : Nat} (h : m < ks.length) : s.stores (ks.take (m + 1)) = (s.stores (ks.take m)).store (ks.getD m 0) := by
 rw [← St.stores_snoc]
 congr 1
 rw [List.take_add_one, List.getElem?_eq_getElem h]
 simp [List.getD, h]
variable {s : St}
set_option maxHeartbeats 1000000 in
set_option maxRecDepth 100000 in
theorem flush_yes {S : Nat} (w : World) (h : DiskIn w d S M s) (hd : s.dead = false) : Calls Tryz.prog 107 #[.pointer (some ⟨d, 0, none⟩)] w (NextD d S M s.flush .nilIface w) := by
 have c2 := h.c2
 rw [hd] at c2
 have HW := hI (waits_any w h)
 have H0 := hI h
 have hk : ∀ m, m < s.ks.length → s.ks.getD m 0 < s.n := fun m hm => by
  have h1 : s.ks.getD m 0 ∈ s.ks := by simp [List.getD, hm]
  have := List.mem_range.1 (List.mem_filter.1 h1).1; exact this
 have HK := hI hk
 have hlen : s.ks.length ≤ 128 := Nat.le_trans s.ks_length h.ok.n
 have HE := hI (show s.flush = s.stores s.ks from rfl)
 generalize s.flush = sf at HE ⊢
 generalize s.ks = ks at HW HK hlen HE
 clear h hd hk
 go_enter Tryz.func107, Tryz.ntmps107
 go_wp2_with fail
 refine HW.out.mono ?_
 rintro e w1 ⟨v, rfl, hown, hb⟩
 obtain ⟨a, cap, rfl, hcap⟩ := own_slice hown
 have HO := hI hown
 have HB := hI hb
 clear hown hb
 go_wp2_with fail
 go_loopw [14] (fun c wr => RelFl d S M (fun m => s.stores (ks.take m)) w w.heap.size ks (.slice a ks.length cap) c wr) (fun c _ => ks.length - (intOf c).toNat)
 case atStart => exact ⟨0, Nat.zero_le _, rfl, H0.out.below HB.out, HO.out, Chg.of_below HB.out⟩
 case round =>
  obtain ⟨m, hm, rfl, hD, hown, hG⟩ := hrel
  by_cases hlt : m < ks.length
  ·obtain ⟨g, rfl⟩ := own_addr hown (by omega)
   have hc := own_cell hown (intsV_at hlt); have HS := hI (store_any wr hD (ks.getD m 0) (by have := HK.out m hlt; rwa [St.stores_n])); have HO2 := hI hown; have HG := hI hG; have HN := hI (take_next s hlt); have hl0 := H0.out.lt; clear hown hD hG; generalize ks.getD m 0 = i at hc HS HN; go_wp2_with fail; refine HS.out.mono ?_; rintro e w2 ⟨rfl, hD2, hG2⟩; have HD2 := hI hD2; have HG2 := hI hG2; clear hD2 hG2 hc; go_wp2_with fail
   go_roundw
   case rel => exact ⟨m + 1, by omega, by go_num, by show DiskIn w2 d S M (s.stores (ks.take (m + 1))); rw [HN.out]; exact HD2.out, own_chg HO2.out hl0.1 hl0.2.1 hl0.2.2 HG2.out, HG.out.trans HG2.out⟩
   case measure => simp [intOf]; omega
  ·obtain rfl : m = ks.length := by omega
   have HD := hI hD; have HG := hI hG; clear hD hG hown; go_wp2_with fail; go_ret; refine ⟨rfl, ?_, HG.out⟩; have := HD.out; rw [List.take_length] at this; rw [HE.out]; exact this
theorem u64_and_one (a : Nat) (h : a < 18446744073709551616) : Go.bits .and .u64 (a : Int) 1 = ((a % 2 : Nat) : Int) := by
 show IntKind.u64.wrap ((BitVec.ofInt 64 (a : Int) &&& BitVec.ofInt 64 1).toNat : Int) = _
 rw [BitVec.toNat_and, ofInt_u64 a h, show (BitVec.ofInt 64 1).toNat = 1 from rfl, Nat.and_one_is_mod, IntKind.wrap_u64]
 omega
theorem bit_test (b m : Nat) (h : b < 18446744073709551616) : (Go.bits .and .u64 ((b : Int) / 2 ^ (m % 64)) 1 == 1) = bitOf b m := by
 have e : ((b : Int) / 2 ^ (m % 64)) = ((b / 2 ^ (m % 64) : Nat) : Int) := by simp
 rw [e, u64_and_one _ (Nat.lt_of_le_of_lt (Nat.div_le_self _ _) h)]
 unfold bitOf
 generalize b / 2 ^ (m % 64) % 2 = x
 by_cases hx : x = 1
 ·subst hx; rfl
 ·have h1 : ((x : Int) == 1) = false := by simp; omega
  have h2 : (x == 1) = false := by simpa using hx
  rw [h1, h2]
set_option maxHeartbeats 1000000 in
set_option maxRecDepth 100000 in
theorem crash_any {S : Nat} (w : World) (h : DiskIn w d S M s) (bits : Nat) (hbits : bits < 18446744073709551616) : Calls Tryz.prog 81 #[.pointer (some ⟨d, 0, none⟩), .int .u64 bits] w (NextD d S M (s.crash bits) (.tuple #[]) w) := by
 have HW := hI (waits_any w h)
 have H0 := hI h
 have hk : ∀ m, m < s.ks.length → s.ks.getD m 0 < s.n := fun m hm => by
  have h1 : s.ks.getD m 0 ∈ s.ks := by simp [List.getD, hm]
  exact List.mem_range.1 (List.mem_filter.1 h1).1
 have HK := hI hk
 have hlen : s.ks.length ≤ 128 := Nat.le_trans s.ks_length h.ok.n
 have HE := hI (show s.crash bits = (s.stores (picks bits s.ks s.ks.length)).lose from rfl)
 generalize s.crash bits = sf at HE ⊢
 generalize s.ks = ks at HW HK hlen HE
 clear h hk
 go_enter Tryz.func81, Tryz.ntmps81
 go_wp2_with fail
 refine HW.out.mono ?_
 rintro e w1 ⟨v, rfl, hown, hb⟩
 obtain ⟨a, cap, rfl, hcap⟩ := own_slice hown
 have HO := hI hown
 have HB := hI hb
 clear hown hb
 go_wp2_with fail
 go_loopw [9] (fun c wr => RelFl d S M (fun m => s.stores (picks bits ks m)) w w.heap.size ks (.slice a ks.length cap) c wr) (fun c _ => ks.length - (intOf c).toNat)
 case atStart => exact ⟨0, Nat.zero_le _, rfl, H0.out.below HB.out, HO.out, Chg.of_below HB.out⟩
 case round =>
  obtain ⟨m, hm, rfl, hD, hown, hG⟩ := hrel
  by_cases hlt : m < ks.length
  ·obtain ⟨g, rfl⟩ := own_addr hown (by omega)
   have hc := own_cell hown (intsV_at hlt); have HD := hI hD; have HO2 := hI hown; have HG := hI hG; have HN := hI (picks_succ bits ks m); have hl0 := H0.out.lt; have hi := HK.out m hlt; clear hown hD hG; generalize ks.getD m 0 = i at hc HN hi; have hbt := bit_test bits m hbits
   cases hb : bitOf bits m with
   | true =>
    rw [hb] at hbt; have HN := hI (show picks bits ks (m + 1) = picks bits ks m ++ [i] by rw [HN.out, hb]; rfl); have HS := hI (store_any wr HD.out i (by show i < (s.stores _).n; rwa [St.stores_n])); clear hb; go_wp2_with fail; refine HS.out.mono ?_; rintro e w2 ⟨rfl, hD2, hG2⟩; have HD2 := hI hD2; have HG2 := hI hG2; clear hD2 hG2 hc; go_wp2_with fail
    go_roundw
    case rel => exact ⟨m + 1, by omega, by go_num, by show DiskIn w2 d S M (s.stores (picks bits ks (m + 1))); rw [HN.out, St.stores_snoc]; exact HD2.out, own_chg HO2.out hl0.1 hl0.2.1 hl0.2.2 HG2.out, HG.out.trans HG2.out⟩
    case measure => simp [intOf]; omega
   | false =>
    rw [hb] at hbt; have HN := hI (show picks bits ks (m + 1) = picks bits ks m by rw [HN.out, hb]; rfl); clear hb; go_wp2_with fail
    go_roundw
    case rel => exact ⟨m + 1, by omega, by go_num, by show DiskIn wr d S M (s.stores (picks bits ks (m + 1))); rw [HN.out]; exact HD.out, HO2.out, HG.out⟩
    case measure => simp [intOf]; omega
  ·obtain rfl : m = ks.length := by omega
   have c1 := hD.c1; obtain ⟨D, hmp⟩ := hD.map_; obtain ⟨es, clock, hM, _⟩ := hmp.own; have hcl := clear_map hM 0; obtain ⟨a1, a2, a3⟩ := hD.apart; have HD := hI (show DiskIn (cleared wr M clock) d S M (s.stores (picks bits ks ks.length)).lose from ⟨hD.ok.lose, hD.pos, (cleared_other a2).trans hD.top, (cleared_other a3).trans hD.secs, _, cleared_in hM _⟩); have HG := hI (hG.trans (chg_cleared d S M clock wr)); clear hD hG hown hmp hM; generalize cleared wr M clock = w2 at hcl HD HG; go_wp2_with fail; go_end0; exact ⟨rfl, by rw [HE.out]; exact HD.out, HG.out⟩
end Go.Proofs.YtilljaneegbhlaaGreatDoor
