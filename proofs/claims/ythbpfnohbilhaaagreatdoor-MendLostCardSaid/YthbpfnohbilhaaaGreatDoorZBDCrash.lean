import Derived.Test.YthbpfnohbilhaaaGreatDoorZBDWaits
import Derived.Test.YthbpfnohbilhaaaGreatDoorZBDWipe
import Derived.Laws.BitsAllLaws
namespace Go.Proofs.YthbpfnohbilhaaaGreatDoor
open Go.RowKit Go.Deep Dk Go.Maps
def intsV (ks : List Nat) : List Value := ks.map fun (i : Nat) => Value.int .i64 (i : Int)
theorem intsV_at {ks : List Nat} {m : Nat} (h : m < ks.length) : (intsV ks)[m]? = some (.int .i64 ((ks.getD m 0 : Nat) : Int)) := by simp [intsV, List.getD, h]
variable {d M : Nat}
theorem own_chg {w w' : World} {S B e n : Nat} {v : Value} {xs : List Value} (h : w.ownsRow B e 1 v n xs) (hd : d < B) (hS : S < B) (hM : M < B) (hc : Chg d S M w w') : w'.ownsRow B e 1 v n xs := by
 obtain ⟨h1, h2⟩ := h
 refine ⟨h1, ?_⟩
 rcases h2 with h2 | ⟨g, cap, cur, hv, hg, hh, r⟩
 ·exact Or.inl h2
 ·refine Or.inr ⟨g, cap, cur, hv, hg, ?_, r⟩
  rw [hc.block g (Array.getElem?_eq_some_iff.1 hh).1 (by omega) (by omega) (by omega)]; exact hh
def RelFl (d S M : Nat) (t : Nat → St) (w1 : World) (B : Nat) (ks : List Nat) (v c : Value) (wr : World) : Prop :=
 ∃ m : Nat, m ≤ ks.length ∧ c = .int .i64 m ∧ DiskIn wr d S M (t m) ∧ wr.ownsRow B 3 1 v ks.length (intsV ks) ∧ Chg d S M w1 wr
theorem take_next (s : St) {ks : List Nat} {m : Nat} (h : m < ks.length) : s.stores (ks.take (m + 1)) = (s.stores (ks.take m)).store (ks.getD m 0) := by
 rw [← St.stores_snoc]
 congr 1
 rw [List.take_add_one, List.getElem?_eq_getElem h]
 simp [List.getD, h]
set_option maxHeartbeats 1000000 in
set_option maxRecDepth 100000 in
theorem flush_yes {S : Nat} {s : St} (w : World) (h : DiskIn w d S M s) (hd : s.dead = false) : Calls Tryz.prog 59 #[.pointer (some ⟨d, 0, none⟩)] w (NextD d S M s.flush .nilIface w) := by
 have c2 := h.c2
 rw [hd] at c2
 have HW := hI (waits_any w h)
 have H0 := hI h
 have hk : ∀ m, m < s.ks.length → s.ks.getD m 0 < s.n := fun m hm => by
  have h1 : s.ks.getD m 0 ∈ s.ks := by simp [List.getD, hm]
  have := List.mem_range.1 (List.mem_filter.1 h1).1; exact this
 have HK := hI hk
 have hlen : s.ks.length ≤ 128 := Nat.le_trans s.ks_length h.ok.n
 have HE := hI (show s.flush = s.stores s.ks from rfl)
 generalize s.flush = sf at HE ⊢
 generalize s.ks = ks at HW HK hlen HE
 clear h hd hk
 go_enter Tryz.func59, Tryz.ntmps59
 go_wp2_with fail
 refine HW.out.mono ?_
 rintro e w1 ⟨v, rfl, hown, hb⟩
 obtain ⟨a, cap, rfl, hcap⟩ := own_slice hown
 have HO := hI hown
 have HB := hI hb
 clear hown hb
 go_wp2_with fail
 go_loopw [14] (fun c wr => RelFl d S M (fun m => s.stores (ks.take m)) w w.heap.size ks (.slice a ks.length cap) c wr) (fun c _ => ks.length - (intOf c).toNat)
 case atStart => exact ⟨0, Nat.zero_le _, rfl, H0.out.below HB.out, HO.out, Chg.of_below HB.out⟩
 case round =>
  obtain ⟨m, hm, rfl, hD, hown, hG⟩ := hrel
  by_cases hlt : m < ks.length
  ·obtain ⟨g, rfl⟩ := own_addr hown (by omega)
   have hc := own_cell hown (intsV_at hlt); have HS := hI (store_any wr hD (ks.getD m 0) (by have := HK.out m hlt; rwa [St.stores_n])); have HO2 := hI hown; have HG := hI hG; have HN := hI (take_next s hlt); have hl0 := H0.out.lt; clear hown hD hG; generalize ks.getD m 0 = i at hc HS HN; go_wp2_with fail; refine HS.out.mono ?_; rintro e w2 ⟨rfl, hD2, hG2⟩; have HD2 := hI hD2; have HG2 := hI hG2; clear hD2 hG2 hc; go_wp2_with fail
   go_roundw
   case rel => exact ⟨m + 1, by omega, by go_num, by show DiskIn w2 d S M (s.stores (ks.take (m + 1))); rw [HN.out]; exact HD2.out, own_chg HO2.out hl0.1 hl0.2.1 hl0.2.2 HG2.out, HG.out.trans HG2.out⟩
   case measure => simp [intOf]; omega
  ·obtain rfl : m = ks.length := by omega
   have HD := hI hD; have HG := hI hG; clear hD hG hown; go_wp2_with fail; go_ret; refine ⟨rfl, ?_, HG.out⟩; have := HD.out; rw [List.take_length] at this; rw [HE.out]; exact this
end Go.Proofs.YthbpfnohbilhaaaGreatDoor
