/-
  stavelaw1.FaultInner: the walk.
-/
import Derived.Test.YtnehangdkjalbaaDoorNone
namespace Go.Proofs.YtnehangdkjalbaaDoor
open Go.RowKit Go.Extern.Stop Go.Stop Go.Extern

def RelQ (n : Nat) (w : World) (c : Value) (wr : World) : Prop := ∃ k : Nat, k ≤ n ∧ c = .int .i64 k ∧ ∃ m, wr = w.drewN m

set_option maxHeartbeats 1000000 in
theorem same_quiet (xs : List ByteArray) (ba oa ca bb ob cb : Nat) (w : World) (hn : xs.length ≤ 1000) (ha : Texts w ba oa xs) (hb : Texts w bb ob xs) :
    Calls Tryd.prog 11 #[.slice (some ⟨ba, oa, none⟩) xs.length ca, .slice (some ⟨bb, ob, none⟩) xs.length cb] w fun e w' => e = .returned (.bool true) ∧ ∃ m, w' = w.drewN m := by
  have Ha := Lib.hid ha; clear ha
  have Hb := Lib.hid hb; clear hb
  go_enter Tryd.func11, Tryd.ntmps11
  go_wp2
  go_loopw [5] (fun c wr => RelQ xs.length w c wr) (fun c _ => xs.length - (intOf c).toNat)
  case atStart => exact ⟨0, Nat.zero_le _, rfl, 0, rfl⟩
  case round =>
    obtain ⟨k, hk, rfl, m, rfl⟩ := hrel
    by_cases hlt : k < xs.length
    · have c1 : w.cell? ⟨ba, oa + k, none⟩ = some (.string (xs.getD k ByteArray.empty)) := Ha.out k hlt
      have c2 : w.cell? ⟨bb, ob + k, none⟩ = some (.string (xs.getD k ByteArray.empty)) := Hb.out k hlt
      generalize xs.getD k ByteArray.empty = s at c1 c2
      go_wp2
      go_quiet (fail)
      go_wp2
      go_roundw
      case rel => exact ⟨k + 1, by omega, by go_num, _, rfl⟩
      case measure => simp [intOf]; omega
    · have hkl : k = xs.length := by omega
      subst hkl
      go_wp2
      go_ret
      exact ⟨rfl, _, rfl⟩

/-- The Faults behind k steps, the outermost first. -/
def behind (l : List (ByteArray × Int)) (op : ByteArray) (at_ : Int) (k : Nat) : List (ByteArray × Int) := (l.take k).reverse ++ [(op, at_)]
theorem behind_succ (l : List (ByteArray × Int)) (op : ByteArray) (at_ : Int) (k : Nat) (hk : k < l.length) : behind l op at_ (k + 1) = l.getD k (⟨#[]⟩, 0) :: behind l op at_ k := by
  unfold behind
  rw [List.take_succ_eq_append_getElem hk, List.reverse_append]
  simp [List.getD, hk]
theorem behind_len (l : List (ByteArray × Int)) (op : ByteArray) (at_ : Int) (k : Nat) (hk : k ≤ l.length) : (behind l op at_ k).length = k + 1 := by
  simp [behind, Nat.min_eq_left hk]
theorem behind_lastS (l : List (ByteArray × Int)) (op : ByteArray) (at_ : Int) (k : Nat) : lastS (behind l op at_ k) = op := lastS_snoc _ _
theorem behind_lastN (l : List (ByteArray × Int)) (op : ByteArray) (at_ : Int) (k : Nat) : lastN (behind l op at_ k) = at_ := lastN_snoc _ _
theorem behind_ne (l : List (ByteArray × Int)) (op : ByteArray) (at_ : Int) (k : Nat) : (!(behind l op at_ k).isEmpty) = true := by simp [behind]

/-- Path, as one reads it. -/
def PathAt (L : List (ByteArray × Int)) (w : World) (e : Ending) (w' : World) : Prop :=
  ∃ g cap, e = .returned (.slice (some ⟨g, 0, none⟩) L.length cap) ∧ L.length ≤ cap ∧ cap ≤ maxLen ∧ g < w'.heap.size ∧ Texts w' g 0 (L.map (·.1)) ∧ Below w.heap.size w w'
theorem path_at (L : List (ByteArray × Int)) (k : Int) (w : World) (v : Value) (hc : v = chain L (errV k)) (hg : Typ w) (hn : L.length ≤ 1000) (h0 : 0 < L.length) :
    Calls Tryd.prog 12 #[v] w (PathAt L w) := by
  refine (path_err L k w v hc hg hn).mono ?_
  rintro e w' ⟨u, rfl, hown, hb⟩
  obtain ⟨g, cap, rfl, hcap, hm, hgl, htx⟩ := ops_texts hown h0
  exact ⟨g, cap, rfl, hcap, hm, hgl, htx, hb⟩

def RelR (l : List (ByteArray × Int)) (op : ByteArray) (at_ q : Int) (w : World) (e i : Value) (wr : World) : Prop :=
  ∃ k : Nat, k ≤ l.length ∧ k ≤ 30 ∧ i = .int .i64 k ∧ e = chain (behind l op at_ k) (errV q) ∧ Below w.heap.size w wr

set_option maxHeartbeats 2000000 in
set_option maxRecDepth 100000 in
theorem inner_any (b o cap : Nat) (l : List (ByteArray × Int)) (n at_ : Int) (op : ByteArray) (w : World) (hg : Typ w) (hs : Steps w b o l) (hbl : b < w.heap.size) :
    Calls Tryd.prog 5 #[.int .i64 n, .slice (some ⟨b, o, none⟩) l.length cap, .string op, .int .i64 at_] w (Bit true w) := by
  have Hg := Lib.hid hg; clear hg
  have Hs := Lib.hid hs; clear hs
  go_enter Tryd.func5, Tryd.ntmps5
  go_wp2_with fail
  refine (within n _).mono ?_
  rintro e w1 ⟨q, hq, rfl, rfl⟩
  have Hq := Lib.hid hq; clear hq
  go_wp2_with fail
  refine (wrap_some _ _ _ _ _).mono ?_
  rintro e w1 ⟨rfl, rfl⟩
  go_wp2_with fail
  go_loopw [10, 11] (fun e i wr => RelR l op at_ q w e i wr) (fun _ i _ => l.length - (intOf i).toNat)
  case atStart => exact ⟨0, Nat.zero_le _, Nat.zero_le _, rfl, rfl, Below.refl _ _⟩
  case round =>
    obtain ⟨k, hk, hk30, rfl, rfl, hB⟩ := hrel
    have HB := Lib.hid hB; clear hB
    by_cases hlt : k < l.length ∧ k < 30
    · obtain ⟨hlt, h9⟩ := hlt
      have hst := (Hs.out.below hbl HB.out) k hlt
      have hbe := behind_succ l op at_ k hlt
      have hlen := behind_len l op at_ k hk
      have hlS := behind_lastS l op at_ (k + 1)
      have hlN := behind_lastN l op at_ (k + 1)
      have hne := behind_ne l op at_ (k + 1)
      generalize hL' : behind l op at_ (k + 1) = L' at *
      generalize l.getD k (⟨#[]⟩, 0) = x at *
      generalize behind l op at_ k = L at *
      obtain ⟨s, m⟩ := x
      subst hbe
      have Hlen := Lib.hid hlen
      have HL' := Lib.hid hL'
      have HlS := Lib.hid hlS
      have HlN := Lib.hid hlN
      have Hne := Lib.hid hne
      have Hst := Lib.hid hst
      clear hlen hL' hlS hlN hne hst
      obtain ⟨U, y, hy⟩ := chain_iface L 25 (.int .i64 q)
      have hp1 := path_at L q wr (.iface U y) hy.symm (Hg.out.below HB.out) (by rw [Hlen.out]; omega) (by rw [Hlen.out]; omega)
      have Hp1 := Lib.hid hp1; clear hp1
      change chain L (errV q) = _ at hy
      rw [hy]
      have Hy := Lib.hid hy; clear hy
      go_wp2_with fail
      refine Hp1.out.mono ?_
      rintro e w2 ⟨g1, cap1, rfl, hc1, hm1, hg1, ht1, hb⟩
      rw [Hlen.out] at hc1 ⊢
      have K2 := Lib.hid hb; clear hb
      have T1 := Lib.hid ht1; clear ht1
      have c1 : w2.cell? ⟨b, o + k * 2, none⟩ = some (.string s) := by rw [K2.out.cell (Nat.lt_of_lt_of_le hbl HB.out.size)]; exact Hst.out.1
      have c2 : w2.cell? ⟨b, o + k * 2 + 1, none⟩ = some (.int .i64 m) := by rw [K2.out.cell (Nat.lt_of_lt_of_le hbl HB.out.size)]; exact Hst.out.2
      go_wp2
      go_quiet ((go_at_call 7; exact Calls.quiet_of_same (wrap_some' _ _ _ _ _)))
      have hp2 := path_at ((s, m) :: L) q (w2.drewN nq) (.iface 47 (.agg #[.string s, .int .i64 m, .iface U y])) (by simp only [chain, wrapV]; rw [Hy.out]) (Hg.out.below (below_drewN (HB.out.trans (K2.out.mono HB.out.size)) nq)) (by simp only [List.length_cons]; rw [Hlen.out]; omega) (by simp)
      have Hp2 := Lib.hid hp2; clear hp2 c1 c2
      go_wp2_with fail
      refine Hp2.out.mono ?_
      rintro e w4 ⟨g2, cap2, rfl, hc2, hm2, hg2, ht2, hb⟩
      simp only [List.length_cons] at hc2 ⊢
      rw [Hlen.out] at hc2 ⊢
      have k24 : Below w2.heap.size w2 w4 := (below_drewN (Below.refl w2.heap.size w2) nq).trans hb
      have K4 := Lib.hid (K2.out.trans (k24.mono K2.out.size))
      have K24 := Lib.hid k24; clear hb k24
      have c1 : w4.cell? ⟨b, o + k * 2, none⟩ = some (.string s) := by rw [K4.out.cell (Nat.lt_of_lt_of_le hbl HB.out.size)]; exact Hst.out.1
      have c3 : w4.cell? ⟨g2, 0, none⟩ = some (.string s) := by simpa [List.getD] using ht2 0 (by simp)
      have t2 : Texts w4 g2 1 (L.map (·.1)) := fun x hx => by
        have := ht2 (x + 1) (by simpa using hx)
        simpa [List.getD, Nat.add_comm] using this
      have t1 : Texts w4 g1 0 (L.map (·.1)) := T1.out.below (w := w2) hg1 K24.out
      have hs := same_quiet (L.map (·.1)) g2 1 (cap2 - 1) g1 0 cap1
      simp only [List.length_map, Hlen.out] at hs
      have Hs2 := Lib.hid (fun W => hs W (by omega))
      have T2 := Lib.hid (And.intro t2 t1)
      clear hs t2 t1 ht2
      have hw1 : IntKind.i64.wrap ((k : Int) + 1 + 1) = k + 1 + 1 := IntWalk.i64_in _ (by omega)
      go_wp2
      go_quiet ((go_at_call 11; refine Calls.quiet_of (Hs2.out _ T2.out.1 T2.out.2)))
      clear hw1 c1 c3
      have b5 : Below w.heap.size w (w4.drewN nq) := below_drewN (HB.out.trans (K4.out.mono HB.out.size)) nq
      have hc5 : Value.iface 47 (.agg #[.string s, .int .i64 m, .iface U y]) = chain ((s, m) :: L) (errV q) := by simp only [chain, wrapV]; rw [Hy.out]
      have hp5 := where_err ((s, m) :: L) q (w4.drewN nq) _ hc5 (Hg.out.below b5)
      rw [HlS.out, HlN.out, Hne.out] at hp5
      have Hp5 := Lib.hid hp5; clear hp5
      have B5 := Lib.hid b5; clear b5
      have Hc5 := Lib.hid hc5; clear hc5
      go_wp2_with fail
      refine Hp5.out.mono ?_
      rintro e w5 ⟨rfl, hb⟩
      have B6 := Lib.hid (B5.out.trans (hb.mono (by exact B5.out.size))); clear hb
      go_wp2_with fail
      refine (kind_err ((s, m) :: L) q w5 _ Hc5.out (Hg.out.below B6.out)).mono ?_
      rintro e w6 ⟨rfl, hb⟩
      have B7 := Lib.hid (B6.out.trans (hb.mono B6.out.size)); clear hb
      go_wp2_with fail
      refine (Is_err_loss_no ((s, m) :: L) q 0 0 0 w6 _ Hc5.out).mono ?_
      rintro e w7 ⟨rfl, hb⟩
      have B8 := Lib.hid (B7.out.trans (hb.mono B7.out.size)); clear hb
      go_wp2
      go_roundw
      case rel => exact ⟨k + 1, by omega, by omega, by go_num, by rw [HL'.out]; exact Hc5.out, B8.out⟩
      case measure => simp [intOf]; omega
    · have hor : k = l.length ∨ 30 ≤ k := by omega
      obtain ⟨U, y, hy⟩ := chain_iface (behind l op at_ k) 25 (.int .i64 q)
      change chain _ (errV q) = _ at hy
      rw [hy]
      clear hlt hy
      rcases hor with hkl | h9
      · subst hkl
        clear hk
        go_wp2_with fail
        refine (runs _ (Hg.out.below HB.out)).mono ?_
        rintro e w9 ⟨rfl, hb⟩
        have B9 := Lib.hid (HB.out.trans (hb.mono HB.out.size)); clear hb
        go_wp2
        go_ret
        exact ⟨rfl, B9.out⟩
      · by_cases hlt : k < l.length
        · go_wp2_with fail
          refine (runs _ (Hg.out.below HB.out)).mono ?_
          rintro e w9 ⟨rfl, hb⟩
          have B9 := Lib.hid (HB.out.trans (hb.mono HB.out.size)); clear hb
          go_wp2
          go_ret
          exact ⟨rfl, B9.out⟩
        · go_wp2_with fail
          refine (runs _ (Hg.out.below HB.out)).mono ?_
          rintro e w9 ⟨rfl, hb⟩
          have B9 := Lib.hid (HB.out.trans (hb.mono HB.out.size)); clear hb
          go_wp2
          go_ret
          exact ⟨rfl, B9.out⟩

set_option maxHeartbeats 2000000 in
set_option maxRecDepth 100000 in
theorem inner_empty (a : Option Addr) (cap : Nat) (n at_ : Int) (op : ByteArray) (w : World) (hg : Typ w) :
    Calls Tryd.prog 5 #[.int .i64 n, .slice a 0 cap, .string op, .int .i64 at_] w (Bit true w) := by
  have Hg := Lib.hid hg; clear hg
  go_enter Tryd.func5, Tryd.ntmps5
  go_wp2_with fail
  refine (within n _).mono ?_
  rintro e w1 ⟨q, hq, rfl, rfl⟩
  clear hq
  go_wp2_with fail
  refine (wrap_some _ _ _ _ _).mono ?_
  rintro e w1 ⟨rfl, rfl⟩
  go_wp2_with fail
  refine wp_loop_rounds 1 ?_
  rw [rounds_succ]
  go_wp2_with fail
  refine (runs _ Hg.out).mono ?_
  rintro e w9 ⟨rfl, hb⟩
  have B9 := Lib.hid hb; clear hb
  go_wp2
  go_ret
  exact ⟨rfl, B9.out⟩
end Go.Proofs.YtnehangdkjalbaaDoor
