/-
  stavelaw1.FaultNone: the walk.
-/
import Derived.Test.YtnehangdkjalbaaDoorRuns
namespace Go.Proofs.YtnehangdkjalbaaDoor
open Go.RowKit Go.Extern.Stop Go.Stop Go.Extern

/-- A slice of Steps: its texts and numbers. -/
def Steps (w : World) (b o : Nat) (l : List (ByteArray × Int)) : Prop :=
  ∀ x, x < l.length → w.cell? ⟨b, o + x * 2, none⟩ = some (.string (l.getD x (⟨#[]⟩, 0)).1) ∧ w.cell? ⟨b, o + x * 2 + 1, none⟩ = some (.int .i64 (l.getD x (⟨#[]⟩, 0)).2)
theorem Steps.below {w w' : World} {b o : Nat} {l : List (ByteArray × Int)} (h : Steps w b o l) (hl : b < w.heap.size) (hb : Below w.heap.size w w') : Steps w' b o l :=
  fun x hx => ⟨by rw [hb.cell hl]; exact (h x hx).1, by rw [hb.cell hl]; exact (h x hx).2⟩

theorem wrap_nil' (s : ByteArray) (n : Int) (w : World) : Calls Tryd.prog 7 #[.string s, .int .i64 n, .nilIface] w fun e w' => e = .returned .nilIface ∧ w' = w :=
  (wrap_nil s n w).mono fun _ _ h => ⟨h.1, h.2.symm⟩
theorem wrap_some' (s : ByteArray) (n : Int) (U : TypeId) (y : Value) (w : World) : Calls Tryd.prog 7 #[.string s, .int .i64 n, .iface U y] w fun e w' => e = .returned (.iface 47 (.agg #[.string s, .int .i64 n, .iface U y])) ∧ w' = w :=
  (wrap_some s n U y w).mono fun _ _ h => ⟨h.1, h.2.symm⟩

def RelN (n : Nat) (w : World) (e i : Value) (wr : World) : Prop := ∃ k : Nat, k ≤ n ∧ i = .int .i64 k ∧ e = .nilIface ∧ Below w.heap.size w wr

/-- Behind the loop: all that is asked of nil. -/
theorem nil_first (m : Int → Bool) (hm : m = fun _ => false) : ∀ j W, Calls Tryd.prog 15 #[.nilIface, errV j] W (Bit (m j) W) := by
  subst hm
  intro j W
  refine (Is_nil 25 (.int .i64 j) W).mono ?_
  rintro e w' ⟨rfl, rfl⟩
  exact ⟨rfl, Below.refl _ _⟩

set_option maxHeartbeats 2000000 in
theorem none_any (b o cap : Nat) (l : List (ByteArray × Int)) (n : Int) (w : World) (hg : Typ w) (hs : Steps w b o l) (hbl : b < w.heap.size) :
    Calls Tryd.prog 4 #[.slice (some ⟨b, o, none⟩) l.length cap, .int .i64 n] w (Bit true w) := by
  have hp := hg.pos
  have Hg := Lib.hid hg; clear hg
  have Hs := Lib.hid hs; clear hs
  go_enter Tryd.func4, Tryd.ntmps4
  go_wp2
  go_loopw [5, 6] (fun e i wr => RelN l.length w e i wr) (fun _ i _ => l.length - (intOf i).toNat)
  case atStart => exact ⟨0, Nat.zero_le _, rfl, rfl, Below.refl _ _⟩
  case round =>
    obtain ⟨k, hk, rfl, rfl, hB⟩ := hrel
    have HB := Lib.hid hB; clear hB
    by_cases hlt : k < l.length ∧ k < 9
    · obtain ⟨hlt, h9⟩ := hlt
      have hst := (Hs.out.below hbl HB.out) k hlt
      have c1 := hst.1
      have c2 := hst.2
      clear hst
      generalize (l.getD k (⟨#[]⟩, 0)).1 = s at c1
      generalize (l.getD k (⟨#[]⟩, 0)).2 = m at c2
      go_wp2
      go_quiet ((go_at_call 7; exact Calls.quiet_of_same (wrap_nil' _ _ _)))
      go_wp2
      go_roundw
      case rel => exact ⟨k + 1, by omega, by go_num, rfl, below_drewN HB.out _⟩
      case measure => simp [intOf]; omega
    · have hor : k = l.length ∨ 9 ≤ k := by omega
      have Hg2 := Lib.hid (Hg.out.below HB.out)
      clear hlt
      rcases hor with hkl | h9
      · subst hkl
        clear hk
        go_wp2_with fail
        refine (where_nil _).mono ?_
        rintro e w1 ⟨rfl, hb⟩
        have K1 := Lib.hid hb; clear hb
        go_wp2_with fail
        refine (lost_nil _).mono ?_
        rintro e w2 ⟨rfl, hb⟩
        have K2 := Lib.hid ((K1.out.trans (hb.mono K1.out.size)).alloc (Nat.le_trans K1.out.size hb.size) (.cells #[.int .i64 0, .int .i64 0, .int .i64 0] 29)); clear hb
        go_wp2_with fail
        generalize w2.alloc (.cells #[.int .i64 0, .int .i64 0, .int .i64 0] 29) = w3 at K2
        refine (kind_nil _).mono ?_
        rintro e w4 ⟨rfl, hb⟩
        have K4 := Lib.hid (K2.out.trans (hb.mono K2.out.size)); clear hb
        go_wp2_with fail
        refine (path_nil _).mono ?_
        rintro e w5 ⟨rfl, hb⟩
        have K5 := Lib.hid (K4.out.trans (hb.mono K4.out.size)); clear hb
        go_wp2_with fail
        refine (within n _).mono ?_
        rintro e w6 ⟨q, hq, rfl, rfl⟩
        have Hq := Lib.hid hq; clear hq
        go_wp2_with fail
        refine (first_any _ (fun _ => false) [q] w5.heap.size 1 _ (by simp) (nil_first _ rfl) (by simp) (by intro x hx; match x, hx with | 0, _ => simp | x + 1, hx => exact absurd hx (by simp))).mono ?_
        rintro e w7 ⟨rfl, hb⟩
        have K7 := Lib.hid (K5.out.trans ((((Below.refl w5.heap.size w5).alloc (Nat.le_refl _) (.cells #[.int .i64 q] 25)).trans (hb.mono (by simp))).mono K5.out.size)); clear hb
        simp only [show firstAt (fun _ => false) [q] 0 = -1 from rfl]
        go_wp2_with fail
        refine (first_nil _ _).mono ?_
        rintro e w8 ⟨rfl, hb⟩
        have K8 := Lib.hid (HB.out.trans ((K7.out.trans (hb.mono K7.out.size)).mono HB.out.size)); clear hb
        have Hg8 := Lib.hid (Hg.out.below K8.out)
        go_wp2_with fail
        refine (runs _ Hg8.out).mono ?_
        rintro e w9 ⟨rfl, hb⟩
        have K9 := Lib.hid (K8.out.trans (hb.mono K8.out.size)); clear hb
        go_wp2
        go_ret
        exact ⟨rfl, K9.out⟩
      · by_cases hlt : k < l.length
        · go_wp2_with fail
          refine (where_nil _).mono ?_
          rintro e w1 ⟨rfl, hb⟩
          have K1 := Lib.hid hb; clear hb
          go_wp2_with fail
          refine (lost_nil _).mono ?_
          rintro e w2 ⟨rfl, hb⟩
          have K2 := Lib.hid ((K1.out.trans (hb.mono K1.out.size)).alloc (Nat.le_trans K1.out.size hb.size) (.cells #[.int .i64 0, .int .i64 0, .int .i64 0] 29)); clear hb
          go_wp2_with fail
          generalize w2.alloc (.cells #[.int .i64 0, .int .i64 0, .int .i64 0] 29) = w3 at K2
          refine (kind_nil _).mono ?_
          rintro e w4 ⟨rfl, hb⟩
          have K4 := Lib.hid (K2.out.trans (hb.mono K2.out.size)); clear hb
          go_wp2_with fail
          refine (path_nil _).mono ?_
          rintro e w5 ⟨rfl, hb⟩
          have K5 := Lib.hid (K4.out.trans (hb.mono K4.out.size)); clear hb
          go_wp2_with fail
          refine (within n _).mono ?_
          rintro e w6 ⟨q, hq, rfl, rfl⟩
          have Hq := Lib.hid hq; clear hq
          go_wp2_with fail
          refine (first_any _ (fun _ => false) [q] w5.heap.size 1 _ (by simp) (nil_first _ rfl) (by simp) (by intro x hx; match x, hx with | 0, _ => simp | x + 1, hx => exact absurd hx (by simp))).mono ?_
          rintro e w7 ⟨rfl, hb⟩
          have K7 := Lib.hid (K5.out.trans ((((Below.refl w5.heap.size w5).alloc (Nat.le_refl _) (.cells #[.int .i64 q] 25)).trans (hb.mono (by simp))).mono K5.out.size)); clear hb
          simp only [show firstAt (fun _ => false) [q] 0 = -1 from rfl]
          go_wp2_with fail
          refine (first_nil _ _).mono ?_
          rintro e w8 ⟨rfl, hb⟩
          have K8 := Lib.hid (HB.out.trans ((K7.out.trans (hb.mono K7.out.size)).mono HB.out.size)); clear hb
          have Hg8 := Lib.hid (Hg.out.below K8.out)
          go_wp2_with fail
          refine (runs _ Hg8.out).mono ?_
          rintro e w9 ⟨rfl, hb⟩
          have K9 := Lib.hid (K8.out.trans (hb.mono K8.out.size)); clear hb
          go_wp2
          go_ret
          exact ⟨rfl, K9.out⟩
        · go_wp2_with fail
          refine (where_nil _).mono ?_
          rintro e w1 ⟨rfl, hb⟩
          have K1 := Lib.hid hb; clear hb
          go_wp2_with fail
          refine (lost_nil _).mono ?_
          rintro e w2 ⟨rfl, hb⟩
          have K2 := Lib.hid ((K1.out.trans (hb.mono K1.out.size)).alloc (Nat.le_trans K1.out.size hb.size) (.cells #[.int .i64 0, .int .i64 0, .int .i64 0] 29)); clear hb
          go_wp2_with fail
          generalize w2.alloc (.cells #[.int .i64 0, .int .i64 0, .int .i64 0] 29) = w3 at K2
          refine (kind_nil _).mono ?_
          rintro e w4 ⟨rfl, hb⟩
          have K4 := Lib.hid (K2.out.trans (hb.mono K2.out.size)); clear hb
          go_wp2_with fail
          refine (path_nil _).mono ?_
          rintro e w5 ⟨rfl, hb⟩
          have K5 := Lib.hid (K4.out.trans (hb.mono K4.out.size)); clear hb
          go_wp2_with fail
          refine (within n _).mono ?_
          rintro e w6 ⟨q, hq, rfl, rfl⟩
          have Hq := Lib.hid hq; clear hq
          go_wp2_with fail
          refine (first_any _ (fun _ => false) [q] w5.heap.size 1 _ (by simp) (nil_first _ rfl) (by simp) (by intro x hx; match x, hx with | 0, _ => simp | x + 1, hx => exact absurd hx (by simp))).mono ?_
          rintro e w7 ⟨rfl, hb⟩
          have K7 := Lib.hid (K5.out.trans ((((Below.refl w5.heap.size w5).alloc (Nat.le_refl _) (.cells #[.int .i64 q] 25)).trans (hb.mono (by simp))).mono K5.out.size)); clear hb
          simp only [show firstAt (fun _ => false) [q] 0 = -1 from rfl]
          go_wp2_with fail
          refine (first_nil _ _).mono ?_
          rintro e w8 ⟨rfl, hb⟩
          have K8 := Lib.hid (HB.out.trans ((K7.out.trans (hb.mono K7.out.size)).mono HB.out.size)); clear hb
          have Hg8 := Lib.hid (Hg.out.below K8.out)
          go_wp2_with fail
          refine (runs _ Hg8.out).mono ?_
          rintro e w9 ⟨rfl, hb⟩
          have K9 := Lib.hid (K8.out.trans (hb.mono K8.out.size)); clear hb
          go_wp2
          go_ret
          exact ⟨rfl, K9.out⟩

set_option maxHeartbeats 2000000 in
theorem none_empty (a : Option Addr) (cap : Nat) (n : Int) (w : World) (hg : Typ w) :
    Calls Tryd.prog 4 #[.slice a 0 cap, .int .i64 n] w (Bit true w) := by
  have HB := Lib.hid (Below.refl w.heap.size w)
  have Hg := Lib.hid hg; clear hg
  go_enter Tryd.func4, Tryd.ntmps4
  go_wp2
  refine wp_loop_rounds 1 ?_
  rw [rounds_succ]
  go_wp2_with fail
  refine (where_nil _).mono ?_
  rintro e w1 ⟨rfl, hb⟩
  have K1 := Lib.hid hb; clear hb
  go_wp2_with fail
  refine (lost_nil _).mono ?_
  rintro e w2 ⟨rfl, hb⟩
  have K2 := Lib.hid ((K1.out.trans (hb.mono K1.out.size)).alloc (Nat.le_trans K1.out.size hb.size) (.cells #[.int .i64 0, .int .i64 0, .int .i64 0] 29)); clear hb
  go_wp2_with fail
  generalize w2.alloc (.cells #[.int .i64 0, .int .i64 0, .int .i64 0] 29) = w3 at K2
  refine (kind_nil _).mono ?_
  rintro e w4 ⟨rfl, hb⟩
  have K4 := Lib.hid (K2.out.trans (hb.mono K2.out.size)); clear hb
  go_wp2_with fail
  refine (path_nil _).mono ?_
  rintro e w5 ⟨rfl, hb⟩
  have K5 := Lib.hid (K4.out.trans (hb.mono K4.out.size)); clear hb
  go_wp2_with fail
  refine (within n _).mono ?_
  rintro e w6 ⟨q, hq, rfl, rfl⟩
  have Hq := Lib.hid hq; clear hq
  go_wp2_with fail
  refine (first_any _ (fun _ => false) [q] w5.heap.size 1 _ (by simp) (nil_first _ rfl) (by simp) (by intro x hx; match x, hx with | 0, _ => simp | x + 1, hx => exact absurd hx (by simp))).mono ?_
  rintro e w7 ⟨rfl, hb⟩
  have K7 := Lib.hid (K5.out.trans ((((Below.refl w5.heap.size w5).alloc (Nat.le_refl _) (.cells #[.int .i64 q] 25)).trans (hb.mono (by simp))).mono K5.out.size)); clear hb
  simp only [show firstAt (fun _ => false) [q] 0 = -1 from rfl]
  go_wp2_with fail
  refine (first_nil _ _).mono ?_
  rintro e w8 ⟨rfl, hb⟩
  have K8 := Lib.hid (HB.out.trans ((K7.out.trans (hb.mono K7.out.size)).mono HB.out.size)); clear hb
  have Hg8 := Lib.hid (Hg.out.below K8.out)
  go_wp2_with fail
  refine (runs _ Hg8.out).mono ?_
  rintro e w9 ⟨rfl, hb⟩
  have K9 := Lib.hid (K8.out.trans (hb.mono K8.out.size)); clear hb
  go_wp2
  go_ret
  exact ⟨rfl, K9.out⟩
end Go.Proofs.YtnehangdkjalbaaDoor
