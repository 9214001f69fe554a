/-
  Slices of parts; code.has, code.firstWrong.
-/
import Derived.Test.YtoklknjnegpaaaaDoorCEnc
namespace Go.Proofs.YtoklknjnegpaaaaDoor
open Go.RowKit Gf Cd
abbrev Pt := Int × List UInt8
def pt0 : Pt := (0, [])
structure PartAt (B : Nat) (w : World) (b o : Nat) (p : Pt) : Prop where
  at_ : w.cell? ⟨b, o, none⟩ = some (.int .i64 p.1)
  data : ∃ u, w.cell? ⟨b, o + 1, none⟩ = some u ∧ SlB B w u p.2
theorem PartAt.mono {B b o : Nat} {w w' : World} {p : Pt} (h : PartAt B w b o p) (hb : b < B) (hc : ∀ b o, b < B → w'.cell? ⟨b, o, none⟩ = w.cell? ⟨b, o, none⟩) : PartAt B w' b o p := by
  obtain ⟨h1, u, h2, h3⟩ := h
  exact ⟨by rw [hc _ _ hb]; exact h1, u, by rw [hc _ _ hb]; exact h2, h3.mono hc⟩
/-- v is a slice of the parts ps, in blocks ahead of B. -/
def SlP (B : Nat) (w : World) (v : Value) (ps : List Pt) : Prop :=
  (ps = [] ∧ ∃ a cap, v = .slice a 0 cap) ∨ ∃ b o cap, v = .slice (some ⟨b, o, none⟩) ps.length cap ∧ b < B ∧ (∀ i, i < ps.length → PartAt B w b (o + i * 2) (ps.getD i pt0)) ∧ 0 < ps.length ∧ ps.length ≤ cap
theorem SlP.mono {B : Nat} {w w' : World} {v : Value} {ps : List Pt} (h : SlP B w v ps) (hc : ∀ b o, b < B → w'.cell? ⟨b, o, none⟩ = w.cell? ⟨b, o, none⟩) : SlP B w' v ps := by
  rcases h with h | ⟨b, o, cap, h1, h2, h3, h4⟩
  · exact Or.inl h
  · exact Or.inr ⟨b, o, cap, h1, h2, fun i hi => (h3 i hi).mono h2 hc, h4⟩
theorem SlP.below {B : Nat} {w w' : World} {v : Value} {ps : List Pt} (h : SlP B w v ps) (hb : Below B w w') : SlP B w' v ps := h.mono fun b o hl => hb.cell (p := ⟨b, o, none⟩) hl
theorem SlP.wider {B B' : Nat} {w : World} {v : Value} {ps : List Pt} (h : SlP B w v ps) (hB : B ≤ B') : SlP B' w v ps := by
  rcases h with h | ⟨b, o, cap, h1, h2, h3, h4⟩
  · exact Or.inl h
  · refine Or.inr ⟨b, o, cap, h1, by omega, fun i hi => ?_, h4⟩
    obtain ⟨e1, u, e2, e3⟩ := h3 i hi
    exact ⟨e1, u, e2, e3.wider hB⟩
theorem SlP.len {B : Nat} {w : World} {v : Value} {ps : List Pt} (h : SlP B w v ps) : ∃ a cap, v = .slice a ps.length cap ∧ ps.length ≤ cap := by
  rcases h with ⟨rfl, a, cap, h⟩ | ⟨b, o, cap, h1, _, _, _, h2⟩
  · exact ⟨a, cap, h, Nat.zero_le _⟩
  · exact ⟨_, cap, h1, h2⟩
theorem SlP.part {B : Nat} {w : World} {v : Value} {ps : List Pt} (h : SlP B w v ps) {i : Nat} (hi : i < ps.length) : ∃ b o cap, v = .slice (some ⟨b, o, none⟩) ps.length cap ∧ ps.length ≤ cap ∧ b < B ∧ PartAt B w b (o + i * 2) (ps.getD i pt0) := by
  rcases h with ⟨rfl, _⟩ | ⟨b, o, cap, h1, hb, h2, _, h3⟩
  · simp at hi
  · exact ⟨b, o, cap, h1, h3, hb, h2 i hi⟩
theorem SlP.part' {B b o n cap : Nat} {w : World} {ps : List Pt} (h : SlP B w (.slice (some ⟨b, o, none⟩) n cap) ps) {i : Nat} (hi : i < ps.length) : PartAt B w b (o + i * 2) (ps.getD i pt0) := by
  obtain ⟨b', o', cap', h1, _, _, h2⟩ := h.part hi
  injection h1 with h1 _ _
  injection h1 with h1
  injection h1 with h1 h1' _
  subst h1 h1'
  exact h2
theorem SlP.lt {B b o n cap : Nat} {w : World} {ps : List Pt} (h : SlP B w (.slice (some ⟨b, o, none⟩) n cap) ps) (h0 : 0 < ps.length) : b < B := by
  obtain ⟨b', o', cap', h1, _, h2, _⟩ := h.part h0
  injection h1 with h1 _ _
  injection h1 with h1
  injection h1 with h1 h1' _
  subst h1
  exact h2

/-! ### has -/
theorem has_any (B c k n : Nat) (a : Int) (w : World) (hC : CodeIn B w c k n) : Calls Tryd.prog 59 #[.pointer (some ⟨c, 0, none⟩), .int .i64 a] w (BitSame (decide (0 ≤ a ∧ a < n)) w) := by
  obtain ⟨-, ⟨rv, c1, hrows⟩, -⟩ := hC
  obtain ⟨a1, cap1, rfl, _⟩ := hrows.len
  rw [rowsL_length] at c1
  clear hrows
  by_cases h0 : 0 ≤ a
  · by_cases h1 : a < n
    · rw [decide_eq_true ⟨h0, h1⟩]
      go_enter Tryd.func59, Tryd.ntmps59
      go_wp2
      go_ret
      exact bitSame (by simp)
    · rw [decide_eq_false (by omega)]
      go_enter Tryd.func59, Tryd.ntmps59
      go_wp2
      go_ret
      exact bitSame (by simp)
  · rw [decide_eq_false (by omega)]
    go_enter Tryd.func59, Tryd.ntmps59
    go_wp2
    go_ret
    exact bitSame (by simp)
theorem has_quiet {B c k n : Nat} {a : Int} {w : World} {r : Bool} (hC : CodeIn B w c k n) (hr : decide (0 ≤ a ∧ a < n) = r) : Calls Tryd.prog 59 #[.pointer (some ⟨c, 0, none⟩), .int .i64 a] w (fun e w' => e = .returned (.bool r) ∧ w' = w) :=
  (has_any B c k n a w hC).mono fun _ _ ⟨h1, h2⟩ => ⟨by rw [h1, hr], h2.symm⟩
/-- A part that no fragment beside one of m bytes can be. -/
def wrongP (n m : Nat) (p : Pt) : Bool := !(decide (0 ≤ p.1 ∧ p.1 < n)) || decide (p.2.length ≠ m)
set_option maxHeartbeats 1000000 in
set_option maxRecDepth 100000 in
theorem wrong_part (B c k n p1 p2 b o cap np lx cx m c0 : Nat) (ad a0 : Option Addr) (a : Int) (l : List UInt8) (w : World) (hC : CodeIn B w c k n) (hB : B ≤ w.heap.size) (hl : lx = l.length) (h1 : w.cell? ⟨p1, 0, none⟩ = some (.pointer (some ⟨c, 0, none⟩))) (h2 : w.cell? ⟨p2, 0, none⟩ = some (.slice (some ⟨b, o, none⟩) np cap)) (hnp : 0 < np)
    (h3 : w.cell? ⟨b, o + 1, none⟩ = some (.slice a0 m c0)) :
    Calls Tryd.prog 85 #[.agg #[.int .i64 a, .slice ad lx cx], .pointer (some ⟨p1, 0, none⟩), .pointer (some ⟨p2, 0, none⟩)] w (Bit (wrongP n m (a, l)) w) := by
  subst hl
  have hnp' : (0 : Int) < np := by omega
  have n1 := World.block_lt_of_cell? w _ h1
  have n2 := World.block_lt_of_cell? w _ h2
  have n3 := World.block_lt_of_cell? w _ h3
  simp only at n1 n2 n3
  by_cases hh : 0 ≤ a ∧ a < n
  · have hd : decide (0 ≤ a ∧ a < n) = true := decide_eq_true hh
    by_cases e : l.length = m
    · have e1 : ((l.length : Int) != m) = false := by simpa using (by omega : (l.length : Int) = m)
      rw [show wrongP n m (a, l) = false by unfold wrongP; rw [hd, decide_eq_false (by simpa using e)]; rfl]
      have HD := Lib.hid hd
      have HC := Lib.hid hC
      clear hd e hC hh
      generalize l.length = lx at *
      go_enter Tryd.func85, Tryd.ntmps85
      go_wp2_with fail
      go_quiet ((go_at_call 59; exact Calls.quiet_of_same (has_quiet (B := B) (k := k) (n := n) (HC.out.below (by repeat (first | exact Below.mono (one_below _ _) hB | apply below_drewN | apply Below.drew))) HD.out)))
      go_wp2_with fail
      go_ret
      exact bit rfl (by repeat (first | exact one_below _ _ | apply below_drewN | apply Below.drew))
    · have e1 : ((l.length : Int) != m) = true := by simpa using (by omega : ¬ (l.length : Int) = m)
      rw [show wrongP n m (a, l) = true by unfold wrongP; rw [hd, decide_eq_true (by simpa using e)]; rfl]
      have HD := Lib.hid hd
      have HC := Lib.hid hC
      clear hd e hC hh
      generalize l.length = lx at *
      go_enter Tryd.func85, Tryd.ntmps85
      go_wp2_with fail
      go_quiet ((go_at_call 59; exact Calls.quiet_of_same (has_quiet (B := B) (k := k) (n := n) (HC.out.below (by repeat (first | exact Below.mono (one_below _ _) hB | apply below_drewN | apply Below.drew))) HD.out)))
      go_wp2_with fail
      go_ret
      exact bit rfl (by repeat (first | exact one_below _ _ | apply below_drewN | apply Below.drew))
  · have hd : decide (0 ≤ a ∧ a < n) = false := decide_eq_false hh
    rw [show wrongP n m (a, l) = true by unfold wrongP; rw [hd]; rfl]
    have HD := Lib.hid hd
    have HC := Lib.hid hC
    clear hd hC hh
    generalize l.length = lx at *
    go_enter Tryd.func85, Tryd.ntmps85
    go_wp2_with fail
    go_quiet ((go_at_call 59; exact Calls.quiet_of_same (has_quiet (B := B) (k := k) (n := n) (HC.out.below (by repeat (first | exact Below.mono (one_below _ _) hB | apply below_drewN | apply Below.drew))) HD.out)))
    go_wp2_with fail
    go_ret
    exact bit rfl (by repeat (first | exact one_below _ _ | apply below_drewN | apply Below.drew))
end Go.Proofs.YtoklknjnegpaaaaDoor
