/-
  fault.Where over Faults around a kind: the innermost Fault's operation and place.
-/
import Derived.Test.YtfhnkjlegehaoaaGreatDoorKind
namespace Go.Proofs.YtfhnkjlegehaoaaGreatDoor
open Go.RowKit Go.Extern.Stop Go.Stop Go.Extern

def lastS (l : List (ByteArray × Int)) : ByteArray := (l.getLast?.map (·.1)).getD ⟨#[]⟩
def lastN (l : List (ByteArray × Int)) : Int := (l.getLast?.map (·.2)).getD 0
theorem lastS_snoc (l : List (ByteArray × Int)) (p : ByteArray × Int) : lastS (l ++ [p]) = p.1 := by simp [lastS]
theorem lastN_snoc (l : List (ByteArray × Int)) (p : ByteArray × Int) : lastN (l ++ [p]) = p.2 := by simp [lastN]

def Place (s : ByteArray) (n : Int) (x : Bool) (w : World) (e : Ending) (w' : World) : Prop := e = .returned (.tuple #[.string s, .int .i64 n, .bool x]) ∧ Below w.heap.size w w'

/-- The variable of api.Fault at block tb. -/
structure Held (tb : Nat) (s : ByteArray) (n : Int) (w : World) : Prop where
  c0 : w.cell? ⟨tb, 0, none⟩ = some (.string s)
  c1 : w.cell? ⟨tb, 1, none⟩ = some (.int .i64 n)
  c2 : ∃ o, w.cell? ⟨tb, 2, none⟩ = some o
  f : ∀ i, w.frozen? ⟨tb, i, none⟩ = false
theorem Held.lt {tb : Nat} {s : ByteArray} {n : Int} {w : World} (h : Held tb s n w) : tb < w.heap.size := by
  have := h.c0
  rcases Nat.lt_or_ge tb w.heap.size with h | h
  · exact h
  · simp [World.cell?, Array.getElem?_eq_none h] at this
theorem Held.below {tb : Nat} {s : ByteArray} {n : Int} {w w' : World} (h : Held tb s n w) (hb : Below w.heap.size w w') : Held tb s n w' := by
  have hl := h.lt
  refine ⟨by rw [hb.cell hl]; exact h.c0, by rw [hb.cell hl]; exact h.c1, ?_, fun i => by rw [hb.frozen hl]; exact h.f i⟩
  obtain ⟨o, ho⟩ := h.c2
  exact ⟨o, by rw [hb.cell hl]; exact ho⟩
/-- Behind the three stores of a hit. -/
theorem Held.set {tb : Nat} {s : ByteArray} {n : Int} {w : World} (h : Held tb s n w) (s' : ByteArray) (n' : Int) (v : Value) :
    Held tb s' n' (((w.setCell ⟨tb, 0, none⟩ (.string s')).setCell ⟨tb, 1, none⟩ (.int .i64 n')).setCell ⟨tb, 2, none⟩ v) ∧
    (((w.setCell ⟨tb, 0, none⟩ (.string s')).setCell ⟨tb, 1, none⟩ (.int .i64 n')).setCell ⟨tb, 2, none⟩ v).cell? ⟨tb, 2, none⟩ = some v := by
  have n1 : (⟨tb, 0, none⟩ : Addr) ≠ ⟨tb, 1, none⟩ := by simp
  have n2 : (⟨tb, 0, none⟩ : Addr) ≠ ⟨tb, 2, none⟩ := by simp
  have n3 : (⟨tb, 1, none⟩ : Addr) ≠ ⟨tb, 2, none⟩ := by simp
  obtain ⟨o, ho⟩ := h.c2
  have e0 : (w.setCell ⟨tb, 0, none⟩ (.string s')).cell? ⟨tb, 0, none⟩ = some (.string s') := World.cell?_setCell_same _ _ _ h.c0
  have e1 : ((w.setCell ⟨tb, 0, none⟩ (.string s')).setCell ⟨tb, 1, none⟩ (.int .i64 n')).cell? ⟨tb, 1, none⟩ = some (.int .i64 n') :=
    World.cell?_setCell_same _ _ _ (by rw [World.cell?_setCell_other (h := n1)]; exact h.c1)
  have e2 : (((w.setCell ⟨tb, 0, none⟩ (.string s')).setCell ⟨tb, 1, none⟩ (.int .i64 n')).setCell ⟨tb, 2, none⟩ v).cell? ⟨tb, 2, none⟩ = some v :=
    World.cell?_setCell_same _ _ _ (by rw [World.cell?_setCell_other (h := n3), World.cell?_setCell_other (h := n2)]; exact ho)
  refine ⟨⟨?_, ?_, ⟨_, e2⟩, fun i => by simp [h.f]⟩, e2⟩
  · rw [World.cell?_setCell_other (h := n2.symm), World.cell?_setCell_other (h := n1.symm)]; exact e0
  · rw [World.cell?_setCell_other (h := n3.symm)]; exact e1

def RelWhere (L : List (ByteArray × Int)) (b : Value) (w : World) (v f : Value) (wr : World) : Prop :=
  ∃ pre l, L = pre ++ l ∧ v = chain l b ∧ f = .bool (!pre.isEmpty) ∧ Below w.heap.size w wr ∧ Held w.heap.size (lastS pre) (lastN pre) wr

set_option maxHeartbeats 1000000 in
theorem where_err (L : List (ByteArray × Int)) (k : Int) (w : World) (v : Value) (hc : v = chain L (errV k)) (hg : Typ w) :
    Calls Tryz.prog 32 #[v] w (Place (lastS L) (lastN L) (!L.isEmpty) w) := by
  have hp := hg.pos
  have Hg := Lib.hid hg; clear hg
  go_enter Tryz.func32, Tryz.ntmps32
  go_wp2
  go_loopw [0, 6] (fun v f wr => RelWhere L (errV k) w v f wr) (fun v _ _ => SizeOf.sizeOf v)
  case atStart => exact ⟨[], L, rfl, hc, rfl, (Below.refl _ _).alloc (Nat.le_refl _) _, ⟨by simp [lastS], by simp [lastN], ⟨.nilIface, by simp⟩, by simp⟩⟩
  case round =>
    clear hc
    obtain ⟨pre, l, hL, rfl, rfl, hB, hH⟩ := hrel
    have HL := Lib.hid hL; clear hL
    have hgr : Typ wr := Hg.out.below hB
    have HB := Lib.hid hB; clear hB
    cases l with
    | nil =>
      have has0 := As47_miss25 k w.heap.size wr hgr
      have Has := Lib.hid has0; clear has0 hgr
      simp only [chain]
      have HH := Lib.hid hH; clear hH
      unfold errV at Has
      unfold errV
      go_wp2_with fail
      refine Has.out.mono ?_
      rintro e w' ⟨rfl, hb⟩
      have hH' := HH.out.below hb
      have hc0 := hH'.c0
      have hc1 := hH'.c1
      have Hb := Lib.hid hb; clear hb hH'
      go_wp2
      go_quiet (fail)
      go_wp2
      go_ret3
      obtain rfl : L = pre := by rw [HL.out]; simp
      exact ⟨rfl, below_drewN (HB.out.trans (Hb.out.mono HB.out.size)) _⟩
    | cons p l =>
      obtain ⟨U, y, hy⟩ := chain_iface l 33 (.int .i64 k)
      change chain l (errV k) = _ at hy
      obtain ⟨o2, ho2⟩ := hH.c2
      have has0 := As47_hit p.1 p.2 U y w.heap.size (.string (lastS pre)) (.int .i64 (lastN pre)) o2 wr hgr hH.c0 hH.c1 ho2 (hH.f 0) (hH.f 1) (hH.f 2)
      unfold wrapV at has0
      have Has := Lib.hid has0; clear has0 hgr
      simp only [chain, wrapV]
      rw [hy]
      have Hy := Lib.hid hy; clear hy
      have HH := Lib.hid hH; clear hH ho2
      go_wp2_with fail
      refine Has.out.mono ?_
      rintro e w' ⟨rfl, w1, hb, rfl⟩
      have hs := (HH.out.below hb).set p.1 p.2 (.iface U y)
      have hc2 := hs.2
      have Hs := Lib.hid hs.1; clear hs
      have Hb := Lib.hid hb; clear hb
      generalize hw2 : ((w1.setCell ⟨w.heap.size, 0, none⟩ (.string p.1)).setCell ⟨w.heap.size, 1, none⟩ (.int .i64 p.2)).setCell ⟨w.heap.size, 2, none⟩ (.iface U y) = w2 at *
      have Hw2 := Lib.hid hw2; clear hw2
      go_wp2
      go_roundw
      case rel => exact ⟨pre ++ [p], l, by rw [HL.out]; simp, Hy.out.symm, by simp, by
          rw [← Hw2.out]
          exact (((HB.out.trans (Hb.out.mono HB.out.size)).setCell (Nat.le_refl _) _).setCell (Nat.le_refl _) _).setCell (Nat.le_refl _) _, by rw [lastS_snoc, lastN_snoc]; exact Hs.out⟩
      case measure => exact wrapV_size _ _ _
/-- Where of nothing. -/
def Nowhere (w : World) (e : Ending) (w' : World) : Prop := Place ⟨#[]⟩ 0 false w e w'
set_option maxHeartbeats 1000000 in
theorem where_nil (w : World) : Calls Tryz.prog 32 #[.nilIface] w (Nowhere w) := by
  go_enter Tryz.func32, Tryz.ntmps32
  go_wp2
  refine wp_loop_rounds 1 ?_
  rw [rounds_succ]
  go_wp2_with (go_at_call 45; refine (As_nil _ _).mono ?_; rintro e w' ⟨rfl, rfl⟩)
  go_quiet (fail)
  go_wp2
  go_ret3
  exact ⟨rfl, below_drewN ((Below.refl _ _).alloc (Nat.le_refl _) _) _⟩
end Go.Proofs.YtfhnkjlegehaoaaGreatDoor
