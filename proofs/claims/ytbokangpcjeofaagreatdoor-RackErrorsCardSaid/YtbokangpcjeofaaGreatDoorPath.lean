/-
  fault.Path over Faults around a kind: the operations, the outermost first, in new memory.
-/
import Derived.Test.YtbokangpcjeofaaGreatDoorWhere
import Derived.Laws.AppendOwn
import Derived.Maps.AppendAt
namespace Go.Proofs.YtbokangpcjeofaaGreatDoor
open Go.RowKit Go.Extern.Stop Go.Stop Go.Extern


theorem Held.belowB {tb B : Nat} {s : ByteArray} {n : Int} {w w' : World} (h : Held tb s n w) (hb : Below B w w') (hl : tb < B) : Held tb s n w' := by
  refine ⟨by rw [hb.cell hl]; exact h.c0, by rw [hb.cell hl]; exact h.c1, ?_, fun i => by rw [hb.frozen hl]; exact h.f i⟩
  obtain ⟨o, ho⟩ := h.c2
  exact ⟨o, by rw [hb.cell hl]; exact ho⟩

def ops (l : List (ByteArray × Int)) : List Value := l.map fun p => .string p.1

/-- The texts of l, in a row of the call's own from block B on. -/
def PathOf (l : List (ByteArray × Int)) (w : World) (e : Ending) (w' : World) : Prop :=
  ∃ v, e = .returned v ∧ w'.ownsRow (w.heap.size + 1) 9 1 v l.length (ops l) ∧ Below w.heap.size w w'

def RelP (L : List (ByteArray × Int)) (b : Value) (w : World) (v o : Value) (wr : World) : Prop :=
  ∃ pre l, L = pre ++ l ∧ v = chain l b ∧ Below w.heap.size w wr ∧ Held w.heap.size (lastS pre) (lastN pre) wr ∧ wr.ownsRow (w.heap.size + 1) 9 1 o pre.length (ops pre)

theorem Tryz.info9 : (Tryz.prog.info? 9).map (fun i => (i.zero, i.size, i.bytes)) = some (some (.string ⟨#[]⟩), 1, 16) := by kernel_rfl

set_option maxHeartbeats 1000000 in
theorem path_err (L : List (ByteArray × Int)) (k : Int) (w : World) (v : Value) (hc : v = chain L (errV k)) (hg : Typ w) (hn : L.length ≤ 1000) :
    Calls Tryz.prog 41 #[v] w (PathOf L w) := by
  have hp := hg.pos
  have Hg := Lib.hid hg; clear hg
  obtain ⟨i0, hi, hz0, hz1, hz2⟩ := info_parts Tryz.info9
  go_enter Tryz.func41, Tryz.ntmps41
  go_wp2
  go_loopw [0, 3] (fun v o wr => RelP L (errV k) w v o wr) (fun v _ _ => SizeOf.sizeOf v)
  case atStart => exact ⟨[], L, rfl, hc, (Below.refl _ _).alloc (Nat.le_refl _) _, ⟨by simp [lastS], by simp [lastN], ⟨.nilIface, by simp⟩, by simp⟩, World.ownsRow_nil _ _ _ _⟩
  case round =>
    rename_i o wr
    clear hc
    obtain ⟨pre, l, hL, rfl, hB, hH, hown⟩ := hrel
    have hpre : pre.length ≤ 1000 := by rw [hL] at hn; simp at hn; omega
    have HL := Lib.hid hL; clear hL
    have hgr : Typ wr := Hg.out.below hB
    have HB := Lib.hid hB; clear hB
    have hlt := hH.lt
    cases l with
    | nil =>
      have has0 := As47_miss25 k w.heap.size wr hgr
      have Has := Lib.hid has0; clear has0 hgr
      simp only [chain]
      clear hH
      have Hown := Lib.hid hown; clear hown
      unfold errV at Has
      unfold errV
      go_wp2_with fail
      refine Has.out.mono ?_
      rintro e w' ⟨rfl, hb⟩
      have Hb := Lib.hid hb; clear hb
      go_wp2
      go_ret
      obtain rfl : L = pre := by rw [HL.out]; simp
      exact ⟨_, rfl, own_below Hown.out Hb.out, HB.out.trans (Hb.out.mono HB.out.size)⟩
    | cons p l =>
      obtain ⟨U, y, hy⟩ := chain_iface l 31 (.int .i64 k)
      change chain l (errV k) = _ at hy
      obtain ⟨o2, ho2⟩ := hH.c2
      have has0 := As47_hit p.1 p.2 U y w.heap.size (.string (lastS pre)) (.int .i64 (lastN pre)) o2 wr hgr hH.c0 hH.c1 ho2 (hH.f 0) (hH.f 1) (hH.f 2)
      unfold wrapV at has0
      have Has := Lib.hid has0; clear has0 hgr
      simp only [chain, wrapV]
      rw [hy]
      have Hy := Lib.hid hy; clear hy
      have HH := Lib.hid hH; clear hH ho2
      have Hown := Lib.hid hown; clear hown
      go_wp2_with fail
      refine Has.out.mono ?_
      rintro e w' ⟨rfl, w1, hb, rfl⟩
      have hown1 := ownsRow_setCell_below (ownsRow_setCell_below (ownsRow_setCell_below (own_below Hown.out hb) (a := ⟨w.heap.size, 0, none⟩) (Nat.lt_succ_self _) (.string p.1)) (a := ⟨w.heap.size, 1, none⟩) (Nat.lt_succ_self _) (.int .i64 p.2)) (a := ⟨w.heap.size, 2, none⟩) (Nat.lt_succ_self _) (.iface U y)
      have hs := (HH.out.below hb).set p.1 p.2 (.iface U y)
      have hB2 : Below w.heap.size w (((w1.setCell ⟨w.heap.size, 0, none⟩ (.string p.1)).setCell ⟨w.heap.size, 1, none⟩ (.int .i64 p.2)).setCell ⟨w.heap.size, 2, none⟩ (.iface U y)) :=
        (((HB.out.trans (hb.mono HB.out.size)).setCell (Nat.le_refl _) _).setCell (Nat.le_refl _) _).setCell (Nat.le_refl _) _
      have hz : wr.heap.size ≤ w1.heap.size := hb.size
      have hz2' : (((w1.setCell ⟨w.heap.size, 0, none⟩ (.string p.1)).setCell ⟨w.heap.size, 1, none⟩ (.int .i64 p.2)).setCell ⟨w.heap.size, 2, none⟩ (.iface U y)).heap.size = w1.heap.size := by simp
      clear hb
      generalize ((w1.setCell ⟨w.heap.size, 0, none⟩ (.string p.1)).setCell ⟨w.heap.size, 1, none⟩ (.int .i64 p.2)).setCell ⟨w.heap.size, 2, none⟩ (.iface U y) = w2 at *
      have hsz : w.heap.size + 1 ≤ w2.heap.size := by omega
      clear hz hz2'
      have hc0 := hs.1.c0
      have hc2 := hs.2
      have Hs := Lib.hid hs; clear hs
      have HB2 := Lib.hid hB2; clear hB2
      have Hown1 := Lib.hid hown1; clear hown1
      go_wp2_with (at_builtin; refine wpList_append_own _ rfl _ _ 75 rfl (w.heap.size + 1) 9 i0 (.string ⟨#[]⟩) 1 16 Tryz.underlying75 hi hz0 hz1 hz2 rfl (by decide) _ _ _ rfl (Hown1.out.alloc _) ⟨w2.heap.size, 0, none⟩ 1 1 [.string p.1] rfl rfl (cell_one_new _ _ _) (fun x hx => by simp at hx; subst hx; rfl) (by unfold maxLen; omega) (by omega) (by simp; omega) ?_; intro v' w3 hown3 hgrow3 hnil3; have hB3 : Below (w.heap.size + 1) w2 w3 := ((Below.refl _ _).alloc hsz _).grown hgrow3 (by simp; omega) (fun k hk => (Hown1.out.lt k hk).1); have hc23 : w3.cell? ⟨w.heap.size, 2, none⟩ = some (.iface U y) := (by rw [hB3.cell (Nat.lt_succ_self _)]; exact hc2); have HB3 := Lib.hid hB3; clear hB3; have Hown3 := Lib.hid hown3; clear hown3 hgrow3 hnil3 hc0 hc2)
      go_roundw
      case rel => exact ⟨pre ++ [p], l, by rw [HL.out]; simp, Hy.out.symm, HB2.out.trans (HB3.out.mono (Nat.le_succ _)), by rw [lastS_snoc, lastN_snoc]; exact Hs.out.1.belowB HB3.out (Nat.lt_succ_self _), by simpa [ops] using Hown3.out⟩
      case measure => exact wrapV_size _ _ _

/-- Path of nothing. -/
def Pathless (w : World) (e : Ending) (w' : World) : Prop := e = .returned (.slice none 0 0) ∧ Below w.heap.size w w'
set_option maxHeartbeats 1000000 in
theorem path_nil (w : World) : Calls Tryz.prog 41 #[.nilIface] w (Pathless w) := by
  go_enter Tryz.func41, Tryz.ntmps41
  go_wp2
  refine wp_loop_rounds 1 ?_
  rw [rounds_succ]
  go_wp2_with (go_at_call 46; refine (As_nil _ _).mono ?_; rintro e w' ⟨rfl, rfl⟩)
  go_ret
  exact ⟨rfl, (Below.refl _ _).alloc (Nat.le_refl _) _⟩
end Go.Proofs.YtbokangpcjeofaaGreatDoor
