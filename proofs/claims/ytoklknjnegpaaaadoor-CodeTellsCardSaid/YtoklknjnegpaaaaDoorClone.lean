/-
  slices.Clone of bytes.
-/
import Derived.Test.YtoklknjnegpaaaaDoorBytes
import Derived.Lib.SliceRun
namespace Go.Proofs.YtoklknjnegpaaaaDoor
open Go.RowKit
/-- The same bytes, in a row of the call's own, or nil. -/
def Cloned (l : List UInt8) (w : World) (e : Ending) (w' : World) : Prop := ∃ v', e = .returned v' ∧ w'.ownsRow w.heap.size 5 1 v' l.length (bytesV l) ∧ Below w.heap.size w w'
theorem cloned {l : List UInt8} {w w2 : World} {v2 : Value} {o : Obj} (hown : w2.ownsRow w.heap.size 5 1 v2 (0 + l.length) ([] ++ bytesV l)) (hg : Grew (w.alloc o) (some w.heap.size) w2 v2.ownBlock) : Cloned l w (.returned v2) w2 :=
  ⟨v2, rfl, by rwa [Nat.zero_add, List.nil_append] at hown, (one_below w o).trans (hg.below (by simp) (fun k hk => by injection hk with hk; omega))⟩
set_option maxHeartbeats 1000000 in
set_option maxRecDepth 100000 in
theorem clone_bytes (B : Nat) (v : Value) (l : List UInt8) (w : World) (h : SlB B w v l) (hB : B ≤ w.heap.size) (hl : l.length ≤ 100000) : Calls Tryd.prog 89 #[v] w (Cloned l w) := by
  have H := Lib.hid h
  obtain ⟨a, cap, rfl, _⟩ := h.len
  have hn := Lib.run_eql_slice_nil w 24 5 a l.length cap 0 0 Tryd.underlying24
  clear h
  cases a with
  | none =>
    have hl0 : l = [] := by
      rcases H.out with ⟨h, _⟩ | ⟨b, o, cap, h, _⟩
      · exact h
      · injection h with h; cases h
    subst hl0
    have hn0 := Lib.run_eql_slice_nil w 24 5 none 0 cap 0 0 Tryd.underlying24
    clear hn
    go_enter Tryd.func89, Tryd.ntmps89
    go_wp2
    go_ret
    exact ⟨_, rfl, World.ownsRow_nil _ _ _ _, Below.refl _ _⟩
  | some a =>
    go_enter Tryd.func89, Tryd.ntmps89
    go_wp2_with (at_builtin; refine wpList_append_bytes _ rfl _ _ rfl w.heap.size _ _ _ rfl (own_new w w.heap.size #[] 5 1 0 (Nat.le_refl _) rfl (by decide)) B _ l rfl (H.out.below ((Below.refl _ _).alloc hB _)) (by omega) (by simp) ?_; intro v2 w2 hown hg; have Hown := Lib.hid hown; have Hg := Lib.hid hg; clear hown hg)
    go_ret
    exact cloned Hown.out Hg.out
end Go.Proofs.YtoklknjnegpaaaaDoor
