/-
  (*rack.Rack).N, Die, Replace, Rot.
-/
import Derived.Test.YtdcpgpgomnpefaaGreatDoorQS
import Derived.Test.YtdcpgpgomnpefaaGreatDoorDEvRot
namespace Go.Proofs.YtdcpgpgomnpefaaGreatDoor
open Go.RowKit Go.Deep Dk Qk Go.Maps
set_option maxHeartbeats 1000000 in
set_option maxRecDepth 100000 in
theorem qn_any {lo : Nat} {c : Lc} {q : Rk} (w : World) (h : RackIn lo w c q) : Calls Tryz.prog 66 #[.pointer (some ⟨c.r, 0, none⟩)] w (NumSame (q.n : Int) w) := by
  have c0 := h.c0
  clear h
  go_enter Tryz.func66, Tryz.ntmps66
  go_wp2
  go_ret
  exact ⟨rfl, rfl⟩
theorem wipe_n (s : St) (b : Bool) : (s.wipe b).n = s.n := rfl
/-- Die of a disk that may not be there. -/
def Rk.dying (q : Rk) (i : Int) (dead : Bool) : Rk := if q.has i then q.wipe i.toNat dead else q
set_option maxHeartbeats 1000000 in
set_option maxRecDepth 100000 in
theorem qdie_any {lo : Nat} {c : Lc} {q : Rk} (w : World) (h : RackIn lo w c q) (i : Int) : Calls Tryz.prog 39 #[.pointer (some ⟨c.r, 0, none⟩), .int .i64 i] w (NextR lo c q.n (Rk.dying q i true) (.bool (decide (q.has i))) w) := by
  have HH := Lib.hid (qhas_any w h i)
  have c0 := h.c0
  unfold Rk.dying
  by_cases hi : q.has i
  · rw [decide_eq_true hi] at HH ⊢
    rw [if_pos hi]
    obtain ⟨k, rfl⟩ := Int.eq_ofNat_of_zero_le hi.1
    have hk : k < q.n := by have := hi.2; omega
    have ca := h.at_ hk
    have HD := Lib.hid (die_any w (h.disk k hk))
    have HQ := Lib.hid h
    have i1 : (k : Int) < q.n := by omega
    have i2 : (0 : Int) ≤ k := by omega
    clear h hi
    go_enter Tryz.func39, Tryz.ntmps39
    go_wp2_with (first
      | (go_at_call 81; refine HH.out.mono ?_; rintro e w' ⟨rfl, rfl⟩)
      | (go_at_call 87; refine HD.out.mono ?_; rintro e w2 ⟨rfl, hD, hC⟩))
    go_ret
    rw [Int.toNat_natCast]
    exact ⟨rfl, HQ.out.turned hk (HQ.out.ok.k k hk) hD hC, RC.of_chg hC hk⟩
  · rw [decide_eq_false hi] at HH ⊢
    rw [if_neg hi]
    have HQ := Lib.hid h
    clear h hi
    go_enter Tryz.func39, Tryz.ntmps39
    go_wp2_with (go_at_call 81; refine HH.out.mono ?_; rintro e w' ⟨rfl, rfl⟩)
    go_ret
    exact ⟨rfl, HQ.out, RC.refl _ _ _⟩
set_option maxHeartbeats 1000000 in
set_option maxRecDepth 100000 in
theorem qreplace_any {lo : Nat} {c : Lc} {q : Rk} (w : World) (h : RackIn lo w c q) (i : Int) : Calls Tryz.prog 40 #[.pointer (some ⟨c.r, 0, none⟩), .int .i64 i] w (NextR lo c q.n (Rk.dying q i false) (.bool (decide (q.has i))) w) := by
  have HH := Lib.hid (qhas_any w h i)
  have c0 := h.c0
  unfold Rk.dying
  by_cases hi : q.has i
  · rw [decide_eq_true hi] at HH ⊢
    rw [if_pos hi]
    obtain ⟨k, rfl⟩ := Int.eq_ofNat_of_zero_le hi.1
    have hk : k < q.n := by have := hi.2; omega
    have ca := h.at_ hk
    have HD := Lib.hid (replace_any w (h.disk k hk))
    have HQ := Lib.hid h
    have i1 : (k : Int) < q.n := by omega
    have i2 : (0 : Int) ≤ k := by omega
    clear h hi
    go_enter Tryz.func40, Tryz.ntmps40
    go_wp2_with (first
      | (go_at_call 81; refine HH.out.mono ?_; rintro e w' ⟨rfl, rfl⟩)
      | (go_at_call 88; refine HD.out.mono ?_; rintro e w2 ⟨rfl, hD, hC⟩))
    go_ret
    rw [Int.toNat_natCast]
    exact ⟨rfl, HQ.out.turned hk (HQ.out.ok.k k hk) hD hC, RC.of_chg hC hk⟩
  · rw [decide_eq_false hi] at HH ⊢
    rw [if_neg hi]
    have HQ := Lib.hid h
    clear h hi
    go_enter Tryz.func40, Tryz.ntmps40
    go_wp2_with (go_at_call 81; refine HH.out.mono ?_; rintro e w' ⟨rfl, rfl⟩)
    go_ret
    exact ⟨rfl, HQ.out, RC.refl _ _ _⟩
/-- Does rot turn anything? -/
def Rk.rots (q : Rk) (i sec a : Int) (x : Nat) : Bool := decide (q.has i) && decide (mayRot (q.s i.toNat) sec a x)
def Rk.rotten (q : Rk) (i sec a : Int) (x : Nat) : Rk := if q.has i then q.turn i.toNat (rotnext (q.s i.toNat) sec a x) else q
theorem rotnext_nn (s : St) (i a : Int) (x : Nat) : (rotnext s i a x).n = s.n := by unfold rotnext; split; rfl; rfl
set_option maxHeartbeats 1000000 in
set_option maxRecDepth 100000 in
theorem qrot_any {lo : Nat} {c : Lc} {q : Rk} (w : World) (h : RackIn lo w c q) (i sec a : Int) (x : Nat) : Calls Tryz.prog 28 #[.pointer (some ⟨c.r, 0, none⟩), .int .i64 i, .int .i64 sec, .int .i64 a, .int .u32 (x : Int)] w (NextR lo c q.n (Rk.rotten q i sec a x) (.bool (Rk.rots q i sec a x)) w) := by
  have HH := Lib.hid (qhas_any w h i)
  have c0 := h.c0
  unfold Rk.rotten Rk.rots
  by_cases hi : q.has i
  · rw [decide_eq_true hi] at HH ⊢
    rw [if_pos hi, Bool.true_and]
    obtain ⟨k, rfl⟩ := Int.eq_ofNat_of_zero_le hi.1
    have hk : k < q.n := by have := hi.2; omega
    have ca := h.at_ hk
    have HD := Lib.hid (rot_ev w (h.disk k hk) sec a x)
    have HQ := Lib.hid h
    have i1 : (k : Int) < q.n := by omega
    have i2 : (0 : Int) ≤ k := by omega
    rw [Int.toNat_natCast]
    clear h hi
    generalize decide (mayRot (q.s k) sec a x) = b at *
    go_enter Tryz.func28, Tryz.ntmps28
    go_wp2_with (first
      | (go_at_call 81; refine HH.out.mono ?_; rintro e w' ⟨rfl, rfl⟩)
      | (go_at_call 82; refine HD.out.mono ?_; rintro e w2 ⟨rfl, hD, hC⟩))
    go_ret
    exact ⟨rfl, HQ.out.turned hk ((rotnext_nn _ _ _ _).trans (HQ.out.ok.k k hk)) hD hC, RC.of_chg hC hk⟩
  · rw [decide_eq_false hi] at HH ⊢
    rw [if_neg hi, Bool.false_and]
    have HQ := Lib.hid h
    clear h hi
    go_enter Tryz.func28, Tryz.ntmps28
    go_wp2_with (go_at_call 81; refine HH.out.mono ?_; rintro e w' ⟨rfl, rfl⟩)
    go_ret
    exact ⟨rfl, HQ.out, RC.refl _ _ _⟩
theorem QS.die {w0 w : World} {c : Lc} {q : Rk} (h : QS w0 c q w) (i : Int) :
    Calls Tryz.prog 39 #[.pointer (some ⟨c.r, 0, none⟩), .int .i64 i] w (QN w0 c q.n (Rk.dying q i true) (.bool (decide (q.has i))) w) := h.of (qdie_any w h.rack i)
theorem QS.replace {w0 w : World} {c : Lc} {q : Rk} (h : QS w0 c q w) (i : Int) :
    Calls Tryz.prog 40 #[.pointer (some ⟨c.r, 0, none⟩), .int .i64 i] w (QN w0 c q.n (Rk.dying q i false) (.bool (decide (q.has i))) w) := h.of (qreplace_any w h.rack i)
theorem QS.rot {w0 w : World} {c : Lc} {q : Rk} (h : QS w0 c q w) (i sec a : Int) (x : Nat) :
    Calls Tryz.prog 28 #[.pointer (some ⟨c.r, 0, none⟩), .int .i64 i, .int .i64 sec, .int .i64 a, .int .u32 (x : Int)] w (QN w0 c q.n (Rk.rotten q i sec a x) (.bool (Rk.rots q i sec a x)) w) := h.of (qrot_any w h.rack i sec a x)
end Go.Proofs.YtdcpgpgomnpefaaGreatDoor
