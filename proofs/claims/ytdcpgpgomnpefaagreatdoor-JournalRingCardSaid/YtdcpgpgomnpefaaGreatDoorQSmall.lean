/-
  A rack's small functions: has, Up, N's kin, ready, spend, Off, Arm.
-/
import Derived.Test.YtdcpgpgomnpefaaGreatDoorQKit
namespace Go.Proofs.YtdcpgpgomnpefaaGreatDoor
open Go.RowKit Go.Deep Dk Qk Go.Maps
def opQNew : ByteArray := ⟨#[114, 97, 99, 107, 46, 78, 101, 119]⟩
def opQWrite : ByteArray := ⟨#[114, 97, 99, 107, 46, 87, 114, 105, 116, 101]⟩
def opQRead : ByteArray := ⟨#[114, 97, 99, 107, 46, 82, 101, 97, 100]⟩
def opQFlush : ByteArray := ⟨#[114, 97, 99, 107, 46, 70, 108, 117, 115, 104]⟩
set_option maxHeartbeats 1000000 in
set_option maxRecDepth 100000 in
theorem qhas_any {lo : Nat} {c : Lc} {q : Rk} (w : World) (h : RackIn lo w c q) (i : Int) : Calls Tryz.prog 81 #[.pointer (some ⟨c.r, 0, none⟩), .int .i64 i] w (BitSame (decide (q.has i)) w) := by
  have c0 := h.c0
  clear h
  have HD := Lib.hid (show decide (q.has i) = decide (0 ≤ i ∧ i < q.n) from rfl)
  by_cases h0 : 0 ≤ i
  · by_cases h1 : i < q.n
    · have hd : decide (q.has i) = true := by rw [HD.out]; simp; omega
      have HE := Lib.hid hd; clear hd
      go_enter Tryz.func81, Tryz.ntmps81
      go_wp2
      go_ret
      exact bitSame HE.out.symm
    · have hd : decide (q.has i) = false := by rw [HD.out]; simp; omega
      have HE := Lib.hid hd; clear hd
      go_enter Tryz.func81, Tryz.ntmps81
      go_wp2
      go_ret
      exact bitSame HE.out.symm
  · have hd : decide (q.has i) = false := by rw [HD.out]; simp; omega
    have HE := Lib.hid hd; clear hd
    go_enter Tryz.func81, Tryz.ntmps81
    go_wp2
    go_ret
    exact bitSame HE.out.symm
theorem up_no {q : Rk} {i : Int} (h : ¬ q.has i) : q.up i = false := by unfold Rk.up; rw [decide_eq_false h]; rfl
theorem up_at {q : Rk} {k : Nat} (h : k < q.n) : q.up (k : Int) = !(q.s k).dead := by
  unfold Rk.up; rw [decide_eq_true (show q.has (k : Int) from ⟨by omega, by omega⟩)]; rfl
set_option maxHeartbeats 1000000 in
set_option maxRecDepth 100000 in
theorem qup_any {lo : Nat} {c : Lc} {q : Rk} (w : World) (h : RackIn lo w c q) (i : Int) : Calls Tryz.prog 68 #[.pointer (some ⟨c.r, 0, none⟩), .int .i64 i] w (BitSame (q.up i) w) := by
  have c0 := h.c0
  have HH := Lib.hid (qhas_any w h i)
  by_cases hi : q.has i
  · rw [decide_eq_true hi] at HH
    obtain ⟨k, rfl⟩ := Int.eq_ofNat_of_zero_le hi.1
    have hk : k < q.n := by have := hi.2; omega
    have c1 := h.at_ hk
    have HU := Lib.hid (up_at hk)
    have HD := Lib.hid (dead_any w (h.disk k hk))
    have i1 : (k : Int) < q.n := by omega
    have i2 : (0 : Int) ≤ k := by omega
    clear h hi
    generalize (q.s k).dead = b at HU HD
    generalize q.up (k : Int) = u at HU ⊢
    go_enter Tryz.func68, Tryz.ntmps68
    go_wp2_with (first
      | (go_at_call 81; refine HH.out.mono ?_; rintro e w' ⟨rfl, rfl⟩)
      | (go_at_call 118; refine HD.out.mono ?_; rintro e w' ⟨rfl, rfl⟩))
    go_ret
    exact bitSame HU.out.symm
  · rw [decide_eq_false hi] at HH
    have HU := Lib.hid (up_no hi)
    clear h hi
    generalize q.up i = u at HU ⊢
    go_enter Tryz.func68, Tryz.ntmps68
    go_wp2_with (go_at_call 81; refine HH.out.mono ?_; rintro e w' ⟨rfl, rfl⟩)
    go_ret
    exact bitSame HU.out.symm
/-- A number, and the world as it was. -/
def NumSame (k : Int) (w : World) (e : Ending) (w' : World) : Prop := e = .returned (.int .i64 k) ∧ w = w'
set_option maxHeartbeats 1000000 in
set_option maxRecDepth 100000 in
theorem qsectors_any {lo : Nat} {c : Lc} {q : Rk} (w : World) (h : RackIn lo w c q) : Calls Tryz.prog 96 #[.pointer (some ⟨c.r, 0, none⟩)] w (NumSame (q.k : Int) w) := by
  have c0 := h.c0
  have hn := h.ok.n0
  have c1 := h.at_ (i := 0) (by omega)
  have hk := h.ok.k 0 (by omega)
  have HS := Lib.hid (sectors_any w (h.disk 0 (by omega)))
  rw [hk] at HS
  clear h hk
  have i1 : (0 : Int) < q.n := by omega
  go_enter Tryz.func96, Tryz.ntmps96
  go_wp2_with (go_at_call 138; refine HS.out.mono ?_; rintro e w' ⟨rfl, rfl⟩)
  go_ret
  exact ⟨rfl, rfl⟩
/-- An error or none, and the world as it was. -/
def ErrSame (op : ByteArray) (code at_ : Int) (w : World) (e : Ending) (w' : World) : Prop := e = .returned (evs op code at_) ∧ w = w'
theorem evs_zero (op : ByteArray) (n : Int) : evs op 0 n = .nilIface := if_pos rfl
theorem evs_some (op : ByteArray) {k : Int} (n : Int) (h : k ≠ 0) : evs op k n = wrapV op n (errV k) := if_neg h
set_option maxHeartbeats 1000000 in
set_option maxRecDepth 100000 in
theorem qready_any {lo : Nat} {c : Lc} {q : Rk} (w : World) (h : RackIn lo w c q) (op : ByteArray) (i : Int) : Calls Tryz.prog 97 #[.pointer (some ⟨c.r, 0, none⟩), .string op, .int .i64 i] w (ErrSame op (q.ready i) i w) := by
  have c1 := h.c1
  have HH := Lib.hid (qhas_any w h i)
  have HU := Lib.hid (qup_any w h i)
  clear h
  by_cases hi : q.has i
  · rw [decide_eq_true hi] at HH
    have hu : q.up i = !(q.s i.toNat).dead := by unfold Rk.up; rw [decide_eq_true hi]; rfl
    rw [hu] at HU
    have HR := Lib.hid (show q.ready i = if (q.off || (q.s i.toNat).dead) = true then 5 else 0 from if_pos hi)
    clear hi hu
    generalize q.ready i = rd at HR ⊢
    generalize (q.s i.toNat).dead = b at HU HR
    generalize q.off = o at c1 HR
    cases o with
    | true =>
      go_enter Tryz.func97, Tryz.ntmps97
      go_wp2_with (first
        | (go_at_call 81; refine HH.out.mono ?_; rintro e w' ⟨rfl, rfl⟩)
        | (go_at_call 45; refine (wrap_some _ _ _ _ _).mono ?_; rintro e w' ⟨rfl, rfl⟩))
      have e : rd = 5 := HR.out
      subst e
      exact bodyPost_ret (v := wrapV op i (errV 5)) (by simp [results, Tryz.results97, go_sem, wrapV, errV]) rfl ⟨rfl, rfl⟩
    | false =>
      cases b with
      | true =>
        go_enter Tryz.func97, Tryz.ntmps97
        go_wp2_with (first
          | (go_at_call 81; refine HH.out.mono ?_; rintro e w' ⟨rfl, rfl⟩)
          | (go_at_call 68; refine HU.out.mono ?_; rintro e w' ⟨rfl, rfl⟩)
          | (go_at_call 45; refine (wrap_some _ _ _ _ _).mono ?_; rintro e w' ⟨rfl, rfl⟩))
        have e : rd = 5 := HR.out
        subst e
        exact bodyPost_ret (v := wrapV op i (errV 5)) (by simp [results, Tryz.results97, go_sem, wrapV, errV]) rfl ⟨rfl, rfl⟩
      | false =>
        go_enter Tryz.func97, Tryz.ntmps97
        go_wp2_with (first
          | (go_at_call 81; refine HH.out.mono ?_; rintro e w' ⟨rfl, rfl⟩)
          | (go_at_call 68; refine HU.out.mono ?_; rintro e w' ⟨rfl, rfl⟩))
        have e : rd = 0 := HR.out
        subst e
        exact bodyPost_ret (v := .nilIface) (by simp [results, Tryz.results97, go_sem]) rfl ⟨rfl, rfl⟩
  · rw [decide_eq_false hi] at HH
    have HR := Lib.hid (show q.ready i = 1 from if_neg hi)
    clear hi HU
    generalize q.ready i = rd at HR ⊢
    go_enter Tryz.func97, Tryz.ntmps97
    go_wp2_with (first
      | (go_at_call 81; refine HH.out.mono ?_; rintro e w' ⟨rfl, rfl⟩)
      | (go_at_call 45; refine (wrap_some _ _ _ _ _).mono ?_; rintro e w' ⟨rfl, rfl⟩))
    have e : rd = 1 := HR.out
    subst e
    exact bodyPost_ret (v := wrapV op i (errV 1)) (by simp [results, Tryz.results97, go_sem, wrapV, errV]) rfl ⟨rfl, rfl⟩
/-- An operation has begun, or the power failed: the rack's struct alone has turned. -/
def SpentR (lo : Nat) (c : Lc) (q : Rk) (b : Bool) (w : World) (e : Ending) (w' : World) : Prop :=
  NextR lo c q.n q.spent (.bool b) w e w' ∧ w'.heap.size = w.heap.size ∧ ∀ k, k ≠ c.r → w'.heap[k]? = w.heap[k]?
theorem set_only (r i : Nat) (v : Value) (w : World) : (w.setCell ⟨r, i, none⟩ v).heap.size = w.heap.size ∧ ∀ k, k ≠ r → (w.setCell ⟨r, i, none⟩ v).heap[k]? = w.heap[k]? :=
  ⟨by simp, fun k hk => heap_setCell_other w ⟨r, i, none⟩ k v hk⟩
set_option maxHeartbeats 1000000 in
set_option maxRecDepth 100000 in
theorem qspend_any {lo : Nat} {c : Lc} {q : Rk} (w : World) (h : RackIn lo w c q) : Calls Tryz.prog 98 #[.pointer (some ⟨c.r, 0, none⟩)] w (SpentR lo c q (decide (q.rem ≠ 0)) w) := by
  show Calls _ _ _ _ (fun e w' => NextR lo c q.n q.spent (.bool (decide (q.rem ≠ 0))) w e w' ∧ w'.heap.size = w.heap.size ∧ ∀ k, k ≠ c.r → w'.heap[k]? = w.heap[k]?)
  have c1 := h.c1
  have c2 := h.c2
  have f1 := h.fz 1
  have f2 := h.fz 2
  have hlow := h.ok.low
  have hhigh := h.ok.high
  by_cases h0 : q.rem = 0
  · have HS := Lib.hid (show q.spent = { q with off := true } from if_pos h0)
    have HR := Lib.hid (h.setOff true)
    have HD := Lib.hid (show decide (q.rem ≠ 0) = false by simp [h0])
    rw [h0] at c2
    clear h h0 hlow hhigh
    generalize decide (q.rem ≠ 0) = dd at HD ⊢
    generalize q.spent = q' at HS ⊢
    go_enter Tryz.func98, Tryz.ntmps98
    go_wp2
    go_ret
    rw [HS.out, HD.out]
    exact ⟨⟨rfl, HR.out, RC.set _ _ _ _ _⟩, set_only _ _ _ _⟩
  · have HD := Lib.hid (show decide (q.rem ≠ 0) = true by simp [h0])
    by_cases h1 : 0 < q.rem
    · have HS := Lib.hid (show q.spent = { q with rem := q.rem - 1 } by unfold Rk.spent; rw [if_neg h0, if_pos h1])
      have HR := Lib.hid (h.setRem (q.rem - 1) (by omega) (by omega))
      clear h
      generalize decide (q.rem ≠ 0) = dd at HD ⊢
      generalize q.spent = q' at HS ⊢
      go_enter Tryz.func98, Tryz.ntmps98
      go_wp2
      go_ret
      rw [HS.out, HD.out]
      exact ⟨⟨rfl, HR.out, RC.set _ _ _ _ _⟩, set_only _ _ _ _⟩
    · have HS := Lib.hid (show q.spent = q by unfold Rk.spent; rw [if_neg h0, if_neg h1])
      have HR := Lib.hid h
      clear h
      generalize decide (q.rem ≠ 0) = dd at HD ⊢
      generalize q.spent = q' at HS ⊢
      go_enter Tryz.func98, Tryz.ntmps98
      go_wp2
      go_ret
      rw [HS.out, HD.out]
      exact ⟨⟨rfl, HR.out, RC.refl _ _ _⟩, rfl, fun _ _ => rfl⟩
set_option maxHeartbeats 1000000 in
set_option maxRecDepth 100000 in
theorem qoff_any {lo : Nat} {c : Lc} {q : Rk} (w : World) (h : RackIn lo w c q) : Calls Tryz.prog 67 #[.pointer (some ⟨c.r, 0, none⟩)] w (BitSame q.off w) := by
  have c1 := h.c1
  clear h
  go_enter Tryz.func67, Tryz.ntmps67
  go_wp2
  go_ret
  exact bitSame rfl
set_option maxHeartbeats 1000000 in
set_option maxRecDepth 100000 in
theorem qarm_any {lo : Nat} {c : Lc} {q : Rk} (w : World) (h : RackIn lo w c q) (n : Int) (h1 : -9223372036854775808 ≤ n) (h2 : n < 9223372036854775808) : Calls Tryz.prog 37 #[.pointer (some ⟨c.r, 0, none⟩), .int .i64 n] w (NextR lo c q.n (q.arm n) (.tuple #[]) w) := by
  have f2 := h.fz 2
  have c2 := h.c2
  have HR := Lib.hid (h.setRem n h1 h2)
  clear h h1 h2
  go_enter Tryz.func37, Tryz.ntmps37
  go_wp2
  go_end0
  exact ⟨rfl, HR.out, RC.set _ _ _ _ _⟩
end Go.Proofs.YtdcpgpgomnpefaaGreatDoor
