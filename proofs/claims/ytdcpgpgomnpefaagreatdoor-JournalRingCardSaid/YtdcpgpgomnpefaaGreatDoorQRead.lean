/-
  (*rack.Rack).Read and Get.
-/
import Derived.Test.YtdcpgpgomnpefaaGreatDoorQSmall
import Derived.Test.YtdcpgpgomnpefaaGreatDoorHGet
namespace Go.Proofs.YtdcpgpgomnpefaaGreatDoor
open Go.RowKit Go.Deep Dk Qk Go.Maps Hf
/-- What is read. -/
def qval (q : Rk) (i s : Int) : List UInt8 := if q.has i ∧ q.off = false then rval (q.s i.toNat) s else []
def qrcode (q : Rk) (i s : Int) : Int := if q.has i then (if q.off = true then 5 else rcode (q.s i.toNat) s) else 1
def qrerr (q : Rk) (i s : Int) : Value :=
  if q.has i then (if q.off = true then wrapV opQRead i (errV 5) else if rcode (q.s i.toNat) s = 0 then .nilIface else wrapV opQRead i (wrapV opRead s (errV (rcode (q.s i.toNat) s)))) else wrapV opQRead i (errV 1)
def ReadQ (q : Rk) (i s : Int) (w : World) (e : Ending) (w' : World) : Prop := ∃ v, e = .returned (.tuple #[v, qrerr q i s]) ∧ SlB w'.heap.size w' v (qval q i s) ∧ Below w.heap.size w w'
theorem kind_rerr (q : Rk) (i s : Int) (w : World) (hT : Typ w) : Calls Tryz.prog 13 #[qrerr q i s] w (Num (qrcode q i s) w) := by
  unfold qrerr qrcode
  by_cases hi : q.has i
  · rw [if_pos hi, if_pos hi]
    cases ho : q.off with
    | true => rw [if_pos rfl, if_pos rfl]; exact kind_err [(opQRead, i)] 5 w _ rfl hT
    | false =>
      rw [if_neg (show ¬ false = true by decide), if_neg (show ¬ false = true by decide)]
      by_cases h0 : rcode (q.s i.toNat) s = 0
      · rw [if_pos h0, h0]; exact kind_nil w
      · rw [if_neg h0]; exact kind_err [(opQRead, i), (opRead, s)] _ w _ rfl hT
  · rw [if_neg hi, if_neg hi]; exact kind_err [(opQRead, i)] 1 w _ rfl hT
set_option maxHeartbeats 1000000 in
set_option maxRecDepth 100000 in
theorem qread_no {lo : Nat} {c : Lc} {q : Rk} (w : World) (h : RackIn lo w c q) (i s : Int) (hi : ¬ q.has i) :
    Calls Tryz.prog 70 #[.pointer (some ⟨c.r, 0, none⟩), .int .i64 i, .int .i64 s] w (Err2 (.slice none 0 0) opQRead 1 i w) := by
  have HH := Lib.hid (qhas_any w h i)
  rw [decide_eq_false hi] at HH
  clear h hi
  go_enter Tryz.func70, Tryz.ntmps70
  go_wp2_with (first
    | (go_at_call 81; refine HH.out.mono ?_; rintro e w' ⟨rfl, rfl⟩)
    | (go_at_call 45; refine (wrap_some _ _ _ _ _).mono ?_; rintro e w' ⟨rfl, rfl⟩))
  exact bodyPost_ret (v := .tuple #[.slice none 0 0, wrapV opQRead i (errV 1)]) (by simp [results, Tryz.results70, go_sem, wrapV, errV, opQRead]) rfl ⟨rfl, rfl⟩
set_option maxHeartbeats 1000000 in
set_option maxRecDepth 100000 in
theorem qread_off {lo : Nat} {c : Lc} {q : Rk} (w : World) (h : RackIn lo w c q) (i s : Int) (hi : q.has i) (ho : q.off = true) :
    Calls Tryz.prog 70 #[.pointer (some ⟨c.r, 0, none⟩), .int .i64 i, .int .i64 s] w (Err2 (.slice none 0 0) opQRead 5 i w) := by
  have HH := Lib.hid (qhas_any w h i)
  rw [decide_eq_true hi] at HH
  have c1 := h.c1
  rw [ho] at c1
  clear h hi ho
  go_enter Tryz.func70, Tryz.ntmps70
  go_wp2_with (first
    | (go_at_call 81; refine HH.out.mono ?_; rintro e w' ⟨rfl, rfl⟩)
    | (go_at_call 45; refine (wrap_some _ _ _ _ _).mono ?_; rintro e w' ⟨rfl, rfl⟩))
  exact bodyPost_ret (v := .tuple #[.slice none 0 0, wrapV opQRead i (errV 5)]) (by simp [results, Tryz.results70, go_sem, wrapV, errV, opQRead]) rfl ⟨rfl, rfl⟩
set_option maxHeartbeats 1000000 in
set_option maxRecDepth 100000 in
theorem qread_yes {lo : Nat} {c : Lc} {q : Rk} (w : World) (h : RackIn lo w c q) (k : Nat) (s : Int) (hk : k < q.n) (ho : q.off = false) :
    Calls Tryz.prog 70 #[.pointer (some ⟨c.r, 0, none⟩), .int .i64 (k : Int), .int .i64 s] w (fun e w' => ∃ v, e = .returned (.tuple #[v, if rcode (q.s k) s = 0 then .nilIface else wrapV opQRead k (wrapV opRead s (errV (rcode (q.s k) s)))]) ∧ SlB w'.heap.size w' v (rval (q.s k) s) ∧ Below w.heap.size w w') := by
  have HH := Lib.hid (qhas_any w h k)
  rw [decide_eq_true (show q.has (k : Int) from ⟨by omega, by omega⟩)] at HH
  have c1 := h.c1
  rw [ho] at c1
  have c0 := h.c0
  have ca := h.at_ hk
  have i1 : (k : Int) < q.n := by omega
  have i2 : (0 : Int) ≤ k := by omega
  have HP := Lib.hid (pread_d w (h.disk k hk) s)
  clear h ho
  generalize rcode (q.s k) s = rc at HP ⊢
  by_cases h0 : rc = 0
  · subst h0
    unfold evs at HP
    rw [if_pos rfl] at HP
    rw [if_pos rfl]
    go_enter Tryz.func70, Tryz.ntmps70
    go_wp2_with (first
      | (go_at_call 81; refine HH.out.mono ?_; rintro e w' ⟨rfl, rfl⟩)
      | (go_at_call 120; refine HP.out.mono ?_; rintro e w1 ⟨v, rfl, hv, hb⟩)
      | (go_at_call 45; refine (wrap_nil _ _ _).mono ?_; rintro e w' ⟨rfl, rfl⟩))
    exact bodyPost_ret (v := .tuple #[v, .nilIface]) (by simp [results, Tryz.results70, go_sem]) rfl ⟨v, rfl, hv, hb⟩
  · unfold evs at HP
    rw [if_neg h0] at HP
    rw [if_neg h0]
    clear h0
    rw [show wrapV opRead s (errV rc) = .iface 165 (.agg #[.string opRead, .int .i64 s, errV rc]) from rfl] at HP ⊢
    generalize (Value.agg #[.string opRead, .int .i64 s, errV rc]) = y at HP ⊢
    go_enter Tryz.func70, Tryz.ntmps70
    go_wp2_with (first
      | (go_at_call 81; refine HH.out.mono ?_; rintro e w' ⟨rfl, rfl⟩)
      | (go_at_call 120; refine HP.out.mono ?_; rintro e w1 ⟨v, rfl, hv, hb⟩)
      | (go_at_call 45; refine (wrap_some _ _ _ _ _).mono ?_; rintro e w' ⟨rfl, rfl⟩))
    exact bodyPost_ret (v := .tuple #[v, wrapV opQRead k (.iface 165 y)]) (by simp [results, Tryz.results70, go_sem, wrapV, opQRead]) rfl ⟨v, rfl, hv, hb⟩
theorem qread_any {lo : Nat} {c : Lc} {q : Rk} (w : World) (h : RackIn lo w c q) (i s : Int) :
    Calls Tryz.prog 70 #[.pointer (some ⟨c.r, 0, none⟩), .int .i64 i, .int .i64 s] w (ReadQ q i s w) := by
  unfold ReadQ qrerr qval
  by_cases hi : q.has i
  · rw [if_pos hi]
    cases ho : q.off with
    | true =>
      rw [if_pos rfl, if_neg (fun e => by cases e.2)]
      refine (qread_off w h i s hi ho).mono ?_
      rintro e w' ⟨rfl, rfl⟩
      exact ⟨_, rfl, slb_nil, Below.refl _ _⟩
    | false =>
      rw [if_neg (show ¬ false = true by decide), if_pos (show q.has i ∧ false = false from ⟨hi, rfl⟩)]
      obtain ⟨k, rfl⟩ := Int.eq_ofNat_of_zero_le hi.1
      exact qread_yes w h k s (by have := hi.2; omega) ho
  · rw [if_neg hi, if_neg (fun e => hi e.1)]
    refine (qread_no w h i s hi).mono ?_
    rintro e w' ⟨rfl, rfl⟩
    exact ⟨_, rfl, slb_nil, Below.refl _ _⟩
end Go.Proofs.YtdcpgpgomnpefaaGreatDoor
