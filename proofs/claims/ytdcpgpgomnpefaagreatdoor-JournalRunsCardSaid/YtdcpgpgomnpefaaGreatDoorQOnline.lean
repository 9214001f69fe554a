/-
  (*rack.Rack).Online.
-/
import Derived.Test.YtdcpgpgomnpefaaGreatDoorQSmall
import Derived.Test.YtdcpgpgomnpefaaGreatDoorCRows
namespace Go.Proofs.YtdcpgpgomnpefaaGreatDoor
open Go.RowKit Go.Deep Dk Qk Go.Maps
/-- Of the first m disks those that are up. -/
def upsN (q : Rk) (m : Nat) : List Nat := (List.range m).filter fun i => !(q.s i).dead
def ups (q : Rk) : List Nat := upsN q q.n
theorem upsN_yes {q : Rk} {m : Nat} (h : (q.s m).dead = false) : upsN q (m + 1) = upsN q m ++ [m] := by
  unfold upsN; rw [List.range_succ, List.filter_append]; simp [h]
theorem upsN_no {q : Rk} {m : Nat} (h : (q.s m).dead = true) : upsN q (m + 1) = upsN q m := by
  unfold upsN; rw [List.range_succ, List.filter_append]; simp [h]
theorem upsN_length (q : Rk) (m : Nat) : (upsN q m).length ≤ m := by
  have := List.length_filter_le (fun i => !(q.s i).dead) (List.range m)
  simpa [upsN] using this
/-- A new slice of numbers. -/
def NumsNew (l : List Nat) (w : World) (e : Ending) (w' : World) : Prop := ∃ v, e = .returned v ∧ w'.ownsRow w.heap.size 3 1 v l.length (numsV l) ∧ Below w.heap.size w w'
def RelQO (q : Rk) (w0 : World) (i v : Value) (wr : World) : Prop :=
  ∃ m : Nat, m ≤ q.n ∧ i = .int .i64 m ∧ wr.ownsRow w0.heap.size 3 1 v (upsN q m).length (numsV (upsN q m)) ∧ Below w0.heap.size w0 wr
set_option maxHeartbeats 2000000 in
set_option maxRecDepth 100000 in
theorem qonline_any {lo : Nat} {c : Lc} {q : Rk} (w : World) (h : RackIn lo w c q) : Calls Tryz.prog 122 #[.pointer (some ⟨c.r, 0, none⟩)] w (NumsNew (ups q) w) := by
  have c0 := h.c0
  have hn8 := h.ok.n8
  have HQ := Lib.hid h
  clear h
  go_enter Tryz.func122, Tryz.ntmps122
  go_wp2_with fail
  go_loopw [10, 3] (fun i v wr => RelQO q w i v wr) (fun i _ _ => q.n - (intOf i).toNat)
  case atStart => exact ⟨0, Nat.zero_le _, rfl, ⟨rfl, Or.inl ⟨rfl, rfl⟩⟩, Below.refl _ _⟩
  case round =>
    obtain ⟨m, hm, rfl, hown, hb⟩ := hrel
    have HO := Lib.hid hown
    have HB := Lib.hid hb
    by_cases hlt : m < q.n
    · have i1 : (m : Int) < q.n := by omega
      have HU := Lib.hid (qup_any wr (HQ.out.below (hb.mono (Nat.le_refl _))) (m : Int))
      rw [up_at hlt] at HU
      have HLN := Lib.hid (upsN_length q m)
      clear hown hb
      cases hd : (q.s m).dead with
      | false =>
        rw [hd] at HU
        have HY := Lib.hid (upsN_yes hd)
        clear hd
        go_wp2_with (first
          | (go_at_call 68; refine HU.out.mono ?_; rintro e w' ⟨rfl, rfl⟩)
          | (at_builtin; refine wpList_append_num _ rfl (.tmp 16) (.tmp 18) rfl w.heap.size _ _ _ rfl (own_below HO.out (one_below _ _)) wr.heap.size (.int .i64 (m : Int)) rfl ?_ rfl ?_ ?_ ?_; simp; (have := HLN.out; omega); (have := HB.out.size; simp; omega); intro va wa howna hga; have HOA := Lib.hid howna; have HGA := Lib.hid hga; obtain ⟨ga, ca, rfl, -⟩ := own_slice howna; clear howna hga))
        go_roundw
        case rel =>
          refine ⟨m + 1, by omega, by go_num, ?_, ?_⟩
          · rw [HY.out, List.length_append]
            have := HOA.out
            simpa [numsV] using this
          · exact (balloc HB.out _).trans (HGA.out.below (balloc HB.out _).size fun k hk => (own_block HO.out hk).1)
        case measure => simp [intOf]; omega
      | true =>
        rw [hd] at HU
        have HY := Lib.hid (upsN_no hd)
        clear hd
        obtain ⟨ga, ca, rfl, -⟩ := own_slice HO.out
        go_wp2_with (go_at_call 68; refine HU.out.mono ?_; rintro e w' ⟨rfl, rfl⟩)
        go_roundw
        case rel => exact ⟨m + 1, by omega, by go_num, by rw [HY.out]; exact HO.out, HB.out⟩
        case measure => simp [intOf]; omega
    · obtain rfl : m = q.n := by omega
      obtain ⟨ga, ca, rfl, -⟩ := own_slice hown
      clear hown hb
      go_wp2
      go_ret
      exact ⟨_, rfl, HO.out, HB.out⟩
end Go.Proofs.YtdcpgpgomnpefaaGreatDoor
