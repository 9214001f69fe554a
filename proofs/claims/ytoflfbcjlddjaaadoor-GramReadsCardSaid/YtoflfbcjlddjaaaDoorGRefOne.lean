/-
  staveref1.one: what the reader's text answers.
-/
import Derived.Test.YtoflfbcjlddjaaaDoorGRefGet
namespace Go.Proofs.YtoflfbcjlddjaaaDoor
open Go.RowKit
def OnePost (at_ : Nat) (G : Got ByteArray) (w : World) (e : Ending) (w' : World) : Prop :=
  w = w' ∧ e = .returned (match G with | .bad k => .tuple #[.string ⟨#[]⟩, .int .i64 at_, .int .i64 k] | .good s a => .tuple #[.string s, .int .i64 a, .int .i64 0])
theorem textG_num {lo hi : Int} {bs : List UInt8} {at_ : Nat} (h : at_ + 2 ≤ bs.length) : textG lo hi bs at_ =
    if (leN (cut bs at_ 2) : Int) < lo ∨ hi < (leN (cut bs at_ 2) : Int) then .bad 2
    else if bs.length < at_ + 2 + leN (cut bs at_ 2) then .bad 3 else .good ⟨(cut bs (at_ + 2) (leN (cut bs at_ 2))).toArray⟩ (at_ + 2 + leN (cut bs at_ 2)) := by
  unfold textG numG
  rw [if_neg (by omega)]
  by_cases c : (leN (cut bs at_ 2) : Int) < lo ∨ hi < (leN (cut bs at_ 2) : Int)
  · rw [if_pos c, if_pos c]
  · rw [if_neg c, if_neg c]
    simp only [Int.toNat_natCast]
set_option maxHeartbeats 1000000 in
set_option maxRecDepth 100000 in
theorem one_any (B at_ : Nat) (lo hi : Int) (bv : Value) (bs : List UInt8) (w : World) (hb : SlB B w bv bs) (hB : B ≤ w.heap.size) (hl : bs.length ≤ 100000) (hat : at_ ≤ bs.length) :
    Calls Tryd.prog 34 #[bv, .int .i64 at_, .int .i64 lo, .int .i64 hi] w (OnePost at_ (textG lo hi bs at_) w) := by
  by_cases h2 : bs.length < at_ + 2
  · obtain ⟨a, cap, rfl, _⟩ := hb.len
    have hG : textG lo hi bs at_ = .bad 3 := by
      unfold textG numG
      rw [if_pos h2]
    rw [hG]
    clear hb hG
    go_enter Tryd.func34, Tryd.ntmps34
    go_wp2_with fail
    go_ret3
    exact ⟨rfl, rfl⟩
  · have hB0 := hb
    rcases hb with ⟨rfl, _⟩ | ⟨b, o, cap, rfl, hbB, hby, _, hcap⟩
    · simp at h2
    have HS1 := Lib.hid (slb_cut (n := 2) hby hbB (by omega : at_ + 2 ≤ bs.length) hcap)
    have HBIG := Lib.hid (big_any B _ (cut bs at_ 2) w HS1.out hB (by rw [cut_length _ _ _ (by omega)]; omega))
    have hlt : leN (cut bs at_ 2) < 65536 := by
      have := leN_lt (cut bs at_ 2)
      rwa [cut_length _ _ _ (by omega)] at this
    have HG := Lib.hid (textG_num (lo := lo) (hi := hi) (bs := bs) (at_ := at_) (by omega))
    have HCV := Lib.hid (fun (hn : at_ + 2 + leN (cut bs at_ 2) ≤ bs.length) => conv_bytes (slb_cut (n := leN (cut bs at_ 2)) (at_ := at_ + 2) hby hbB (by omega) hcap))
    rw [HG.out]
    generalize leN (cut bs at_ 2) = n at *
    have hcc : ¬ cap = at_ := by omega
    have j1 : (at_ : Int) + 2 ≤ bs.length := by omega
    have j2 : (bs.length : Int) ≤ cap := by omega
    clear hB0 hby
    by_cases c1 : (n : Int) < lo
    · rw [if_pos (Or.inl c1)]
      go_enter Tryd.func34, Tryd.ntmps34
      go_wp2_with fail
      refine HBIG.out.mono ?_
      rintro e w' ⟨rfl, rfl⟩
      go_wp2_with fail
      go_ret3
      exact ⟨rfl, rfl⟩
    have d1 : decide ((n : Int) < lo) = false := decide_eq_false c1
    by_cases c2 : hi < (n : Int)
    · rw [if_pos (Or.inr c2)]
      go_enter Tryd.func34, Tryd.ntmps34
      go_wp2_with fail
      refine HBIG.out.mono ?_
      rintro e w' ⟨rfl, rfl⟩
      go_wp2_with fail
      go_ret3
      exact ⟨rfl, rfl⟩
    have d2 : decide (hi < (n : Int)) = false := decide_eq_false c2
    rw [if_neg (by omega)]
    by_cases c3 : bs.length < at_ + 2 + n
    · rw [if_pos c3]
      go_enter Tryd.func34, Tryd.ntmps34
      go_wp2_with fail
      refine HBIG.out.mono ?_
      rintro e w' ⟨rfl, rfl⟩
      go_wp2_with fail
      go_ret3
      exact ⟨rfl, rfl⟩
    · rw [if_neg c3]
      have hcv := HCV.out (by omega)
      have hcv0 : ∀ c' : Nat, cap = at_ + 2 → (convert 24 9 (.slice (some ⟨b, o, none⟩) n c')).run Tryd.prog w = .ok (.string ⟨(cut bs (at_ + 2) n).toArray⟩) w := fun c' hc => by
        obtain rfl : n = 0 := by omega
        rw [show cut bs (at_ + 2) 0 = [] by unfold cut; simp]
        exact conv_bytes (B := B) (w := w) (l := []) (Or.inl ⟨rfl, some ⟨b, o, none⟩, c', rfl⟩)
      go_enter Tryd.func34, Tryd.ntmps34
      go_wp2_with fail
      refine HBIG.out.mono ?_
      rintro e w' ⟨rfl, rfl⟩
      go_wp2_with fail
      all_goals
        go_ret3
        exact ⟨rfl, rfl⟩
end Go.Proofs.YtoflfbcjlddjaaaDoor
