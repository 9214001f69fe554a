/-
  stavelaw8.RackPlays, where no rack can be made.
-/
import Derived.Test.YtbokangpcjeofaaGreatDoorVAll
import Derived.Test.YtbokangpcjeofaaGreatDoorQRuns2
import Derived.Deep.CutBlock
import Derived.Deep.DeepCutAuto
namespace Go.Proofs.YtbokangpcjeofaaGreatDoor
open Go.RowKit Go.Deep Dk Qk Go.Maps
def NoneV (w : World) (e : Ending) (w' : World) : Prop := e = .returned (.tuple #[.pointer none, .int .i64 1]) ∧ Below w.heap.size w w'
set_option maxRecDepth 100000 in
theorem rnew_none (n : Int) (w : World) (h : n < 1) : Calls Tryz.prog 45 #[.int .i64 n] w fun e w' => e = .returned (.tuple #[.pointer none, .int .i64 1]) ∧ w = w' := by
  go_enter Tryz.func45, Tryz.ntmps45
  go_wp2
  exact bodyPost_ret (v := .tuple #[.pointer none, .int .i64 1]) (by simp [results, Tryz.results45, go_sem]) rfl ⟨rfl, rfl⟩
set_option maxHeartbeats 2000000 in
set_option maxRecDepth 100000 in
theorem vnew_no (n k : Int) (w : World) (h : ¬ (1 ≤ n ∧ n ≤ 8)) : Calls Tryz.prog 7 #[.int .i64 n, .int .i64 k] w (NoneV w) := by
  by_cases h1 : n < 1
  · clear h
    go_enter Tryz.func7, Tryz.ntmps7
    go_wp2
    exact bodyPost_ret (v := .tuple #[.pointer none, .int .i64 1]) (by simp [results, Tryz.results7, go_sem]) rfl ⟨rfl, Below.refl _ _⟩
  · have h2 : 8 < n := by omega
    clear h
    go_enter Tryz.func7, Tryz.ntmps7
    go_wp2
    exact bodyPost_ret (v := .tuple #[.pointer none, .int .i64 1]) (by simp [results, Tryz.results7, go_sem]) rfl ⟨rfl, Below.refl _ _⟩
set_option maxHeartbeats 2000000 in
set_option maxRecDepth 100000 in
theorem vnew_bad (n : Nat) (k : Int) (w : World) (h1 : 1 ≤ n) (h2 : n ≤ 8) (h : k < 1) : Calls Tryz.prog 7 #[.int .i64 (n : Int), .int .i64 k] w (NoneV w) := by
  have i1 : ¬ (n : Int) < 1 := by omega
  have i2 : ¬ 8 < n := by omega
  have HN := Lib.hid (fun w => rnew_none k w h)
  clear h
  go_enter Tryz.func7, Tryz.ntmps7
  go_wp2_with fail
  go_loopw [7] (fun c wr => c = .int .i64 0 ∧ Below w.heap.size w wr) (fun _ _ => 0)
  case atStart => exact ⟨rfl, one_below w _⟩
  case round =>
    obtain ⟨rfl, hb⟩ := hrel
    have HB := Lib.hid hb
    have i3 : 0 < n := by omega
    clear hb
    go_wp2_with (go_at_call 45; refine (HN.out _).mono ?_; rintro e w' ⟨rfl, rfl⟩)
    exact bodyPost_ret (v := .tuple #[.pointer none, .int .i64 1]) (by simp [results, Tryz.results7, go_sem]) rfl ⟨rfl, HB.out⟩
/-- Neither rack can be made. -/
theorem none_made {n sectors m : Int} (hbad : ¬ (1 ≤ n ∧ n ≤ 8) ∨ sectors < 1) (h1 : sectors < 1 → m < 1) (w : World) :
    ∃ er : Value, Calls Tryz.prog 6 #[.int .i64 n, .int .i64 m] w (fun e w' => e = .returned (.tuple #[.pointer none, er]) ∧ Below w.heap.size w w') ∧
      (∀ W, Typ W → Calls Tryz.prog 8 #[er] W (Num 1 W)) ∧ ∀ W, Calls Tryz.prog 7 #[.int .i64 n, .int .i64 m] W (NoneV W) := by
  by_cases hn : 1 ≤ n ∧ n ≤ 8
  · have hm : m < 1 := h1 (hbad.resolve_left (fun h => h hn))
    obtain ⟨k, rfl⟩ := Int.eq_ofNat_of_zero_le (by omega : 0 ≤ n)
    refine ⟨_, qnew_bad k m w (by omega) (by omega) (by omega), fun W hT => kind_err [(opQNew, (k : Int)), (opNew, m)] 1 W _ rfl hT, fun W => vnew_bad k m W (by omega) (by omega) hm⟩
  · refine ⟨_, (qnew_no n m w hn).mono ?_, fun W hT => kind_err [(opQNew, n)] 1 W _ rfl hT, fun W => vnew_no n m W hn⟩
    rintro e w' ⟨rfl, rfl⟩
    exact ⟨rfl, Below.refl _ _⟩
set_option maxHeartbeats 16000000 in
set_option maxRecDepth 100000 in
theorem rplays_no (n sectors : Int) (hbad : ¬ (1 ≤ n ∧ n ≤ 8) ∨ sectors < 1) (v0 : Value) (l : List Qa) (w : World) (hT : Typ w) (hA : SlQ w.heap.size w v0 l) :
    Calls Tryz.prog 3 #[.int .i64 n, .int .i64 sectors, v0] w (Bit true w) := by
  have HT := Lib.hid hT
  have HBAD := Lib.hid hbad
  obtain ⟨a0, cap, rfl⟩ := hA.len
  clear hT hA hbad
  go_enter Tryz.func3, Tryz.ntmps3
  go_upto_if 37 with (fail)
  go_cut [7] from 36 to 37 (fun v wx => ∃ m : Int, (sectors < 1 → m < 1) ∧ v = .int .i64 m ∧ wx = w)
  case first =>
    by_cases h6 : 6 < sectors
    · go_wp2_with fail
      go_meet
      exact ⟨6, by omega, rfl, rfl⟩
    · go_wp2_with fail
      go_meet
      exact ⟨sectors, by omega, rfl, rfl⟩
  case rest =>
    obtain ⟨m, hm1, rfl, hwc⟩ := hcut
    obtain rfl : w = wc := hwc.symm
    clear hwc
    obtain ⟨er, hN, hK, hV⟩ := none_made HBAD.out hm1 w
    have HN := Lib.hid hN
    have HK := Lib.hid hK
    have HV := Lib.hid hV
    unfold NoneV at HV
    clear hN hK hV hm1
    go_wp2_with fail
    refine HN.out.mono ?_
    rintro e x0 ⟨rfl, hb⟩
    have HB0 := Lib.hid hb
    clear hb
    go_wp2_with fail
    refine (HV.out x0).mono ?_
    rintro e x1 ⟨rfl, hb⟩
    have HB1 := Lib.hid (HB0.out.trans (hb.mono HB0.out.size))
    clear hb
    go_wp2_with fail
    refine (HK.out x1 (HT.out.below HB1.out)).mono ?_
    rintro e x2 ⟨rfl, hb⟩
    have HB2 := Lib.hid (HB1.out.trans (hb.mono HB1.out.size))
    clear hb
    go_wp2_with fail
    go_loopw [12] (fun i wr => i = .int .i64 0 ∧ Below w.heap.size w wr) (fun _ _ => 0)
    case atStart => exact ⟨rfl, HB2.out⟩
    case round =>
      obtain ⟨rfl, hb⟩ := hrel
      have HB := Lib.hid hb
      have HRR := Lib.hid (rack_runs wr (HT.out.below hb))
      clear hb
      by_cases h0 : 0 < l.length
      · have h0' : (0 : Int) < l.length := by omega
        go_wp2_with (refine HRR.out.mono ?_; rintro e w9 ⟨rfl, hb9⟩)
        go_ret
        exact bit rfl (HB.out.trans (hb9.mono HB.out.size))
      · have h0' : ¬ (0 : Int) < l.length := by omega
        go_wp2_with (refine HRR.out.mono ?_; rintro e w9 ⟨rfl, hb9⟩)
        go_ret
        exact bit rfl (HB.out.trans (hb9.mono HB.out.size))
end Go.Proofs.YtbokangpcjeofaaGreatDoor
