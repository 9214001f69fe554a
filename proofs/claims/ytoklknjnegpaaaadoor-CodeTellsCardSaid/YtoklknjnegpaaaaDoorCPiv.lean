/-
  code.pivot, code.times.
-/
import Derived.Test.YtoklknjnegpaaaaDoorCCat
namespace Go.Proofs.YtoklknjnegpaaaaDoor
open Go.RowKit Gf Cd
/-- The lines as numbers. -/
def mat (ls : List (List UInt8)) : Mat := fun i c => ((ls.getD i []).getD c 0).toNat
theorem mat_bm (ls : List (List UInt8)) : BM (mat ls) := fun _ _ => UInt8.toNat_lt _
/-- A line from line j on that has a factor of block j. -/
def PivR (ls : List (List UInt8)) (j : Nat) (w : World) (e : Ending) (w' : World) : Prop := ∃ p : Nat, (j ≤ p ∧ p < ls.length ∧ mat ls p j ≠ 0 ∧ ∀ i, j ≤ i → i < p → mat ls i j = 0) ∧ e = .returned (.int .i64 p) ∧ w = w'
def RelPi (ls : List (List UInt8)) (j p0 : Nat) (iv : Value) : Prop := ∃ i : Nat, j ≤ i ∧ i ≤ p0 ∧ iv = .int .i64 i ∧ ∀ x, j ≤ x → x < i → mat ls x j = 0
set_option maxHeartbeats 1000000 in
set_option maxRecDepth 100000 in
theorem pivot_any (B : Nat) (v : Value) (ls : List (List UInt8)) (j : Nat) (w : World) (hv : SlBs B w v ls) (hl : ls.length ≤ 1000) (hex : ∃ p, j ≤ p ∧ p < ls.length ∧ mat ls p j ≠ 0) (hj : ∀ i, i < ls.length → j < (ls.getD i []).length) :
    Calls Tryd.prog 88 #[v, .int .i64 j] w (PivR ls j w) := by
  obtain ⟨p0, hp1, hp2, hp3⟩ := hex
  have HV := Lib.hid hv
  have HJ := Lib.hid hj
  have HP := Lib.hid hp3
  obtain ⟨a1, cap1, rfl, hcap⟩ := hv.len
  clear hv hj hp3
  go_enter Tryd.func88, Tryd.ntmps88
  go_wp2_with fail
  go_loop [5] (fun i => RelPi ls j p0 i) (fun i => p0 - (intOf i).toNat)
  case atStart => exact ⟨j, Nat.le_refl _, hp1, rfl, fun x h1 h2 => by omega⟩
  case round =>
    obtain ⟨i, h1, h2, rfl, hz⟩ := hrel
    have HZ := Lib.hid hz
    clear hz
    have hil : i < ls.length := by omega
    obtain ⟨b, o, cap, u, e1, hcap', hbB, hu1, hu2⟩ := HV.out.row hil
    injection e1 with e1 _ e2
    subst e1 e2
    have hlen := HJ.out i hil
    rcases hu2 with ⟨h0, _⟩ | ⟨b2, o2, cap2, rfl, _, hb2, _, hcap2⟩
    · rw [h0] at hlen; simp at hlen
    have hc := hb2 j hlen
    have HE := Lib.hid (show mat ls i j = ((ls.getD i []).getD j 0).toNat from rfl)
    have hx : ((ls.getD i []).getD j 0).toNat < 256 := UInt8.toNat_lt _
    clear hb2
    generalize (ls.getD i []).length = m at *
    generalize ((ls.getD i []).getD j 0).toNat = x at *
    have hil' : (i : Int) < ls.length := by omega
    have hjm : (j : Int) < m := by omega
    by_cases h0 : x = 0
    · subst h0
      have hne : i ≠ p0 := fun e => HP.out (by rw [← e]; exact HE.out)
      go_wp2_with fail
      go_round
      case rel =>
        refine ⟨i + 1, by omega, by omega, by go_num, fun y hy1 hy2 => ?_⟩
        by_cases e : y = i
        · rw [e]; exact HE.out
        · exact HZ.out y hy1 (by omega)
      case measure => simp [intOf]; omega
    · have hx0 : ((x : Int) == 0) = false := by simpa using h0
      have H0 := Lib.hid h0
      clear h0
      go_wp2_with fail
      go_ret
      exact ⟨i, ⟨h1, hil, by rw [HE.out]; exact H0.out, HZ.out⟩, rfl, rfl⟩
set_option maxHeartbeats 1000000 in
set_option maxRecDepth 100000 in
theorem times_any (B B' c k n x : Nat) (v : Value) (l : List UInt8) (w : World) (hC : CodeIn B w c k n) (hB : B ≤ w.heap.size) (hv : SlB B' w v l) (hB' : B' ≤ w.heap.size) (hl : l.length ≤ 10000) (hx : x < 256) :
    Calls Tryd.prog 60 #[.pointer (some ⟨c, 0, none⟩), v, .int .u8 x] w (NewB (addB (zeros l.length) l x) w) := by
  obtain ⟨-, -, ⟨fb, c2, hF, hfb⟩, hcB, -⟩ := hC
  obtain ⟨a1, cap1, rfl, hcap⟩ := hv.len
  have HV := Lib.hid hv
  have HF := Lib.hid hF
  have hmk := make_u8 l.length (by omega)
  have HMO := Lib.hid (made_own w w.heap.size l.length (Nat.le_refl _) (by omega))
  have n1 : c < w.heap.size := by omega
  clear hv hF
  go_enter Tryd.func60, Tryd.ntmps60
  go_wp2_with fail
  go_at_call 61
  refine (add_any fb w.heap.size B' _ _ (zeros l.length) l x _ (HF.out.at (Below.mono (one_below _ _) hB) hfb) hx ?_ (HV.out.below (Below.mono (one_below _ _) hB')) ?_ ?_ (by rw [zeros_length]; omega) (by omega)).mono ?_
  · rw [zeros_length]; exact HMO.out
  · simp; omega
  · intro e; have e' : w.heap.size = fb := by injection e
    omega
  rintro e w2 ⟨rfl, hown2, hg2⟩
  have HO2 := Lib.hid hown2
  have HG2 := Lib.hid hg2
  clear hown2 hg2
  go_wp2_with fail
  go_ret
  refine ⟨_, rfl, ?_, (one_below w _).trans (HG2.out.below (by simp) fun q hq => (own_block HO2.out hq).1)⟩
  exact HO2.out
end Go.Proofs.YtoklknjnegpaaaaDoor
