/-
  staveref1.RightField, RightFields.
-/
import Derived.Test.YtoflfbcjlddjaaaDoorGLen
namespace Go.Proofs.YtoflfbcjlddjaaaDoor
open Go.RowKit
theorem beq_ff {a b : Int} (h : a ≠ b) : (a == b) = false := beq_eq_false_iff_ne.2 h
theorem beq_tt {a b : Int} (h : a = b) : (a == b) = true := beq_iff_eq.2 h
set_option maxHeartbeats 1000000 in
set_option maxRecDepth 100000 in
theorem refRight_num (sz lo hi mo : Int) (w : World) (hlo : 0 ≤ lo) (hlh : lo ≤ hi) (_h1 : hi ≤ 9223372036854775807) : Calls Tryd.prog 53 #[.agg #[.int .i64 1, .int .i64 sz, .int .i64 lo, .int .i64 hi, .int .i64 mo]] w (Bit (rightF ⟨1, sz, lo, hi, mo⟩) w) := by
  have hr : rightF ⟨1, sz, lo, hi, mo⟩ = decide (mo = 0 ∧ (sz = 8 ∨ (sz = 1 ∧ hi < 256) ∨ (sz = 2 ∧ hi < 65536) ∨ (sz = 4 ∧ hi < 4294967296))) := by
    rw [Bool.eq_iff_iff]
    simp only [rightF, holdsN, decide_eq_true_eq]
    constructor
    · rintro ⟨_, _, h⟩
      rcases h with ⟨_, h⟩ | ⟨h, _⟩ | ⟨h, _⟩
      · exact h
      · cases h
      · cases h
    · intro h
      exact ⟨hlo, hlh, Or.inl ⟨trivial, h⟩⟩
  rw [hr]
  clear hr
  have hd1 : decide (lo < 0) = false := decide_eq_false (by omega)
  have hd2 : decide (hi < lo) = false := decide_eq_false (by omega)
  by_cases m0 : mo = 0
  · subst m0
    by_cases c8 : sz = 8
    · subst c8
      go_enter Tryd.func53, Tryd.ntmps53
      go_wp2_with fail
      go_quiet (fail)
      go_wp2_with fail
      go_ret
      exact bit (by simp) (below_drewN (one_below _ _) _)
    by_cases c1 : sz = 1
    · subst c1
      go_enter Tryd.func53, Tryd.ntmps53
      go_wp2_with fail
      go_quiet (fail)
      go_wp2_with fail
      go_ret
      exact bit (by simp) (below_drewN (one_below _ _) _)
    by_cases c2 : sz = 2
    · subst c2
      go_enter Tryd.func53, Tryd.ntmps53
      go_wp2_with fail
      go_quiet (fail)
      go_wp2_with fail
      go_ret
      exact bit (by simp) (below_drewN (one_below _ _) _)
    by_cases c4 : sz = 4
    · subst c4
      go_enter Tryd.func53, Tryd.ntmps53
      go_wp2_with fail
      go_quiet (fail)
      go_wp2_with fail
      go_ret
      exact bit (by simp) (below_drewN (one_below _ _) _)
    have e8 := beq_ff c8
    have e1 := beq_ff c1
    have e2 := beq_ff c2
    have e4 := beq_ff c4
    have HC := Lib.hid (And.intro c8 (And.intro c1 (And.intro c2 c4)))
    clear c8 c1 c2 c4
    go_enter Tryd.func53, Tryd.ntmps53
    go_wp2_with fail
    go_quiet (fail)
    go_wp2_with fail
    go_ret
    exact bit (by obtain ⟨a, b, c, d⟩ := HC.out; simp [a, b, c, d]) (by first | exact one_below _ _ | exact (one_below _ _).drew | exact below_drewN (one_below _ _) _)
  · have em := beq_ff m0
    have HM := Lib.hid m0
    clear m0
    go_enter Tryd.func53, Tryd.ntmps53
    go_wp2_with fail
    go_quiet (fail)
    go_wp2_with fail
    go_ret
    exact bit (by have := HM.out; simp [this]) (by first | exact one_below _ _ | exact (one_below _ _).drew | exact below_drewN (one_below _ _) _)
set_option maxHeartbeats 1000000 in
set_option maxRecDepth 100000 in
theorem refRight_any (k sz lo hi mo : Int) (w : World) (h1 : hi ≤ 9223372036854775807) : Calls Tryd.prog 53 #[.agg #[.int .i64 k, .int .i64 sz, .int .i64 lo, .int .i64 hi, .int .i64 mo]] w (Bit (rightF ⟨k, sz, lo, hi, mo⟩) w) := by
  by_cases hk : k = 1 ∧ 0 ≤ lo ∧ lo ≤ hi
  · obtain ⟨rfl, h2, h3⟩ := hk
    exact refRight_num sz lo hi mo w h2 h3 h1
  generalize hr : rightF ⟨k, sz, lo, hi, mo⟩ = r
  have Hr := Lib.hid hr; clear hr
  have HK := Lib.hid hk
  by_cases hlo : lo < 0
  · go_enter Tryd.func53, Tryd.ntmps53
    go_wp2_with fail
    go_ret
    exact bit (by rw [← Hr.out, rightF, decide_eq_false (by simp; omega)]) (one_below _ _)
  by_cases hlh : hi < lo
  · go_enter Tryd.func53, Tryd.ntmps53
    go_wp2_with fail
    go_ret
    exact bit (by rw [← Hr.out, rightF, decide_eq_false (by simp; omega)]) (one_below _ _)
  have k1 : k ≠ 1 := by omega
  have e1 := beq_ff k1
  clear hk HK
  go_enter Tryd.func53, Tryd.ntmps53
  go_wp2_with fail
  all_goals
    go_ret
    refine bit ?_ (one_below _ _)
    rw [← Hr.out, Bool.eq_iff_iff]
    simp only [rightF, beq_iff_eq, beq_eq_false_iff_ne, decide_eq_true_eq, Bool.false_eq_true, false_iff] at *
    omega
theorem SlF.fld {B : Nat} {w wr : World} {v : Value} {fs : List Fl} (h : SlF B w v fs) (hB : B ≤ w.heap.size) (hb : Below w.heap.size w wr) {k : Nat} (hk : k < fs.length) :
    ∃ b o cap, v = .slice (some ⟨b, o, none⟩) fs.length cap ∧ b < w.heap.size ∧ FieldAt wr b (o + k * 5) (fs.getD k f0) := by
  rcases h with ⟨rfl, _⟩ | ⟨b, o, cap, h1, h2, h3, _⟩
  · simp at hk
  · exact ⟨b, o, cap, h1, by omega, (h3 k hk).mono fun o => hb.cell (p := ⟨b, o, none⟩) (by show b < _; omega)⟩
def RelRF (fs : List Fl) (w : World) (c : Value) (wr : World) : Prop := ∃ k : Nat, k ≤ fs.length ∧ c = .int .i64 k ∧ (∀ x, x < k → wrongF (fs.getD x f0) = false) ∧ Below w.heap.size w wr
set_option maxHeartbeats 1000000 in
set_option maxRecDepth 100000 in
theorem refFields_any (B : Nat) (v : Value) (fs : List Fl) (w : World) (hf : SlF B w v fs) (hB : B ≤ w.heap.size) (hh : ∀ f ∈ fs, f.hi ≤ 9223372036854775807) (hl : fs.length ≤ 1000) :
    Calls Tryd.prog 26 #[v] w (Num (firstAt wrongF fs 0) w) := by
  have HF := Lib.hid hf
  have HH := Lib.hid hh
  obtain ⟨a, cap, rfl⟩ := slf_len hf
  clear hf hh
  generalize hr : firstAt wrongF fs 0 = r
  have Hr := Lib.hid hr; clear hr
  go_enter Tryd.func26, Tryd.ntmps26
  go_wp2_with fail
  go_loopw [7] (fun c wr => RelRF fs w c wr) (fun c _ => fs.length - (intOf c).toNat)
  case atStart => exact ⟨0, Nat.zero_le _, rfl, fun x hx => absurd hx (by omega), Below.refl _ _⟩
  case round =>
    obtain ⟨k, hk, rfl, hno, hb⟩ := hrel
    have HNO := Lib.hid hno
    have HB := Lib.hid hb
    clear hno
    by_cases hlt : k < fs.length
    · obtain ⟨b, o, cap', h1, hbl, hfa⟩ := HF.out.fld hB hb hlt
      injection h1 with h1 _ h1'
      subst h1 h1'
      have hhi := HH.out _ (getD_mem fs k f0 hlt)
      obtain ⟨e0, e1, e2, e3, e4⟩ := hfa
      have HX := Lib.hid (fun h => firstAt_here wrongF f0 fs k hlt HNO.out h)
      have HY := Lib.hid (show wrongF (fs.getD k f0) = false → ∀ x, x < k + 1 → wrongF (fs.getD x f0) = false from fun h x hx => by
        rcases Nat.lt_or_ge x k with h2 | h2
        · exact HNO.out x h2
        · obtain rfl : x = k := by omega
          exact h)
      generalize fs.getD k f0 = f at *
      obtain ⟨fk, fsz, flo, fhi, fmo⟩ := f
      have hltk : (k : Int) < fs.length := by omega
      cases hrt : rightF ⟨fk, fsz, flo, fhi, fmo⟩ with
      | true =>
        have HRT := Lib.hid hrt
        clear hrt hb
        go_wp2_with (go_at_call 53; refine (refRight_any fk fsz flo fhi fmo _ hhi).mono ?_; rw [HRT.out]; rintro e w' ⟨rfl, hb'⟩; have HB' := Lib.hid hb'; clear hb')
        go_roundw
        case rel => exact ⟨k + 1, by omega, by go_num, HY.out (by unfold wrongF; rw [HRT.out]; rfl), bthen (balloc HB.out _) HB'.out⟩
        case measure => simp [intOf]; omega
      | false =>
        have HRT := Lib.hid hrt
        clear hrt hb
        go_wp2_with (go_at_call 53; refine (refRight_any fk fsz flo fhi fmo _ hhi).mono ?_; rw [HRT.out]; rintro e w' ⟨rfl, hb'⟩; have HB' := Lib.hid hb'; clear hb')
        go_ret
        exact num (by rw [← Hr.out, HX.out (by unfold wrongF; rw [HRT.out]; rfl)]) (bthen (balloc HB.out _) HB'.out)
    · obtain rfl : k = fs.length := by omega
      go_wp2_with fail
      go_ret
      exact num (by rw [← Hr.out, firstAt_none wrongF f0 fs HNO.out]) HB.out
end Go.Proofs.YtoflfbcjlddjaaaDoor
