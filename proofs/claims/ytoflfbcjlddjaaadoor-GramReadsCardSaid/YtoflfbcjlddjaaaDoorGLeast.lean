/-
  gram.Least.
-/
import Derived.Test.YtoflfbcjlddjaaaDoorGPut
namespace Go.Proofs.YtoflfbcjlddjaaaDoor
open Go.RowKit

def leastF (f : Fl) : Int := if f.k = 2 then 2 + f.lo else if f.k = 3 then 1 + 2 * f.lo else f.sz
def leastM (fs : List Fl) : Int := if 0 ≤ firstAt wrongF fs 0 then 0 else (fs.map leastF).sum
theorem leastF_bound {f : Fl} (h : rightF f = true) : 1 ≤ leastF f ∧ leastF f ≤ 70000 := by
  simp only [rightF, holdsN, decide_eq_true_eq] at h
  unfold leastF
  split
  · omega
  · split <;> omega
theorem least_one (f : Fl) (w : World) (h : rightF f = true) :
    Calls Tryd.prog 66 #[.agg #[.int .i64 f.k, .int .i64 f.sz, .int .i64 f.lo, .int .i64 f.hi, .int .i64 f.mo]] w (Num (leastF f) w) := by
  have hh := h
  simp only [rightF, holdsN, decide_eq_true_eq] at hh
  have hlo : 0 ≤ f.lo ∧ (f.k = 2 ∨ f.k = 3 → f.lo ≤ 65535) := by omega
  have hk := right_kind h
  obtain ⟨k, sz, lo, hi, mo⟩ := f
  simp only at *
  clear hh h
  rcases hk with rfl | rfl | rfl
  · have he : leastF ⟨1, sz, lo, hi, mo⟩ = sz := rfl
    rw [he]; clear he hlo
    go_enter Tryd.func66, Tryd.ntmps66
    go_wp2_with fail
    go_ret
    exact num rfl (one_below _ _)
  · have he : leastF ⟨2, sz, lo, hi, mo⟩ = 2 + lo := rfl
    rw [he]
    have hlo' : 0 ≤ lo ∧ lo ≤ 65535 := ⟨hlo.1, hlo.2 (by omega)⟩
    obtain ⟨h1, h2⟩ := hlo'
    clear he hlo
    go_enter Tryd.func66, Tryd.ntmps66
    go_wp2_with fail
    go_ret
    exact num rfl (one_below _ _)
  · have he : leastF ⟨3, sz, lo, hi, mo⟩ = 1 + 2 * lo := rfl
    rw [he]
    have hlo' : 0 ≤ lo ∧ lo ≤ 65535 := ⟨hlo.1, hlo.2 (by omega)⟩
    obtain ⟨h1, h2⟩ := hlo'
    clear he hlo
    go_enter Tryd.func66, Tryd.ntmps66
    go_wp2_with fail
    go_ret
    exact num rfl (one_below _ _)
theorem sum_bound (fs : List Fl) (h : ∀ f ∈ fs, rightF f = true) : 0 ≤ (fs.map leastF).sum ∧ (fs.map leastF).sum ≤ 70000 * fs.length := by
  induction fs with
  | nil => simp
  | cons f fs ih =>
    have h1 := leastF_bound (h f (List.mem_cons_self ..))
    have h2 := ih fun g hg => h g (List.mem_cons_of_mem _ hg)
    simp only [List.map_cons, List.sum_cons, List.length_cons]
    omega
theorem sum_snoc (fs : List Fl) (k : Nat) (hk : k < fs.length) : ((fs.take (k + 1)).map leastF).sum = ((fs.take k).map leastF).sum + leastF (fs.getD k f0) := by
  rw [take_snoc fs k f0 hk]; simp

def RelLe (fs : List Fl) (w : World) (s c : Value) (wr : World) : Prop := ∃ k : Nat, k ≤ fs.length ∧ c = .int .i64 k ∧ s = .int .i64 ((fs.take k).map leastF).sum ∧ Below w.heap.size w wr

set_option maxHeartbeats 1000000 in
set_option maxRecDepth 100000 in
theorem least_any (fv : Value) (fs : List Fl) (w : World) (hf : SlF w.heap.size w fv fs) (hl : fs.length ≤ 100) (hh : ∀ f ∈ fs, f.hi ≤ 9223372036854775807) :
    Calls Tryd.prog 38 #[fv] w (Num (leastM fs) w) := by
  have Hfw := Lib.hid (firstWrong_any w.heap.size fv fs w hf (Nat.le_refl _) hl hh)
  have hLM : leastM fs = if 0 ≤ firstAt wrongF fs 0 then 0 else (fs.map leastF).sum := rfl
  have hRA := right_all fs
  generalize leastM fs = L at *
  generalize firstAt wrongF fs 0 = n at *
  by_cases hn : 0 ≤ n
  · rw [if_pos hn] at hLM
    subst hLM
    clear hf hh hRA
    go_enter Tryd.func38, Tryd.ntmps38
    go_wp2_with fail
    refine Hfw.out.mono ?_
    rintro e w1 ⟨rfl, hb⟩
    have Hb := Lib.hid hb; clear hb
    go_wp2_with fail
    go_ret
    exact num rfl Hb.out
  · rw [if_neg hn] at hLM
    have Hra := Lib.hid (hRA hn)
    have HLM := Lib.hid hLM
    have HF := Lib.hid hf
    obtain ⟨a, cap, rfl⟩ := hf.len
    clear hf hh hRA hLM
    go_enter Tryd.func38, Tryd.ntmps38
    go_wp2_with fail
    refine Hfw.out.mono ?_
    rintro e w1 ⟨rfl, hb⟩
    have Hb := Lib.hid hb; clear hb
    go_wp2_with fail
    go_loopw [3, 11] (fun s c wr => RelLe fs w s c wr) (fun _ c _ => fs.length - (intOf c).toNat)
    case atStart => exact ⟨0, Nat.zero_le _, rfl, rfl, Hb.out⟩
    case round =>
      obtain ⟨k, hk, rfl, rfl, hB⟩ := hrel
      have HB := Lib.hid hB
      by_cases hlt : k < fs.length
      · rcases HF.out.below hB with ⟨h0, _⟩ | ⟨b, o, cap', h1, h2, h3, h4⟩
        · simp [h0] at hlt
        injection h1 with h1 h1' h1''
        subst h1 h1''
        obtain ⟨d0, d1, d2, d3, d4⟩ := h3 k hlt
        have hrf := Hra.out _ (getD_mem fs k f0 hlt)
        have hsb := sum_bound (fs.take k) (fun f hf => Hra.out f (List.mem_of_mem_take hf))
        have hlt2 : (fs.take k).length ≤ 100 := by rw [List.length_take]; omega
        have hfb := leastF_bound hrf
        have Hsn := Lib.hid (sum_snoc fs k hlt)
        generalize fs.getD k f0 = f at *
        generalize ((fs.take k).map leastF).sum = s at *
        have Hone := Lib.hid (fun w => least_one f w hrf)
        generalize leastF f = y at *
        obtain ⟨hs1, hs2⟩ := hsb
        obtain ⟨hy1, hy2⟩ := hfb
        clear h3 h1' hB hrf
        have hs3 : s ≤ 7000000 := by omega
        clear hs2 hlt2
        go_wp2_with fail
        refine (Hone.out _).mono ?_
        rintro e w3 ⟨rfl, hb3⟩
        have Hb3 := Lib.hid (bthen HB.out (bthen (one_below _ _) hb3)); clear hb3 d0 d1 d2 d3 d4
        go_wp2_with fail
        go_roundw
        case rel => exact ⟨k + 1, by omega, by go_num, by rw [Hsn.out], Hb3.out⟩
        case measure => simp [intOf]; omega
      · obtain rfl : k = fs.length := by omega
        clear hB
        go_wp2_with fail
        go_ret
        exact num (by rw [HLM.out, List.take_length]) HB.out
end Go.Proofs.YtoflfbcjlddjaaaDoor
