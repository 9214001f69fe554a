/-
  What is got from few bytes is not great, and no shorter than Least; arguments of bytes, opened.
-/
import Derived.Test.YtoflfbcjlddjaaaDoorGShort
import Derived.Test.YtoflfbcjlddjaaaDoorGArgs
namespace Go.Proofs.YtoflfbcjlddjaaaDoor
open Go.ChangeShapes Go.WideShapes Go.RowKit Go.Deep

theorem flat_mem {l : List ByteArray} {s : ByteArray} (h : s ∈ l) : 2 + s.size ≤ (l.flatMap textB).length := by
  induction l with
  | nil => cases h
  | cons a l ih =>
    rw [List.flatMap_cons, List.length_append, textB_length]
    rcases List.mem_cons.1 h with rfl | h
    · omega
    · have := ih h; omega
theorem flat_ge (l : List ByteArray) : 2 * l.length ≤ (l.flatMap textB).length := by
  induction l with
  | nil => simp
  | cons a l ih => rw [List.flatMap_cons, List.length_append, textB_length, List.length_cons]; omega
theorem ok_of_enc {f : Fl} {x : Vl} (hr : rightF f = true) (hf : fitsF f x = true) (h : (encF f x).length ≤ 80) : x.ok := by
  obtain ⟨xn, xs, xl⟩ := x
  rcases right_kind hr with hk | hk | hk
  · unfold fitsF at hf
    rw [if_pos hk, decide_eq_true_eq] at hf
    simp only at hf
    have h0 := List.eq_nil_of_length_eq_zero hf.2.2.2
    subst h0
    exact ⟨by show xs.size ≤ 100; omega, by simp, fun s hs => by cases hs⟩
  · unfold fitsF at hf
    rw [if_neg (by omega), if_pos hk, decide_eq_true_eq] at hf
    simp only at hf
    have h0 := List.eq_nil_of_length_eq_zero hf.2.2.2
    subst h0
    unfold encF at h
    rw [if_neg (by omega), if_pos hk, textB_length] at h
    simp only at h
    exact ⟨by show xs.size ≤ 100; omega, by simp, fun s hs => by cases hs⟩
  · unfold fitsF at hf
    rw [if_neg (by omega), if_neg (by omega), decide_eq_true_eq] at hf
    simp only at hf
    unfold encF at h
    rw [if_neg (by omega), if_neg (by omega), textsB, List.length_append, numB_length] at h
    simp only at h
    have hg := flat_ge xl
    exact ⟨by show xs.size ≤ 100; omega, by show xl.length ≤ 40; omega, fun s hs => by have hs' : s ∈ xl := hs; have := flat_mem hs'; omega⟩
theorem least_enc {f : Fl} {x : Vl} (hr : rightF f = true) (hf : fitsF f x = true) : leastF f ≤ (encF f x).length := by
  obtain ⟨xn, xs, xl⟩ := x
  rcases right_kind hr with hk | hk | hk
  · obtain ⟨s, h1, _, _⟩ := right_size hr hk
    unfold leastF encF
    rw [if_neg (by omega), if_neg (by omega), if_pos hk, h1, Int.toNat_natCast, numB_length]
    exact Int.le_refl _
  · unfold fitsF at hf
    rw [if_neg (by omega), if_pos hk, decide_eq_true_eq] at hf
    simp only at hf
    unfold leastF encF
    rw [if_pos hk, if_neg (by omega), if_pos hk, textB_length]
    simp only
    omega
  · unfold fitsF at hf
    rw [if_neg (by omega), if_neg (by omega), decide_eq_true_eq] at hf
    simp only at hf
    unfold leastF encF
    rw [if_neg (by omega), if_pos hk, if_neg (by omega), if_neg (by omega), textsB, List.length_append, numB_length]
    simp only
    have hg := flat_ge xl
    omega
theorem sum_enc : ∀ (ps : List (Fl × Vl)), (∀ p ∈ ps, rightF p.1 = true ∧ fitsF p.1 p.2 = true) → ((ps.map (·.1)).map leastF).sum ≤ (ps.flatMap encP).length
  | [], _ => by simp
  | p :: ps, h => by
    have h1 := h p (List.mem_cons_self ..)
    have h2 := sum_enc ps (fun q hq => h q (List.mem_cons_of_mem _ hq))
    have h3 := least_enc h1.1 h1.2
    simp only [List.map_cons, List.sum_cons, List.flatMap_cons, List.length_append, encP]
    omega
theorem enc_le_flat {ps : List (Fl × Vl)} {p : Fl × Vl} (h : p ∈ ps) : (encF p.1 p.2).length ≤ (ps.flatMap encP).length := by
  induction ps with
  | nil => cases h
  | cons a l ih =>
    rw [List.flatMap_cons, List.length_append]
    rcases List.mem_cons.1 h with rfl | h
    · simp only [encP]; omega
    · have := ih h; omega
/-- P2.5: what is taken is what Put writes. -/
theorem getM_back {fs : List Fl} {xs : List Vl} {bs : List UInt8} {e : Nat} (hr : ¬ 0 ≤ firstAt wrongF fs 0) (hb : bs.length ≤ 80) (h : getM fs bs = .yes xs e) :
    xs.length = fs.length ∧ putB fs xs = bs ∧ firstAt misfit (fs.zip xs) 0 < 0 ∧ (∀ x ∈ xs, x.ok) ∧ leastM fs ≤ bs.length ∧ 0 ≤ leastM fs := by
  have hra := right_all fs hr
  unfold getM at h
  cases hL : getL bs fs 0 with
  | no k p => rw [hL] at h; cases h
  | yes ys e' =>
    rw [hL] at h
    simp only [ended] at h
    split at h
    · cases h
    · rename_i hlt
      injection h with e1 e2
      subst e1 e2
      obtain ⟨i1, i2, i3, i4, i5⟩ := getL_back hra (Nat.zero_le _) hL
      have hz := zip_map fs ys i1.symm
      have hlen : ((fs.zip ys).flatMap encP).length = bs.length := by omega
      have hp : putB fs ys = bs := by
        unfold putB
        rw [i2, hlen]
        simp [cut]
      have hall : ∀ p ∈ fs.zip ys, rightF p.1 = true ∧ fitsF p.1 p.2 = true := fun p hp => ⟨hra p.1 (by rw [← hz.1]; exact List.mem_map_of_mem hp), i5 p hp⟩
      have hs := sum_enc (fs.zip ys) hall
      rw [hz.1, hlen] at hs
      have h0 := (sum_bound fs hra).1
      refine ⟨i1, hp, ?_, fun x hx => ?_, ?_, ?_⟩
      · rw [firstAt_none misfit (f0, v0) _ (fun x hx => by
          have := i5 _ (getD_mem (fs.zip ys) x (f0, v0) hx)
          unfold misfit; rw [this]; rfl)]
        decide
      · rw [← hz.2] at hx
        obtain ⟨p, hp1, rfl⟩ := List.mem_map.1 hx
        exact ok_of_enc (hall p hp1).1 (hall p hp1).2 (by have := enc_le_flat hp1; omega)
      · unfold leastM; rw [if_neg hr]; exact hs
      · unfold leastM; rw [if_neg hr]; exact h0

end Go.Proofs.YtoflfbcjlddjaaaDoor
