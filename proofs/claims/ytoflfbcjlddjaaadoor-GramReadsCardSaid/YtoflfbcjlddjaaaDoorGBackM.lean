/-
  What few leaves is not great; Put's three errors in one; bytes cut short.
-/
import Derived.Test.YtoflfbcjlddjaaaDoorGOnlyM
import Derived.Test.YtoflfbcjlddjaaaDoorGFew
namespace Go.Proofs.YtoflfbcjlddjaaaDoor
open Go.RowKit
theorem cutT_size (n : Nat) (s : ByteArray) : (cutT n s).size ≤ n := by unfold cutT; simp; omega
structure Vl.few (x : Vl) : Prop where
  s : x.s.size ≤ 40
  l : x.l.length ≤ 4
  t : ∀ s ∈ x.l, s.size ≤ 20
theorem fewV_few (x : Vl) : (fewV x).few := by
  refine ⟨cutT_size _ _, ?_, fun s hs => ?_⟩
  · unfold fewV; simp; omega
  · obtain ⟨t, _, rfl⟩ := List.mem_map.1 hs
    exact cutT_size _ _
theorem few_all (xs : List Vl) : ∀ x ∈ (xs.take 6).map fewV, x.few := by
  intro x hx
  obtain ⟨y, _, rfl⟩ := List.mem_map.1 hx
  exact fewV_few y
theorem Vl.few.ok {x : Vl} (h : x.few) : x.ok := ⟨by have := h.s; omega, by have := h.l; omega, fun s hs => by have := h.t s hs; omega⟩
theorem texts_few : ∀ (l : List ByteArray), (∀ s ∈ l, s.size ≤ 20) → (l.flatMap textB).length ≤ 22 * l.length
  | [], _ => by simp
  | s :: l, h => by
    have h1 := h s (List.mem_cons_self ..)
    have h2 := texts_few l fun t ht => h t (List.mem_cons_of_mem _ ht)
    have h3 : (textB s).length = 2 + s.size := by
      have : s.data.size = s.size := rfl
      simp [textB, numB_length, this]
    rw [List.flatMap_cons, List.length_append, h3, List.length_cons]; omega
theorem enc_few {f : Fl} {x : Vl} (hr : rightF f = true) (hx : x.few) : (encF f x).length ≤ 100 := by
  unfold encF
  split
  · rename_i hk
    obtain ⟨s, h1, h2, _⟩ := right_size hr hk
    rw [numB_length, h1]; omega
  · split
    · have := hx.s
      have h3 : x.s.data.size = x.s.size := rfl
      simp [textB, numB_length, h3]; omega
    · have h1 := texts_few x.l hx.t
      have h2 := hx.l
      rw [textsB, List.length_append, numB_length]; omega
theorem flat_few : ∀ (ps : List (Fl × Vl)), (∀ p ∈ ps, rightF p.1 = true ∧ p.2.few) → (ps.flatMap encP).length ≤ 100 * ps.length
  | [], _ => by simp
  | p :: ps, h => by
    have h1 := h p (List.mem_cons_self ..)
    have h2 := flat_few ps fun q hq => h q (List.mem_cons_of_mem _ hq)
    have h3 := enc_few h1.1 h1.2
    rw [List.flatMap_cons, List.length_append, List.length_cons]
    show (encF p.1 p.2).length + _ ≤ _
    omega
theorem putB_few {fs : List Fl} {xs : List Vl} (hr : ¬ 0 ≤ firstAt wrongF fs 0) (hx : ∀ x ∈ xs, x.few) (n : Nat) (hn : fs.length ≤ n) : (putB fs xs).length ≤ 100 * n := by
  have h := flat_few (fs.zip xs) fun p hp => ⟨right_all fs hr p.1 (List.of_mem_zip hp).1, hx p.2 (List.of_mem_zip hp).2⟩
  have : (fs.zip xs).length ≤ n := by rw [List.length_zip]; omega
  unfold putB; omega
/-- Put, where it tells an error. -/
theorem put_err (fv xv : Value) (fs : List Fl) (xs : List Vl) (w : World) (hf : SlF w.heap.size w fv fs) (hx : SlV w.heap.size w xv xs) (hl : fs.length ≤ 100) (hh : ∀ f ∈ fs, f.hi ≤ 9223372036854775807) (hok : ∀ x ∈ xs, x.ok) (k a : Int)
    (h : putErr fs xs = some (k, a)) : Calls Tryd.prog 17 #[fv, xv] w (Wrong gramPut k a w) := by
  unfold putErr at h
  split at h
  · rename_i h1
    injection h with h; injection h with e1 e2; subst e1 e2
    exact put_wrong1 w.heap.size fv xv fs w hf (Nat.le_refl _) hl hh h1
  · rename_i h1
    split at h
    · rename_i h2
      injection h with h; injection h with e1 e2; subst e1 e2
      exact put_wrong2 w.heap.size fv xv fs xs w hf hx (Nat.le_refl _) hl hh (by omega) h2
    · rename_i h2
      split at h
      · rename_i h3
        injection h with h; injection h with e1 e2; subst e1 e2
        have := put_misfit fv xv fs xs w hf hx hl hh (by omega) (by omega) hok (firstAt misfit (fs.zip xs) 0).toNat (by omega)
        rwa [Int.toNat_of_nonneg h3] at this
      · cases h
theorem putErr_none {fs : List Fl} {xs : List Vl} (h : putErr fs xs = none) : ¬ 0 ≤ firstAt wrongF fs 0 ∧ xs.length = fs.length ∧ ¬ 0 ≤ firstAt misfit (fs.zip xs) 0 := by
  unfold putErr at h
  split at h
  · cases h
  · rename_i h1
    split at h
    · cases h
    · rename_i h2
      split at h
      · cases h
      · rename_i h3
        exact ⟨h1, by omega, h3⟩
def PutPost (o : Option (Int × Int)) (l : List UInt8) (w : World) (e : Ending) (w' : World) : Prop :=
  match o with
  | some q => Wrong gramPut q.1 q.2 w e w'
  | none => PutOk l w e w'
/-- Put of few fields and values, whichever. -/
theorem put_few (fv xv : Value) (fs : List Fl) (xs : List Vl) (w : World) (hf : SlF w.heap.size w fv fs) (hx : SlV w.heap.size w xv xs) (hl : fs.length ≤ 12) (hh : ∀ f ∈ fs, f.hi ≤ 9223372036854775807) (hfew : ∀ x ∈ xs, x.few) :
    Calls Tryd.prog 17 #[fv, xv] w (PutPost (putErr fs xs) (putB fs xs) w) := by
  cases hp : putErr fs xs with
  | some q =>
    obtain ⟨k, a⟩ := q
    exact put_err fv xv fs xs w hf hx (by omega) hh (fun x h => (hfew x h).ok) k a hp
  | none =>
    obtain ⟨p1, p2, p3⟩ := putErr_none hp
    have := putB_few p1 hfew 12 hl
    exact put_ok fv xv fs xs w hf hx (by omega) hh (by omega) p2 (fun x h => (hfew x h).ok) (by omega) (by omega)
theorem getM_short {fs : List Fl} {xs : List Vl} (hl : xs.length = fs.length) (hr : ¬ 0 ≤ firstAt wrongF fs 0) (hf : ¬ 0 ≤ firstAt misfit (fs.zip xs) 0) (hh : ∀ f ∈ fs, f.hi ≤ 9223372036854775807) (m : Nat) (hm : m < (putB fs xs).length) :
    ∃ p, getM fs ((putB fs xs).take m) = .no 3 p := by
  have h := getM_put hl hr hf hh []
  rw [List.append_nil, if_pos rfl] at h
  unfold getM at h
  cases hL : getL (putB fs xs) fs 0 with
  | no k p => rw [hL] at h; cases h
  | yes ys e =>
    rw [hL] at h
    simp only [ended] at h
    split at h
    · cases h
    · injection h with e1 e2
      subst e1 e2
      obtain ⟨p, hp⟩ := getL_take (m := m) (Nat.le_of_lt hm) hm (Nat.zero_le _) hL
      exact ⟨p, by unfold getM; rw [hp]; rfl⟩
theorem least_le {fs : List Fl} {xs : List Vl} (hl : xs.length = fs.length) (hr : ¬ 0 ≤ firstAt wrongF fs 0) (hf : ¬ 0 ≤ firstAt misfit (fs.zip xs) 0) : leastM fs ≤ (putB fs xs).length ∧ 0 ≤ leastM fs := by
  have hz := zip_map fs xs hl.symm
  have h := sum_enc (fs.zip xs) fun p hp => ⟨right_all fs hr p.1 (List.of_mem_zip hp).1, fit_all _ hf p hp⟩
  rw [hz.1] at h
  unfold leastM
  rw [if_neg hr]
  exact ⟨h, (sum_bound fs (right_all fs hr)).1⟩
end Go.Proofs.YtoflfbcjlddjaaaDoor
