/-
  What Put writes Get reads; what Get takes Put writes; cut short it is told.
-/
import Derived.Test.YtoflfbcjlddjaaaDoorGGet
namespace Go.Proofs.YtoflfbcjlddjaaaDoor

theorem byteAt_succ (n : Int) (i : Nat) : byteAt n (i + 1) = byteAt (n / 256) i := by
  unfold byteAt
  congr 3
  rw [show 8 * (i + 1) = 8 + 8 * i by omega, Int.pow_add, ← Int.ediv_ediv_of_nonneg (by decide)]
  rfl
theorem numB_cons (k : Nat) (n : Int) : numB (k + 1) n = byteAt n 0 :: numB k (n / 256) := by
  unfold numB
  rw [List.range_succ_eq_map, List.map_cons, List.map_map]
  congr 1
  exact List.map_congr_left fun i _ => byteAt_succ n i
theorem leN_numB : ∀ (k : Nat) (n : Int), 0 ≤ n → n < 256 ^ k → (leN (numB k n) : Int) = n
  | 0, n, h0, h1 => by
    have : n = 0 := by simp at h1; omega
    subst this; rfl
  | k + 1, n, h0, h1 => by
    rw [numB_cons, leN]
    have ih := leN_numB k (n / 256) (by omega) (by rw [Int.pow_succ] at h1; omega)
    have hb := byteAt_toNat n 0
    rw [show (2 : Int) ^ (8 * 0) = 1 from rfl, Int.ediv_one] at hb
    generalize leN (numB k (n / 256)) = y at *
    generalize (byteAt n 0).toNat = z at *
    omega
theorem cut_mid (pre mid suf : List UInt8) : cut (pre ++ mid ++ suf) pre.length mid.length = mid := by
  unfold cut
  rw [List.append_assoc, List.drop_left, List.take_left]
theorem numG_put {size : Nat} {lo hi n : Int} (pre suf : List UInt8) (h0 : 0 ≤ n) (h1 : n < 256 ^ size) (h2 : lo ≤ n) (h3 : n ≤ hi) :
    numG size lo hi (pre ++ numB size n ++ suf) pre.length = .good n (pre.length + size) := by
  have hc := cut_mid pre (numB size n) suf
  rw [numB_length] at hc
  unfold numG
  rw [if_neg (by simp [numB_length]), hc, leN_numB size n h0 h1, if_neg (by omega)]
theorem text_back (s : ByteArray) : (⟨s.data.toList.toArray⟩ : ByteArray) = s := by cases s; rfl
theorem textG_put {lo hi : Int} {s : ByteArray} (pre suf : List UInt8) (h2 : lo ≤ (s.size : Int)) (h3 : (s.size : Int) ≤ hi) (h4 : s.size < 65536) :
    textG lo hi (pre ++ textB s ++ suf) pre.length = .good s (pre.length + (textB s).length) := by
  unfold textG
  have e : pre ++ textB s ++ suf = pre ++ numB 2 s.size ++ (s.data.toList ++ suf) := by simp [textB]
  have hn := numG_put (size := 2) (lo := lo) (hi := hi) (n := s.size) pre (s.data.toList ++ suf) (by omega) (by show (s.size : Int) < 65536; omega) h2 h3
  rw [e, hn]
  simp only [Int.toNat_natCast]
  have hl : (s.data.toList).length = s.size := rfl
  have hc := cut_mid (pre ++ numB 2 s.size) s.data.toList suf
  rw [List.length_append, numB_length, hl] at hc
  rw [if_neg (by simp only [List.length_append, numB_length, hl]; omega), ← List.append_assoc, hc, text_back, textB_length, Nat.add_assoc]
theorem textsLoop_put {mo : Int} : ∀ (l : List ByteArray) (pre suf : List UInt8), (∀ s ∈ l, (s.size : Int) ≤ mo ∧ s.size < 65536) →
    textsLoop mo (pre ++ l.flatMap textB ++ suf) l.length pre.length = .good l (pre.length + (l.flatMap textB).length)
  | [], pre, suf, _ => by simp [textsLoop]
  | s :: l, pre, suf, h => by
    have h1 := h s (List.mem_cons_self ..)
    have e : pre ++ (s :: l).flatMap textB ++ suf = pre ++ textB s ++ (l.flatMap textB ++ suf) := by simp
    have ht := textG_put (lo := 0) (hi := mo) pre (l.flatMap textB ++ suf) (by omega) h1.1 h1.2
    have ih := textsLoop_put l (pre ++ textB s) suf (fun t ht => h t (List.mem_cons_of_mem _ ht))
    rw [List.length_append] at ih
    rw [e, List.length_cons, textsLoop, ht]
    simp only
    rw [← List.append_assoc, ih]
    simp only [List.flatMap_cons, List.length_append, Nat.add_assoc]
theorem size_zero {s : ByteArray} (h : s.size = 0) : s = ByteArray.empty := by
  obtain ⟨⟨l⟩⟩ := s
  cases l with
  | nil => rfl
  | cons a l => exact absurd h (Nat.succ_ne_zero _)
theorem holds_pow {s : Nat} {n : Int} (h : holdsN s n = true) (hn : n ≤ 9223372036854775807) : n < 256 ^ s := by
  simp only [holdsN, decide_eq_true_eq] at h
  have h8 : s = 8 ∨ s = 1 ∨ s = 2 ∨ s = 4 := by omega
  rcases h8 with rfl | rfl | rfl | rfl
  · show n < 18446744073709551616; omega
  · show n < 256; omega
  · show n < 65536; omega
  · show n < 4294967296; omega
/-- A value that fits is read again where it was written. -/
theorem valG_put {f : Fl} {x : Vl} (pre suf : List UInt8) (hr : rightF f = true) (hf : fitsF f x = true) (hh : f.hi ≤ 9223372036854775807) :
    valG f (pre ++ encF f x ++ suf) pre.length = .good x (pre.length + (encF f x).length) := by
  have hr' := hr
  simp only [rightF, decide_eq_true_eq] at hr'
  obtain ⟨xn, xs, xl⟩ := x
  rcases right_kind hr with h | h | h
  · obtain ⟨s, h1, _, _⟩ := right_size hr h
    unfold fitsF at hf
    rw [if_pos h, decide_eq_true_eq] at hf
    simp only at hf
    obtain rfl := size_zero hf.2.2.1
    obtain rfl := List.eq_nil_of_length_eq_zero hf.2.2.2
    have hho : holdsN s f.hi = true := by
      rw [← h1]
      rcases hr'.2.2 with h2 | h2 | h2
      · exact h2.2.2
      · omega
      · omega
    have hp := holds_pow hho hh
    unfold valG encF
    rw [if_pos h, if_pos h, h1, Int.toNat_natCast, numG_put pre suf (by omega) (Int.lt_of_le_of_lt hf.2.1 hp) hf.1 hf.2.1, numB_length]
  · unfold fitsF at hf
    rw [if_neg (by omega), if_pos h, decide_eq_true_eq] at hf
    simp only at hf
    obtain rfl := hf.2.2.1
    obtain rfl := List.eq_nil_of_length_eq_zero hf.2.2.2
    unfold valG encF
    rw [if_neg (by omega), if_pos h, if_neg (by omega), if_pos h]
    simp only
    rw [textG_put pre suf hf.1 hf.2.1 (by omega)]
  · unfold fitsF at hf
    rw [if_neg (by omega), if_neg (by omega), decide_eq_true_eq] at hf
    simp only at hf
    obtain rfl := hf.2.2.1
    obtain rfl := size_zero hf.2.2.2.1
    unfold valG encF
    rw [if_neg (by omega), if_neg (by omega), if_neg (by omega), if_neg (by omega)]
    simp only
    unfold textsG
    have e : pre ++ textsB xl ++ suf = pre ++ numB 1 xl.length ++ (xl.flatMap textB ++ suf) := by simp [textsB]
    have hn := numG_put (size := 1) (lo := f.lo) (hi := f.hi) (n := xl.length) pre (xl.flatMap textB ++ suf) (by omega) (by show (xl.length : Int) < 256; omega) hf.1 hf.2.1
    have hL := textsLoop_put (mo := f.mo) xl (pre ++ numB 1 xl.length) suf (fun s hs => ⟨hf.2.2.2.2 s hs, by have := hf.2.2.2.2 s hs; omega⟩)
    rw [List.length_append, numB_length] at hL
    rw [e, hn]
    simp only [Int.toNat_natCast]
    rw [← List.append_assoc, hL]
    simp only [textsB, List.length_append, numB_length, Nat.add_assoc]
theorem getL_put : ∀ (ps : List (Fl × Vl)) (pre suf : List UInt8), (∀ p ∈ ps, rightF p.1 = true ∧ fitsF p.1 p.2 = true ∧ p.1.hi ≤ 9223372036854775807) →
    getL (pre ++ ps.flatMap encP ++ suf) (ps.map (·.1)) pre.length = .yes (ps.map (·.2)) (pre.length + (ps.flatMap encP).length)
  | [], pre, suf, _ => by simp [getL]
  | p :: ps, pre, suf, h => by
    have h1 := h p (List.mem_cons_self ..)
    have e : pre ++ (p :: ps).flatMap encP ++ suf = pre ++ encF p.1 p.2 ++ (ps.flatMap encP ++ suf) := by simp [encP]
    have hv := valG_put pre (ps.flatMap encP ++ suf) h1.1 h1.2.1 h1.2.2
    have ih := getL_put ps (pre ++ encF p.1 p.2) suf (fun q hq => h q (List.mem_cons_of_mem _ hq))
    rw [List.length_append] at ih
    rw [e, List.map_cons, getL, hv]
    simp only
    rw [← List.append_assoc, ih]
    simp only [List.map_cons, List.flatMap_cons, List.length_append, Nat.add_assoc, encP]
theorem zip_map {α β : Type} : ∀ (l : List α) (m : List β), l.length = m.length → (l.zip m).map (·.1) = l ∧ (l.zip m).map (·.2) = m
  | [], [], _ => ⟨rfl, rfl⟩
  | a :: l, b :: m, h => by
    have := zip_map l m (by simpa using h)
    simp [this.1, this.2]
/-- P2.5: what is put is got. -/
theorem getM_put {fs : List Fl} {xs : List Vl} (hl : xs.length = fs.length) (hr : ¬ 0 ≤ firstAt wrongF fs 0) (hf : ¬ 0 ≤ firstAt misfit (fs.zip xs) 0) (hh : ∀ f ∈ fs, f.hi ≤ 9223372036854775807) (more : List UInt8) :
    getM fs (putB fs xs ++ more) = if more = [] then .yes xs (putB fs xs).length else .no 4 (putB fs xs).length := by
  have hz := zip_map fs xs hl.symm
  have h := getL_put (fs.zip xs) [] more (fun p hp => by
    have hm : p.1 ∈ fs := by rw [← hz.1]; exact List.mem_map_of_mem hp
    exact ⟨right_all fs hr p.1 hm, fit_all _ hf p hp, hh p.1 hm⟩)
  rw [hz.1, hz.2] at h
  simp only [List.nil_append, List.length_nil, Nat.zero_add] at h
  unfold getM putB
  rw [h]
  unfold ended
  simp only [List.length_append]
  cases more with
  | nil => simp
  | cons a m => simp

/-! ### the other way: what is taken is what Put writes -/
theorem numB_leN : ∀ (l : List UInt8), numB l.length (leN l) = l
  | [] => rfl
  | b :: l => by
    have hb := b.toNat_lt
    rw [List.length_cons, numB_cons, leN]
    have e : (((b.toNat + 256 * leN l : Nat) : Int) / 256) = (leN l : Int) := by omega
    rw [e, numB_leN l]
    congr 1
    unfold byteAt
    rw [show (2 : Int) ^ (8 * 0) = 1 from rfl, Int.ediv_one]
    have : (((b.toNat + 256 * leN l : Nat) : Int) % 256).toNat = b.toNat := by omega
    rw [this]; simp
theorem cut_cut (bs : List UInt8) (a m n : Nat) : cut bs a (m + n) = cut bs a m ++ cut bs (a + m) n := by
  unfold cut
  rw [List.take_add, List.drop_drop]
theorem numG_back {size : Nat} {lo hi n : Int} {bs : List UInt8} {a b : Nat} (h : numG size lo hi bs a = .good n b) : numB size n = cut bs a size ∧ b = a + size ∧ b ≤ bs.length ∧ lo ≤ n ∧ n ≤ hi ∧ 0 ≤ n := by
  have hg := numG_good h
  unfold numG at h
  split at h
  · cases h
  · split at h
    · cases h
    · injection h with e1 e2
      refine ⟨?_, hg.1, hg.2.1, hg.2.2.1, hg.2.2.2.1, hg.2.2.2.2⟩
      have hl := cut_length bs a size (by omega)
      have := numB_leN (cut bs a size)
      rw [hl] at this
      rw [← e1]; exact this
theorem textG_back {lo hi : Int} {bs : List UInt8} {s : ByteArray} {a b : Nat} (h : textG lo hi bs a = .good s b) : textB s = cut bs a (2 + s.size) := by
  have hg := textG_good h
  unfold textG at h
  cases hN : numG 2 lo hi bs a with
  | bad k => rw [hN] at h; cases h
  | good n c =>
    rw [hN] at h
    obtain ⟨h1, h2, h3, h4, h5, h6⟩ := numG_back hN
    simp only at h
    split at h
    · cases h
    · injection h with e1 e2
      have hl := cut_length bs c n.toNat (by omega)
      have hs : s.size = n.toNat := by omega
      rw [textB, hs, cut_cut bs a 2 n.toNat, ← h2, ← h1]
      have e : ((n.toNat : Nat) : Int) = n := by omega
      rw [e]
      congr 1
      rw [← e1]
theorem textsLoop_back {mo : Int} {bs : List UInt8} : ∀ {k a b : Nat} {l : List ByteArray}, textsLoop mo bs k a = .good l b → l.length = k ∧ l.flatMap textB = cut bs a (l.flatMap textB).length ∧ b = a + (l.flatMap textB).length ∧ (a ≤ bs.length → b ≤ bs.length) ∧ ∀ s ∈ l, (s.size : Int) ≤ mo
  | 0, a, b, l, h => by
    unfold textsLoop at h
    injection h with e1 e2
    subst e1 e2
    exact ⟨rfl, by simp [cut], by simp, fun h => h, fun s hs => by cases hs⟩
  | k + 1, a, b, l, h => by
    unfold textsLoop at h
    cases hT : textG 0 mo bs a with
    | bad e => rw [hT] at h; cases h
    | good s a' =>
      rw [hT] at h
      simp only at h
      have hg := textG_good hT
      have hb := textG_back hT
      cases hL : textsLoop mo bs k a' with
      | bad e => rw [hL] at h; cases h
      | good l' b' =>
        rw [hL] at h
        injection h with e1 e2
        subst e1 e2
        obtain ⟨i1, i2, i3, i4, i5⟩ := textsLoop_back hL
        have hle := i4 hg.2.1
        refine ⟨by simp [i1], ?_, ?_, fun _ => hle, fun t ht => ?_⟩
        · rw [List.flatMap_cons, List.length_append, textB_length, cut_cut bs a (2 + s.size) _, ← hb]
          rw [show a + (2 + s.size) = a' by omega, ← i2]
        · rw [List.flatMap_cons, List.length_append, textB_length]; omega
        · rcases List.mem_cons.1 ht with rfl | ht
          · exact hg.2.2.2
          · exact i5 t ht
theorem valG_back {f : Fl} {bs : List UInt8} {x : Vl} {a b : Nat} (hr : rightF f = true) (h : valG f bs a = .good x b) : encF f x = cut bs a (encF f x).length ∧ b = a + (encF f x).length ∧ b ≤ bs.length ∧ fitsF f x = true := by
  have hle := valG_le h
  unfold valG at h
  rcases right_kind hr with hk | hk | hk
  · obtain ⟨s, h1, _, _⟩ := right_size hr hk
    rw [if_pos hk, h1, Int.toNat_natCast] at h
    cases hN : numG s f.lo f.hi bs a with
    | bad k => rw [hN] at h; cases h
    | good n c =>
      rw [hN] at h
      injection h with e1 e2
      subst e1 e2
      obtain ⟨g1, g2, g3, g4, g5, g6⟩ := numG_back hN
      unfold encF fitsF
      rw [if_pos hk, if_pos hk, h1, Int.toNat_natCast, numB_length]
      exact ⟨g1, g2, g3, decide_eq_true ⟨g4, g5, rfl, rfl⟩⟩
  · rw [if_neg (by omega), if_pos hk] at h
    cases hN : textG f.lo f.hi bs a with
    | bad k => rw [hN] at h; cases h
    | good s c =>
      rw [hN] at h
      injection h with e1 e2
      subst e1 e2
      have g1 := textG_good hN
      have g2 := textG_back hN
      unfold encF fitsF
      rw [if_neg (by omega), if_pos hk, if_neg (by omega), if_pos hk, textB_length]
      exact ⟨g2, by show c = a + (2 + s.size); omega, g1.2.1, decide_eq_true ⟨g1.2.2.1, g1.2.2.2, rfl, rfl⟩⟩
  · rw [if_neg (by omega), if_neg (by omega)] at h
    unfold textsG at h
    cases hN : numG 1 f.lo f.hi bs a with
    | bad k => rw [hN] at h; cases h
    | good n c =>
      rw [hN] at h
      simp only at h
      obtain ⟨g1, g2, g3, g4, g5, g6⟩ := numG_back hN
      cases hL : textsLoop f.mo bs n.toNat c with
      | bad k => rw [hL] at h; cases h
      | good l d =>
        rw [hL] at h
        injection h with e1 e2
        subst e1 e2
        obtain ⟨i1, i2, i3, i4, i5⟩ := textsLoop_back hL
        have hd := i4 g3
        have en : ((l.length : Nat) : Int) = n := by omega
        unfold encF fitsF
        rw [if_neg (by omega), if_neg (by omega), if_neg (by omega), if_neg (by omega)]
        refine ⟨?_, ?_, hd, decide_eq_true ⟨by show f.lo ≤ (l.length : Int); omega, by show (l.length : Int) ≤ f.hi; omega, rfl, rfl, i5⟩⟩
        · show textsB l = cut bs a (textsB l).length
          rw [textsB, List.length_append, numB_length, cut_cut bs a 1 _, en, g1, ← g2, ← i2]
        · show d = a + (textsB l).length
          rw [textsB, List.length_append, numB_length]; omega
theorem getL_back {bs : List UInt8} : ∀ {fs : List Fl} {xs : List Vl} {a e : Nat}, (∀ f ∈ fs, rightF f = true) → a ≤ bs.length → getL bs fs a = .yes xs e → xs.length = fs.length ∧ (fs.zip xs).flatMap encP = cut bs a ((fs.zip xs).flatMap encP).length ∧ e = a + ((fs.zip xs).flatMap encP).length ∧ e ≤ bs.length ∧ ∀ p ∈ fs.zip xs, fitsF p.1 p.2 = true
  | [], xs, a, e, _, ha, h => by
    unfold getL at h
    injection h with e1 e2
    subst e1 e2
    exact ⟨rfl, by simp [cut], by simp, ha, fun p hp => by simp at hp⟩
  | f :: fs, xs, a, e, hr, ha, h => by
    unfold getL at h
    cases hV : valG f bs a with
    | bad k => rw [hV] at h; cases h
    | good x b =>
      rw [hV] at h
      simp only at h
      obtain ⟨g1, g2, g3, g4⟩ := valG_back (hr f (List.mem_cons_self ..)) hV
      cases hL : getL bs fs b with
      | no k p => rw [hL] at h; cases h
      | yes ys e' =>
        rw [hL] at h
        injection h with e1 e2
        subst e1 e2
        obtain ⟨i1, i2, i3, i4, i5⟩ := getL_back (fun g hg => hr g (List.mem_cons_of_mem _ hg)) g3 hL
        refine ⟨by simp [i1], ?_, ?_, i4, fun p hp => ?_⟩
        · rw [List.zip_cons_cons, List.flatMap_cons, List.length_append, show encP (f, x) = encF f x from rfl, cut_cut bs a _ _, ← g1, ← g2, ← i2]
        · rw [List.zip_cons_cons, List.flatMap_cons, List.length_append, show encP (f, x) = encF f x from rfl]; omega
        · rw [List.zip_cons_cons] at hp
          rcases List.mem_cons.1 hp with rfl | hp
          · exact g4
          · exact i5 p hp
end Go.Proofs.YtoflfbcjlddjaaaDoor
