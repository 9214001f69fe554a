/-
  Bytes that are cut short: what lies ahead of the cut is read as before, what passes it is told.
-/
import Derived.Test.YtoflfbcjlddjaaaDoorGPure
namespace Go.Proofs.YtoflfbcjlddjaaaDoor

theorem cut_take {bs : List UInt8} {m a n : Nat} (h : a + n ≤ m) : cut (bs.take m) a n = cut bs a n := by
  unfold cut
  rw [List.drop_take, List.take_take, Nat.min_eq_left (by omega)]
theorem numG_take {size : Nat} {lo hi n : Int} {bs : List UInt8} {a b m : Nat} (hm : m ≤ bs.length) (h : numG size lo hi bs a = .good n b) :
    numG size lo hi (bs.take m) a = if b ≤ m then .good n b else .bad 3 := by
  have hg := numG_good h
  have hl : (bs.take m).length = m := by rw [List.length_take]; omega
  by_cases hb : b ≤ m
  · rw [if_pos hb]
    unfold numG at *
    rw [if_neg (by omega)] at h
    rw [if_neg (by omega), cut_take (by omega)]
    exact h
  · rw [if_neg hb]
    unfold numG
    rw [if_pos (by omega)]
theorem textG_take {lo hi : Int} {s : ByteArray} {bs : List UInt8} {a b m : Nat} (hm : m ≤ bs.length) (h : textG lo hi bs a = .good s b) :
    textG lo hi (bs.take m) a = if b ≤ m then .good s b else .bad 3 := by
  have hg := textG_good h
  have hl : (bs.take m).length = m := by rw [List.length_take]; omega
  unfold textG at *
  cases hN : numG 2 lo hi bs a with
  | bad k => rw [hN] at h; cases h
  | good n c =>
    rw [hN] at h
    have hc := numG_good hN
    simp only at h
    split at h
    · cases h
    · rename_i hlt
      rw [numG_take hm hN]
      by_cases hcm : c ≤ m
      · rw [if_pos hcm]
        simp only
        injection h with e1 e2
        by_cases hb : b ≤ m
        · rw [if_pos hb, if_neg (by omega), cut_take (by omega), e1, e2]
        · rw [if_neg hb, if_pos (by omega)]
      · rw [if_neg hcm]
        simp only
        injection h with e1 e2
        rw [if_neg (by omega)]
theorem textsLoop_take {mo : Int} {bs : List UInt8} {m : Nat} (hm : m ≤ bs.length) : ∀ {k a b : Nat} {l : List ByteArray}, a ≤ m → textsLoop mo bs k a = .good l b → textsLoop mo (bs.take m) k a = if b ≤ m then .good l b else .bad 3
  | 0, a, b, l, ha, h => by
    unfold textsLoop at *
    injection h with e1 e2
    subst e1 e2
    rw [if_pos ha]
  | k + 1, a, b, l, ha, h => by
    unfold textsLoop at h
    unfold textsLoop
    cases hT : textG 0 mo bs a with
    | bad e => rw [hT] at h; cases h
    | good s a' =>
      rw [hT] at h
      simp only at h
      rw [textG_take hm hT]
      cases hL : textsLoop mo bs k a' with
      | bad e => rw [hL] at h; cases h
      | good l' b' =>
        rw [hL] at h
        injection h with e1 e2
        subst e1 e2
        have hb := textsLoop_back hL
        by_cases ha' : a' ≤ m
        · rw [if_pos ha']
          simp only
          rw [textsLoop_take hm ha' hL]
          by_cases hbm : b' ≤ m
          · rw [if_pos hbm, if_pos hbm]
          · rw [if_neg hbm, if_neg hbm]
        · rw [if_neg ha', if_neg (by omega)]
theorem valG_take {f : Fl} {x : Vl} {bs : List UInt8} {a b m : Nat} (hm : m ≤ bs.length) (h : valG f bs a = .good x b) :
    valG f (bs.take m) a = if b ≤ m then .good x b else .bad 3 := by
  unfold valG at *
  by_cases h1 : f.k = 1
  · rw [if_pos h1] at *
    cases hN : numG f.sz.toNat f.lo f.hi bs a with
    | bad k => rw [hN] at h; cases h
    | good n c =>
      rw [hN] at h
      injection h with e1 e2
      subst e1 e2
      rw [numG_take hm hN]
      by_cases hq : c ≤ m
      · rw [if_pos hq, if_pos hq]
      · rw [if_neg hq, if_neg hq]
  · rw [if_neg h1] at *
    by_cases h2 : f.k = 2
    · rw [if_pos h2] at *
      cases hN : textG f.lo f.hi bs a with
      | bad k => rw [hN] at h; cases h
      | good n c =>
        rw [hN] at h
        injection h with e1 e2
        subst e1 e2
        rw [textG_take hm hN]
        by_cases hq : c ≤ m
        · rw [if_pos hq, if_pos hq]
        · rw [if_neg hq, if_neg hq]
    · rw [if_neg h2] at *
      unfold textsG at *
      cases hN : numG 1 f.lo f.hi bs a with
      | bad k => rw [hN] at h; cases h
      | good n c =>
        rw [hN] at h
        simp only at h
        rw [numG_take hm hN]
        cases hL : textsLoop f.mo bs n.toNat c with
        | bad k => rw [hL] at h; cases h
        | good l d =>
          rw [hL] at h
          injection h with e1 e2
          subst e1 e2
          have hd := textsLoop_back hL
          by_cases hc : c ≤ m
          · rw [if_pos hc]
            simp only
            rw [textsLoop_take hm hc hL]
            by_cases hq : d ≤ m
            · rw [if_pos hq, if_pos hq]
            · rw [if_neg hq, if_neg hq]
          · rw [if_neg hc, if_neg (by omega)]
theorem getL_take {bs : List UInt8} {m : Nat} (hm : m ≤ bs.length) : ∀ {fs : List Fl} {xs : List Vl} {a e : Nat}, m < e → a ≤ m → getL bs fs a = .yes xs e → ∃ p, getL (bs.take m) fs a = .no 3 p
  | [], xs, a, e, hme, ha, h => by
    unfold getL at h
    injection h with e1 e2
    omega
  | f :: fs, xs, a, e, hme, ha, h => by
    unfold getL at h
    unfold getL
    cases hV : valG f bs a with
    | bad k => rw [hV] at h; cases h
    | good x b =>
      rw [hV] at h
      simp only at h
      rw [valG_take hm hV]
      by_cases hb : b ≤ m
      · rw [if_pos hb]
        simp only
        cases hL : getL bs fs b with
        | no k p => rw [hL] at h; cases h
        | yes ys e' =>
          rw [hL] at h
          injection h with e1 e2
          subst e1 e2
          obtain ⟨p, hp⟩ := getL_take hm hme hb hL
          rw [hp]
          exact ⟨p, rfl⟩
      · rw [if_neg hb]
        exact ⟨_, rfl⟩
end Go.Proofs.YtoflfbcjlddjaaaDoor
