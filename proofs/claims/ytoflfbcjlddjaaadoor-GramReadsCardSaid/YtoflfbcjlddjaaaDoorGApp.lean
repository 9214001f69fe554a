/-
  gram.appendValue: a value's bytes behind a row of the call's own.
-/
import Derived.Test.YtoflfbcjlddjaaaDoorGNum
namespace Go.Proofs.YtoflfbcjlddjaaaDoor
open Go.RowKit

/-- A slice of texts reads as xs. -/
def Texts (w : World) (b o : Nat) (xs : List ByteArray) : Prop := ∀ x, x < xs.length → w.cell? ⟨b, o + x, none⟩ = some (.string (xs.getD x ByteArray.empty))
/-- v is a slice of the texts l, in blocks ahead of B. -/
def SlT (B : Nat) (w : World) (v : Value) (l : List ByteArray) : Prop :=
  (l = [] ∧ ∃ a cap, v = .slice a 0 cap) ∨ ∃ b o cap, v = .slice (some ⟨b, o, none⟩) l.length cap ∧ b < B ∧ Texts w b o l ∧ 0 < l.length
theorem SlT.mono {B : Nat} {w w' : World} {v : Value} {l : List ByteArray} (h : SlT B w v l) (hc : ∀ b o, b < B → w'.cell? ⟨b, o, none⟩ = w.cell? ⟨b, o, none⟩) : SlT B w' v l := by
  rcases h with h | ⟨b, o, cap, h1, h2, h3, h4⟩
  · exact Or.inl h
  · exact Or.inr ⟨b, o, cap, h1, h2, fun x hx => by rw [hc _ _ h2]; exact h3 x hx, h4⟩
theorem SlT.len {B : Nat} {w : World} {v : Value} {l : List ByteArray} (h : SlT B w v l) : ∃ a cap, v = .slice a l.length cap := by
  rcases h with ⟨rfl, a, cap, h⟩ | ⟨b, o, cap, h1, _⟩
  · exact ⟨a, cap, h⟩
  · exact ⟨_, cap, h1⟩
theorem SlT.below {B : Nat} {w w' : World} {v : Value} {l : List ByteArray} (h : SlT B w v l) (hb : Below B w w') : SlT B w' v l := h.mono fun b o hl => hb.cell (p := ⟨b, o, none⟩) hl
theorem SlT.wider {B B' : Nat} {w : World} {v : Value} {l : List ByteArray} (h : SlT B w v l) (hB : B ≤ B') : SlT B' w v l := by
  rcases h with h | ⟨b, o, cap, h1, h2, h3, h4⟩
  · exact Or.inl h
  · exact Or.inr ⟨b, o, cap, h1, by omega, h3, h4⟩

/-- A value that is not great. -/
structure Vl.ok (x : Vl) : Prop where
  s : x.s.size ≤ 100
  l : x.l.length ≤ 40
  t : ∀ s ∈ x.l, s.size ≤ 100

theorem appNum_any (k : Int) (B : Nat) (v : Value) (n size : Nat) (lo hi mo num : Int) (s : ByteArray) (lv : Value) (xs : List Value) (w : World) (hk : k = 1) (hs : size ≤ 8) (hn : n ≤ 9000)
    (hown : w.ownsRow B 5 1 v n xs) (hB : B ≤ w.heap.size) :
    Calls Tryd.prog 40 #[v, .agg #[.int .i64 k, .int .i64 size, .int .i64 lo, .int .i64 hi, .int .i64 mo], .agg #[.int .i64 num, .string s, lv]] w (App B v n size xs (bytesV (numB size num)) w) := by
  subst hk
  have Hnum := Lib.hid (fun o1 o2 => appendNumber B v n size num xs ((w.alloc o1).alloc o2) hs (by omega) ((hown.alloc o1).alloc o2) (by simp; omega))
  clear hown
  go_enter Tryd.func40, Tryd.ntmps40
  go_wp2_with fail
  refine (Hnum.out _ _).mono ?_
  rintro e w1 ⟨v1, rfl, hown, hg⟩
  have H1 := Lib.hid hown
  have G1 := Lib.hid hg; clear hown hg
  go_wp2
  go_ret
  exact ⟨_, rfl, H1.out, (((Grew.refl _ _).alloc _).alloc _).trans G1.out⟩
theorem appText_any (k : Int) (B : Nat) (v : Value) (n : Nat) (sz lo hi mo num : Int) (s : ByteArray) (lv : Value) (xs : List Value) (w : World) (hk : k = 2) (hs : s.size ≤ 100) (hn : n ≤ 9000)
    (hown : w.ownsRow B 5 1 v n xs) (hB : B ≤ w.heap.size) :
    Calls Tryd.prog 40 #[v, .agg #[.int .i64 k, .int .i64 sz, .int .i64 lo, .int .i64 hi, .int .i64 mo], .agg #[.int .i64 num, .string s, lv]] w (App B v n (2 + s.size) xs (bytesV (textB s)) w) := by
  subst hk
  have Hnum := Lib.hid (fun o1 o2 => appendText B v n s xs ((w.alloc o1).alloc o2) (by omega) (by omega) ((hown.alloc o1).alloc o2) (by simp; omega))
  clear hown
  go_enter Tryd.func40, Tryd.ntmps40
  go_wp2_with fail
  refine (Hnum.out _ _).mono ?_
  rintro e w1 ⟨v1, rfl, hown, hg⟩
  have H1 := Lib.hid hown
  have G1 := Lib.hid hg; clear hown hg
  go_wp2
  go_ret
  exact ⟨_, rfl, H1.out, (((Grew.refl _ _).alloc _).alloc _).trans G1.out⟩

theorem textB_length (s : ByteArray) : (textB s).length = 2 + s.size := by
  rw [textB, List.length_append, numB_length]; rfl
theorem flat_len (l : List ByteArray) (h : ∀ s ∈ l, s.size ≤ 100) : (l.flatMap textB).length ≤ 102 * l.length := by
  induction l with
  | nil => simp
  | cons a l ih =>
    have h1 := h a (List.mem_cons_self ..)
    have h2 := ih (fun s hs => h s (List.mem_cons_of_mem _ hs))
    rw [List.flatMap_cons, List.length_append, textB_length, List.length_cons]
    omega
theorem take_snoc {α : Type} (l : List α) (k : Nat) (d : α) (hk : k < l.length) : l.take (k + 1) = l.take k ++ [l.getD k d] := by
  rw [List.take_succ_eq_append_getElem hk]; simp [List.getD, hk]
theorem getD_mem {α : Type} (l : List α) (k : Nat) (d : α) (hk : k < l.length) : l.getD k d ∈ l := by simp [List.getD, hk]

def RelT (B : Nat) (v0 : Value) (n : Nat) (l : List ByteArray) (xs : List Value) (w : World) (v i : Value) (wr : World) : Prop :=
  ∃ k : Nat, k ≤ l.length ∧ i = .int .i64 k ∧ wr.ownsRow B 5 1 v (n + ((l.take k).flatMap textB).length) (xs ++ bytesV ((l.take k).flatMap textB)) ∧ Grew w v0.ownBlock wr v.ownBlock

set_option maxHeartbeats 1000000 in
theorem appTexts_any (k : Int) (B : Nat) (v : Value) (n : Nat) (sz lo hi mo num : Int) (s : ByteArray) (lv : Value) (l : List ByteArray) (xs : List Value) (w : World) (hk : k = 3) (hn : n ≤ 5000)
    (hl : l.length ≤ 40) (hls : ∀ s ∈ l, s.size ≤ 100) (hlv : SlT B w lv l) (hown : w.ownsRow B 5 1 v n xs) (hB : B ≤ w.heap.size) :
    Calls Tryd.prog 40 #[v, .agg #[.int .i64 k, .int .i64 sz, .int .i64 lo, .int .i64 hi, .int .i64 mo], .agg #[.int .i64 num, .string s, lv]] w (App B v n (textsB l).length xs (bytesV (textsB l)) w) := by
  subst hk
  have Hnum := Lib.hid (fun o1 o2 => appendNumber B v n 1 l.length xs ((w.alloc o1).alloc o2) (by omega) (by omega) ((hown.alloc o1).alloc o2) (by simp; omega))
  have Hfr := Lib.hid (fun k hk => (hown.lt k hk).2)
  have HfB := Lib.hid (fun k hk => (hown.lt k hk).1)
  have Hlv := Lib.hid hlv
  obtain ⟨a, cap, rfl⟩ := hlv.len
  clear hown hlv
  go_enter Tryd.func40, Tryd.ntmps40
  go_wp2_with fail
  refine (Hnum.out _ _).mono ?_
  rintro e w1 ⟨v1, rfl, hown, hg⟩
  have hc : ∀ i, w1.cell? ⟨w.heap.size + 1, i, none⟩ = ((w.alloc (.cells #[.int .i64 3, .int .i64 sz, .int .i64 lo, .int .i64 hi, .int .i64 mo] 46)).alloc (.cells #[.int .i64 num, .string s, .slice a l.length cap] 51)).cell? ⟨w.heap.size + 1, i, none⟩ :=
    fun i => hg.cell (by simp) (fun e => by have := Hfr.out _ e.symm; simp only at this; omega)
  have hc2 : w1.cell? ⟨w.heap.size + 1, 2, none⟩ = some (.slice a l.length cap) := by rw [hc]; simp
  have H1 := Lib.hid hown
  have G1 := Lib.hid ((((Grew.refl w v.ownBlock).alloc _).alloc _).trans hg); clear hown hg hc
  go_wp2_with fail
  go_loopw [0, 35] (fun v' i wr => RelT B v1 (n + 1) l (xs ++ bytesV (numB 1 l.length)) w1 v' i wr) (fun _ i _ => l.length - (intOf i).toNat)
  case atStart => exact ⟨0, Nat.zero_le _, rfl, by simpa [bytesV] using H1.out, Grew.refl _ _⟩
  case round =>
    obtain ⟨k, hk, rfl, hown, hg⟩ := hrel
    have hfl := flat_len (l.take k) (fun s hs => hls s (List.mem_of_mem_take hs))
    have htk : (l.take k).length ≤ 40 := by rw [List.length_take]; omega
    by_cases hlt : k < l.length
    · have hbel : Below B w1 wr := hg.below (by have := G1.out.size; omega) (fun k hk => (H1.out.lt k hk).1)
      have hbel0 : Below B w w1 := G1.out.below hB HfB.out
      rcases (Hlv.out.below hbel0).below hbel with ⟨h0, _⟩ | ⟨b, o, cap', h1, h2, h3, h4⟩
      · simp [h0] at hlt
      injection h1 with h1 h1' h1''
      subst h1 h1''
      have hcell := h3 k hlt
      have hsz := hls _ (getD_mem l k ByteArray.empty hlt)
      have Hts := Lib.hid (take_snoc l k ByteArray.empty hlt)
      generalize l.getD k ByteArray.empty = t at hcell hsz Hts
      have Htx := Lib.hid (appendText B _ _ t _ wr (by omega) (by omega) hown (by have := G1.out.size; have := hg.size; omega))
      have Hg := Lib.hid hg
      clear hown hg hbel hbel0 h3 h1' hfl htk hls
      go_wp2_with fail
      refine Htx.out.mono ?_
      rintro e w2 ⟨v2, rfl, hown2, hg2⟩
      have H2 := Lib.hid hown2
      have G2 := Lib.hid hg2; clear hown2 hg2
      go_wp2
      go_roundw
      case rel =>
        refine ⟨k + 1, by omega, by go_num, ?_, Hg.out.trans G2.out⟩
        have h := H2.out
        rw [Hts.out, List.flatMap_append, bytesV_append, ← List.append_assoc, List.length_append, ← Nat.add_assoc]
        simpa [textB_length] using h
      case measure => simp [intOf]; omega
    · obtain rfl : k = l.length := by omega
      have Hw := Lib.hid hown
      have Hg := Lib.hid hg; clear hown hg hfl htk hls
      go_wp2
      go_ret
      refine ⟨_, rfl, ?_, G1.out.trans Hg.out⟩
      have h := Hw.out
      rw [List.take_length, List.append_assoc, ← bytesV_append] at h
      rw [textsB, List.length_append, numB_length, ← Nat.add_assoc]
      exact h
end Go.Proofs.YtoflfbcjlddjaaaDoor
