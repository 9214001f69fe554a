/-
  Entries in blocks: numbers only.
-/
import Derived.Test.YtilljaneegbhlaaGreatDoorZYPure
import Derived.Test.YtilljaneegbhlaaGreatDoorZYMem
import Derived.Test.YtilljaneegbhlaaGreatDoorZJMem
import Derived.Laws.CopyOwn
import Derived.Test.YtilljaneegbhlaaGreatDoorPLay
namespace Go.Proofs.YtilljaneegbhlaaGreatDoor
/-- The two bytes of a length. -/
def lenB (n : Nat) : List UInt8 := [UInt8.ofNat (n % 256), UInt8.ofNat (n / 256 % 256)]
def entB (e : List UInt8) : List UInt8 := lenB e.length ++ e
/-- Entries, one behind the other. -/
def encE (l : List (List UInt8)) : List UInt8 := l.flatMap entB
/-- What Fill has of the bytes so far and the entries left. -/
def fillR (room : Int) : List UInt8 → List (List UInt8) → Option (List UInt8)
  | b, [] => some b
  | b, e :: l => if e = [] ∨ room - (b.length : Int) - 2 < (e.length : Int) then none else fillR room (b ++ entB e) l
def padTo (n : Nat) (b : List UInt8) : List UInt8 := b ++ List.replicate (n - b.length) 0
/-- Block i of bytes. -/
def blkAt (b : List UInt8) (i : Nat) : List UInt8 := padTo 108 ((b.drop (108 * i)).take 108)
/-- What Fill answers; []: nil. -/
def fillL (k : Nat) (l : List (List UInt8)) : List (List UInt8) :=
  match fillR (108 * (k : Int)) [] l with
  | none => []
  | some b => if b = [] then [] else (List.range k).map (blkAt b)
def lenOf (b : List UInt8) : Nat := (b.getD 0 0).toNat + 256 * (b.getD 1 0).toNat
def decF : Nat → List UInt8 → List (List UInt8)
  | 0, _ => []
  | f + 1, b => if b.length < 2 then [] else if lenOf b = 0 ∨ (b.drop 2).length < lenOf b then [] else (b.drop 2).take (lenOf b) :: decF f ((b.drop 2).drop (lenOf b))
/-- The entries of bytes. -/
def decL (b : List UInt8) : List (List UInt8) := decF b.length b
def emptyL (bs : List (List UInt8)) : List (List UInt8) := decL bs.flatten
theorem decF_fuel : ∀ (f g : Nat) (b : List UInt8), b.length ≤ f → b.length ≤ g → decF f b = decF g b
  | 0, 0, _, _, _ => rfl
  | 0, g + 1, b, h, _ => by
    show ([] : List (List UInt8)) = _
    rw [decF, if_pos (by omega)]
  | f + 1, 0, b, _, h => by
    show _ = ([] : List (List UInt8))
    rw [decF, if_pos (by omega)]
  | f + 1, g + 1, b, h1, h2 => by
    rw [decF, decF]
    by_cases h : b.length < 2
    · rw [if_pos h, if_pos h]
    · rw [if_neg h, if_neg h]
      by_cases h' : lenOf b = 0 ∨ (b.drop 2).length < lenOf b
      · rw [if_pos h', if_pos h']
      · rw [if_neg h', if_neg h', decF_fuel f g _ (by rw [List.length_drop, List.length_drop]; omega) (by rw [List.length_drop, List.length_drop]; omega)]
theorem decL_stop {b : List UInt8} (h : b.length < 2 ∨ lenOf b = 0 ∨ (b.drop 2).length < lenOf b) : decL b = [] := by
  unfold decL
  cases hb : b.length with
  | zero => rfl
  | succ f =>
    rw [decF]
    by_cases h2 : b.length < 2
    · rw [if_pos h2]
    · rw [if_neg h2, if_pos (h.resolve_left h2)]
theorem decL_next {b : List UInt8} (h1 : ¬ b.length < 2) (h2 : lenOf b ≠ 0) (h3 : ¬ (b.drop 2).length < lenOf b) : decL b = (b.drop 2).take (lenOf b) :: decL ((b.drop 2).drop (lenOf b)) := by
  unfold decL
  cases hb : b.length with
  | zero => omega
  | succ f =>
    rw [decF, if_neg h1, if_neg (by simp only [not_or]; exact ⟨h2, h3⟩)]
    rw [decF_fuel f _ _ (by rw [List.length_drop, List.length_drop]; omega) (Nat.le_refl _)]
theorem lenB_len (n : Nat) : (lenB n).length = 2 := rfl
theorem entB_len (e : List UInt8) : (entB e).length = 2 + e.length := by rw [entB, List.length_append, lenB_len]
theorem lenOf_ent {n : Nat} (h : n < 65536) (r : List UInt8) : lenOf (lenB n ++ r) = n := by
  show (UInt8.ofNat (n % 256)).toNat + 256 * (UInt8.ofNat (n / 256 % 256)).toNat = n
  rw [UInt8.toNat_ofNat', UInt8.toNat_ofNat']
  omega
/-- What was laid is read. -/
theorem decL_ent {e r : List UInt8} (h0 : e ≠ []) (h : e.length < 65536) : decL (entB e ++ r) = e :: decL r := by
  have h1 : 0 < e.length := List.length_pos_iff.2 h0
  have hl : lenOf (entB e ++ r) = e.length := by rw [entB, List.append_assoc, lenOf_ent h]
  have hd : (entB e ++ r).drop 2 = e ++ r := by rw [entB, List.append_assoc]; rfl
  rw [decL_next (by rw [List.length_append, entB_len]; omega) (by omega) (by rw [hd, hl, List.length_append]; omega), hl, hd, List.take_left, List.drop_left]
theorem decL_zeros (n : Nat) : decL (List.replicate n 0) = [] := by
  refine decL_stop (Or.inr (Or.inl ?_))
  match n with
  | 0 => rfl
  | 1 => rfl
  | n + 2 => rfl
/-- Entries that fit. -/
def OkE (l : List (List UInt8)) : Prop := ∀ e ∈ l, e ≠ [] ∧ e.length < 65536
theorem decL_enc : ∀ (l : List (List UInt8)) (n : Nat), OkE l → decL (encE l ++ List.replicate n 0) = l
  | [], n, _ => decL_zeros n
  | e :: l, n, h => by
    rw [show encE (e :: l) = entB e ++ encE l from rfl, List.append_assoc, decL_ent (h e (List.mem_cons_self ..)).1 (h e (List.mem_cons_self ..)).2, decL_enc l n fun x hx => h x (List.mem_cons_of_mem _ hx)]
theorem fillR_some : ∀ (l : List (List UInt8)) (room : Int) (b r : List UInt8), fillR room b l = some r → r = b ++ encE l ∧ (∀ e ∈ l, e ≠ [] ∧ (e.length : Int) ≤ room - 2) ∧ (l = [] ∨ (r.length : Int) ≤ room)
  | [], room, b, r, h => by
    rw [fillR] at h
    injection h with h
    exact ⟨by rw [h]; exact (List.append_nil r).symm, fun e he => (by cases he), Or.inl rfl⟩
  | e :: l, room, b, r, h => by
    rw [fillR] at h
    by_cases hc : e = [] ∨ room - (b.length : Int) - 2 < (e.length : Int)
    · rw [if_pos hc] at h; cases h
    · rw [if_neg hc] at h
      obtain ⟨h1, h2, h3⟩ := fillR_some l room _ r h
      simp only [not_or] at hc
      have hl : (r.length : Int) ≤ room := by
        rcases h3 with h3 | h3
        · subst h3
          rw [h1, encE, List.flatMap_nil, List.append_nil, List.length_append, entB_len]
          omega
        · exact h3
      refine ⟨by rw [h1, List.append_assoc]; rfl, fun x hx => ?_, Or.inr hl⟩
      rcases List.mem_cons.1 hx with rfl | hx
      · exact ⟨hc.1, by omega⟩
      · exact h2 x hx
theorem fillR_fits : ∀ (l : List (List UInt8)) (room : Int) (b : List UInt8), (∀ e ∈ l, e ≠ []) → (l = [] ∨ ((b ++ encE l).length : Int) ≤ room) → fillR room b l = some (b ++ encE l)
  | [], room, b, _, _ => by rw [fillR]; congr 1; exact (List.append_nil b).symm
  | e :: l, room, b, h, hl => by
    have hl' : ((b ++ encE (e :: l)).length : Int) ≤ room := hl.resolve_left (by simp)
    rw [show encE (e :: l) = entB e ++ encE l from rfl, ← List.append_assoc] at hl' ⊢
    have h0 := hl'
    rw [List.length_append, List.length_append, entB_len] at h0
    rw [fillR, if_neg (by simp only [not_or]; exact ⟨h e (List.mem_cons_self ..), by omega⟩), fillR_fits l room _ (fun x hx => h x (List.mem_cons_of_mem _ hx)) (Or.inr hl')]
theorem padTo_len (n : Nat) (b : List UInt8) (h : b.length ≤ n) : (padTo n b).length = n := by
  rw [padTo, List.length_append, List.length_replicate]; omega
theorem blkAt_len (b : List UInt8) (i : Nat) : (blkAt b i).length = 108 := padTo_len _ _ (by rw [List.length_take]; omega)
theorem blk_next (b : List UInt8) (i : Nat) : blkAt b (i + 1) = blkAt (b.drop 108) i := by
  rw [blkAt, blkAt, List.drop_drop, show 108 + 108 * i = 108 * (i + 1) from by omega]
theorem pblk_flat : ∀ (k : Nat) (b : List UInt8), b.length ≤ 108 * k → ((List.range k).map (blkAt b)).flatten = padTo (108 * k) b
  | 0, b, h => by
    obtain rfl : b = [] := List.eq_nil_of_length_eq_zero (by omega)
    rfl
  | k + 1, b, h => by
    rw [List.range_succ_eq_map, List.map_cons, List.flatten_cons, List.map_map]
    rw [show (blkAt b ∘ Nat.succ) = blkAt (b.drop 108) from funext fun i => blk_next b i]
    rw [pblk_flat k (b.drop 108) (by rw [List.length_drop]; omega)]
    rw [blkAt, Nat.mul_zero, List.drop_zero]
    by_cases hb : b.length ≤ 108
    · have h1 : b.take 108 = b := List.take_of_length_le hb
      have h2 : b.drop 108 = [] := List.drop_eq_nil_of_le hb
      rw [h1, h2, padTo, padTo, padTo, List.nil_append, List.append_assoc, List.length_nil, Nat.sub_zero, List.replicate_append_replicate, show 108 - b.length + 108 * k = 108 * (k + 1) - b.length from by omega]
    · have h1 : (b.take 108).length = 108 := by rw [List.length_take]; omega
      rw [padTo, h1, Nat.sub_self, List.replicate_zero, List.append_nil, padTo, ← List.append_assoc, List.take_append_drop, padTo, List.length_drop, show 108 * k - (b.length - 108) = 108 * (k + 1) - b.length from by omega]
theorem fillL_is {k : Nat} {l : List (List UInt8)} (h : fillL k l ≠ []) : fillL k l = (List.range k).map (blkAt (encE l)) ∧ (∀ e ∈ l, e ≠ [] ∧ (e.length : Int) ≤ 108 * (k : Int) - 2) ∧ (encE l).length ≤ 108 * k ∧ l ≠ [] := by
  unfold fillL at h ⊢
  cases hf : fillR (108 * (k : Int)) [] l with
  | none => rw [hf] at h; exact absurd rfl h
  | some b =>
    rw [hf] at h
    obtain ⟨h1, h2, h3⟩ := fillR_some _ _ _ _ hf
    rw [List.nil_append] at h1
    subst h1
    by_cases hb : encE l = []
    · exact absurd (if_pos hb) h
    · have hl : l ≠ [] := fun e => hb (by rw [e]; rfl)
      refine ⟨if_neg hb, h2, ?_, hl⟩
      have := h3.resolve_left hl
      omega
theorem fillL_len {k : Nat} {l : List (List UInt8)} (h : fillL k l ≠ []) : (fillL k l).length = k ∧ ∀ d ∈ fillL k l, d.length = 108 := by
  rw [(fillL_is h).1]
  refine ⟨by rw [List.length_map, List.length_range], fun d hd => ?_⟩
  obtain ⟨i, _, rfl⟩ := List.mem_map.1 hd
  exact blkAt_len _ _
/-- What is filled is emptied. -/
theorem empty_fill {k : Nat} (hk : k ≤ 600) {l : List (List UInt8)} (h : fillL k l ≠ []) : emptyL (fillL k l) = l := by
  obtain ⟨h1, h2, h3, _⟩ := fillL_is h
  rw [emptyL, h1, pblk_flat k _ h3, padTo, decL_enc]
  intro e he
  have := h2 e he
  exact ⟨this.1, by omega⟩
/-- What fits is filled. -/
theorem fillL_fits {k : Nat} {l : List (List UInt8)} (h0 : l ≠ []) (h : ∀ e ∈ l, e ≠ []) (hl : (encE l).length ≤ 108 * k) : fillL k l = (List.range k).map (blkAt (encE l)) ∧ fillL k l ≠ [] := by
  have hne : encE l ≠ [] := by
    cases l with
    | nil => exact absurd rfl h0
    | cons e l => intro e'; have := congrArg List.length e'; rw [show encE (e :: l) = entB e ++ encE l from rfl, List.length_append, entB_len] at this; simp at this
  have hf := fillR_fits l (108 * (k : Int)) [] h (Or.inr (by rw [List.nil_append]; omega))
  rw [List.nil_append] at hf
  have he : fillL k l = (List.range k).map (blkAt (encE l)) := by
    unfold fillL
    rw [hf]
    exact if_neg hne
  refine ⟨he, fun e => ?_⟩
  have hk : 0 < k := by
    have : 0 < (encE l).length := List.length_pos_iff.2 hne
    omega
  have := congrArg List.length (he.symm.trans e)
  rw [List.length_map, List.length_range] at this
  simp at this
  omega
end Go.Proofs.YtilljaneegbhlaaGreatDoor
/-
  A tape in numbers.
-/
namespace Go.Proofs.YtilljaneegbhlaaGreatDoor
open Go.RowKit Go.Deep Crc Dk Qk Go.Maps Hf
/-- What is read of the stripes: entries, how it ended (0: well; -1: a gap; else a stripe's error), and where. -/
structure LdR where
  l : List (List (List UInt8))
  e : Int
  x : Nat
section
variable (C G : Nat → Int) (B : Nat → List (List UInt8))
def load1 (p : LdR) (m : Nat) : LdR :=
  if p.e ≠ 0 then p else if C m ≠ 0 then ⟨p.l, C m, m⟩ else if G m ≤ 1 then p else if p.l.length < m then ⟨p.l, -1, m⟩ else ⟨p.l ++ [emptyL (B m)], 0, 0⟩
def loadN : Nat → LdR
  | 0 => ⟨[], 0, 0⟩
  | m + 1 => load1 C G B (loadN m) m
end
section
variable {C G : Nat → Int} {B : Nat → List (List UInt8)}
theorem load1_stop {p : LdR} {m : Nat} (h : p.e ≠ 0) : load1 C G B p m = p := by rw [load1, if_pos h]
theorem load1_err {p : LdR} {m : Nat} (h : p.e = 0) (hc : C m ≠ 0) : load1 C G B p m = ⟨p.l, C m, m⟩ := by rw [load1, if_neg (by rw [h]; simp), if_pos hc]
theorem load1_skip {p : LdR} {m : Nat} (h : p.e = 0) (hc : C m = 0) (hg : G m ≤ 1) : load1 C G B p m = p := by rw [load1, if_neg (by rw [h]; simp), if_neg (by rw [hc]; simp), if_pos hg]
theorem load1_gap {p : LdR} {m : Nat} (h : p.e = 0) (hc : C m = 0) (hg : ¬ G m ≤ 1) (hl : p.l.length < m) : load1 C G B p m = ⟨p.l, -1, m⟩ := by rw [load1, if_neg (by rw [h]; simp), if_neg (by rw [hc]; simp), if_neg hg, if_pos hl]
theorem load1_add {p : LdR} {m : Nat} (h : p.e = 0) (hc : C m = 0) (hg : ¬ G m ≤ 1) (hl : ¬ p.l.length < m) : load1 C G B p m = ⟨p.l ++ [emptyL (B m)], 0, 0⟩ := by rw [load1, if_neg (by rw [h]; simp), if_neg (by rw [hc]; simp), if_neg hg, if_neg hl]
theorem loadN_stop {m : Nat} (h : (loadN C G B m).e ≠ 0) : ∀ j, loadN C G B (m + j) = loadN C G B m
  | 0 => rfl
  | j + 1 => by
    show load1 C G B (loadN C G B (m + j)) (m + j) = _
    rw [loadN_stop h j, load1_stop h]
theorem loadN_at {m T : Nat} (h : (loadN C G B m).e ≠ 0) (hm : m ≤ T) : loadN C G B T = loadN C G B m := by
  have := loadN_stop h (T - m)
  rwa [show m + (T - m) = T from by omega] at this
theorem loadN_code : ∀ m, (∀ s, s < m → C s = 0) → (loadN C G B m).e = 0 ∨ (loadN C G B m).e = -1
  | 0, _ => Or.inl rfl
  | m + 1, h => by
    rcases loadN_code m fun s hs => h s (by omega) with h0 | h0
    · show (load1 C G B (loadN C G B m) m).e = 0 ∨ (load1 C G B (loadN C G B m) m).e = -1
      by_cases hg : G m ≤ 1
      · rw [load1_skip h0 (h m (by omega)) hg]; exact Or.inl h0
      · by_cases hl : (loadN C G B m).l.length < m
        · rw [load1_gap h0 (h m (by omega)) hg hl]; exact Or.inr rfl
        · rw [load1_add h0 (h m (by omega)) hg hl]; exact Or.inl rfl
    · show (load1 C G B (loadN C G B m) m).e = 0 ∨ (load1 C G B (loadN C G B m) m).e = -1
      rw [load1_stop (by rw [h0]; simp)]; exact Or.inr h0
theorem loadN_len : ∀ m, (loadN C G B m).l.length ≤ m
  | 0 => Nat.le_refl _
  | m + 1 => by
    have := loadN_len m
    show (load1 C G B (loadN C G B m) m).l.length ≤ _
    unfold load1
    split
    · omega
    · split
      · show (loadN C G B m).l.length ≤ _; omega
      · split
        · omega
        · split
          · show (loadN C G B m).l.length ≤ _; omega
          · show ((loadN C G B m).l ++ [emptyL (B m)]).length ≤ _
            rw [List.length_append, List.length_singleton]; omega
/-- The first stripes are used, by these entries. -/
structure Taped (T : Nat) (G : Nat → Int) (B : Nat → List (List UInt8)) (Ls : List (List (List UInt8))) : Prop where
  len : Ls.length ≤ T
  use : ∀ s, s < Ls.length → 1 < G s ∧ emptyL (B s) = Ls.getD s []
  un : ∀ s, Ls.length ≤ s → s < T → G s ≤ 1
theorem loadN_taped {T : Nat} {Ls : List (List (List UInt8))} (h : Taped T G B Ls) : ∀ m, m ≤ T → (∀ s, s < m → C s = 0) → loadN C G B m = ⟨Ls.take m, 0, 0⟩
  | 0, _, _ => by rw [List.take_zero]; rfl
  | m + 1, hm, hC => by
    show load1 C G B (loadN C G B m) m = _
    rw [loadN_taped h m (by omega) fun s hs => hC s (by omega), load1, if_neg (by simp), if_neg (by rw [hC m (by omega)]; simp)]
    rcases Nat.lt_or_ge m Ls.length with hlt | hge
    · have hu := h.use m hlt
      have hl : (Ls.take m).length = m := by rw [List.length_take]; omega
      rw [if_neg (by omega), if_neg (by show ¬ (Ls.take m).length < m; omega), hu.2, List.take_succ_eq_append_getElem hlt, List.getD, List.getElem?_eq_getElem hlt]
      rfl
    · rw [if_pos (h.un m hge (by omega)), List.take_of_length_le hge, List.take_of_length_le (by omega)]
theorem taped_none (T : Nat) {G : Nat → Int} (B : Nat → List (List UInt8)) (h : ∀ s, s < T → G s ≤ 1) : Taped T G B [] := ⟨Nat.zero_le _, fun s hs => absurd hs (by simp), fun s _ hs => h s hs⟩
theorem Taped.congr {T : Nat} {G' : Nat → Int} {B' : Nat → List (List UInt8)} {Ls : List (List (List UInt8))} (h : Taped T G B Ls) (hG : G' = G) (hB : B' = B) : Taped T G' B' Ls := by subst hG hB; exact h
/-- One more stripe is used. -/
theorem Taped.add {T : Nat} {Ls : List (List (List UInt8))} (h : Taped T G B Ls) (hu : Ls.length < T) {g : Int} (hg : 1 < g) {bs own : List (List UInt8)} (he : emptyL bs = own) :
    Taped T (upd G Ls.length g) (upd B Ls.length bs) (Ls ++ [own]) := by
  refine ⟨by rw [List.length_append, List.length_singleton]; omega, fun s hs => ?_, fun s h1 h2 => ?_⟩
  · rw [List.length_append, List.length_singleton] at hs
    by_cases e : s = Ls.length
    · subst e
      rw [Dk.upd, Dk.upd, if_pos rfl, if_pos rfl, he]
      exact ⟨hg, by simp [List.getD]⟩
    · rw [Dk.upd, Dk.upd, if_neg e, if_neg e, show (Ls ++ [own]).getD s [] = Ls.getD s [] from by simp [List.getD, List.getElem?_append_left, show s < Ls.length by omega]]
      exact h.use s (by omega)
  · rw [List.length_append, List.length_singleton] at h1
    rw [Dk.upd, if_neg (by omega)]
    exact h.un s (by omega) h2
end
end Go.Proofs.YtilljaneegbhlaaGreatDoor
/-
  Slices of slices in blocks of a set; rows of entries that grow.
-/
namespace Go.Proofs.YtilljaneegbhlaaGreatDoor
open Go.RowKit Go.Deep Crc Dk Qk Go.Maps Hf
/-- w' stands as w at the blocks of S. -/
structure Agr (S : Nat → Prop) (w w' : World) : Prop where
  size : w.heap.size ≤ w'.heap.size
  block : ∀ k, k < w.heap.size → S k → w'.heap[k]? = w.heap[k]?
theorem Agr.refl (S : Nat → Prop) (w : World) : Agr S w w := ⟨Nat.le_refl _, fun _ _ _ => rfl⟩
theorem Agr.trans {S : Nat → Prop} {w w1 w2 : World} (h : Agr S w w1) (h2 : Agr S w1 w2) : Agr S w w2 :=
  ⟨Nat.le_trans h.size h2.size, fun k hk hs => (h2.block k (Nat.lt_of_lt_of_le hk h.size) hs).trans (h.block k hk hs)⟩
theorem Agr.of_below {S : Nat → Prop} {w w' : World} (h : Below w.heap.size w w') : Agr S w w' := ⟨h.size, fun k hk _ => h.block k hk⟩
theorem Agr.of_rc {lo B n : Nat} {S : Nat → Prop} {w w' : World} {c : Lc} {q : Rk} (h : RC c n w w') (hr : RackIn lo w c q) (hn : q.n = n) (hf : Far B c n) (hS : ∀ k, S k → k < lo ∨ B ≤ k) : Agr S w w' := by
  refine ⟨h.size, fun k hk hs => ?_⟩
  subst hn
  rcases hS k hs with hlt | hge
  · refine h.block k hk ?_ fun i hi => ?_
    · have := hr.lr; omega
    · have := hr.ld i hi; omega
  · refine h.block k hk ?_ fun i hi => ?_
    · have := hf.1; omega
    · have := hf.2 i hi; omega
theorem Agr.of_rcv {lo B n b : Nat} {S : Nat → Prop} {w w' : World} {c : Lc} {q : Rk} (h : RCV c n b w w') (hr : RackIn lo w c q) (hn : q.n = n) (hf : Far B c n) (hS : ∀ k, S k → (k < lo ∨ B ≤ k) ∧ k ≠ b) : Agr S w w' := by
  refine ⟨h.size, fun k hk hs => ?_⟩
  subst hn
  obtain ⟨hS, hb⟩ := hS k hs
  rcases hS with hlt | hge
  · refine h.block k hk ?_ hb fun i hi => ?_
    · have := hr.lr; omega
    · have := hr.ld i hi; omega
  · refine h.block k hk ?_ hb fun i hi => ?_
    · have := hf.1; omega
    · have := hf.2 i hi; omega
theorem Agr.of_grew {S : Nat → Prop} {w w' : World} {r r' : Option Nat} (h : Grew w r w' r') (hS : ∀ k, S k → r ≠ some k) : Agr S w w' := by
  exact ⟨h.size, fun k hk hs => h.by_.block k hk (fun e => hS k hs e.symm)⟩
/-- v is a slice of the bytes l, in a block of S. -/
def SlA (S : Nat → Prop) (w : World) (v : Value) (l : List UInt8) : Prop := SlB w.heap.size w v l ∧ ∀ b o cap, v = .slice (some ⟨b, o, none⟩) l.length cap → 0 < l.length → S b
theorem SlA.slb {S : Nat → Prop} {w : World} {v : Value} {l : List UInt8} (h : SlA S w v l) : SlB w.heap.size w v l := h.1
theorem SlA.agr {S : Nat → Prop} {w w' : World} {v : Value} {l : List UInt8} (h : SlA S w v l) (ha : Agr S w w') : SlA S w' v l := by
  refine ⟨?_, h.2⟩
  rcases h.1 with h0 | ⟨b, o, cap, h1, h2, h3, h4, h5⟩
  · exact Or.inl h0
  · exact Or.inr ⟨b, o, cap, h1, Nat.lt_of_lt_of_le h2 ha.size, fun x hx => (World.cell?_of_block (a := ⟨b, o + x, none⟩) (ha.block b h2 (h.2 b o cap h1 h4))).trans (h3 x hx), h4, h5⟩
theorem SlA.sub {S S' : Nat → Prop} {w : World} {v : Value} {l : List UInt8} (h : SlA S w v l) (hs : ∀ k, k < w.heap.size → S k → S' k) : SlA S' w v l := by
  refine ⟨h.1, fun b o cap e h0 => hs b ?_ (h.2 b o cap e h0)⟩
  rcases h.1 with ⟨rfl, _⟩ | ⟨b', o', cap', h1, h2, _⟩
  · exact absurd h0 (by simp)
  · rw [e] at h1
    injection h1 with h1 _ _
    injection h1 with h1
    injection h1 with h1 _ _
    omega
theorem SlB.slA {B : Nat} {S : Nat → Prop} {w : World} {v : Value} {l : List UInt8} (h : SlB B w v l) (hB : B ≤ w.heap.size) (hs : ∀ k, k < B → S k) : SlA S w v l := by
  refine ⟨h.wider hB, fun b o cap e h0 => ?_⟩
  rcases h with ⟨rfl, _⟩ | ⟨b', o', cap', h1, h2, _⟩
  · exact absurd h0 (by simp)
  · rw [e] at h1
    injection h1 with h1 _ _
    injection h1 with h1
    injection h1 with h1 _ _
    subst h1
    exact hs _ h2
theorem slA_own {B : Nat} {S : Nat → Prop} {w : World} {v : Value} {l : List UInt8} (h : w.ownsRow B 5 1 v l.length (bytesV l)) (hs : ∀ k, B ≤ k → k < w.heap.size → S k) : SlA S w v l := by
  refine ⟨slb_own h, fun b o cap e h0 => ?_⟩
  obtain ⟨g, cap', h1, h2, h3, _⟩ := own_some h h0
  rw [e] at h1
  injection h1 with h1 _ _
  injection h1 with h1
  injection h1 with h1 _ _
  subst h1
  exact hs _ h2 h3
/-- v is a slice of slices of bytes, in blocks of S. -/
def SlAs (S : Nat → Prop) (w : World) (v : Value) (ls : List (List UInt8)) : Prop :=
  (ls = [] ∧ ∃ a cap, v = .slice a 0 cap) ∨ ∃ b o cap, v = .slice (some ⟨b, o, none⟩) ls.length cap ∧ b < w.heap.size ∧ S b ∧ (∀ i, i < ls.length → ∃ u, w.cell? ⟨b, o + i, none⟩ = some u ∧ SlA S w u (ls.getD i [])) ∧ 0 < ls.length ∧ ls.length ≤ cap
theorem SlAs.slbs {S : Nat → Prop} {w : World} {v : Value} {ls : List (List UInt8)} (h : SlAs S w v ls) : SlBs w.heap.size w v ls := by
  rcases h with h | ⟨b, o, cap, h1, h2, _, h3, h4⟩
  · exact Or.inl h
  · exact Or.inr ⟨b, o, cap, h1, h2, fun i hi => (by obtain ⟨u, hu, hl⟩ := h3 i hi; exact ⟨u, hu, hl.slb⟩), h4⟩
theorem SlAs.agr {S : Nat → Prop} {w w' : World} {v : Value} {ls : List (List UInt8)} (h : SlAs S w v ls) (ha : Agr S w w') : SlAs S w' v ls := by
  rcases h with h | ⟨b, o, cap, h1, h2, hs, h3, h4⟩
  · exact Or.inl h
  · exact Or.inr ⟨b, o, cap, h1, Nat.lt_of_lt_of_le h2 ha.size, hs, fun i hi => (by
      obtain ⟨u, hu, hl⟩ := h3 i hi
      exact ⟨u, (World.cell?_of_block (a := ⟨b, o + i, none⟩) (ha.block b h2 hs)).trans hu, hl.agr ha⟩), h4⟩
theorem SlAs.sub {S S' : Nat → Prop} {w : World} {v : Value} {ls : List (List UInt8)} (h : SlAs S w v ls) (hs : ∀ k, k < w.heap.size → S k → S' k) : SlAs S' w v ls := by
  rcases h with h | ⟨b, o, cap, h1, h2, hb, h3, h4⟩
  · exact Or.inl h
  · exact Or.inr ⟨b, o, cap, h1, h2, hs b h2 hb, fun i hi => (by obtain ⟨u, hu, hl⟩ := h3 i hi; exact ⟨u, hu, hl.sub hs⟩), h4⟩
theorem SlBs.slAs {B : Nat} {S : Nat → Prop} {w : World} {v : Value} {ls : List (List UInt8)} (h : SlBs B w v ls) (hB : B ≤ w.heap.size) (hs : ∀ k, k < B → S k) : SlAs S w v ls := by
  rcases h with h | ⟨b, o, cap, h1, h2, h3, h4⟩
  · exact Or.inl h
  · exact Or.inr ⟨b, o, cap, h1, Nat.lt_of_lt_of_le h2 hB, hs b h2, fun i hi => (by obtain ⟨u, hu, hl⟩ := h3 i hi; exact ⟨u, hu, hl.slA hB hs⟩), h4⟩
theorem slAs_own {B : Nat} {S : Nat → Prop} {w : World} {v : Value} {us : List Value} {ls : List (List UInt8)} (h : OwnLs B w v us ls) (hs : ∀ k, B ≤ k → k < w.heap.size → S k) : SlAs S w v ls := by
  rcases Nat.eq_zero_or_pos ls.length with h0 | h0
  · obtain ⟨a, c, h1, _⟩ := h.slice
    rw [h0] at h1
    exact Or.inl ⟨List.eq_nil_of_length_eq_zero h0, a, c, h1⟩
  · obtain ⟨g, cap, rfl, h2, h3, h4, _, h5⟩ := own_some h.top h0
    refine Or.inr ⟨g, 0, cap, rfl, h3, hs g h2 h3, fun i hi => ⟨us.getD i nilB, ?_, slA_own (h.each i hi) hs⟩, h0, h4⟩
    rw [Nat.zero_add]; exact h.cell hi
/-- A slice of entries' slices, in blocks of S. -/
def SlAt (S : Nat → Prop) (w : World) (v : Value) (Ls : List (List (List UInt8))) : Prop :=
  (Ls = [] ∧ ∃ a cap, v = .slice a 0 cap) ∨ ∃ b o cap, v = .slice (some ⟨b, o, none⟩) Ls.length cap ∧ b < w.heap.size ∧ S b ∧ (∀ i, i < Ls.length → ∃ u, w.cell? ⟨b, o + i, none⟩ = some u ∧ SlAs S w u (Ls.getD i [])) ∧ 0 < Ls.length ∧ Ls.length ≤ cap
theorem SlAt.agr {S : Nat → Prop} {w w' : World} {v : Value} {Ls : List (List (List UInt8))} (h : SlAt S w v Ls) (ha : Agr S w w') : SlAt S w' v Ls := by
  rcases h with h | ⟨b, o, cap, h1, h2, hs, h3, h4⟩
  · exact Or.inl h
  · exact Or.inr ⟨b, o, cap, h1, Nat.lt_of_lt_of_le h2 ha.size, hs, fun i hi => (by
      obtain ⟨u, hu, hl⟩ := h3 i hi
      exact ⟨u, (World.cell?_of_block (a := ⟨b, o + i, none⟩) (ha.block b h2 hs)).trans hu, hl.agr ha⟩), h4⟩
theorem SlAt.len {S : Nat → Prop} {w : World} {v : Value} {Ls : List (List (List UInt8))} (h : SlAt S w v Ls) : ∃ a cap, v = .slice a Ls.length cap ∧ Ls.length ≤ cap := by
  rcases h with ⟨rfl, a, cap, h⟩ | ⟨b, o, cap, h1, _, _, _, _, h2⟩
  · exact ⟨a, cap, h, Nat.zero_le _⟩
  · exact ⟨_, cap, h1, h2⟩
theorem SlAt.row {S : Nat → Prop} {w : World} {v : Value} {Ls : List (List (List UInt8))} (h : SlAt S w v Ls) {i : Nat} (hi : i < Ls.length) :
    ∃ b o cap u, v = .slice (some ⟨b, o, none⟩) Ls.length cap ∧ Ls.length ≤ cap ∧ w.cell? ⟨b, o + i, none⟩ = some u ∧ SlAs S w u (Ls.getD i []) := by
  rcases h with ⟨rfl, _⟩ | ⟨b, o, cap, h1, _, _, h3, _, h5⟩
  · exact absurd hi (by simp)
  · obtain ⟨u, hu, hl⟩ := h3 i hi
    exact ⟨b, o, cap, u, h1, h5, hu, hl⟩
/-- A row of entries' slices that grows: its elements lie in blocks of S, and not in its own. -/
structure OwnT (B : Nat) (S : Nat → Prop) (w : World) (v : Value) (us : List Value) (Ls : List (List (List UInt8))) : Prop where
  top : w.ownsRow B 22 1 v Ls.length us
  each : ∀ i, i < Ls.length → SlAs (fun k => S k ∧ v.ownBlock ≠ some k) w (us.getD i nilB) (Ls.getD i [])
theorem ownT_nil (B : Nat) (S : Nat → Prop) (w : World) : OwnT B S w nilB [] [] := ⟨⟨rfl, Or.inl ⟨rfl, rfl⟩⟩, fun i hi => absurd hi (by simp)⟩
theorem OwnT.ulen {B : Nat} {S : Nat → Prop} {w : World} {v : Value} {us : List Value} {Ls : List (List (List UInt8))} (h : OwnT B S w v us Ls) : us.length = Ls.length := by
  have := h.top.1
  omega
theorem OwnT.next {B : Nat} {S : Nat → Prop} {w w' : World} {v : Value} {us : List Value} {Ls : List (List (List UInt8))} (h : OwnT B S w v us Ls) (ha : Agr S w w') (ht : w'.ownsRow B 22 1 v Ls.length us) : OwnT B S w' v us Ls :=
  ⟨ht, fun i hi => (h.each i hi).agr ⟨ha.size, fun k hk hs => ha.block k hk hs.1⟩⟩
theorem OwnT.below {B : Nat} {S : Nat → Prop} {w w' : World} {v : Value} {us : List Value} {Ls : List (List (List UInt8))} (h : OwnT B S w v us Ls) (hb : Below w.heap.size w w') : OwnT B S w' v us Ls :=
  h.next (Agr.of_below hb) (own_below h.top hb)
theorem OwnT.slAt {B : Nat} {S : Nat → Prop} {w : World} {v : Value} {us : List Value} {Ls : List (List (List UInt8))} (h : OwnT B S w v us Ls) : SlAt (fun _ => True) w v Ls := by
  rcases Nat.eq_zero_or_pos Ls.length with h0 | h0
  · have hh := h.top
    rcases hh.2 with ⟨rfl, _⟩ | ⟨g, cap, cur, rfl, _⟩
    · exact Or.inl ⟨List.eq_nil_of_length_eq_zero h0, none, 0, rfl⟩
    · rw [h0]
      exact Or.inl ⟨List.eq_nil_of_length_eq_zero h0, _, _, rfl⟩
  · obtain ⟨g, cap, rfl, h2, h3, h4, _, h5⟩ := own_some h.top h0
    refine Or.inr ⟨g, 0, cap, rfl, h3, trivial, fun i hi => ⟨us.getD i nilB, ?_, (h.each i hi).sub fun _ _ _ => trivial⟩, h0, h4⟩
    rw [Nat.zero_add]
    exact h5 i _ (by rw [List.getD, List.getElem?_eq_getElem (by rw [h.ulen]; exact hi)]; rfl)
/-- One more slice of entries. -/
theorem OwnT.snoc {B : Nat} {S : Nat → Prop} {w w' : World} {v v' : Value} {us : List Value} {Ls : List (List (List UInt8))} {u : Value} {ls : List (List UInt8)} (h : OwnT B S w v us Ls) (hu : SlAs (fun k => S k ∧ v.ownBlock ≠ some k) w u ls)
    (htop : w'.ownsRow B 22 1 v' (Ls.length + 1) (us ++ [u])) (hg : Grew w v.ownBlock w' v'.ownBlock) : OwnT B S w' v' (us ++ [u]) (Ls ++ [ls]) := by
  have hk : ∀ {x : Value} {ms : List (List UInt8)}, SlAs (fun k => S k ∧ v.ownBlock ≠ some k) w x ms → SlAs (fun k => S k ∧ v'.ownBlock ≠ some k) w' x ms := fun {x ms} hx => by
    refine ((hx.sub (S' := fun k => (S k ∧ v.ownBlock ≠ some k) ∧ v'.ownBlock ≠ some k) fun k hk hs => ⟨hs, ?_⟩).agr ?_).sub fun k _ hs => ⟨hs.1.1, hs.2⟩
    · exact fun e => by
        rcases hg.own with e2 | e2
        · exact hs.2 (e2 ▸ e)
        · have := e2 k e; omega
    · exact Agr.of_grew hg fun k hs => hs.1.2
  refine ⟨by rw [List.length_append]; exact htop, fun i hi => ?_⟩
  rw [List.length_append] at hi
  have hul := h.ulen
  rcases Nat.lt_or_ge i Ls.length with hlt | hge
  · rw [show (us ++ [u]).getD i nilB = us.getD i nilB from by simp [List.getD, List.getElem?_append_left, hlt, hul], show (Ls ++ [ls]).getD i [] = Ls.getD i [] from by simp [List.getD, List.getElem?_append_left, hlt]]
    exact hk (h.each i hlt)
  · obtain rfl : i = Ls.length := by simp at hi; omega
    rw [show (Ls ++ [ls]).getD Ls.length [] = ls from by simp [List.getD], show (us ++ [u]).getD Ls.length nilB = u from by rw [← hul]; simp [List.getD]]
    exact hk hu
end Go.Proofs.YtilljaneegbhlaaGreatDoor
/-
  tape.Room, tape.Fill.
-/
namespace Go.Proofs.YtilljaneegbhlaaGreatDoor
open Go.RowKit Go.Deep Crc Dk Qk Go.Maps Hf
set_option maxHeartbeats 1000000 in
theorem room_any (w : World) (cf : Cf) (h1 : 1 ≤ cf.k) (h8 : cf.k ≤ 8) : Calls Tryz.prog 50 #[.agg (cfA cf)] w (Num (108 * cf.k) w) := by
  have HB := Lib.hid (one_below w (.cells (cfA cf) 24))
  have hc := cfB_new w cf
  have d1 : (w.alloc (.cells (cfA cf) 24)).cell? ⟨w.heap.size, 1, none⟩ = some (.int .i64 cf.k) := hc.cell 1
  clear hc
  go_enter Tryz.func50, Tryz.ntmps50
  go_wp2_with fail
  go_ret
  exact num (by omega) HB.out
/-! ### rows of blocks, one written over -/
theorem pgetD_map {α β : Type} (f : α → β) (l : List α) (i : Nat) (d : β) (d' : α) (h : i < l.length) : (l.map f).getD i d = f (l.getD i d') := by simp [List.getD, h]
theorem splice_row {α : Type} (s : Nat) : ∀ (X : List (List α)) (m : Nat) (cs : List α), (∀ x ∈ X, x.length = s) → m < X.length → cs.length ≤ s → splice X.flatten (s * m) cs = (X.set m (cs ++ (X.getD m []).drop cs.length)).flatten
  | [], m, _, _, h, _ => absurd h (by simp)
  | x :: X, 0, cs, hX, _, hc => by
    have hx := hX x (List.mem_cons_self ..)
    rw [Nat.mul_zero, splice, List.take_zero, List.nil_append, Nat.zero_add, List.set_cons_zero, List.flatten_cons, List.flatten_cons, List.getD_cons_zero, List.append_assoc, List.drop_append, show cs.length - x.length = 0 from by omega, List.drop_zero]
  | x :: X, m + 1, cs, hX, h, hc => by
    have hx := hX x (List.mem_cons_self ..)
    have ih := splice_row s X m cs (fun y hy => hX y (List.mem_cons_of_mem _ hy)) (by simpa using h) hc
    rw [List.set_cons_succ, List.flatten_cons, List.flatten_cons, List.getD_cons_succ, ← ih, splice, splice]
    have e : s * (m + 1) = x.length + s * m := by rw [hx, Nat.mul_add]; omega
    rw [e, List.take_length_add_append, Nat.add_assoc, List.drop_length_add_append, List.append_assoc]
/-- Blocks, the first m of them written. -/
def blksM (b : List UInt8) (k m : Nat) : List (List UInt8) := (List.range k).map fun i => if i < m then blkAt b i else z108
theorem blksM_is (b : List UInt8) (k m : Nat) : ∀ d ∈ blksM b k m, d.length = 108 := fun d hd => by
  obtain ⟨i, _, rfl⟩ := List.mem_map.1 hd
  split
  · exact blkAt_len _ _
  · simp [z108]
theorem blksM_len (b : List UInt8) (k m : Nat) : (blksM b k m).length = k := by rw [blksM, List.length_map, List.length_range]
theorem blksM_zero (b : List UInt8) (k : Nat) : blksM b k 0 = List.replicate k z108 := by
  refine List.ext_getElem (by simp [blksM]) fun i h1 h2 => ?_
  simp [blksM]
theorem blksM_all (b : List UInt8) (k : Nat) : blksM b k k = (List.range k).map (blkAt b) := by
  refine List.map_congr_left fun i hi => ?_
  rw [if_pos (List.mem_range.1 hi)]
theorem blksM_next {b : List UInt8} {k m : Nat} (h : m < k) : splice ((blksM b k m).map bytesV).flatten (108 * m) (bytesV ((b.drop (108 * m)).take 108)) = ((blksM b k (m + 1)).map bytesV).flatten := by
  have hl : (bytesV ((b.drop (108 * m)).take 108)).length ≤ 108 := by rw [bytesV_length, List.length_take]; omega
  rw [splice_row 108 _ m _ (fun x hx => by obtain ⟨d, hd, rfl⟩ := List.mem_map.1 hx; rw [bytesV_length]; exact blksM_is b k m d hd) (by rw [List.length_map, blksM_len]; exact h) hl]
  congr 1
  have hlen := blksM_len b k m
  refine List.ext_getElem (by rw [List.length_set, List.length_map, List.length_map, blksM_len, blksM_len]) fun i h1 h2 => ?_
  rw [List.length_set, List.length_map, hlen] at h1
  rw [List.getElem_set]
  split
  · rename_i e
    subst e
    rw [pgetD_map _ _ _ _ [] (by rw [hlen]; exact h1), List.getElem_map]
    have e1 : (blksM b k m).getD m [] = z108 := by simp [blksM, List.getD, h]
    have e2 : (blksM b k (m + 1))[m]'(by rw [blksM_len]; exact h) = blkAt b m := by simp [blksM]
    rw [e1, e2, blkAt, padTo, bytesV_append]
    rw [show (bytesV z108).drop (bytesV ((b.drop (108 * m)).take 108)).length = bytesV (List.replicate (108 - ((b.drop (108 * m)).take 108).length) 0) from by rw [z108, bytesV_length]; simp only [bytesV, List.map_replicate, List.drop_replicate]]
  · rename_i e
    rw [List.getElem_map, List.getElem_map]
    congr 1
    simp only [blksM, List.getElem_map, List.getElem_range]
    by_cases hi : i < m
    · rw [if_pos hi, if_pos (by omega)]
    · rw [if_neg hi, if_neg (by omega)]
/-- A slice cut at its front. -/
theorem slb_from {B : Nat} {w : World} {a : Option Addr} {n c : Nat} {l : List UInt8} (h : SlB B w (.slice a n c) l) (hn : l.length = n) (o : Nat) (ho : o ≤ n) :
    ∃ a' c', (∀ W, (Instr.slice 37 (.slice a n c) (some (.int .i64 (o : Int))) none none).run Tryz.prog W = .ok (.slice a' (n - o) c') W) ∧ SlB B w (.slice a' (n - o) c') (l.drop o) := by
  have ht : Tryz.prog.underlying 37 = some (.slice (Tryz.prog.elem 37)) := by kernel_rfl
  obtain ⟨i0, hi0, hz0, hz1, hz2⟩ := info_u8
  have he : Tryz.prog.elem 37 = 5 := by kernel_rfl
  refine ⟨if c = o then a else a.map (·.add (o * 1)), c - o, fun W => ?_, ?_⟩
  · rw [run_slice_l W 37 a n c ht .i64 (o : Int) (by omega) (by omega), he]
    simp [Go.sizeOf, typeInfo, hi0, hz1, Result.andThen, sliced]
  · rcases h with ⟨rfl, a', cap', e⟩ | ⟨b, p, cap, e, hb, hat, h0, hc⟩
    · have : n = 0 := by simpa using hn.symm
      subst this
      obtain rfl : o = 0 := by omega
      exact Or.inl ⟨by simp, _, _, rfl⟩
    · injection e with e1 e2 e3
      subst e1 e3
      by_cases hon : o = n
      · subst hon
        rw [Nat.sub_self]
        exact Or.inl ⟨List.drop_eq_nil_of_le (by omega), _, _, rfl⟩
      · rw [if_neg (by omega)]
        refine Or.inr ⟨b, p + o, c - o, ?_, hb, fun x hx => ?_, by rw [List.length_drop]; omega, by rw [List.length_drop]; omega⟩
        · rw [List.length_drop, hn]
          by_cases h00 : o = 0
          · subst h00; simp [Addr.add]
          · simp [Addr.add, h00]
        · rw [List.length_drop] at hx
          have := hat (o + x) (by omega)
          rw [Nat.add_assoc, this]
          simp [List.getD]
/-- A slice cut at its end. -/
theorem slb_to {B : Nat} {w : World} {a : Option Addr} {n c : Nat} {l : List UInt8} (h : SlB B w (.slice a n c) l) (hn : l.length = n) (o : Nat) (ho : o ≤ n) (hc : n ≤ c) :
    ∃ a', (∀ W, (Instr.slice 37 (.slice a n c) none (some (.int .i64 (o : Int))) none).run Tryz.prog W = .ok (.slice a' o c) W) ∧ SlB B w (.slice a' o c) (l.take o) := by
  have ht : Tryz.prog.underlying 37 = some (.slice (Tryz.prog.elem 37)) := by kernel_rfl
  obtain ⟨i0, hi0, hz0, hz1, hz2⟩ := info_u8
  have he : Tryz.prog.elem 37 = 5 := by kernel_rfl
  refine ⟨if c = 0 then a else a.map (·.add (0 * 1)), fun W => ?_, ?_⟩
  · rw [run_slice_h W 37 a n c ht .i64 (o : Int) (by omega) (by omega), he]
    simp [Go.sizeOf, typeInfo, hi0, hz1, Result.andThen, sliced]
  · subst hn
    have e : (if c = 0 then a else a.map (·.add (0 * 1))) = a := by
      split
      · rfl
      · cases a with
        | none => rfl
        | some a => simp [Addr.add]
    rw [e]
    exact slb_take h ho
/-! ### Fill -/
/-- What Fill answers. -/
def FillOut (k : Nat) (ls : List (List UInt8)) (w : World) (e : Ending) (w' : World) : Prop :=
  Below w.heap.size w w' ∧ ((fillL k ls = [] ∧ e = .returned (.slice none 0 0)) ∨
    (fillL k ls ≠ [] ∧ ∃ v, e = .returned v ∧ w'.ownsRow w.heap.size 87 108 v (fillL k ls).length ((fillL k ls).map bytesV).flatten))
def RelFa (k : Nat) (ls : List (List UInt8)) (w : World) (v i : Value) (wr : World) : Prop :=
  ∃ (m : Nat) (b : List UInt8), m ≤ ls.length ∧ i = .int .i64 m ∧ fillR (108 * (k : Int)) [] ls = fillR (108 * (k : Int)) b (ls.drop m) ∧ b.length ≤ 108 * k ∧ wr.ownsRow w.heap.size 5 1 v b.length (bytesV b) ∧ Below w.heap.size w wr
def RelFb (k : Nat) (b : List UInt8) (w : World) (v i : Value) (wr : World) : Prop :=
  ∃ m : Nat, m ≤ k ∧ i = .int .i64 m ∧ SlB w.heap.size w v (b.drop (108 * m)) ∧ wr.heap[w.heap.size]? = some (.cells ((blksM b k m).map bytesV).flatten.toArray 87 (0, 0)) ∧ Below w.heap.size w wr
theorem plen_lit (n : Nat) : (#[.int .u8 ((n : Int) % 256), .int .u8 ((n : Int) / 256 % 256)] : Array Value).toList = bytesV (lenB n) := by
  show [_, _] = [Value.int .u8 ((UInt8.ofNat (n % 256)).toNat : Nat), Value.int .u8 ((UInt8.ofNat (n / 256 % 256)).toNat : Nat)]
  rw [UInt8.toNat_ofNat', UInt8.toNat_ofNat']
  have e1 : ((n % 256 % 2 ^ 8 : Nat) : Int) = (n : Int) % 256 := by omega
  have e2 : ((n / 256 % 256 % 2 ^ 8 : Nat) : Int) = (n : Int) / 256 % 256 := by omega
  rw [e1, e2]
theorem papp_next {w2 wr wx w3 : World} {v v3 : Value} {b l : List UInt8} {n : Nat} (ho : wr.ownsRow w2.heap.size 5 1 v n (bytesV b)) (hB : Below w2.heap.size w2 wr) (hx : Below wr.heap.size wr wx)
    (h3 : w3.ownsRow w2.heap.size 5 1 v3 (n + l.length) (bytesV b ++ bytesV l)) (hg : Grew wx v.ownBlock w3 v3.ownBlock) : w3.ownsRow w2.heap.size 5 1 v3 (n + l.length) (bytesV (b ++ l)) ∧ Below w2.heap.size w2 w3 := by
  refine ⟨by rw [bytesV_append]; exact h3, ?_⟩
  have h1 := bthen hB hx
  exact Below.trans h1 (hg.below h1.size fun k hk => (own_block ho hk).1)
theorem pdrop_at {α : Type} {l : List α} {m : Nat} (d : α) (h : m < l.length) : l.drop m = l.getD m d :: l.drop (m + 1) := by
  rw [List.drop_eq_getElem_cons h]; simp [List.getD, h]
theorem slb_piece_cells {B : Nat} {w wx : World} {a : Option Addr} {n c : Nat} {r : List UInt8} (h : SlB B w (.slice a n c) r) (hb : Below B w wx) (hn : r.length = n) {cs : List Value} (hcs : cs = bytesV (r.take 108)) (h0 : 0 < cs.length) :
    ∃ ad, a = some ad ∧ ∀ j v, cs[j]? = some v → wx.cell? (ad.add j) = some v := by
  rcases h with ⟨rfl, _⟩ | ⟨b, o, cap, e, hbB, hat, _, _⟩
  · rw [hcs] at h0; simp [bytesV] at h0
  · injection e with e1 e2 e3
    refine ⟨_, e1, fun j v hj => ?_⟩
    have hjl : j < cs.length := (List.getElem?_eq_some_iff.1 hj).1
    rw [hcs, bytesV_length, List.length_take] at hjl
    rw [hcs, bytesV_at (by rw [List.length_take]; exact hjl)] at hj
    injection hj with hj
    subst hj
    have h1 := hat j (by omega)
    have e2 : (r.take 108).getD j 0 = r.getD j 0 := by simp [List.getD, show j < 108 by omega]
    rw [e2, ← h1]
    have e3 : (⟨b, o, none⟩ : Addr).add j = ⟨b, o + j, none⟩ := by
      by_cases hj0 : j = 0
      · subst hj0; simp [Addr.add]
      · simp [Addr.add, hj0]
    rw [e3]
    exact hb.cell (p := ⟨b, o + j, none⟩) hbB
set_option maxHeartbeats 4000000 in
set_option maxRecDepth 100000 in
theorem fill_any (w : World) (cf : Cf) (h1 : 1 ≤ cf.k) (h8 : cf.k ≤ 8) (v : Value) (ls : List (List UInt8)) (hv : SlBs w.heap.size w v ls) (hl : ls.length ≤ 100000) : Calls Tryz.prog 23 #[.agg (cfA cf), v] w (FillOut cf.k.toNat ls w) := by
  obtain ⟨id, ck, cn, ct, cs⟩ := cf
  obtain ⟨k, hk⟩ : ∃ k : Nat, ck = k := ⟨ck.toNat, by change 1 ≤ ck at h1; omega⟩
  subst hk
  have HK1 := Lib.hid (show 1 ≤ k by change (1 : Int) ≤ (k : Int) at h1; omega)
  have HK8 := Lib.hid (show k ≤ 8 by change (k : Int) ≤ 8 at h8; omega)
  have HR := Lib.hid (fun w => show Calls Tryz.prog 50 #[.agg #[.int .i64 id, .int .i64 (k : Int), .int .i64 cn, .int .i64 ct, .int .i64 cs]] w (Num (108 * (k : Int)) w) from room_any w ⟨id, k, cn, ct, cs⟩ h1 h8)
  have HV := Lib.hid hv
  obtain ⟨a0, cap, rfl, hcap⟩ := hv.len
  have H1 := Lib.hid (show CfB ⟨id, k, cn, ct, cs⟩ w.heap.size (w.alloc (.cells (cfA ⟨id, k, cn, ct, cs⟩) 24)) ∧ w.heap.size < (w.alloc (.cells (cfA ⟨id, k, cn, ct, cs⟩) 24)).heap.size ∧ Below w.heap.size w (w.alloc (.cells (cfA ⟨id, k, cn, ct, cs⟩) 24)) from ⟨cfB_new w _, by simp, one_below _ _⟩)
  clear hv h1 h8
  show Calls _ _ _ _ (FillOut k ls w)
  go_enter Tryz.func23, Tryz.ntmps23
  go_wp2_with fail
  refine (HR.out _).mono ?_
  rintro e w2 ⟨rfl, hb2⟩
  have H2 := Lib.hid (show CfB ⟨id, k, cn, ct, cs⟩ w.heap.size w2 ∧ w.heap.size < w2.heap.size ∧ Below w.heap.size w w2 from ⟨CfB.below H1.out.1 H1.out.2.1 hb2, Nat.lt_of_lt_of_le H1.out.2.1 hb2.size, bthen H1.out.2.2 hb2⟩)
  clear hb2 H1
  have HV2 := Lib.hid ((HV.out.below H2.out.2.2).wider H2.out.2.2.size)
  clear HV
  go_wp2_with fail
  go_loopw [6, 15] (fun v' i wr => RelFa k ls w2 v' i wr) (fun _ i _ => ls.length - (intOf i).toNat)
  case atStart => exact ⟨0, [], Nat.zero_le _, rfl, by rw [List.drop_zero], Nat.zero_le _, World.ownsRow_nil _ _ _ _, Below.refl _ _⟩
  case round =>
    obtain ⟨m, b, hm, rfl, hf, hbl, hown, hB⟩ := hrel
    have HF := Lib.hid hf
    have HBL := Lib.hid hbl
    have HO := Lib.hid hown
    have HB := Lib.hid hB
    obtain ⟨gb, cb, rfl, hcb⟩ := own_slice hown
    by_cases hlt : m < ls.length
    · obtain ⟨b1, o1, cap1, u, e1, _, hb1, hu0, hu2⟩ := HV2.out.row hlt
      have hu1 : wr.cell? ⟨b1, o1 + m, none⟩ = some u := (hB.cell (p := ⟨b1, o1 + m, none⟩) hb1).trans hu0
      clear hu0 hb1
      injection e1 with e1 _ e2
      subst e1 e2
      have HD := Lib.hid (pdrop_at ([] : List UInt8) hlt)
      clear hf hbl hown hB hcb
      generalize ls.getD m [] = x at *
      by_cases hx0 : x = []
      · subst hx0
        obtain ⟨au, cu, rfl, hcu⟩ := hu2.len
        simp only [List.length_nil] at hu1 hcu ⊢
        clear hu2
        go_wp2_with fail
        go_ret
        refine ⟨bthen H2.out.2.2 (by have := HB.out; exact ⟨this.os, this.tape, this.output, this.size, this.block⟩), Or.inl ⟨?_, rfl⟩⟩
        unfold fillL
        rw [HF.out, HD.out, fillR, if_pos (Or.inl rfl)]
      · have HX0 := Lib.hid hx0
        have HU := Lib.hid hu2
        obtain ⟨bu, ou, cu, rfl, -, -, -, hcu⟩ := hu2.resolve_left fun h => hx0 h.1
        clear hu2
        have e1 : ((x.length : Int) == 0) = false := by
          have := List.length_pos_iff.2 hx0
          simp; omega
        have hbk : b.length ≤ 108 * k := HBL.out
        have hk8 := HK8.out
        have e2 : wrap64 (108 * (k : Int) - b.length) = 108 * (k : Int) - b.length := by unfold wrap64; omega
        have e3 : wrap64 (108 * (k : Int) - b.length - 2) = 108 * (k : Int) - b.length - 2 := by unfold wrap64; omega
        clear hx0 hbk hk8
        by_cases hbig : 108 * (k : Int) - b.length - 2 < x.length
        · have e4 : decide (108 * (k : Int) - b.length - 2 < x.length) = true := decide_eq_true hbig
          have HBIG := Lib.hid hbig
          clear hbig
          go_wp2_with fail
          go_ret
          refine ⟨bthen H2.out.2.2 HB.out, Or.inl ⟨?_, rfl⟩⟩
          unfold fillL
          rw [HF.out, HD.out, fillR, if_pos (Or.inr HBIG.out)]
        · have e4 : decide (108 * (k : Int) - b.length - 2 < x.length) = false := decide_eq_false hbig
          have HBIG := Lib.hid hbig
          have HLL := Lib.hid (plen_lit x.length)
          have HLB := Lib.hid (show b.length + (lenB x.length).length ≤ 10000000 ∧ b.length + (lenB x.length).length + x.length ≤ 10000000 by rw [lenB_len]; have := HBL.out; have := HK8.out; omega)
          clear hbig
          go_wp2_with (first
            | (at_builtin; refine wpList_append_bytes (o := ⟨some 41, _, _, _, _, _⟩) _ rfl (.tmp 32) (.tmp 40) rfl w2.heap.size _ _ _ rfl (own_below HO.out (one_below _ _)) (wr.heap.size + 1) _ (lenB x.length) rfl (new_slb _ rfl HLL.out) HLB.out.1 (Nat.le_trans HB.out.size (one_below _ _).size) ?_; intro v3 w3 h3 hg3; have H3 := Lib.hid (papp_next HO.out HB.out (one_below _ _) h3 hg3); obtain ⟨g3, c3, rfl, -⟩ := own_slice H3.out.1; clear h3 hg3)
            | (at_builtin; go_loud (refine wpList_append_bytes (o := ⟨some 44, _, _, _, _, _⟩) _ rfl (.tmp 42) (.tmp 43) rfl w2.heap.size _ _ _ rfl H3.out.1 w2.heap.size _ x rfl (HU.out.below H3.out.2) HLB.out.2 H3.out.2.size ?_; intro v4 w4 h4 hg4; have H4 := Lib.hid (papp_next H3.out.1 H3.out.2 (Below.refl _ _) h4 hg4); clear h4 hg4)))
          go_roundw
          case rel =>
            refine ⟨m + 1, b ++ lenB x.length ++ x, by omega, by go_num, ?_, ?_, ?_, H4.out.2⟩
            · rw [HF.out, HD.out, fillR, if_neg (by simp only [not_or]; exact ⟨HX0.out, HBIG.out⟩), entB, List.append_assoc]
            · have := HBIG.out
              rw [List.length_append, List.length_append, lenB_len]
              omega
            · rw [List.length_append, List.length_append]; exact H4.out.1
          case measure => simp [intOf]; omega
    · obtain rfl : m = ls.length := by omega
      have HF2 := Lib.hid (show fillR (108 * (k : Int)) [] ls = some b by rw [hf, List.drop_eq_nil_of_le (Nat.le_refl _), fillR])
      clear hf hbl hown hB hcb
      by_cases hb0 : b = []
      · subst hb0
        simp only [List.length_nil] at *
        go_wp2_with fail
        go_ret
        refine ⟨bthen H2.out.2.2 HB.out, Or.inl ⟨?_, rfl⟩⟩
        unfold fillL
        rw [HF2.out]
        exact if_pos rfl
      · have HB0 := Lib.hid hb0
        have e1 : ((b.length : Int) == 0) = false := by
          have := List.length_pos_iff.2 hb0
          simp; omega
        have HFL := Lib.hid (show fillL k ls = (List.range k).map (blkAt b) by unfold fillL; rw [HF2.out]; exact if_neg hb0)
        clear hb0
        have d1 : wr.cell? ⟨w.heap.size, 1, none⟩ = some (.int .i64 (k : Int)) := (CfB.below H2.out.1 H2.out.2.1 HB.out).cell 1
        obtain ⟨w3, hw3⟩ : ∃ w3, w3 = wr := ⟨_, rfl⟩
        subst hw3
        have hmk := make_blocks k HK8.out
        go_wp2_with fail
        go_loopw [6, 54] (fun v' i wx => RelFb k b w3 v' i wx) (fun _ i _ => k - (intOf i).toNat)
        case atStart =>
          refine ⟨0, Nat.zero_le _, rfl, slb_own HO.out, ?_, one_below _ _⟩
          rw [heap_alloc_new, blksM_zero, List.map_replicate, ← rep_flat (l := bytesV z108) (m := 108) (by rw [bytesV_length]; simp [z108]) (by decide)]
        case round =>
          obtain ⟨m, hm, rfl, hs, hg, hB2⟩ := hrel
          generalize hr : b.drop (108 * m) = r at hs
          obtain ⟨a1, c1, rfl, hc1⟩ := hs.len
          by_cases hlt : m < k
          · obtain ⟨cs, hcs⟩ : ∃ cs, cs = bytesV (r.take 108) := ⟨_, rfl⟩
            have hcl : cs.length = Nat.min r.length 108 := by rw [hcs, bytesV_length, List.length_take, Nat.min_comm]
            have HCL := Lib.hid hcl
            have HPOS := Lib.hid (slb_piece_cells hs hB2 rfl hcs)
            have HFIT := Lib.hid (show 108 * m + cs.length ≤ ((blksM b k m).map bytesV).flatten.length by
              rw [flat_len (k := 108) (fun x hx => by obtain ⟨d, hd, rfl⟩ := List.mem_map.1 hx; rw [bytesV_length]; exact blksM_is b k m d hd), List.length_map, blksM_len, hcl]
              have : Nat.min r.length 108 ≤ 108 := Nat.min_le_right _ _
              have : (m + 1) * 108 ≤ k * 108 := Nat.mul_le_mul_right 108 hlt
              omega)
            have HONE := Lib.hid (show ∀ u ∈ cs, u.oneCell' = true from fun u hu => by rw [hcs] at hu; obtain ⟨x, _, rfl⟩ := List.mem_map.1 hu; rfl)
            obtain ⟨a2, c2, hsl, hs2⟩ := slb_from hs rfl cs.length (by rw [hcl]; exact Nat.min_le_left _ _)
            have HS2 := Lib.hid hs2
            have HCS := Lib.hid hcs
            have HRR := Lib.hid hr
            have HG := Lib.hid hg
            have HB2 := Lib.hid hB2
            clear hr hs hcs hcl hg hB2 hs2
            generalize hcur : ((blksM b k m).map bytesV).flatten = cur at *
            have HCUR := Lib.hid hcur
            clear hcur
            have hk8 := HK8.out
            go_wp2_with (with_reducible refine wpList_copy_splice (o := ⟨some 63, _, _, _, _, _⟩) rfl (.tmp 61) (.tmp 62) 37 37 rfl 5 Tryz.underlying37 (by kernel_rfl) _ _ _ _ _ _ rfl rfl w3.heap.size (108 * m) cur 87 HG.out cs HCL.out (fun h0 => ⟨by rw [Nat.mul_comm], HPOS.out h0⟩) HFIT.out HONE.out w3.heap.size w3 HB2.out (Nat.le_refl _) ?_; intro w5 hg5 hb5; have HG5 := Lib.hid hg5.out; have HB5 := Lib.hid hb5; clear hg5 hb5)
            go_roundw
            case rel =>
              refine ⟨m + 1, hlt, by go_num, ?_, ?_, HB5.out⟩
              · rw [show b.drop (108 * (m + 1)) = r.drop cs.length from ?_]
                · exact HS2.out
                · rw [HCL.out, ← HRR.out, List.drop_drop]
                  rcases Nat.le_total 108 (b.drop (108 * m)).length with h | h
                  · rw [show Nat.min (b.drop (108 * m)).length 108 = 108 from Nat.min_eq_right h, Nat.mul_add, Nat.mul_one]
                  · rw [show Nat.min (b.drop (108 * m)).length 108 = (b.drop (108 * m)).length from Nat.min_eq_left h]
                    rw [List.length_drop] at h ⊢
                    rw [List.drop_eq_nil_of_le (by omega), List.drop_eq_nil_of_le (by omega)]
              · rw [HG5.out, ← HCUR.out, HCS.out, ← HRR.out, blksM_next hlt]
            case measure => simp [intOf]; omega
          · obtain rfl : m = k := by omega
            rw [blksM_all] at hg
            have HG := Lib.hid hg
            have HB2 := Lib.hid hB2
            clear hg hs hB2 hr
            go_wp2_with fail
            go_ret
            have hmem : ∀ x ∈ ((List.range m).map (blkAt b)).map bytesV, x.length = 108 := fun x hx => by
              obtain ⟨d, hd, rfl⟩ := List.mem_map.1 hx
              obtain ⟨i, _, rfl⟩ := List.mem_map.1 hd
              rw [bytesV_length]; exact blkAt_len _ _
            have hsz : ((((List.range m).map (blkAt b)).map bytesV).flatten).length = m * 108 := by
              rw [flat_len (k := 108) hmem, List.length_map, List.length_map, List.length_range]
            refine ⟨bthen (bthen H2.out.2.2 HB.out) HB2.out, Or.inr ⟨?_, _, rfl, ?_⟩⟩
            · rw [HFL.out]
              intro e
              have := congrArg List.length e
              rw [List.length_map, List.length_range] at this
              have h1 := HK1.out
              rw [this] at h1
              exact absurd h1 (by decide)
            · rw [HFL.out, List.length_map, List.length_range]
              refine ⟨hsz, Or.inr ⟨w3.heap.size, m, _, rfl, Nat.le_trans (Nat.le_of_lt H2.out.2.1) HB.out.size, HG.out, Nat.le_refl _, by have := HK8.out; unfold maxLen; omega, by rw [List.size_toArray]; exact hsz, ?_⟩⟩
              exact List.take_of_length_le (by rw [hsz]; exact Nat.le_refl _)
end Go.Proofs.YtilljaneegbhlaaGreatDoor
/-
  bytes.Clone, tape.Empty.
-/
namespace Go.Proofs.YtilljaneegbhlaaGreatDoor
open Go.RowKit Go.Deep Crc Dk Qk Go.Maps Hf
/-- A copy of bytes, in a row of the call's own. -/
def CloneOut (l : List UInt8) (w : World) (e : Ending) (w' : World) : Prop := ∃ v', e = .returned v' ∧ w'.ownsRow w.heap.size 5 1 v' l.length (bytesV l) ∧ Below w.heap.size w w'
theorem clone_any {B : Nat} (w : World) (v : Value) (l : List UInt8) (h : SlB B w v l) (h0 : l ≠ []) (hl : l.length ≤ 100000) : Calls Tryz.prog 74 #[v] w (CloneOut l w) := by
  obtain ⟨b, o, cap, rfl, hb, hat, _, _⟩ := h.resolve_left fun h => h0 h.1
  have := Any.bytes_Clone_at Tryz.bclone ⟨b, o, none⟩ l.length cap (l.map fun x => (x.toNat : Int)) w (by simp) (by omega) (fun i hi => by
    rw [show (⟨b, o, none⟩ : Addr).add i = ⟨b, o + i, none⟩ from by
      by_cases h : i = 0
      · subst h; simp [Addr.add]
      · simp [Addr.add, h], hat i hi]
    simp [List.getD, hi])
  refine this.mono ?_
  rintro e w' ⟨v', rfl, hown, _, hB⟩
  refine ⟨v', rfl, ?_, hB⟩
  rw [List.map_map] at hown
  exact hown
/-- What Empty answers. -/
def EmptyOut (bs : List (List UInt8)) (w : World) (e : Ending) (w' : World) : Prop := ∃ v us, e = .returned v ∧ OwnLs w.heap.size w' v us (emptyL bs) ∧ Below w.heap.size w w'
def RelEa (bs : List (List UInt8)) (w : World) (v i : Value) (wr : World) : Prop :=
  ∃ m : Nat, m ≤ bs.length ∧ i = .int .i64 m ∧ wr.ownsRow w.heap.size 5 1 v (bs.take m).flatten.length (bytesV (bs.take m).flatten) ∧ Below w.heap.size w wr
def RelEb (L : List (List UInt8)) (B : Nat) (w : World) (v u : Value) (wr : World) : Prop :=
  ∃ (r : List UInt8) (es : List (List UInt8)) (us : List Value), SlB w.heap.size w v r ∧ OwnLs B wr u us es ∧ L = es ++ decL r ∧ es.length + r.length ≤ 2000 ∧ Below w.heap.size w wr
def slLen : Value → Nat
  | .slice _ n _ => n
  | _ => 0
theorem or_len {a b : Nat} (ha : a < 256) (hb : b < 256) : bits .or .i64 (a : Int) ((b : Int) * 256) = ((a + 256 * b : Nat) : Int) := by
  have h := or_int64 (a := a) (b := b * 256) (by omega) (by omega)
  have e : a ||| b * 256 = a + 256 * b := by
    rw [Nat.or_comm, show b * 256 = b <<< 8 from by rw [Nat.shiftLeft_eq], ← Nat.shiftLeft_add_eq_or_of_lt (by omega : a < 2 ^ 8), Nat.shiftLeft_eq]; omega
  rw [e] at h
  have i1 : int64 a = (a : Int) := by unfold int64; split <;> omega
  have i2 : int64 (b * 256) = (b : Int) * 256 := by unfold int64; split <;> omega
  have i3 : int64 (a + 256 * b) = ((a + 256 * b : Nat) : Int) := by unfold int64; split <;> omega
  rw [i1, i2, i3] at h
  exact h
theorem flat108 : ∀ {L : List (List UInt8)}, (∀ l ∈ L, l.length = 108) → L.flatten.length = L.length * 108
  | [], _ => rfl
  | c :: cs, h => by
    rw [List.flatten_cons, List.length_append, flat108 (fun l hl => h l (List.mem_cons_of_mem _ hl)), h c (List.mem_cons_self ..), List.length_cons, Nat.succ_mul]; omega
theorem ptake_next {α : Type} {l : List (List α)} {m : Nat} (h : m < l.length) (d : List α) : (l.take (m + 1)).flatten = (l.take m).flatten ++ l.getD m d := by
  rw [List.take_succ_eq_append_getElem h, List.flatten_append, List.flatten_singleton]
  simp [List.getD, h]
/-- The two bytes ahead. -/
theorem len_cells {B : Nat} {w wr : World} {a : Option Addr} {n c : Nat} {r : List UInt8} (h : SlB B w (.slice a n c) r) (hb : Below B w wr) (hn : r.length = n) (h2 : 2 ≤ n) :
    ∃ b o, a = some ⟨b, o, none⟩ ∧ wr.cell? ⟨b, o, none⟩ = some (.int .u8 ((r.getD 0 0).toNat : Int)) ∧ wr.cell? ⟨b, o + 1, none⟩ = some (.int .u8 ((r.getD 1 0).toNat : Int)) := by
  rcases h with ⟨rfl, _⟩ | ⟨b, o, cap, e, hbB, hat, _, _⟩
  · simp at hn; omega
  · injection e with e1 e2 e3
    exact ⟨b, o, e1, (hb.cell (p := ⟨b, o, none⟩) hbB).trans (hat 0 (by omega)), (hb.cell (p := ⟨b, o + 1, none⟩) hbB).trans (hat 1 (by omega))⟩
set_option maxHeartbeats 4000000 in
set_option maxRecDepth 100000 in
theorem empty_any (w : World) (v : Value) (bs : List (List UInt8)) (hv : SlK w.heap.size w v bs) (hl : bs.length ≤ 10) : Calls Tryz.prog 45 #[v] w (EmptyOut bs w) := by
  have HV := Lib.hid hv
  have HIS := Lib.hid hv.1
  obtain ⟨a, cap, rfl⟩ := hv.len
  clear hv
  go_enter Tryz.func45, Tryz.ntmps45
  go_wp2_with fail
  go_loopw [3, 10] (fun v i wr => RelEa bs w v i wr) (fun _ i _ => bs.length - (intOf i).toNat)
  case atStart => exact ⟨0, Nat.zero_le _, rfl, by rw [List.take_zero]; exact World.ownsRow_nil _ _ _ _, Below.refl _ _⟩
  case round =>
    obtain ⟨m, hm, rfl, hO, hB⟩ := hrel
    by_cases hlt : m < bs.length
    · obtain ⟨b, cap', hs, hbB, hload, hlen⟩ := (HV.out.below hB).at_ hlt
      injection hs with hs1 hs2 hs3
      subst hs1 hs3
      clear hs2
      have HO := Lib.hid hO
      have HB := Lib.hid hB
      obtain ⟨d, hd⟩ : ∃ d, d = bs.getD m z108 := ⟨_, rfl⟩
      rw [← hd] at hload hlen
      have HD := Lib.hid hd
      have HLEN := Lib.hid hlen
      have hst : ∀ W : World, (storeCells ⟨W.heap.size, 0, none⟩ (bytesV d) 0).run Tryz.prog (W.alloc (.cells (bytesV z108).toArray 87)) = .ok () (W.alloc (.cells (bytesV d).toArray 87)) := fun W => storeCells_block hlen W
      have hz := szBk_run
      have hz0 := zero_blockZ
      have hcc : (Value.agg (bytesV d).toArray).cells = (bytesV d).toArray := rfl
      have hsz : (bytesV d).length = szBk := by rw [bytesV_length]; exact hlen
      have HDD := Lib.hid (show (bytesV d).toArray.toList = bytesV d from rfl)
      have HSUM := Lib.hid (show (bs.take m).flatten.length + d.length ≤ 10000000 by
        have : ∀ l ∈ bs.take m, l.length = 108 := fun l hl => HIS.out l (List.mem_of_mem_take hl)
        have h2 := flat108 this
        rw [h2, List.length_take]
        have : Nat.min m bs.length ≤ 10 := Nat.le_trans (Nat.min_le_right _ _) hl
        have := HLEN.out
        omega)
      clear hO hB hlen hd
      obtain ⟨D, hD⟩ : ∃ D, D = bytesV d := ⟨_, rfl⟩
      rw [← hD] at hload hst hcc hsz HDD
      have HDE := Lib.hid hD
      clear hD
      generalize hF : (bs.take m).flatten = F at *
      have HF := Lib.hid hF
      clear hF
      obtain ⟨ga, ca, rfl, -⟩ := own_slice HO.out
      go_wp2_with (first
        | (at_builtin; refine wpList_append_bytes (o := ⟨some 16, _, _, _, _, _⟩) _ rfl (.tmp 14) (.tmp 15) rfl w.heap.size _ _ _ rfl (own_below HO.out (one_below _ _)) (wr.heap.size + 1) _ d rfl (new_slb d (by rw [HLEN.out]) (by rw [HDE.out])) HSUM.out (Nat.le_trans HB.out.size (one_below _ _).size) ?_; intro v3 w3 h3 hg3; have H3 := Lib.hid (papp_next (w2 := w) HO.out HB.out (one_below _ _) h3 hg3); clear h3 hg3))
      go_roundw
      case rel =>
        refine ⟨m + 1, by omega, by go_num, ?_, H3.out.2⟩
        rw [ptake_next hlt z108, List.length_append]
        have h3 := H3.out.1
        rw [HD.out, ← HF.out] at h3
        exact h3
      case measure => simp [intOf]; omega
    · obtain rfl : m = bs.length := by omega
      rw [List.take_length] at hO
      have HFL := Lib.hid (show bs.flatten.length ≤ 2000 by rw [flat108 HIS.out]; omega)
      obtain ⟨L, hL0⟩ : ∃ L, L = emptyL bs := ⟨_, rfl⟩
      have HEL := Lib.hid hL0
      have HE := Lib.hid (show L = decL bs.flatten from hL0)
      clear HV HIS hL0
      generalize bs.flatten = F at *
      have HO := Lib.hid hO
      have HB := Lib.hid hB
      clear hO hB
      obtain ⟨w4, hw4⟩ : ∃ w4, w4 = wr := ⟨_, rfl⟩
      subst hw4
      obtain ⟨ga, ca, rfl, -⟩ := own_slice HO.out
      go_wp2_with fail
      go_loopw [3, 6] (fun v u wx => RelEb L w4.heap.size w4 v u wx) (fun v _ _ => slLen v)
      case atStart => exact ⟨F, [], [], slb_own HO.out, ownLs_nil _ _, HE.out, by simpa using HFL.out, Below.refl _ _⟩
      case round =>
        obtain ⟨r, es, us, hs, hL, hLE, hN, hB2⟩ := hrel
        obtain ⟨a1, c1, rfl, hc1⟩ := hs.len
        have HL := Lib.hid hL
        have HLE := Lib.hid hLE
        have HN := Lib.hid hN
        have HB2 := Lib.hid hB2
        have hrl : r.length ≤ 2000 := by omega
        by_cases h2 : 2 ≤ r.length
        · obtain ⟨b, o, rfl, c1', c2'⟩ := len_cells hs hB2 rfl h2
          obtain ⟨a2, cc2, hsl2, hs2⟩ := slb_from hs rfl 2 h2
          have HS2 := Lib.hid hs2
          have hl0 : (r.getD 0 0).toNat < 256 := (r.getD 0 0).toNat_lt
          have hl1 : (r.getD 1 0).toNat < 256 := (r.getD 1 0).toNat_lt
          have hor := or_len hl0 hl1
          rw [show (r.getD 0 0).toNat + 256 * (r.getD 1 0).toNat = lenOf r from rfl] at hor
          have hwr : wrap64 (((r.getD 1 0).toNat : Int) * 256) = ((r.getD 1 0).toNat : Int) * 256 := by unfold wrap64; omega
          clear hL hLE hN hB2 hs hs2
          generalize (r.getD 0 0).toNat = x0 at *
          generalize (r.getD 1 0).toNat = x1 at *
          have hc2 : ((2 : Nat) : Int) = 2 := rfl
          rw [hc2] at hsl2
          have hdl : (r.drop 2).length = r.length - 2 := List.length_drop
          by_cases hz0 : lenOf r = 0
          · have HS := Lib.hid (decL_stop (b := r) (Or.inr (Or.inl hz0)))
            have e1 : ((lenOf r : Int) == 0) = true := by rw [hz0]; rfl
            have e0 : (lenOf r : Int) = 0 := by rw [hz0]; rfl
            clear hz0 hdl
            generalize lenOf r = ln at *
            obtain ⟨gu, cu, rfl, -⟩ := own_slice HL.out.top
            go_wp2_with fail
            go_quiet (fail)
            go_wp2_with fail
            go_ret
            refine ⟨_, us, rfl, ?_, below_drewN (bthen HB.out HB2.out) _⟩
            rw [← HEL.out, HLE.out, HS.out, List.append_nil]
            exact OwnLs.base (OwnLs.below HL.out (below_drewN (Below.refl _ _) _)) HB.out.size
          · by_cases hz1 : r.length - 2 < lenOf r
            · have HS := Lib.hid (decL_stop (b := r) (Or.inr (Or.inr (by rw [hdl]; exact hz1))))
              have e1 : ((lenOf r : Int) == 0) = false := by simp; omega
              have e2 : decide (((r.length - 2 : Nat) : Int) < (lenOf r : Int)) = true := decide_eq_true (by omega)
              clear hz0 hdl
              generalize lenOf r = ln at *
              obtain ⟨gu, cu, rfl, -⟩ := own_slice HL.out.top
              go_wp2_with fail
              go_quiet (fail)
              go_wp2_with fail
              go_ret
              refine ⟨_, us, rfl, ?_, below_drewN (bthen HB.out HB2.out) _⟩
              rw [← HEL.out, HLE.out, HS.out, List.append_nil]
              exact OwnLs.base (OwnLs.below HL.out (below_drewN (Below.refl _ _) _)) HB.out.size
            · have HS := Lib.hid (decL_next (b := r) (by omega) hz0 (by rw [hdl]; exact hz1))
              have e1 : ((lenOf r : Int) == 0) = false := by simp; omega
              have e2 : decide (((r.length - 2 : Nat) : Int) < (lenOf r : Int)) = false := decide_eq_false (by omega)
              obtain ⟨a3, hsl3, hs3⟩ := slb_to HS2.out hdl (lenOf r) (by omega) (by have := HS2.out.len; obtain ⟨_, _, e, hc⟩ := this; injection e with _ _ e; omega)
              obtain ⟨a4, c4, hsl4, hs4⟩ := slb_from HS2.out hdl (lenOf r) (by omega)
              have HS3 := Lib.hid hs3
              have HS4 := Lib.hid hs4
              have HLL := Lib.hid (show ((r.drop 2).take (lenOf r)).length = lenOf r by rw [List.length_take, hdl]; omega)
              have HL4 := Lib.hid (show ((r.drop 2).drop (lenOf r)).length = r.length - 2 - lenOf r by rw [List.length_drop, hdl])
              have HZ0 := Lib.hid hz0
              clear hz0 hdl hs3 hs4
              generalize (r.drop 2).take (lenOf r) = x at *
              generalize (r.drop 2).drop (lenOf r) = r2 at *
              generalize lenOf r = ln at *
              obtain ⟨gu, cu, rfl, -⟩ := own_slice HL.out.top
              go_wp2_with fail
              go_quiet (fail)
              go_wp2_with fail
              have HC := Lib.hid (fun W (hW : Below w4.heap.size w4 W) => clone_any W (.slice a3 ln cc2) x (HS3.out.below hW) (fun e => HZ0.out (by rw [← HLL.out, e]; rfl)) (by rw [HLL.out]; omega))
              refine (HC.out _ (below_drewN HB2.out _)).mono ?_
              rintro e w5 ⟨v5, rfl, ho5, hb5⟩
              have HO5 := Lib.hid ho5
              have HB5 := Lib.hid hb5
              have H1 := Lib.hid (own_one ho5)
              have HLW := Lib.hid (OwnLs.below HL.out (below_drewN (Below.refl wr.heap.size wr) nq))
              have HSZ := Lib.hid (show w4.heap.size ≤ (wr.drewN nq).heap.size from (below_drewN HB2.out nq).size)
              obtain ⟨g5, c5, rfl, -⟩ := own_slice ho5
              clear ho5 hb5
              have HEN := Lib.hid (show es.length + 1 ≤ 100000 by have := HN.out; omega)
              go_wp2_with (at_builtin; refine wpList_append_row (o := ⟨some 47, _, _, _, _, _⟩) _ rfl (.tmp 41) (.tmp 46) rfl w4.heap.size _ _ us rfl (own_below (own_below HLW.out.top HB5.out) (one_below _ _)) w5.heap.size (.slice g5 x.length c5) rfl (new_cells _ _ _ _ _ rfl) H1.out HEN.out (Nat.le_trans HSZ.out (Nat.le_trans HB5.out.size (one_below _ _).size)) ?_; intro v6 w6 h6 hg6; have H6 := Lib.hid (OwnLs.snoc_new HLW.out HSZ.out HB5.out HO5.out (one_below _ _) h6 hg6); have HB6 := Lib.hid (Below.trans (bthen (bthen (below_drewN HB2.out nq) HB5.out) (one_below _ _)) (hg6.below (Nat.le_trans (below_drewN HB2.out nq).size (Nat.le_trans HB5.out.size (one_below _ _).size)) fun k hk => (own_block HL.out.top hk).1)); clear h6 hg6)
              refine ⟨⟨r2, es ++ [x], us ++ [.slice g5 x.length c5], HS4.out, H6.out, ?_, ?_, HB6.out⟩, ?_⟩
              · rw [HLE.out, HS.out, List.append_assoc]; rfl
              · rw [List.length_append, List.length_singleton, HL4.out]
                have := HN.out
                have := HZ0.out
                omega
              · show r.length - 2 - ln < r.length
                omega
        · have HS := Lib.hid (decL_stop (b := r) (Or.inl (by omega)))
          have e1 : decide ((2 : Int) ≤ (r.length : Int)) = false := decide_eq_false (by omega)
          obtain ⟨gu, cu, rfl, -⟩ := own_slice HL.out.top
          clear hL hLE hN hB2 hs
          go_wp2_with fail
          go_ret
          refine ⟨_, us, rfl, ?_, bthen HB.out HB2.out⟩
          rw [← HEL.out, HLE.out, HS.out, List.append_nil]
          exact OwnLs.base HL.out HB.out.size
end Go.Proofs.YtilljaneegbhlaaGreatDoor
/-
  A tape in memory; tape.load.
-/
namespace Go.Proofs.YtilljaneegbhlaaGreatDoor
open Go.RowKit Go.Deep Crc Dk Qk Go.Maps Hf
theorem vconf_any (w : World) {cf : Cf} {r b : Nat} {g : Int} {down : Bool} (h : VB cf r g down b w) : Calls Tryz.prog 67 #[.pointer (some ⟨b, 0, none⟩)] w (fun e w' => e = .returned (.agg (cfA cf)) ∧ Below w.heap.size w w') := by
  obtain ⟨c0, c1, c2, c3, c4, c5, c6, c7⟩ := h.cells
  have hlt := h.lt
  have HL := Lib.hid hlt
  clear h
  go_enter Tryz.func67, Tryz.ntmps67
  go_wp2_with fail
  exact bodyPost_ret (v := .agg (cfA cf)) (by simp [results, Tryz.results67, go_sem]) rfl ⟨rfl, one_below _ _⟩
theorem info_rows : (Tryz.prog.info? 22).map (fun i => (i.zero, i.size, i.bytes)) = some (some (.slice none 0 0), 1, 24) := by kernel_rfl
theorem wpList_append_rows (w : World) {ops : Array Oper} {rest : List Oper} {o : Oper} {a : Act} {Q : Exit → Act → World → Prop} (hgd : o.guard = none) (s x : Operand)
    (ho : o.op = .call { callee := .builtin .append, args := #[s, x], argTypes := #[34, 34] })
    (base : Nat) (v : Value) (n : Nat) (xs : List Value) (hsv : a.eval s = v) (hown : w.ownsRow base 22 1 v n xs)
    (b : Nat) (u : Value) (hx : a.eval x = .slice (some ⟨b, 0, none⟩) 1 1) (hb : w.cell? ⟨b, 0, none⟩ = some u) (hu : u.oneCell' = true) (h63 : n + 1 ≤ 100000) (hbase : base ≤ w.heap.size)
    (h : ∀ v' w', w'.ownsRow base 22 1 v' (n + 1) (xs ++ [u]) → Grew w v.ownBlock w' v'.ownBlock → wpList Tryz.prog ops Q rest (a.put o.dst v') w') : wpList Tryz.prog ops Q (o :: rest) a w := by
  obtain ⟨i0, hi0, hz⟩ := Option.map_eq_some_iff.1 info_rows
  simp only [Prod.mk.injEq] at hz
  obtain ⟨hz0, hz1, hz2⟩ := hz
  exact wpList_append_src w hgd s x 34 34 ho base 22 i0 (.slice none 0 0) 1 24 Tryz.underlying34 hi0 hz0 hz1 hz2 rfl v n xs hsv hown (.slice (some ⟨b, 0, none⟩) 1 1) 1 [u] hx
    (src_cells (e := 22) (by kernel_rfl) (by simp) (fun j u' hj => by
      match j with
      | 0 => simp at hj; subst hj; simpa using hb
      | j + 1 => simp at hj) (fun u' hu' => by simp at hu'; subst hu'; exact hu)) (by unfold maxLen; omega) (by omega) hbase fun v' w' h1 h2 _ => h v' w' h1 h2
/-- What load answers. -/
def LoadOut (cf : Cf) (q : Rk) (ld : LdR) (w : World) (e : Ending) (w' : World) : Prop :=
  Below w.heap.size w w' ∧ ((ld.e = 0 ∧ ∃ v us, e = .returned (.tuple #[v, .nilIface]) ∧ OwnT w.heap.size (fun k => w.heap.size ≤ k) w' v us ld.l) ∨ (ld.e = -1 ∧ e = .returned (.tuple #[nilB, lossV ld.x 0 1])) ∨
    (∃ s : Nat, (s : Int) < cf.t ∧ tcode q cf s ≠ 0 ∧ ld.e = tcode q cf s ∧ ld.x = s ∧ ∃ v, KV (tcode q cf s) v ∧ e = .returned (.tuple #[nilB, v])))
def ldOf (cf : Cf) (V : Vl) (q : Rk) : Nat → LdR := loadN (fun s => tcode q cf s) V.G V.B
def RelLd (cf : Cf) (V : Vl) (q : Rk) (w : World) (v i : Value) (wr : World) : Prop :=
  ∃ (m : Nat) (us : List Value), m ≤ cf.t.toNat ∧ i = .int .i64 m ∧ (ldOf cf V q m).e = 0 ∧ OwnT w.heap.size (fun k => w.heap.size ≤ k) wr v us (ldOf cf V q m).l ∧ Below w.heap.size w wr
theorem ld_next (cf : Cf) (V : Vl) (q : Rk) (m : Nat) : ldOf cf V q (m + 1) = load1 (fun s => tcode q cf s) V.G V.B (ldOf cf V q m) m := rfl
set_option maxHeartbeats 4000000 in
set_option maxRecDepth 100000 in
theorem load_any {w1 : World} {c : Lc} {cf : Cf} {n : Nat} {q : Rk} {g : Int} {b : Nat} {V : Vl} {P : Nat → Bool} (w : World) (h : VW w1 c cf n q g false b w) (hI : Inv cf V none P q) (hO : On q cf) :
    Calls Tryz.prog 39 #[.pointer (some ⟨b, 0, none⟩)] w (LoadOut cf q (ldOf cf V q cf.t.toNat) w) := by
  have HW := Lib.hid h
  have HI := Lib.hid hI
  have HO := Lib.hid hO
  obtain ⟨id, ck, cn, ct, cs⟩ := cf
  obtain ⟨T, hT⟩ : ∃ T : Nat, ct = T := ⟨ct.toNat, by have := hO.right.2.2.2.2.2.1; change 1 ≤ ct at this; omega⟩
  subst hT
  have HT := Lib.hid (show T ≤ 1000 by have := hO.right.2.2.2.2.2.2.1; change (T : Int) ≤ _ at this; omega)
  have HBK := Lib.hid (show ∀ t : Nat, t < T → (∀ d ∈ V.B t, d.length = 108) ∧ (V.B t).length ≤ 10 from fun t ht => by
    have h1 := hI.v.g t (show (t : Int) < (T : Int) by omega)
    exact ⟨h1.is, by have h2 := h1.len; have h3 := hO.right.2.2.2.1; have h4 := hO.right.2.2.2.2.1; change ck ≤ cn at h3; change cn ≤ _ at h4; change (V.B t).length = ck.toNat at h2; omega⟩)
  have CC := Lib.hid (show Calls Tryz.prog 67 #[.pointer (some ⟨b, 0, none⟩)] w (fun e w' => e = .returned (.agg #[.int .i64 id, .int .i64 ck, .int .i64 cn, .int .i64 (T : Int), .int .i64 cs]) ∧ Below w.heap.size w w') from vconf_any w h.vb)
  clear h hI hO
  show Calls _ _ _ _ (LoadOut ⟨id, ck, cn, T, cs⟩ q (ldOf ⟨id, ck, cn, T, cs⟩ V q T) w)
  go_enter Tryz.func39, Tryz.ntmps39
  go_wp2_with fail
  refine CC.out.mono ?_
  rintro e w2 ⟨rfl, hb2⟩
  have HB2 := Lib.hid hb2
  clear hb2 CC
  have hfd : ∀ w : World, (Instr.field 24 (.agg #[.int .i64 id, .int .i64 ck, .int .i64 cn, .int .i64 (T : Int), .int .i64 cs]) 3).run Tryz.prog w = .ok (.int .i64 (T : Int)) w := fun _ => by kernel_rfl
  go_wp2_with fail
  go_loopw [4, 12] (fun v i wr => RelLd ⟨id, ck, cn, T, cs⟩ V q w v i wr) (fun _ i _ => T - (intOf i).toNat)
  case atStart => exact ⟨0, [], Nat.zero_le _, rfl, rfl, ownT_nil _ _ _, HB2.out⟩
  case round =>
    obtain ⟨m, us, hm, rfl, hz, hOT, hB⟩ := hrel
    change m ≤ T at hm
    have HOT := Lib.hid hOT
    have HB := Lib.hid hB
    have HZ := Lib.hid hz
    have HN := Lib.hid (ld_next ⟨id, ck, cn, T, cs⟩ V q m)
    have HLL := Lib.hid (show (ldOf ⟨id, ck, cn, T, cs⟩ V q m).l.length ≤ m from loadN_len m)
    have hT1 := HT.out
    by_cases hlt : m < T
    · have HLT := Lib.hid hlt
      have HAT := Lib.hid (fun (he : (ldOf ⟨id, ck, cn, T, cs⟩ V q (m + 1)).e ≠ 0) => (show ldOf ⟨id, ck, cn, T, cs⟩ V q T = ldOf ⟨id, ck, cn, T, cs⟩ V q (m + 1) from loadN_at he hlt))
      obtain ⟨gu, cu, rfl, -⟩ := own_slice hOT.top
      have HW2 := Lib.hid (HW.out.below hB)
      by_cases hc : tcode q ⟨id, ck, cn, T, cs⟩ m = 0
      · have CR := Lib.hid (HW2.out.reads HI.out HO.out (t := m) (show (m : Int) < (T : Int) by omega) hc)
        have HC := Lib.hid hc
        have HBM := Lib.hid (HBK.out m hlt)
        clear hz hOT hB hc
        generalize hld : ldOf ⟨id, ck, cn, T, cs⟩ V q m = ld at *
        go_wp2_with fail
        refine CR.out.mono ?_
        rintro e w3 ⟨v3, rfl, ho3, hb3⟩
        have HO3 := Lib.hid ho3
        have HB3 := Lib.hid hb3
        obtain ⟨g3, c3, rfl, -⟩ := own_slice' ho3
        clear ho3 hb3
        have hsl := slK_own HO3.out HBM.out.1 rfl
        have CE := Lib.hid (empty_any w3 _ (V.B m) hsl HBM.out.2)
        clear hsl
        by_cases hg1 : V.G m ≤ 1
        · have e1 : decide (V.G m ≤ 1) = true := decide_eq_true hg1
          have hn := (HN.out).trans (load1_skip HZ.out HC.out hg1)
          have HN1 := Lib.hid hn
          clear hg1 hn
          go_wp2_with fail
          go_roundw
          case rel =>
            refine ⟨m + 1, us, hlt, by go_num, ?_, ?_, bthen HB.out HB3.out⟩
            · rw [HN1.out]; exact HZ.out
            · rw [HN1.out]; exact HOT.out.below HB3.out
          case measure => simp [intOf]; omega
        · have e1 : decide (V.G m ≤ 1) = false := decide_eq_false hg1
          by_cases hgap : ld.l.length < m
          · have e2 : decide ((ld.l.length : Int) < (m : Int)) = true := decide_eq_true (by omega)
            have hn := (HN.out).trans (load1_gap HZ.out HC.out hg1 hgap)
            have HN1 := Lib.hid hn
            clear hg1 hn
            have hbd : ∀ w : World, (Instr.build 52 #[(0, .int .i64 (m : Int)), (1, .int .i64 0), (2, .int .i64 1)]).run Tryz.prog w = .ok (.agg #[.int .i64 (m : Int), .int .i64 0, .int .i64 1]) w := fun _ => by kernel_rfl
            go_wp2_with fail
            refine bodyPost_ret (v := .tuple #[nilB, lossV m 0 1]) (by simp [results, Tryz.results39, go_sem, nilB, lossV]) rfl ?_
            have he : ldOf ⟨id, ck, cn, T, cs⟩ V q T = ⟨ld.l, -1, m⟩ := (HAT.out (by rw [HN1.out]; simp)).trans HN1.out
            refine ⟨bthen HB.out HB3.out, Or.inr (Or.inl ⟨by rw [he], ?_⟩)⟩
            rw [he]
          · have e2 : decide ((ld.l.length : Int) < (m : Int)) = false := decide_eq_false (by omega)
            have hn := (HN.out).trans (load1_add HZ.out HC.out hg1 hgap)
            have HN1 := Lib.hid hn
            clear hg1 hn
            go_wp2_with fail
            refine CE.out.mono ?_
            rintro e w4 ⟨v4, ws, rfl, ho4, hb4⟩
            have HO4 := Lib.hid ho4
            have HB4 := Lib.hid hb4
            have H1 := Lib.hid (own_one ho4.top)
            obtain ⟨g4, c4, rfl, -⟩ := own_slice ho4.top
            have HOT4 := Lib.hid ((HOT.out.below HB3.out).below hb4)
            have HSA := Lib.hid (slAs_own (S := fun k => w.heap.size ≤ k ∧ (Value.slice gu ld.l.length cu).ownBlock ≠ some k) ho4 fun k h1 h2 => ⟨Nat.le_trans (Nat.le_trans HB.out.size HB3.out.size) h1, fun e => by
              have := (own_block HOT.out.top e).2
              have := HB3.out.size
              omega⟩)
            have HEN := Lib.hid (show ld.l.length + 1 ≤ 100000 by have := HLL.out; have := HT.out; omega)
            have HSZ := Lib.hid (show w.heap.size ≤ w4.heap.size from Nat.le_trans (Nat.le_trans HB.out.size HB3.out.size) hb4.size)
            clear ho4 hb4
            go_wp2_with (at_builtin; refine wpList_append_rows (o := ⟨some 38, _, _, _, _, _⟩) _ rfl (.tmp 34) (.tmp 37) rfl w.heap.size _ _ us rfl (own_below HOT4.out.top (one_below _ _)) w4.heap.size (.slice g4 (emptyL (V.B m)).length c4) rfl (new_cells _ _ _ _ _ rfl) H1.out HEN.out (Nat.le_trans HSZ.out (one_below _ _).size) ?_; intro v6 w6 h6 hg6; have H6 := Lib.hid (OwnT.snoc (HOT4.out.below (one_below _ _)) (HSA.out.agr (Agr.of_below (one_below _ _))) h6 hg6); have HB6 := Lib.hid (Below.trans (bthen (bthen (bthen HB.out HB3.out) HB4.out) (one_below _ _)) (hg6.below (Nat.le_trans HSZ.out (one_below _ _).size) fun k hk => (own_block HOT.out.top hk).1)); clear h6 hg6)
            go_roundw
            case rel =>
              refine ⟨m + 1, us ++ [.slice g4 (emptyL (V.B m)).length c4], hlt, by go_num, ?_, ?_, HB6.out⟩
              · rw [HN1.out]
              · rw [HN1.out]; exact H6.out
            case measure => simp [intOf]; omega
      · have CR := Lib.hid (vread_any wr HW2.out.qs.rack HW2.out.vb (m : Int))
        have HC := Lib.hid hc
        have hn := (HN.out).trans (load1_err hz hc)
        have HN1 := Lib.hid hn
        clear hz hOT hB hc hn
        generalize hld : ldOf ⟨id, ck, cn, T, cs⟩ V q m = ld at *
        go_wp2_with fail
        refine CR.out.mono ?_
        rintro e w3 ⟨hb3, ⟨h0, _⟩ | ⟨_, v3, hkv, rfl⟩⟩
        · exact absurd h0 HC.out
        · obtain ⟨T3, x3, rfl⟩ := hkv.some HC.out
          have HKV := Lib.hid hkv
          have HB3 := Lib.hid hb3
          clear hkv hb3
          go_wp2_with fail
          refine bodyPost_ret (v := .tuple #[nilB, .iface T3 x3]) (by simp [results, Tryz.results39, go_sem, nilB]) rfl ?_
          have he : ldOf ⟨id, ck, cn, T, cs⟩ V q T = ⟨ld.l, tcode q ⟨id, ck, cn, T, cs⟩ m, m⟩ := (HAT.out (by rw [HN1.out]; exact HC.out)).trans HN1.out
          exact ⟨bthen HB.out HB3.out, Or.inr (Or.inr ⟨m, by show (m : Int) < (T : Int); have := HLT.out; omega, HC.out, by rw [he], by rw [he], _, HKV.out, rfl⟩)⟩
    · obtain rfl : m = T := by omega
      obtain ⟨gu, cu, rfl, -⟩ := own_slice hOT.top
      clear hz hOT hB
      go_wp2_with fail
      refine bodyPost_ret (v := .tuple #[.slice gu (ldOf ⟨id, ck, cn, m, cs⟩ V q m).l.length cu, .nilIface]) (by simp [results, Tryz.results39, go_sem]) rfl ?_
      exact ⟨HB.out, Or.inl ⟨HZ.out, _, us, rfl, HOT.out⟩⟩
end Go.Proofs.YtilljaneegbhlaaGreatDoor
