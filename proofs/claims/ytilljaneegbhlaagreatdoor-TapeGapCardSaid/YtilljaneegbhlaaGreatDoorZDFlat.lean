
namespace Dk
abbrev Sec := List UInt8
def zer : Sec := List.replicate 128 0
theorem zer_length : zer.length = 128 := List.length_replicate
structure St where
 n : Nat
 st : Nat → Sec
 rot : Nat → Bool
 wt : Nat → Option Sec
 dead : Bool
def upd {α : Type} (f : Nat → α) (i : Nat) (v : α) : Nat → α := fun j => if j = i then v else f j
theorem upd_same {α : Type} (f : Nat → α) (i : Nat) (v : α) : upd f i v i = v := if_pos rfl
theorem upd_other {α : Type} (f : Nat → α) {i j : Nat} (v : α) (h : j ≠ i) : upd f i v j = f j := if_neg h
structure St.Ok (s : St) : Prop where
 n : s.n ≤ 128
 st : ∀ i, (s.st i).length = 128
 wt : ∀ i b, s.wt i = some b → i < s.n ∧ b.length = 128
def new (n : Nat) : St := ⟨n, fun _ => zer, fun _ => false, fun _ => none, false⟩
theorem new_ok {n : Nat} (h : n ≤ 128) : (new n).Ok := ⟨h, fun _ => zer_length, fun _ _ h => by cases h⟩
def St.write (s : St) (i : Nat) (b : Sec) : St := { s with wt := upd s.wt i (some b) }
variable {s : St}
theorem St.Ok.write (h : s.Ok) {i : Nat} {b : Sec} (hi : i < s.n) (hb : b.length = 128) : (s.write i b).Ok :=
 ⟨h.n, h.st, fun j c e => by
  by_cases hj : j = i
  ·subst hj
   replace e : upd s.wt j (some b) j = some c := e
   rw [upd_same] at e; cases e; exact ⟨hi, hb⟩
  ·replace e : upd s.wt i (some b) j = some c := e
   rw [upd_other _ _ hj] at e; exact h.wt j c e⟩
def St.read (s : St) (i : Nat) : Sec := (s.wt i).getD (s.st i)
def St.ks (s : St) : List Nat := (List.range s.n).filter fun i => (s.wt i).isSome
theorem St.mem_ks (h : s.Ok) {i : Nat} : i ∈ s.ks ↔ (s.wt i).isSome = true := by
 unfold St.ks
 rw [List.mem_filter, List.mem_range]
 refine ⟨fun e => e.2, fun e => ⟨?_, e⟩⟩
 obtain ⟨b, hb⟩ := Option.isSome_iff_exists.1 e
 exact (h.wt i b hb).1
theorem St.ks_nodup (s : St) : s.ks.Nodup := List.Nodup.sublist List.filter_sublist List.nodup_range
theorem St.ks_sorted (s : St) : s.ks.Pairwise (· < ·) := List.Pairwise.sublist List.filter_sublist List.pairwise_lt_range
theorem St.ks_length (s : St) : s.ks.length ≤ s.n := by
 have := List.length_filter_le (fun i => (s.wt i).isSome) (List.range s.n)
 simpa [St.ks] using this
def St.store (s : St) (i : Nat) : St := { s with st := upd s.st i ((s.wt i).getD zer), rot := upd s.rot i false, wt := upd s.wt i none }
theorem St.Ok.store (h : s.Ok) (i : Nat) : (s.store i).Ok :=
  ⟨h.n, fun j => by
    by_cases hj : j = i
    · subst hj
      show (upd s.st j _ j).length = 128
      rw [upd_same]
      cases e : s.wt j with
      | none => exact zer_length
      | some b => exact (h.wt j b e).2
    · show (upd s.st i _ j).length = 128
      rw [upd_other _ _ hj]; exact h.st j,
   fun j c e => by
    by_cases hj : j = i
    · subst hj
      replace e : upd s.wt j none j = some c := e
      rw [upd_same] at e; cases e
    · replace e : upd s.wt i none j = some c := e
      rw [upd_other _ _ hj] at e; exact h.wt j c e⟩
def St.stores (s : St) (l : List Nat) : St := l.foldl St.store s
theorem St.stores_n (l : List Nat) : ∀ s : St, (s.stores l).n = s.n := by
 induction l with
 | nil => intro s; rfl
 | cons a l ih => intro s; exact (ih (s.store a)).trans rfl
theorem St.stores_dead (l : List Nat) : ∀ s : St, (s.stores l).dead = s.dead := by
 induction l with
 | nil => intro s; rfl
 | cons a l ih => intro s; exact (ih (s.store a)).trans rfl
theorem St.Ok.stores {l : List Nat} : ∀ {s : St}, s.Ok → (s.stores l).Ok := by
 induction l with
 | nil => intro s h; exact h
 | cons a l ih => intro s h; exact ih (h.store a)
theorem St.stores_snoc (s : St) (l : List Nat) (i : Nat) : s.stores (l ++ [i]) = (s.stores l).store i := by simp [St.stores]
theorem St.stores_wt (l : List Nat) : ∀ (s : St) (i : Nat), (s.stores l).wt i = if i ∈ l then none else s.wt i := by
 induction l with
 | nil => intro s i; rfl
 | cons a l ih =>
  intro s i
  show ((s.store a).stores l).wt i = _
  rw [ih]
  by_cases h : i ∈ l
  ·rw [if_pos h, if_pos (List.mem_cons_of_mem _ h)]
  ·rw [if_neg h]
   by_cases e : i = a
   ·subst e; rw [if_pos (List.mem_cons_self ..)]; exact upd_same ..
   ·rw [if_neg (by simp [e, h])]; exact upd_other _ _ e
theorem St.stores_st (l : List Nat) : ∀ (s : St) (i : Nat), l.Nodup → (s.stores l).st i = if i ∈ l then (s.wt i).getD zer else s.st i := by
 induction l with
 | nil => intro s i _; rfl
 | cons a l ih =>
  intro s i hn; obtain ⟨ha, hn⟩ := List.nodup_cons.1 hn
  show ((s.store a).stores l).st i = _
  rw [ih _ _ hn]
  by_cases h : i ∈ l
  ·rw [if_pos h, if_pos (List.mem_cons_of_mem _ h)]
   have e : i ≠ a := fun e => ha (e ▸ h)
   show (upd s.wt a none i).getD zer = _
   rw [upd_other _ _ e]
  ·rw [if_neg h]
   by_cases e : i = a
   ·subst e; rw [if_pos (List.mem_cons_self ..)]; exact upd_same ..
   ·rw [if_neg (by simp [e, h])]; exact upd_other _ _ e
theorem St.stores_rot (l : List Nat) : ∀ (s : St) (i : Nat), (s.stores l).rot i = if i ∈ l then false else s.rot i := by
 induction l with
 | nil => intro s i; rfl
 | cons a l ih =>
  intro s i
  show ((s.store a).stores l).rot i = _
  rw [ih]
  by_cases h : i ∈ l
  ·rw [if_pos h, if_pos (List.mem_cons_of_mem _ h)]
  ·rw [if_neg h]
   by_cases e : i = a
   ·subst e; rw [if_pos (List.mem_cons_self ..)]; exact upd_same ..
   ·rw [if_neg (by simp [e, h])]; exact upd_other _ _ e
def St.flush (s : St) : St := s.stores s.ks
theorem St.flush_st (h : s.Ok) (i : Nat) : s.flush.st i = s.read i := by
 unfold St.flush St.read
 rw [St.stores_st _ _ _ s.ks_nodup]
 by_cases e : (s.wt i).isSome = true
 ·rw [if_pos ((St.mem_ks h).2 e)]
  obtain ⟨b, hb⟩ := Option.isSome_iff_exists.1 e; rw [hb]; rfl
 ·rw [if_neg (fun m => e ((St.mem_ks h).1 m))]
  have : s.wt i = none := by simpa using e
  rw [this]; rfl
theorem St.flush_wt (h : s.Ok) (i : Nat) : s.flush.wt i = none := by
 unfold St.flush
 rw [St.stores_wt]
 by_cases e : (s.wt i).isSome = true
 ·rw [if_pos ((St.mem_ks h).2 e)]
 ·rw [if_neg (fun m => e ((St.mem_ks h).1 m))]
  simpa using e
theorem St.flush_read (h : s.Ok) (i : Nat) : s.flush.read i = s.read i := by
 show (s.flush.wt i).getD (s.flush.st i) = _
 rw [St.flush_wt h, St.flush_st h]; rfl
def bitOf (bits m : Nat) : Bool := bits / 2 ^ (m % 64) % 2 == 1
def picks (bits : Nat) (ks : List Nat) (m : Nat) : List Nat := ((List.range m).filter (bitOf bits)).map fun j => ks.getD j 0
theorem picks_succ (bits : Nat) (ks : List Nat) (m : Nat) : picks bits ks (m + 1) = if bitOf bits m then picks bits ks m ++ [ks.getD m 0] else picks bits ks m := by
 unfold picks
 rw [List.range_succ, List.filter_append, List.map_append]
 cases e : bitOf bits m <;> simp [e]
variable {bits : Nat}
theorem picks_sub {ks : List Nat} {m i : Nat} (hm : m ≤ ks.length) (h : i ∈ picks bits ks m) : i ∈ ks := by
 unfold picks at h
 obtain ⟨j, hj, rfl⟩ := List.mem_map.1 h
 have := (List.mem_filter.1 hj).1
 rw [List.mem_range] at this
 have hl : j < ks.length := by omega
 simp [List.getD, hl]
theorem picks_nodup {ks : List Nat} (hn : ks.Nodup) : ∀ {m : Nat}, m ≤ ks.length → (picks bits ks m).Nodup := by
 intro m
 induction m with
 | zero => intro _; exact List.nodup_nil
 | succ m ih =>
  intro hm; rw [picks_succ]
  split
  ·refine List.nodup_append.2 ⟨ih (by omega), by simp, fun a ha b hb => ?_⟩
   rw [List.mem_singleton] at hb; subst hb; intro e; subst e; unfold picks at ha; obtain ⟨j, hj, e⟩ := List.mem_map.1 ha; have hj := (List.mem_filter.1 hj).1; rw [List.mem_range] at hj
   have h1 : j < ks.length := by omega
   have h2 : m < ks.length := by omega
   have : ks[j] = ks[m] := by simpa [List.getD, h1, h2] using e
   have := (List.getElem_inj hn).1 this; omega
  ·exact ih (by omega)
def St.lose (s : St) : St := { s with wt := fun _ => none }
theorem St.Ok.lose (h : s.Ok) : s.lose.Ok := ⟨h.n, h.st, fun _ _ e => by cases e⟩
def St.crash (s : St) (bits : Nat) : St := (s.stores (picks bits s.ks s.ks.length)).lose
theorem St.Ok.crash (h : s.Ok) (bits : Nat) : (s.crash bits).Ok := h.stores.lose
theorem St.crash_wt (s : St) (bits i : Nat) : (s.crash bits).wt i = none := rfl
theorem St.crash_st (bits i : Nat) : (s.crash bits).st i = if i ∈ picks bits s.ks s.ks.length then (s.wt i).getD zer else s.st i :=
 St.stores_st _ _ _ (picks_nodup s.ks_nodup (Nat.le_refl _))
theorem St.crash_either (h : s.Ok) (bits i : Nat) : (s.crash bits).read i = s.st i ∨ (s.crash bits).read i = s.read i := by
 have e : (s.crash bits).read i = (s.crash bits).st i := rfl
 rw [e, St.crash_st]
 by_cases hm : i ∈ picks bits s.ks s.ks.length
 ·rw [if_pos hm]
  have := (St.mem_ks h).1 (picks_sub (Nat.le_refl _) hm); obtain ⟨b, hb⟩ := Option.isSome_iff_exists.1 this
  right; unfold St.read; rw [hb]; rfl
 ·rw [if_neg hm]; exact Or.inl rfl
def St.wipe (s : St) (dead : Bool) : St := { new s.n with dead := dead }
theorem St.Ok.wipe (h : s.Ok) (b : Bool) : (s.wipe b).Ok := ⟨h.n, fun _ => zer_length, fun _ _ e => by cases e⟩
end Dk
namespace Dk
def flat {α : Type} (n : Nat) (f : Nat → List α) : List α := (List.range n).flatMap f
theorem flat_succ {α : Type} (n : Nat) (f : Nat → List α) : flat (n + 1) f = flat n f ++ f n := by simp [flat, List.range_succ]
theorem flat_length {α : Type} {k : Nat} {f : Nat → List α} (hf : ∀ i, (f i).length = k) : ∀ n, (flat n f).length = k * n
 | 0 => rfl
 | n + 1 => by rw [flat_succ, List.length_append, flat_length hf n, hf, Nat.mul_succ]
variable {k : Nat}
theorem flat_at {α : Type} {f : Nat → List α} (hf : ∀ i, (f i).length = k) {i j : Nat} (hj : j < k) : ∀ {n : Nat}, i < n → (flat n f)[k * i + j]? = (f i)[j]? := by
 intro n
 induction n with
 | zero => intro h; omega
 | succ n ih =>
  intro h; rw [flat_succ]
  by_cases e : i = n
  ·subst e
   rw [List.getElem?_append_right (by rw [flat_length hf]; omega), flat_length hf]
   congr 1; omega
  ·have h1 : k * i + k ≤ k * n := by rw [← Nat.mul_succ]; exact Nat.mul_le_mul_left k (by omega)
   rw [List.getElem?_append_left (by rw [flat_length hf]; omega)]; exact ih (by omega)
variable {n : Nat}
theorem flat_ext {α : Type} {f : Nat → List α} {l : List α} (hf : ∀ i, (f i).length = k) (hl : l.length = k * n) (h : ∀ i j, i < n → j < k → l[k * i + j]? = (f i)[j]?) : l = flat n f := by
 refine List.ext_getElem? fun p => ?_
 by_cases hp : p < k * n
 ·have hk : 0 < k := Nat.pos_of_ne_zero fun e => by subst e; simp at hp
  have e : k * (p / k) + p % k = p := Nat.div_add_mod p k; have h1 : p / k < n := Nat.div_lt_of_lt_mul hp; have h2 : p % k < k := Nat.mod_lt _ hk; have h3 := h _ _ h1 h2; rw [e] at h3; rw [h3, ← flat_at hf h2 h1, e]
 ·rw [List.getElem?_eq_none (by omega), List.getElem?_eq_none (by rw [flat_length hf]; omega)]
theorem flat_congr {α : Type} {f g : Nat → List α} (h : ∀ i, i < n → f i = g i) : flat n f = flat n g := by
 unfold flat
 rw [List.flatMap_def, List.flatMap_def]
 congr 1
 exact List.map_congr_left fun i hi => h i (List.mem_range.1 hi)
theorem apart_of {i j : Nat} (h : i < j) : k * i + k ≤ k * j := by rw [← Nat.mul_succ]; exact Nat.mul_le_mul_left k h
theorem flat_splice {α : Type} {f : Nat → List α} (hf : ∀ i, (f i).length = k) {i : Nat} (hi : i < n) {v : List α} (hv : v.length = k) :
  (flat n f).take (k * i) ++ v ++ (flat n f).drop (k * i + k) = flat n (upd f i v) := by
 have hu : ∀ j, (upd f i v j).length = k := fun j => by unfold upd; split; exact hv; exact hf j
 have hn : k * i + k ≤ k * n := apart_of hi
 have ht : ((flat n f).take (k * i)).length = k * i := by rw [List.length_take, flat_length hf]; omega
 refine flat_ext hu (by rw [List.length_append, List.length_append, ht, hv, List.length_drop, flat_length hf]; omega) fun a j ha hj => ?_
 rcases Nat.lt_trichotomy a i with h | h | h
 ·have := apart_of (k := k) h
  rw [upd_other _ _ (by omega), List.append_assoc, List.getElem?_append_left (by rw [ht]; omega), List.getElem?_take, if_pos (by omega)]; exact flat_at hf hj ha
 ·subst h
  rw [upd_same, List.append_assoc, List.getElem?_append_right (by rw [ht]; omega), ht, List.getElem?_append_left (by rw [hv]; omega)]
  congr 1; omega
 ·have := apart_of (k := k) h
  rw [upd_other _ _ (by omega), List.getElem?_append_right (by rw [List.length_append, ht, hv]; omega), List.length_append, ht, hv, List.getElem?_drop]; rw [show k * i + k + (k * a + j - (k * i + k)) = k * a + j by omega]; exact flat_at hf hj ha
theorem flat_set {α : Type} {f : Nat → List α} (hf : ∀ i, (f i).length = k) {i j : Nat} (hi : i < n) (hj : j < k) (v : α) :
  (flat n f).set (k * i + j) v = flat n (upd f i ((f i).set j v)) := by
 have hu : ∀ a, (upd f i ((f i).set j v) a).length = k := fun a => by unfold upd; split; rw [List.length_set]; exact hf i; exact hf a
 refine flat_ext hu (by rw [List.length_set, flat_length hf]) fun a b ha hb => ?_
 rw [List.getElem?_set]
 have hn : k * i + k ≤ k * n := apart_of hi
 by_cases e : a = i
 ·subst e
  rw [upd_same, List.getElem?_set]
  by_cases e2 : j = b
  ·subst e2; rw [if_pos rfl, if_pos rfl, if_pos (by rw [flat_length hf]; omega), if_pos (by rw [hf]; omega)]
  ·rw [if_neg (by omega), if_neg e2]; exact flat_at hf hb ha
 ·rw [upd_other _ _ e]
  have hne : k * i + j ≠ k * a + b := by
   rcases Nat.lt_or_gt_of_ne e with h | h
   ·have := apart_of (k := k) h; omega
   ·have := apart_of (k := k) h; omega
  rw [if_neg hne]; exact flat_at hf hb ha
theorem upd_upd {α : Type} (f : Nat → α) (i : Nat) (v w : α) : upd (upd f i v) i w = upd f i w := by
 funext j; unfold upd; split <;> rfl
theorem nodup_bound {α : Type} [DecidableEq α] : ∀ (l m : List α), l.Nodup → (∀ a ∈ l, a ∈ m) → l.length ≤ m.length
 | [], _, _, _ => Nat.zero_le _
 | a :: l, m, hn, h => by
  obtain ⟨ha, hn⟩ := List.nodup_cons.1 hn; have hm := h a (List.mem_cons_self ..)
  have := nodup_bound l (m.erase a) hn fun b hb => (List.mem_erase_of_ne (fun e : b = a => ha (e ▸ hb))).2 (h b (List.mem_cons_of_mem _ hb))
  rw [List.length_erase_of_mem hm] at this; have := List.length_pos_of_mem hm; simp only [List.length_cons]; omega
theorem perm_of_nodup {α : Type} [DecidableEq α] {l m : List α} (hl : l.Nodup) (hm : m.Nodup) (h : ∀ a, a ∈ l ↔ a ∈ m) : l.Perm m := by
 rw [List.perm_iff_count]
 intro a
 rw [hl.count, hm.count]
 by_cases e : a ∈ l
 ·rw [if_pos e, if_pos ((h a).1 e)]
 ·rw [if_neg e, if_neg (fun x => e ((h a).2 x))]
end Dk
