import Derived.Test.YtilljaneegbhlaaGreatDoorZCTab
namespace Go.Proofs.YtilljaneegbhlaaGreatDoor
open Go.RowKit Go.Deep
def nilB : Value := .slice none 0 0
def SlBs (B : Nat) (w : World) (v : Value) (ls : List (List UInt8)) : Prop :=
 (ls = [] ∧ ∃ a cap, v = .slice a 0 cap) ∨ ∃ b o cap, v = .slice (some ⟨b, o, none⟩) ls.length cap ∧ b < B ∧ (∀ i, i < ls.length → ∃ u, w.cell? ⟨b, o + i, none⟩ = some u ∧ SlB B w u (ls.getD i [])) ∧ 0 < ls.length ∧ ls.length ≤ cap
variable {B : Nat} {w w' : World} {v : Value} {ls : List (List UInt8)}
theorem SlBs.mono (h : SlBs B w v ls) (hc : ∀ b o, b < B → w'.cell? ⟨b, o, none⟩ = w.cell? ⟨b, o, none⟩) : SlBs B w' v ls := by
 rcases h with h | ⟨b, o, cap, h1, h2, h3, h4⟩
 ·exact Or.inl h
 ·refine Or.inr ⟨b, o, cap, h1, h2, fun i hi => ?_, h4⟩
  obtain ⟨u, e1, e2⟩ := h3 i hi; exact ⟨u, by rw [hc _ _ h2]; exact e1, e2.mono hc⟩
theorem SlBs.below (h : SlBs B w v ls) (hb : Below B w w') : SlBs B w' v ls := h.mono fun b o hl => hb.cell (p := ⟨b, o, none⟩) hl
variable {B' : Nat}
theorem SlBs.wider (h : SlBs B w v ls) (hB : B ≤ B') : SlBs B' w v ls := by
 rcases h with h | ⟨b, o, cap, h1, h2, h3, h4⟩
 ·exact Or.inl h
 ·refine Or.inr ⟨b, o, cap, h1, by omega, fun i hi => ?_, h4⟩
  obtain ⟨u, e1, e2⟩ := h3 i hi; exact ⟨u, e1, e2.wider hB⟩
theorem SlBs.len (h : SlBs B w v ls) : ∃ a cap, v = .slice a ls.length cap ∧ ls.length ≤ cap := by
 rcases h with ⟨rfl, a, cap, h⟩ | ⟨b, o, cap, h1, _, _, _, h2⟩
 ·exact ⟨a, cap, h, Nat.zero_le _⟩
 ·exact ⟨_, cap, h1, h2⟩
theorem SlBs.row (h : SlBs B w v ls) {i : Nat} (hi : i < ls.length) :
  ∃ b o cap u, v = .slice (some ⟨b, o, none⟩) ls.length cap ∧ ls.length ≤ cap ∧ b < B ∧ w.cell? ⟨b, o + i, none⟩ = some u ∧ SlB B w u (ls.getD i []) := by
 rcases h with ⟨rfl, _⟩ | ⟨b, o, cap, h1, hb, h2, _, h3⟩
 ·simp at hi
 ·obtain ⟨u, e1, e2⟩ := h2 i hi
  exact ⟨b, o, cap, u, h1, h3, hb, e1, e2⟩
variable {n : Nat}
theorem SlBs.row' {b o cap : Nat} (h : SlBs B w (.slice (some ⟨b, o, none⟩) n cap) ls) {i : Nat} (hi : i < ls.length) :
  ∃ u, w.cell? ⟨b, o + i, none⟩ = some u ∧ SlB B w u (ls.getD i []) := by
 obtain ⟨b', o', cap', u, h1, _, _, h2, h3⟩ := h.row hi
 injection h1 with h1 _ _
 injection h1 with h1
 injection h1 with h1 h1' _
 subst h1 h1'
 exact ⟨u, h2, h3⟩
theorem Tryz.info37 : (Tryz.prog.info? 37).map (fun i => (i.zero, i.size, i.bytes)) = some (some (.slice none 0 0), 1, 24) := by kernel_rfl
theorem grownBy_set (w : World) (g i : Nat) (u : Value) : w.grownBy (w.setCell ⟨g, i, none⟩ u) (some g) := by
 refine ⟨rfl, rfl, rfl, ?_, fun j hj hr => ?_⟩
 ·exact ((Below.refl 0 w).setCell (p := ⟨g, i, none⟩) (Nat.zero_le _) u).size
 ·exact Below.heap_setCell _ _ _ _ (fun e => hr (by rw [e]))
variable {e g i : Nat} {u : Value} {xs : List Value}
theorem own_kept_set {size : Nat} (h : w.ownsRow B e size v n xs) (hne : v.ownBlock = none ∨ v.ownBlock ≠ some g) : (w.setCell ⟨g, i, none⟩ u).ownsRow B e size v n xs :=
 World.ownsRow.kept h (grownBy_set w g i u) hne
structure OwnLs (B : Nat) (w : World) (v : Value) (us : List Value) (ls : List (List UInt8)) : Prop where
 top : w.ownsRow B 37 1 v ls.length us
 each : ∀ i, i < ls.length → w.ownsRow B 5 1 (us.getD i nilB) (ls.getD i []).length (bytesV (ls.getD i []))
 apart : ∀ i j, i < ls.length → j < ls.length → i ≠ j → (us.getD i nilB).ownBlock = none ∨ (us.getD i nilB).ownBlock ≠ (us.getD j nilB).ownBlock
 off : ∀ i, i < ls.length → (us.getD i nilB).ownBlock = none ∨ (us.getD i nilB).ownBlock ≠ v.ownBlock
variable {us : List Value}
theorem OwnLs.ulen (h : OwnLs B w v us ls) : us.length = ls.length := by have := h.top.1; omega
theorem OwnLs.below (h : OwnLs B w v us ls) (hb : Below w.heap.size w w') : OwnLs B w' v us ls :=
 ⟨own_below h.top hb, fun i hi => own_below (h.each i hi) hb, h.apart, h.off⟩
theorem OwnLs.slice (h : OwnLs B w v us ls) : ∃ a c, v = .slice a ls.length c ∧ ls.length ≤ c := own_slice h.top
variable {c : Nat}
theorem OwnLs.addr {a : Option Addr} (h : OwnLs B w (.slice a ls.length c) us ls) (h0 : 0 < ls.length) : ∃ g, a = some ⟨g, 0, none⟩ := own_addr h.top h0
theorem OwnLs.cell (h : OwnLs B w (.slice (some ⟨g, 0, none⟩) n c) us ls) {i : Nat} (hi : i < ls.length) : w.cell? ⟨g, i, none⟩ = some (us.getD i nilB) := by
 have hn : n = ls.length := by
  obtain ⟨a, c', h1, _⟩ := h.slice; injection h1
 subst hn
 refine own_cell h.top ?_
 have := h.ulen
 simp [List.getD, show i < us.length by omega]
theorem OwnLs.frozen (h : OwnLs B w (.slice (some ⟨g, 0, none⟩) n c) us ls) (i : Nat) : w.frozen? ⟨g, i, none⟩ = false := by
 have hn : n = ls.length := by
  obtain ⟨a, c', h1, _⟩ := h.slice; injection h1
 subst hn
 exact own_frozen h.top i
theorem OwnLs.slb (h : OwnLs B w v us ls) {i : Nat} (hi : i < ls.length) : SlB w.heap.size w (us.getD i nilB) (ls.getD i []) := slb_own (h.each i hi)
theorem OwnLs.slbs (h : OwnLs B w v us ls) : SlBs w.heap.size w v ls := by
 rcases Nat.eq_zero_or_pos ls.length with h0 | h0
 ·obtain ⟨a, c, h1, _⟩ := h.slice
  rw [h0] at h1; exact Or.inl ⟨List.eq_nil_of_length_eq_zero h0, a, c, h1⟩
 ·obtain ⟨a, c, rfl, hc⟩ := h.slice
  obtain ⟨g, rfl⟩ := h.addr h0; refine Or.inr ⟨g, 0, c, rfl, (own_lt h.top).2.1, fun i hi => ⟨us.getD i nilB, ?_, h.slb hi⟩, h0, hc⟩; rw [Nat.zero_add]; exact h.cell hi
theorem OwnLs.block {k : Nat} (h : OwnLs B w v us ls) (hi : i < ls.length) (hk : (us.getD i nilB).ownBlock = some k) : B ≤ k ∧ k < w.heap.size := own_block (h.each i hi) hk
theorem getD_set_eq {α : Type} (l : List α) (i : Nat) (a d : α) (h : i < l.length) : (l.set i a).getD i d = a := by simp [List.getD, h]
theorem getD_set_ne {α : Type} (l : List α) (i j : Nat) (a d : α) (h : j ≠ i) : (l.set i a).getD j d = l.getD j d := by simp [List.getD, List.getElem?_set_ne (fun e => h e.symm)]
variable {l : List UInt8}
theorem OwnLs.put (h : OwnLs B w (.slice (some ⟨g, 0, none⟩) ls.length c) us ls) (hi : i < ls.length)
  (hu : w.ownsRow B 5 1 u l.length (bytesV l)) (hne : ∀ j, j < ls.length → j ≠ i → (us.getD j nilB).ownBlock = none ∨ (us.getD j nilB).ownBlock ≠ u.ownBlock) (hg : u.ownBlock = none ∨ u.ownBlock ≠ some g) :
  OwnLs B (w.setCell ⟨g, i, none⟩ u) (.slice (some ⟨g, 0, none⟩) ls.length c) (us.set i u) (ls.set i l) := by
 have hul := h.ulen
 refine ⟨by rw [List.length_set]; exact own_set h.top i u, fun j hj => ?_, fun j k hj hk hjk => ?_, fun j hj => ?_⟩
 ·rw [List.length_set] at hj
  by_cases e : j = i
  ·subst e
   rw [getD_set_eq _ _ _ _ (by omega), getD_set_eq _ _ _ _ hj]; exact own_kept_set hu hg
  ·rw [getD_set_ne _ _ _ _ _ e, getD_set_ne _ _ _ _ _ e]
   exact own_kept_set (h.each j hj) (h.off j hj)
 ·rw [List.length_set] at hj hk
  by_cases e : j = i
  ·subst e
   rw [getD_set_eq _ _ _ _ (by omega), getD_set_ne _ _ _ _ _ (fun e => hjk e.symm)]
   rcases hne k hk (fun e => hjk e.symm) with h1 | h1
   ·rw [h1]
    cases hub : u.ownBlock with
    | none => exact Or.inl rfl
    | some x => exact Or.inr (by simp)
   ·exact Or.inr fun e => h1 e.symm
  ·by_cases e2 : k = i
   ·subst e2
    rw [getD_set_eq _ _ _ _ (by omega), getD_set_ne _ _ _ _ _ e]; exact hne j hj e
   ·rw [getD_set_ne _ _ _ _ _ e, getD_set_ne _ _ _ _ _ e2]
    exact h.apart j k hj hk hjk
 ·rw [List.length_set] at hj
  by_cases e : j = i
  ·subst e; rw [getD_set_eq _ _ _ _ (by omega)]; exact hg
  ·rw [getD_set_ne _ _ _ _ _ e]; exact h.off j hj
theorem OwnLs.put_new {w0 : World} (h : OwnLs B w0 (.slice (some ⟨g, 0, none⟩) ls.length c) us ls) (hb : Below w0.heap.size w0 w) (hi : i < ls.length) (hB : B ≤ w0.heap.size)
  (hu : w.ownsRow w0.heap.size 5 1 u l.length (bytesV l)) : OwnLs B (w.setCell ⟨g, i, none⟩ u) (.slice (some ⟨g, 0, none⟩) ls.length c) (us.set i u) (ls.set i l) := by
 have hnew : ∀ k, u.ownBlock = some k → w0.heap.size ≤ k := fun k hk => (own_block hu hk).1
 have hu' : w.ownsRow B 5 1 u l.length (bytesV l) := by
  refine ⟨hu.1, ?_⟩
  rcases hu.2 with h1 | ⟨g', cap, cur, h1, h2, h3⟩
  ·exact Or.inl h1
  ·exact Or.inr ⟨g', cap, cur, h1, by omega, h3⟩
 refine (h.below hb).put hi hu' (fun j hj _ => ?_) ?_
 ·cases hj' : (us.getD j nilB).ownBlock with
  | none => exact Or.inl rfl
  | some k =>
   have := (h.block hj hj').2
   exact Or.inr fun e => by have := hnew k e.symm; omega
 ·cases hub : u.ownBlock with
  | none => exact Or.inl rfl
  | some k =>
   have := (own_lt h.top).2.1; have := hnew k hub
   exact Or.inr fun e => by injection e; omega
theorem OwnLs.bytes (h : OwnLs B w v us ls) (hi : i < ls.length)
  (hu : w'.ownsRow B 5 1 (us.getD i nilB) l.length (bytesV l)) (hg : Grew w (us.getD i nilB).ownBlock w' (us.getD i nilB).ownBlock) : OwnLs B w' v us (ls.set i l) := by
 have hv : v.ownBlock = none ∨ v.ownBlock ≠ (us.getD i nilB).ownBlock := by
  rcases h.off i hi with h1 | h1
  ·rw [h1]
   cases v.ownBlock with
   | none => exact Or.inl rfl
   | some k => exact Or.inr (by simp)
  ·exact Or.inr fun e => h1 e.symm
 refine ⟨by rw [List.length_set]; exact World.ownsRow.kept h.top hg.by_ hv, fun j hj => ?_, fun j k hj hk => ?_, fun j hj => ?_⟩
 ·rw [List.length_set] at hj
  by_cases e : j = i
  ·subst e; rw [getD_set_eq _ _ _ _ hj]; exact hu
  ·rw [getD_set_ne _ _ _ _ _ e]
   exact World.ownsRow.kept (h.each j hj) hg.by_ (h.apart j i hj hi e)
 ·rw [List.length_set] at hj hk; exact h.apart j k hj hk
 ·rw [List.length_set] at hj; exact h.off j hj
theorem OwnLs.grew {r r' : Option Nat} (h : OwnLs B w v us ls) (hg : Grew w r w' r') (hr : ∀ k, r = some k → k < B) : OwnLs B w' v us ls := by
 have hk : ∀ {u : Value} {e n : Nat} {xs : List Value}, w.ownsRow B e 1 u n xs → u.ownBlock = none ∨ u.ownBlock ≠ r := fun {u e n xs} hu => by
  cases hub : u.ownBlock with
  | none => exact Or.inl rfl
  | some k => exact Or.inr fun e => by have := (own_block hu hub).1; have := hr k e.symm; omega
 exact ⟨World.ownsRow.kept h.top hg.by_ (hk h.top), fun i hi => World.ownsRow.kept (h.each i hi) hg.by_ (hk (h.each i hi)), h.apart, h.off⟩
theorem make_rows (n : Nat) (hn : n ≤ 100000) (w : World) : (Instr.makeSlice 22 (.int .i64 (n : Int)) (.int .i64 (n : Int))).run Tryz.prog w = .ok (.slice (some ⟨w.heap.size, 0, none⟩) n n) (w.alloc (.cells (madeCells #[.slice none 0 0] n) 37)) :=
 run_make_row' (P := Tryz.prog) 22 37 (.slice none 0 0) 24 Tryz.underlying22 Tryz.info37 rfl .i64 .i64 n (by omega) (by omega) w
theorem made_nils (n : Nat) : (madeCells #[nilB] n).toList = List.replicate n nilB := by
 refine List.ext_getElem (by simp [madeCells]) fun i h1 h2 => ?_
 simp [madeCells, Nat.mod_one]
theorem getD_rep {α : Type} (n i : Nat) (a : α) : (List.replicate n a).getD i a = a := by
 by_cases h : i < n
 ·simp [List.getD, h]
 ·simp [List.getD, h]
theorem ownLs_made (w : World) (B n : Nat) (hB : B ≤ w.heap.size) (hn : n ≤ 100000) : OwnLs B (w.alloc (.cells (madeCells #[.slice none 0 0] n) 37)) (.slice (some ⟨w.heap.size, 0, none⟩) n n) (List.replicate n nilB) (List.replicate n []) := by
 have h := own_new w B (madeCells #[nilB] n) 37 1 n hB (by rw [size_madeCells]; simp) (by unfold maxLen; omega)
 rw [made_nils] at h
 refine ⟨by rw [List.length_replicate]; exact h, fun i hi => ?_, fun i j _ _ _ => Or.inl ?_, fun i _ => Or.inl ?_⟩
 ·rw [getD_rep, getD_rep]; exact World.ownsRow_nil _ _ _ _
 ·rw [getD_rep]; rfl
 ·rw [getD_rep]; rfl
variable {v' : Value}
theorem OwnLs.snoc (h : OwnLs B w v us ls)
  (htop : w'.ownsRow B 37 1 v' (ls.length + 1) (us ++ [u])) (hg : Grew w v.ownBlock w' v'.ownBlock)
  (hu : w.ownsRow B 5 1 u l.length (bytesV l)) (hne : ∀ j, j < ls.length → (us.getD j nilB).ownBlock = none ∨ (us.getD j nilB).ownBlock ≠ u.ownBlock) (hv : u.ownBlock = none ∨ u.ownBlock ≠ v.ownBlock) : OwnLs B w' v' (us ++ [u]) (ls ++ [l]) := by
 have hul := h.ulen
 have hoff : ∀ {x : Value} {n : Nat} {xs : List Value}, w.ownsRow B 5 1 x n xs → (x.ownBlock = none ∨ x.ownBlock ≠ v.ownBlock) → x.ownBlock = none ∨ x.ownBlock ≠ v'.ownBlock := fun {x n xs} hx hxv => by
  rcases hxv with h1 | h1
  ·exact Or.inl h1
  ·rcases hg.own with e | e
   ·rw [e]; exact Or.inr h1
   ·cases hxb : x.ownBlock with
    | none => exact Or.inl rfl
    | some k => exact Or.inr fun q => by have := e k q.symm; have := (own_block hx hxb).2; omega
 have g1 : ∀ i, i < ls.length → (us ++ [u]).getD i nilB = us.getD i nilB ∧ (ls ++ [l]).getD i [] = ls.getD i [] := fun i hi => by
  constructor <;> simp [List.getD, List.getElem?_append_left, hi, hul]
 have g2 : (us ++ [u]).getD ls.length nilB = u ∧ (ls ++ [l]).getD ls.length [] = l := by
  constructor
  ·rw [← hul]; simp [List.getD]
  ·simp [List.getD]
 have hlen : (ls ++ [l]).length = ls.length + 1 := by simp
 refine ⟨by rw [hlen]; exact htop, fun i hi => ?_, fun i j hi hj hij => ?_, fun i hi => ?_⟩
 ·rw [hlen] at hi
  by_cases e : i < ls.length
  ·rw [(g1 i e).1, (g1 i e).2]; exact World.ownsRow.kept (h.each i e) hg.by_ (h.off i e)
  ·obtain rfl : i = ls.length := by omega
   rw [g2.1, g2.2]; exact World.ownsRow.kept hu hg.by_ hv
 ·rw [hlen] at hi hj
  by_cases e : i < ls.length
  ·by_cases e2 : j < ls.length
   ·rw [(g1 i e).1, (g1 j e2).1]; exact h.apart i j e e2 hij
   ·obtain rfl : j = ls.length := by omega
    rw [(g1 i e).1, g2.1]; exact hne i e
  ·obtain rfl : i = ls.length := by omega
   rw [g2.1, (g1 j (by omega)).1]
   rcases hne j (by omega) with h1 | h1
   ·rw [h1]
    cases u.ownBlock with
    | none => exact Or.inl rfl
    | some k => exact Or.inr (by simp)
   ·exact Or.inr fun e => h1 e.symm
 ·rw [hlen] at hi
  by_cases e : i < ls.length
  ·rw [(g1 i e).1]; exact hoff (h.each i e) (h.off i e)
  ·obtain rfl : i = ls.length := by omega
   rw [g2.1]; exact hoff hu hv
theorem ownLs_nil (B : Nat) (w : World) : OwnLs B w nilB [] [] := ⟨World.ownsRow_nil _ _ _ _, fun i hi => by simp at hi, fun i j hi => by simp at hi, fun i hi => by simp at hi⟩
theorem own_rebase (h : w.ownsRow B e 1 v n xs) (hB : B' ≤ B) : w.ownsRow B' e 1 v n xs := by
 refine ⟨h.1, ?_⟩
 rcases h.2 with h1 | ⟨g', cap, cur, h1, h2, h3⟩
 ·exact Or.inl h1
 ·exact Or.inr ⟨g', cap, cur, h1, by omega, h3⟩
theorem OwnLs.snoc_new {wa wx : World} (h : OwnLs B w v us ls) (hB : B ≤ w.heap.size) (hb : Below w.heap.size w wa)
  (hu : wa.ownsRow w.heap.size 5 1 u l.length (bytesV l)) (hx : Below wa.heap.size wa wx) (htop : w'.ownsRow B 37 1 v' (ls.length + 1) (us ++ [u])) (hg : Grew wx v.ownBlock w' v'.ownBlock) : OwnLs B w' v' (us ++ [u]) (ls ++ [l]) := by
 have hnew : ∀ k, u.ownBlock = some k → w.heap.size ≤ k := fun k hk => (own_block hu hk).1
 have ne : ∀ {x : Value} {e n : Nat} {xs : List Value}, w.ownsRow B e 1 x n xs → x.ownBlock = none ∨ x.ownBlock ≠ u.ownBlock := fun {x e n xs} hx => by
  cases hxb : x.ownBlock with
  | none => exact Or.inl rfl
  | some k => exact Or.inr fun q => by have := (own_block hx hxb).2; have := hnew k q.symm; omega
 refine ((h.below hb).below hx).snoc htop hg (own_rebase (own_below hu hx) hB) (fun j hj => ne (h.each j hj)) ?_
 rcases ne h.top with h1 | h1
 ·rw [h1]
  cases u.ownBlock with
  | none => exact Or.inl rfl
  | some k => exact Or.inr (by simp)
 ·exact Or.inr fun e => h1 e.symm
theorem own_one (h : w.ownsRow B e 1 v n xs) : v.oneCell' = true := by
 obtain ⟨g, c, rfl, _⟩ := own_slice h
 rfl
def numsV (l : List Nat) : List Value := l.map fun (i : Nat) => Value.int .i64 (i : Int)
theorem numsV_at {l : List Nat} (h : i < l.length) : (numsV l)[i]? = some (.int .i64 ((l.getD i 0 : Nat) : Int)) := by simp [numsV, List.getD, h]
theorem info_int : (Tryz.prog.info? 3).map (fun i => (i.zero, i.size, i.bytes)) = some (some (.int .i64 0), 1, 8) := by kernel_rfl
set_option maxRecDepth 100000 in
theorem wpList_append_num (w : World) {ops : Array Oper} {rest : List Oper} {o : Oper} {a : Act} {Q : Exit → Act → World → Prop} (hgd : o.guard = none) (s x : Operand)
  (ho : o.op = .call { callee := .builtin .append, args := #[s, x], argTypes := #[74, 74] })
  (base : Nat) (v : Value) (n : Nat) (xs : List Value) (hsv : a.eval s = v) (hown : w.ownsRow base 3 1 v n xs)
  (b : Nat) (u : Value) (hx : a.eval x = .slice (some ⟨b, 0, none⟩) 1 1) (hb : w.cell? ⟨b, 0, none⟩ = some u) (hu : u.oneCell' = true) (h63 : n + 1 ≤ 100000) (hbase : base ≤ w.heap.size)
  (h : ∀ v' w', w'.ownsRow base 3 1 v' (n + 1) (xs ++ [u]) → Grew w v.ownBlock w' v'.ownBlock → wpList Tryz.prog ops Q rest (a.put o.dst v') w') : wpList Tryz.prog ops Q (o :: rest) a w := by
 obtain ⟨i0, hi0, hz⟩ := Option.map_eq_some_iff.1 info_int
 simp only [Prod.mk.injEq] at hz
 obtain ⟨hz0, hz1, hz2⟩ := hz
 have hsrc : Src Tryz.prog 1 74 (.slice (some ⟨b, 0, none⟩) 1 1) 1 [u] w := Src.ofSlice _ Tryz.underlying74 ⟨b, 0, none⟩ 1 1 [u] rfl (fun j y hy => by
  match j, hy with
  | 0, hy => injection hy with hy; subst hy; simpa [Addr.add] using hb
  | j + 1, hy => simp at hy) (fun y hy => by rw [List.mem_singleton.1 hy]; exact hu)
 exact wpList_append_src w hgd s x 74 74 ho base 3 i0 (.int .i64 0) 1 8 Tryz.underlying74 hi0 hz0 hz1 hz2 rfl v n xs hsv hown (.slice (some ⟨b, 0, none⟩) 1 1) 1 [u] hx hsrc (by unfold maxLen; omega) (by omega) hbase fun v' w' h1 h2 _ => h v' w' h1 h2
end Go.Proofs.YtilljaneegbhlaaGreatDoor
