import Derived.Test.YtilljaneegbhlaaGreatDoorZJBase
import Derived.Test.YtilljaneegbhlaaGreatDoorZCDec
namespace Go.Proofs.YtilljaneegbhlaaGreatDoor
open Go.RowKit Go.Deep Dk Qk Go.Maps Hf
def tsec (c : Cf) (s : Nat) : Nat := 1 + c.s.toNat * c.k.toNat + s
def tbase (c : Cf) (s : Int) : Int := c.secs - c.t + s
variable {c : Cf}
theorem tsec_eq (h : CfRight c) (s : Nat) : tbase c s = ((tsec c s : Nat) : Int) := by
 obtain ⟨_, _, h3, _, _, _, _, h8, _⟩ := h
 obtain ⟨k, hk⟩ := Int.eq_ofNat_of_zero_le (show 0 ≤ c.k by omega)
 obtain ⟨z, hz⟩ := Int.eq_ofNat_of_zero_le (show 0 ≤ c.s by omega)
 unfold tbase tsec Cf.secs
 rw [hk, hz]
 simp only [Int.toNat_natCast]
 push_cast
 omega
variable {q : Rk} {s : Nat}
theorem tsec_lt (hf : c.fits q = true) (hs : (s : Int) < c.t) : tsec c s < q.k := by
 obtain ⟨hr, _, hk⟩ := fits_right hf
 have := tsec_eq hr s
 unfold tbase at this
 omega
theorem tsec_inj {s' : Nat} (h : tsec c s = tsec c s') : s = s' := by unfold tsec at h; omega
def frg (k d : Nat) (bs : List (List UInt8)) : List UInt8 := combo (Cd.cf k d) bs 108 k
theorem frg_length (k d : Nat) (bs : List (List UInt8)) : (frg k d bs).length = 108 := combo_length _ _ _ _
def tF (k : Nat) (s g : Int) (bs : List (List UInt8)) (d : Nat) : Fr := ⟨3, d, s, g, frg k d bs⟩
theorem tF_is (k : Nat) (s g : Int) (bs : List (List UInt8)) (d : Nat) : (tF k s g bs d).is := frg_length k d bs
variable {g : Int} {bs : List (List UInt8)}
theorem tF_right {k : Nat} {s : Int} {d : Nat} (hd : d < 8) (h0 : 0 ≤ s) (h1 : s < 64) (h2 : 0 ≤ g) (h3 : g ≤ 1152921504606846976) : rightB (tF k s g bs d) = true :=
 decide_eq_true (show (1 : Int) ≤ 3 ∧ (3 : Int) ≤ 3 ∧ 0 ≤ (d : Int) ∧ (d : Int) < 8 ∧ 0 ≤ s ∧ s < 64 ∧ 0 ≤ g ∧ g ≤ 1152921504606846976 from ⟨by decide, by decide, by omega, by omega, h0, h1, h2, h3⟩)
def stops (base : Int) (F : Nat → List UInt8) (U : List Nat) (m : Nat) : List Rop := (U.drop m).map fun (d : Nat) => .w (d : Int) base (F d)
def tops (base : Int) (F : Nat → List UInt8) (U : List Nat) : List Rop := stops base F U 0 ++ fops U 0
variable {U : List Nat}
theorem stops_next {base : Int} {F : Nat → List UInt8} {m : Nat} (h : m < U.length) : stops base F U m = .w (U.getD m 0 : Nat) base (F (U.getD m 0)) :: stops base F U (m + 1) := by
 unfold stops
 rw [drop_at h, List.map_cons]
theorem stops_end (base : Int) (F : Nat → List UInt8) (U : List Nat) : stops base F U U.length = [] := by unfold stops; simp
theorem mem_tops {base : Int} {F : Nat → List UInt8} {o : Rop} (h : o ∈ tops base F U) : (∃ d : Nat, d ∈ U ∧ o = .w (d : Int) base (F d)) ∨ ∃ d : Nat, d ∈ U ∧ o = .f (d : Int) := by
 rcases List.mem_append.1 h with h | h
 ·unfold stops at h
  obtain ⟨d, hd, rfl⟩ := List.mem_map.1 h; exact Or.inl ⟨d, List.mem_of_mem_drop hd, rfl⟩
 ·exact Or.inr (mem_fops h)
theorem tops_fit {base : Nat} {F : Nat → List UInt8} (hb : base < q.k) (hF : ∀ d, d < q.n → (F d).length = 128) :
  ∀ o ∈ tops base F (ups q), o.fit q.n q.k fun j => (q.s j).dead := fun o ho => by
 rcases mem_tops ho with ⟨d, hd, rfl⟩ | ⟨d, hd, rfl⟩
 ·obtain ⟨h1, h2⟩ := mem_ups.1 hd
  exact ⟨d, base, rfl, rfl, h1, hb, hF d h1, h2⟩
 ·obtain ⟨h1, h2⟩ := mem_ups.1 hd
  exact ⟨d, rfl, h1, h2⟩
theorem ons_stops (base : Nat) (F : Nat → List UInt8) : ∀ (U : List Nat) (s : Nat → St), U.Nodup → ∀ d, ons s (U.map fun (d : Nat) => Rop.w (d : Int) (base : Int) (F d)) d = if d ∈ U then (s d).write base (F d) else s d
 | [], s, _, d => by simp [ons_nil]
 | u :: U, s, hn, d => by
  obtain ⟨h1, h2⟩ := List.nodup_cons.1 hn; rw [List.map_cons, ons_cons]
  have e1 : (Rop.w (u : Int) (base : Int) (F u)).on s = Dk.upd s u ((s u).write base (F u)) := by
   show Dk.upd s (u : Int).toNat ((s (u : Int).toNat).write (base : Int).toNat (F u)) = _
   rw [Int.toNat_natCast, Int.toNat_natCast]
  rw [e1, ons_stops base F U _ h2]
  by_cases e : d = u
  ·subst e
   rw [if_neg h1, upd_same, if_pos (List.mem_cons_self ..)]
  ·rw [upd_other _ _ e]
   by_cases hm : d ∈ U
   ·rw [if_pos hm, if_pos (List.mem_cons_of_mem _ hm)]
   ·rw [if_neg hm, if_neg (by rw [List.mem_cons]; exact fun h => h.elim e hm)]
theorem ons_tops (base : Nat) (F : Nat → List UInt8) (U : List Nat) (s : Nat → St) (hU : U.Nodup) (d : Nat) : ons s (tops base F U) d = if d ∈ U then ((s d).write base (F d)).flush else s d := by
 unfold tops stops fops
 rw [List.drop_zero, ons_append, ons_fops U _ hU, ons_stops base F U s hU]
 by_cases h : d ∈ U
 ·rw [if_pos h, if_pos h, if_pos h]
 ·rw [if_neg h, if_neg h, if_neg h]
def thas (c : Cf) (q : Rk) (s : Int) : Bool := c.fits q && (decide (0 ≤ s) && decide (s < c.t))
def tright (c : Cf) (g : Int) (bs : List (List UInt8)) : Bool := (decide (1 ≤ g) && decide (g ≤ 1152921504606846976)) && decide ((bs.length : Int) = c.k)
theorem tright_iff : tright c g bs = true ↔ 1 ≤ g ∧ g ≤ 1152921504606846976 ∧ (bs.length : Int) = c.k := by
 unfold tright
 simp only [Bool.and_eq_true, decide_eq_true_eq, and_assoc]
theorem thas_iff {s : Int} : thas c q s = true ↔ c.fits q = true ∧ 0 ≤ s ∧ s < c.t := by
 unfold thas
 simp only [Bool.and_eq_true, decide_eq_true_eq]
def topsOf (c : Cf) (s g : Int) (bs : List (List UInt8)) (q : Rk) : List Rop := tops (tbase c s) (fun d => put (tF c.k.toNat s g bs d)) (ups q)
def Rk.tput (q : Rk) (c : Cf) (s g : Int) (bs : List (List UInt8)) : Rk := if (thas c q s && tright c g bs) = true then runS q (topsOf c s g bs q) else q
def Rk.tputC (q : Rk) (c : Cf) (s g : Int) (bs : List (List UInt8)) : Int := if (thas c q s && tright c g bs) = true then runC q (topsOf c s g bs q) else 1
theorem tput_n (q : Rk) (c : Cf) (s g : Int) (bs : List (List UInt8)) : (Rk.tput q c s g bs).n = q.n := by unfold Rk.tput; split; exact runS_n _ _; rfl
def tfr (q : Rk) (c : Cf) (s : Int) (d : Nat) : Option Fr :=
 if (qfound q d (tbase c s) 3 d s && decide (1 ≤ (qgot q d (tbase c s) 3 d s).g)) = true then some (qgot q d (tbase c s) 3 d s) else none
def tlN (q : Rk) (c : Cf) (s : Int) (m : Nat) : List (Nat × Fr) := (List.range m).filterMap fun d => (tfr q c s d).map fun f => (d, f)
def tnewN (q : Rk) (c : Cf) (s : Int) (m : Nat) : Int := (tlN q c s m).foldl (fun n p => max n p.2.g) 0
def tptsN (q : Rk) (c : Cf) (s : Int) (m : Nat) : List Pt := ((tlN q c s m).filter fun p => decide (p.2.g = tnewN q c s m)).map fun p => ((p.1 : Int), p.2.d)
def tnew (q : Rk) (c : Cf) (s : Int) : Int := if thas c q s = true then tnewN q c s q.n else 0
def tpts (q : Rk) (c : Cf) (s : Int) : List Pt := if thas c q s = true then tptsN q c s q.n else []
def tcode (q : Rk) (c : Cf) (s : Int) : Int :=
 if thas c q s = true then (if q.off = true ∨ ((ups q).length : Int) < c.k then 7 else if ((tpts q c s).length : Int) < c.k then 6 else 0) else 1
section
variable {q : Rk} {c : Cf} {s : Int} {m : Nat} {f : Fr}
theorem tlN_yes (h : tfr q c s m = some f) : tlN q c s (m + 1) = tlN q c s m ++ [(m, f)] := by
 unfold tlN
 rw [List.range_succ, List.filterMap_append]
 simp [h]
theorem tlN_no (h : tfr q c s m = none) : tlN q c s (m + 1) = tlN q c s m := by
 unfold tlN
 rw [List.range_succ, List.filterMap_append]
 simp [h]
theorem tnewN_zero : tnewN q c s 0 = 0 := rfl
theorem tnewN_yes (h : tfr q c s m = some f) : tnewN q c s (m + 1) = max (tnewN q c s m) f.g := by
 unfold tnewN
 rw [tlN_yes h, List.foldl_append]; rfl
theorem tnewN_no (h : tfr q c s m = none) : tnewN q c s (m + 1) = tnewN q c s m := by
 unfold tnewN
 rw [tlN_no h]
theorem tptsN_no (h : tfr q c s m = none) : tptsN q c s (m + 1) = tptsN q c s m := by
 unfold tptsN
 rw [tlN_no h, tnewN_no h]
theorem tnewN_le (q : Rk) (c : Cf) (s : Int) (m : Nat) : 0 ≤ tnewN q c s m ∧ ∀ p ∈ tlN q c s m, p.2.g ≤ tnewN q c s m := by
 induction m with
 | zero => exact ⟨Int.le_refl _, fun p hp => by simp [tlN] at hp⟩
 | succ m ih =>
  cases h : tfr q c s m with
  | none => rw [tnewN_no h, tlN_no h]; exact ih
  | some f =>
   rw [tnewN_yes h, tlN_yes h]; refine ⟨by omega, fun p hp => ?_⟩
   rcases List.mem_append.1 hp with hp | hp
   ·have := ih.2 p hp; omega
   ·obtain rfl : p = (m, f) := by simpa using hp
    show f.g ≤ _
    omega
theorem tptsN_less (h : tfr q c s m = some f) (hg : f.g < tnewN q c s m) : tnewN q c s (m + 1) = tnewN q c s m ∧ tptsN q c s (m + 1) = tptsN q c s m := by
 have e : tnewN q c s (m + 1) = tnewN q c s m := by rw [tnewN_yes h]; omega
 refine ⟨e, ?_⟩
 unfold tptsN
 rw [e, tlN_yes h, List.filter_append]
 have hne : decide (f.g = tnewN q c s m) = false := decide_eq_false (by omega)
 simp [hne]
theorem tptsN_same (h : tfr q c s m = some f) (hg : f.g = tnewN q c s m) : tnewN q c s (m + 1) = tnewN q c s m ∧ tptsN q c s (m + 1) = tptsN q c s m ++ [((m : Int), f.d)] := by
 have e : tnewN q c s (m + 1) = tnewN q c s m := by rw [tnewN_yes h]; omega
 refine ⟨e, ?_⟩
 unfold tptsN
 rw [e, tlN_yes h, List.filter_append]
 have hne : decide (f.g = tnewN q c s m) = true := decide_eq_true hg
 simp [hne]
theorem tptsN_more (h : tfr q c s m = some f) (hg : tnewN q c s m < f.g) : tnewN q c s (m + 1) = f.g ∧ tptsN q c s (m + 1) = [((m : Int), f.d)] := by
 have e : tnewN q c s (m + 1) = f.g := by rw [tnewN_yes h]; omega
 refine ⟨e, ?_⟩
 unfold tptsN
 rw [e, tlN_yes h, List.filter_append, List.filter_eq_nil_iff.2 (fun p hp => by have := (tnewN_le q c s m).2 p hp; simp; omega)]
 simp
theorem tfr_some (h : tfr q c s m = some f) : f.is ∧ 1 ≤ f.g := by
 unfold tfr at h
 split at h
 ·rename_i hb
  rw [Bool.and_eq_true, decide_eq_true_eq] at hb; obtain rfl := Option.some.inj h; exact ⟨qgot_is _ _ _ _ _ _, hb.2⟩
 ·cases h
theorem tptsN_mem (q : Rk) (c : Cf) (s : Int) (m : Nat) : ∀ p ∈ tptsN q c s m, ∃ d f, d < m ∧ tfr q c s d = some f ∧ p = ((d : Int), f.d) := fun p hp => by
 unfold tptsN at hp
 obtain ⟨x, hx, rfl⟩ := List.mem_map.1 hp
 have hx := (List.mem_filter.1 hx).1
 unfold tlN at hx
 obtain ⟨d, hd, hx⟩ := List.mem_filterMap.1 hx
 cases h : tfr q c s d with
 | none => rw [h] at hx; cases hx
 | some f =>
  rw [h] at hx; obtain rfl := Option.some.inj hx; exact ⟨d, f, List.mem_range.1 hd, h, rfl⟩
theorem tptsN_nodup (q : Rk) (c : Cf) (s : Int) (m : Nat) : ((tptsN q c s m).map (·.1)).Nodup := by
 have h1 : (tlN q c s m).map (·.1) = (List.range m).filter fun d => (tfr q c s d).isSome := by
  induction m with
  | zero => rfl
  | succ m ih =>
   rw [List.range_succ, List.filter_append, ← ih]
   cases h : tfr q c s m with
   | none => rw [tlN_no h]; simp [h]
   | some f => rw [tlN_yes h]; simp [h]
 have hsub : (tptsN q c s m).map (·.1) = (((tlN q c s m).filter fun p => decide (p.2.g = tnewN q c s m)).map (·.1)).map fun d : Nat => (d : Int) := by
  unfold tptsN; rw [List.map_map, List.map_map]; rfl
 have h2 : ((tlN q c s m).map (·.1)).Nodup := by rw [h1]; exact List.Nodup.sublist List.filter_sublist List.nodup_range
 rw [hsub]
 have h3 : (((tlN q c s m).filter fun p => decide (p.2.g = tnewN q c s m)).map (·.1)).Nodup := List.Nodup.sublist (List.Sublist.map _ List.filter_sublist) h2
 unfold List.Nodup at h3 ⊢
 rw [List.pairwise_map]
 exact h3.imp fun hne e => hne (by omega)
theorem tptsN_length (q : Rk) (c : Cf) (s : Int) (m : Nat) : (tptsN q c s m).length ≤ m := by
 unfold tptsN tlN
 rw [List.length_map]
 refine Nat.le_trans (List.length_filter_le _ _) (Nat.le_trans (List.length_filterMap_le _ _) ?_)
 simp
end
theorem tl_told {q : Rk} {c : Cf} {s g : Int} {k : Nat} {bs : List (List UInt8)} (hg : 1 ≤ g) (P : Nat → Bool) : ∀ (m : Nat), (∀ d, d < m → (P d = true → tfr q c s d = some (tF k s g bs d)) ∧ (P d = false → ∀ f, tfr q c s d = some f → f.g < g)) →
  ((List.range m).filter P = [] ∧ tnewN q c s m < g) ∨ ((List.range m).filter P ≠ [] ∧ tnewN q c s m = g ∧ tptsN q c s m = ((List.range m).filter P).map fun (d : Nat) => ((d : Int), frg k d bs))
 | 0, _ => Or.inl ⟨rfl, by show (0 : Int) < g; omega⟩
 | m + 1, h => by
  have ih := tl_told hg P m fun d hd => h d (by omega)
  have hm := h m (Nat.lt_succ_self m)
  cases hp : P m with
  | true =>
   have ht := hm.1 hp; have hgd : (tF k s g bs m).g = g := rfl; have hdd : (tF k s g bs m).d = frg k m bs := rfl; rw [List.range_succ, List.filter_append]; refine Or.inr ⟨by simp [hp], ?_⟩
   rcases ih with ⟨e0, e1⟩ | ⟨e0, e1, e2⟩
   ·obtain ⟨a1, a2⟩ := tptsN_more ht (by rw [hgd]; exact e1)
    rw [a1, a2, hgd, hdd, e0]
    simp [hp]
   ·obtain ⟨a1, a2⟩ := tptsN_same ht (by rw [hgd, e1])
    rw [a1, a2, e1, e2, hdd]
    simp [hp]
  | false =>
   have hf : (List.range (m + 1)).filter P = (List.range m).filter P := by rw [List.range_succ, List.filter_append]; simp [hp]
   rw [hf]
   cases ht : tfr q c s m with
   | none => rw [tnewN_no ht, tptsN_no ht]; exact ih
   | some f =>
    have hlt := hm.2 hp f ht
    rcases ih with ⟨e0, e1⟩ | ⟨e0, e1, e2⟩
    ·exact Or.inl ⟨e0, by rw [tnewN_yes ht]; omega⟩
    ·obtain ⟨a1, a2⟩ := tptsN_less ht (by rw [e1]; exact hlt)
     exact Or.inr ⟨e0, by rw [a1, e1], by rw [a2, e2]⟩
theorem tl_none {q : Rk} {c : Cf} {s : Int} : ∀ (m : Nat), (∀ d, d < m → tfr q c s d = none) → tnewN q c s m = 0 ∧ tptsN q c s m = []
 | 0, _ => ⟨rfl, rfl⟩
 | m + 1, h => by
  obtain ⟨e1, e2⟩ := tl_none m fun d hd => h d (by omega)
  have hm := h m (Nat.lt_succ_self m); exact ⟨by rw [tnewN_no hm, e1], by rw [tptsN_no hm, e2]⟩
variable {q : Rk} {c : Cf} {s d : Nat}
theorem tfr_put {f : Fr} (hq : q.Ok) (hf : c.fits q = true) (hs : (s : Int) < c.t) (hd : d < q.n) (ho : q.off = false) (hl : (q.s d).dead = false) (hi : f.is) (hr : rightB f = true) (hk : f.k = 3) (hsl : f.s = d) (ht : f.t = s) (hg : 1 ≤ f.g)
  (hv : (q.s d).read (tsec c s) = put f) : tfr q c s d = some f := by
 obtain ⟨g1, g2⟩ := get_put (kind := 3) (slot := d) (stripe := s) hq hd ho hl (tsec_lt hf hs) hv hi hr (by unfold asked; rw [hk, hsl, ht]; simp)
 unfold tfr
 rw [tsec_eq (fits_right hf).1, g1, g2, decide_eq_true hg, Bool.and_self, if_pos rfl]
theorem tfr_bad (hr : CfRight c) (h : q.off = true ∨ (q.s d).dead = true ∨ goodB ((q.s d).read (tsec c s)) = false) : tfr q c s d = none := by
 unfold tfr
 rw [tsec_eq hr, get_bad h, Bool.false_and]
 rfl
theorem diffP_nd : ∀ l : List Pt, (l.map (·.1)).Nodup → diffP l = l := by
 refine rev_ind (fun _ => rfl) fun l p ih h => ?_
 rw [List.map_append] at h
 have hn := List.nodup_append.1 h
 rw [diffP_snoc, ih hn.1, if_neg]
 intro hh
 have := hasP_mem.1 hh
 exact hn.2.2 _ this _ (List.mem_cons_self ..) rfl
variable {n : Nat}
theorem wrongAt_no {ps : List Pt} (h : ∀ p ∈ ps, 0 ≤ p.1 ∧ p.1 < n ∧ p.2.length = 108) : ¬ 0 ≤ wrongAt n ps := by
 unfold wrongAt
 cases hp : ps with
 | nil => show ¬ (0 : Int) ≤ -1; decide
 | cons a l =>
  rw [← hp]
  have ha : (ps.getD 0 pt0).2.length = 108 := by rw [hp]; exact (h a (by rw [hp]; exact List.mem_cons_self ..)).2.2
  rw [firstAt_none (wrongP n (ps.getD 0 pt0).2.length) pt0 ps fun x hx => ?_]
  ·decide
  ·have hm : ps.getD x pt0 ∈ ps := by simp only [List.getD, List.getElem?_eq_getElem hx, Option.getD_some]; exact List.getElem_mem hx
   obtain ⟨p1, p2, p3⟩ := h _ hm; unfold wrongP; rw [ha, p3, decide_eq_true ⟨p1, p2⟩]; rfl
variable {k : Nat}
theorem chosen_nd {ps : List Pt} (h : (ps.map (·.1)).Nodup) : chosen k ps = ps.take k := by unfold chosen; rw [diffP_nd ps h]
theorem rowsT_ext {ls ms : List (List UInt8)} (hl : ls.length = ms.length) (h : ∀ x, x < ls.length → ls.getD x [] = ms.getD x []) : ls = ms := by
 refine List.ext_getElem hl fun i h1 h2 => ?_
 have := h i h1
 simpa [List.getD, h1, h2] using this
variable {bs : List (List UInt8)}
theorem blocks_uniq {qs : List Pt} {B0 : List (List UInt8)} (hk : k ≤ 8) (hq : (qs.map (·.1)).Nodup) (hl : qs.length = k) (hat : ∀ p ∈ qs, 0 ≤ p.1 ∧ p.1 < 8) (hb : BlocksOf k 108 qs bs) (h1 : B0.length = k) (h2 : ∀ i, i < k → (B0.getD i []).length = 108)
  (hp : ∀ p ∈ qs, p.2 = combo (Cd.cf k p.1.toNat) B0 108 k) : bs = B0 := by
 obtain ⟨b1, b2, b3⟩ := hb
 have key : ∀ x, x < 108 → ∀ j, j < k → mat bs j x = mat B0 j x := fun x hx j hj => by
  refine Cd.xor_eq_of_zero (Cd.rows_ns (k := k) (ats := qs.map fun p => p.1.toNat) (v := fun j => mat bs j x ^^^ mat B0 j x) (by omega) ?_ (by rw [List.length_map, hl]; exact Nat.le_refl _) (fun a ha => ?_) (fun j => Gf.xor_lt (mat_bm _ _ _) (mat_bm _ _ _)) (fun a ha => ?_) j hj)
  ·unfold List.Nodup at *
   rw [List.pairwise_map] at hq ⊢; refine List.Pairwise.imp_of_mem (fun {a b} ha hb hne e => ?_) hq; have h1 := hat a ha; have h2 := hat b hb; exact hne (by omega)
  ·obtain ⟨p, hp, rfl⟩ := List.mem_map.1 ha
   have := hat p hp; omega
  ·obtain ⟨p, hpm, rfl⟩ := List.mem_map.1 ha
   have e1 := b3 p hpm x hx
   have e2 : (p.2.getD x 0).toNat = Cd.dot (Cd.cf k p.1.toNat) (fun i => mat B0 i x) k := by
    rw [hp p hpm]; exact combo_nat hx k h2
   rw [Cd.dot_v_xor (fun j => mat_bm bs j x) (fun j => mat_bm B0 j x) k, e1, e2, Nat.xor_self]
 refine rowsT_ext (by rw [b1, h1]) fun i hi => ?_
 rw [b1] at hi
 refine ext_getD (by rw [b2 i hi, h2 i hi]) fun x hx => ?_
 exact key x (by rw [h2 i hi] at hx; exact hx) i hi
theorem parts_blocks {bs' : List (List UInt8)} {L : List Nat} (hk : k ≤ 8) (hn : L.Nodup) (hl : k ≤ L.length) (h8 : ∀ d ∈ L, d < 8) (b1 : bs.length = k) (b2 : ∀ d ∈ bs, d.length = 108)
  (h : BlocksOf k 108 (chosen k (L.map fun (d : Nat) => ((d : Int), frg k d bs))) bs') : bs' = bs := by
 have hnd : ((L.map fun (d : Nat) => ((d : Int), frg k d bs)).map (·.1)).Nodup := by
  rw [List.map_map]; unfold List.Nodup at *; rw [List.pairwise_map]
  exact hn.imp fun hne e => hne (by have : ((_ : Nat) : Int) = ((_ : Nat) : Int) := e; omega)
 rw [chosen_nd hnd] at h
 have hmem : ∀ p ∈ (L.map fun (d : Nat) => ((d : Int), frg k d bs)).take k, ∃ d : Nat, d < 8 ∧ p = ((d : Int), frg k d bs) := fun p hp => by
  obtain ⟨d, hd, rfl⟩ := List.mem_map.1 (List.mem_of_mem_take hp); exact ⟨d, h8 d hd, rfl⟩
 refine blocks_uniq hk (List.Nodup.sublist (List.Sublist.map _ (List.take_sublist _ _)) hnd) (by rw [List.length_take, List.length_map]; omega) (fun p hp => ?_) h b1 (fun i hi => ?_) (fun p hp => ?_)
 ·obtain ⟨d, hd, rfl⟩ := hmem p hp
  exact ⟨by show (0 : Int) ≤ (d : Int); omega, by show (d : Int) < 8; omega⟩
 ·have : bs.getD i [] ∈ bs := by simp only [List.getD, List.getElem?_eq_getElem (show i < bs.length by omega), Option.getD_some]; exact List.getElem_mem _
  exact b2 _ this
 ·obtain ⟨d, hd, rfl⟩ := hmem p hp
  show frg k d bs = combo (Cd.cf k (d : Int).toNat) bs 108 k
  rw [Int.toNat_natCast]; rfl
structure Pl (q : Rk) (c : Cf) : Prop where
 ok : q.Ok
 off : q.off = false
 rem : q.rem = -1
 fits : c.fits q = true
 sok : ∀ d, d < q.n → (q.s d).Ok
 wt : ∀ d p, d < q.n → (q.s d).wt p = none
theorem pl_new (h1 : 1 ≤ n) (h2 : n ≤ 8) (h3 : 1 ≤ k) (h4 : k ≤ 128) (hf : c.fits (newRk n k) = true) : Pl (newRk n k) c :=
 ⟨newRk_ok h1 h2 h3 h4, rfl, rfl, hf, fun _ _ => new_ok h4, fun _ _ _ => rfl⟩
structure StIn (c : Cf) (s : Nat) (g : Int) (bs : List (List UInt8)) : Prop where
 s1 : (s : Int) < c.t
 g0 : 1 ≤ g
 g1 : g ≤ 1152921504606846976
 len : bs.length = c.k.toNat
 is : ∀ d ∈ bs, d.length = 108
variable {g : Int}
theorem StIn.frame (h : StIn c s g bs) (hc : CfRight c) {d : Nat} (hd : d < 8) : rightB (tF c.k.toNat s g bs d) = true :=
 tF_right hd (by omega) (by have := h.s1; have := hc.2.2.2.2.2.2.1; omega) (by have := h.g0; omega) h.g1
theorem StIn.put128 (h : StIn c s g bs) (hc : CfRight c) {d : Nat} (hd : d < 8) : (put (tF c.k.toNat s g bs d)).length = 128 := put_len (tF_is _ _ _ _ _) (h.frame hc hd)
theorem StIn.ok (h : StIn c s g bs) (hf : c.fits q = true) : (thas c q s && tright c g bs) = true := by
 have hr := (fits_right hf).1
 rw [Bool.and_eq_true]
 exact ⟨thas_iff.2 ⟨hf, by omega, h.s1⟩, tright_iff.2 ⟨h.g0, h.g1, by rw [h.len]; have := hr.2.2.1; omega⟩⟩
theorem zer_bad : goodB zer = false := good_zeros
end Go.Proofs.YtilljaneegbhlaaGreatDoor
