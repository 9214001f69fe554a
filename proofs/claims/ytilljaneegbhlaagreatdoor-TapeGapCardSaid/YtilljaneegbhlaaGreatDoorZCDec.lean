import Derived.Test.YtilljaneegbhlaaGreatDoorZCSolve
namespace Go.Proofs.YtilljaneegbhlaaGreatDoor
open Go.RowKit Gf Cd
theorem slp_take {B m cap : Nat} {w : World} {a : Option Addr} {ps : List Pt} (h : SlP B w (.slice a ps.length cap) ps) (hm : m ≤ ps.length) : SlP B w (.slice a m cap) (ps.take m) := by
 have hl : (ps.take m).length = m := by rw [List.length_take]; omega
 rcases Nat.eq_zero_or_pos m with rfl | h0
 ·exact Or.inl ⟨rfl, _, _, rfl⟩
 rcases h with ⟨rfl, _⟩ | ⟨b, o, cap', h1, h2, h3, _, h5⟩
 ·simp at hm; omega
 ·injection h1 with h1 _ h1'
  subst h1 h1'; refine Or.inr ⟨b, o, cap, by rw [hl], h2, fun y hy => ?_, by omega, by omega⟩; rw [hl] at hy; have := h3 y (by omega)
  rwa [show (ps.take m).getD y pt0 = ps.getD y pt0 by simp [List.getD, hy]]
theorem wrongAt_none {n : Nat} {ps : List Pt} (h : ¬ 0 ≤ wrongAt n ps) : ∀ p ∈ ps, 0 ≤ p.1 ∧ p.1 < n ∧ p.2.length = (ps.getD 0 pt0).2.length := by
 have h1 := firstAt_any (wrongP n (ps.getD 0 pt0).2.length) ps 0
 rw [decide_eq_false (show ¬ firstAt (wrongP n (ps.getD 0 pt0).2.length) ps 0 ≥ 0 from h)] at h1
 intro p hp
 have h2 : wrongP n (ps.getD 0 pt0).2.length p = false := by
  cases hx : wrongP n (ps.getD 0 pt0).2.length p
  ·rfl
  ·rw [List.any_eq_true.2 ⟨p, hp, hx⟩] at h1; cases h1
 unfold wrongP at h2
 rw [Bool.or_eq_false_iff] at h2
 obtain ⟨h3, h4⟩ := h2
 have h5 : 0 ≤ p.1 ∧ p.1 < n := by simpa using h3
 exact ⟨h5.1, h5.2, by simpa using h4⟩
theorem getD_app {l m : List UInt8} {j : Nat} (h : j < l.length) : (l ++ m).getD j 0 = l.getD j 0 := by
 simp only [List.getD]
 rw [List.getElem?_append_left h]
variable {k i : Nat}
theorem lines_dot {ps : List Pt} (hi : i < ps.length) (v : Nat → Nat) : dot (mat (linesP k ps) i) v k = dot (cf k (ps.getD i pt0).1.toNat) v k := by
 refine dot_congr fun j hj => ⟨?_, rfl⟩
 show (((linesP k ps).getD i []).getD j 0).toNat = _
 rw [linesP_tab, tabL_getD _ hi]
 unfold lineP
 rw [getD_app (by rw [rowB_length]; exact hj)]
 exact rowB_nat hj
theorem lines_data {x : Nat} {ps : List Pt} (hi : i < ps.length) : mat (linesP k ps) i (k + x) = ((ps.getD i pt0).2.getD x 0).toNat := by
 show (((linesP k ps).getD i []).getD (k + x) 0).toNat = _
 rw [linesP_tab, tabL_getD _ hi]
 unfold lineP
 congr 1
 simp only [List.getD]
 rw [List.getElem?_append_right (by rw [rowB_length]; omega), rowB_length, Nat.add_sub_cancel_left]
theorem lines_ns {ps : List Pt} (hk : k ≤ 8) (hl : ps.length = k) (hn : (ps.map (·.1)).Nodup) (hat : ∀ p ∈ ps, 0 ≤ p.1 ∧ p.1 < 8) : NSing k (mat (linesP k ps)) := by
 intro v hv hz
 refine rows_ns (ats := ps.map fun p => p.1.toNat) (by omega) ?_ (by rw [List.length_map, hl]; exact Nat.le_refl _) (fun a ha => ?_) hv (fun a ha => ?_)
 ·unfold List.Nodup at *
  rw [List.pairwise_map] at hn ⊢; refine List.Pairwise.imp_of_mem (fun {a b} ha hb hne e => ?_) hn; have h1 := hat a ha; have h2 := hat b hb; exact hne (by omega)
 ·obtain ⟨p, hp, rfl⟩ := List.mem_map.1 ha
  have := hat p hp; omega
 ·obtain ⟨p, hp, rfl⟩ := List.mem_map.1 ha
  obtain ⟨i, hi, rfl⟩ := List.mem_iff_getElem.1 hp; have := hz i (by omega); rw [lines_dot hi v, show ps.getD i pt0 = ps[i] by simp [List.getD, hi]] at this; exact this
def chosen (k : Nat) (ps : List Pt) : List Pt := (diffP ps).take k
def BlocksOf (k s : Nat) (qs : List Pt) (bs : List (List UInt8)) : Prop := bs.length = k ∧ (∀ i, i < k → (bs.getD i []).length = s) ∧ ∀ p ∈ qs, ∀ x, x < s → dot (cf k p.1.toNat) (fun j => mat bs j x) k = (p.2.getD x 0).toNat
def DecR (k s : Nat) (qs : List Pt) (w : World) (e : Ending) (w' : World) : Prop := ∃ (v : Value) (bs : List (List UInt8)), e = .returned (.tuple #[v, .nilIface]) ∧ SlBs w'.heap.size w' v bs ∧ Below w.heap.size w w' ∧ BlocksOf k s qs bs
set_option maxHeartbeats 2000000 in
set_option maxRecDepth 100000 in
theorem decode_bad (B B' c k n : Nat) (v : Value) (ps : List Pt) (w : World) (hC : CodeIn B w c k n) (hB : B ≤ w.heap.size) (hv : SlP B' w v ps) (hB' : B' ≤ w.heap.size) (hl : ps.length ≤ 1000) (hw : 0 ≤ wrongAt n ps) :
  Calls Tryz.prog 122 #[.pointer (some ⟨c, 0, none⟩), v] w (CErr2 (.slice none 0 0) opDecode 2 (wrongAt n ps) w) := by
 have HW := hI (firstWrong_any B B' c k n v ps w hC hB hv hB' (by omega))
 obtain ⟨a1, cap1, rfl, _⟩ := hv.len
 clear hC hv
 generalize wrongAt n ps = r at *
 unfold CErr2 opDecode wrapV errV
 go_enter Tryz.func122, Tryz.ntmps122
 go_wp2_with fail
 refine HW.out.mono ?_
 rintro e w1 ⟨rfl, hb1⟩
 have HB1 := hI hb1
 clear hb1
 go_wp2
 exact bodyPost_ret (v := .tuple #[.slice none 0 0, wrapV opDecode r (errV 2)]) (by simp [results, Tryz.results122, go_sem, wrapV, errV, opDecode]) rfl ⟨rfl, HB1.out⟩
set_option maxHeartbeats 2000000 in
set_option maxRecDepth 100000 in
theorem decode_yes (B B' c k n s : Nat) (v : Value) (ps : List Pt) (w : World) (hC : CodeIn B w c k n) (hB : B ≤ w.heap.size) (hv : SlP B' w v ps) (hB' : B' ≤ w.heap.size) (hl : ps.length ≤ 1000) (hw : ¬ 0 ≤ wrongAt n ps) (hf : ¬ (diffP ps).length < k)
  (hs : ∀ p ∈ ps, p.2.length = s) (hsz : s ≤ 1000) : Calls Tryz.prog 122 #[.pointer (some ⟨c, 0, none⟩), v] w (DecR k s (chosen k ps) w) := by
 obtain ⟨hk1, hkn, hn8⟩ := hC.small
 have HW := hI (firstWrong_any B B' c k n v ps w hC hB hv hB' (by omega))
 have HAT := hI (show ∀ p ∈ ps, 0 ≤ p.1 ∧ p.1 < n from fun p hp => by have := wrongAt_none hw p hp; omega)
 have HV := hI hv
 have HC := hI hC
 have HS := hI hs
 obtain ⟨a1, cap1, rfl, _⟩ := hv.len
 clear hC hv hs
 generalize wrongAt n ps = r at *
 go_enter Tryz.func122, Tryz.ntmps122
 go_wp2_with fail
 refine HW.out.mono ?_
 rintro e w1 ⟨rfl, hb1⟩
 have HB1 := hI hb1
 clear hb1
 go_wp2_with fail
 refine (different_any B' _ ps w1 (HV.out.below (Below.mono HB1.out hB')) (Nat.le_trans hB' HB1.out.size) hl (fun p hp => by have := HAT.out p hp; omega)).mono ?_
 rintro e w2 ⟨v2, qs, rfl, hq, hown, hd, hb2⟩
 have HB2 := hI (bthen HB1.out hb2)
 have hC2 := HC.out.below (Below.mono HB2.out hB)
 have hk := hC2.k_
 have hsp := slp_own hown hd (Nat.le_trans hB' HB2.out.size)
 rw [hq] at hsp
 obtain ⟨a2, cap2, rfl, hc2⟩ := hsp.len
 have hcl : (chosen k ps).length = k := by unfold chosen; rw [List.length_take]; omega
 have hmem : ∀ p ∈ chosen k ps, p ∈ ps := fun p hp => diffP_sub ps p (List.mem_of_mem_take hp)
 have hget : ∀ i, i < k → (chosen k ps).getD i pt0 ∈ chosen k ps := fun i hi => by simp [List.getD, show i < (chosen k ps).length by omega]
 have HSO := hI (solve_any B w2.heap.size c k n s (.slice a2 k cap2) (chosen k ps) w2 hC2 (Nat.le_trans hB HB2.out.size) (slp_take hsp (by omega)) (Nat.le_refl _) hcl
  (fun i hi => HAT.out _ (hmem _ (hget i hi))) (fun i hi => HS.out _ (hmem _ (hget i hi))) hsz
  (lines_ns (by omega) hcl ((diffP_nodup ps).sublist ((List.take_sublist k (diffP ps)).map _)) (fun p hp => by have := HAT.out _ (hmem p hp); omega)))
 have HCL := hI hcl
 clear hq hown hd hb2 hC2 hsp hcl hmem hget
 generalize (diffP ps).length = m at *
 have hf' : ¬ (m : Int) < k := by omega
 have hkm : (k : Int) ≤ cap2 := by omega
 go_wp2_with fail
 refine HSO.out.mono ?_
 rintro e w3 ⟨v3, bs, rfl, hbs, hb3, h1, h2, h3⟩
 have HBS := hI hbs
 have HB3 := hI (bthen HB2.out hb3)
 have HP := hI (show BlocksOf k s (chosen k ps) bs from ⟨h1, h2, fun p hp x hx => by
  obtain ⟨i, hi, rfl⟩ := List.mem_iff_getElem.1 hp; have h4 := h3 x hx i (by have := HCL.out; omega); rw [lines_dot hi, lines_data hi, show (chosen k ps).getD i pt0 = (chosen k ps)[i] by simp [List.getD, hi]] at h4
  exact h4⟩)
 obtain ⟨a3, cap3, rfl, _⟩ := hbs.len
 clear hbs hb3 h1 h2 h3
 go_wp2_with fail
 exact bodyPost_ret (v := .tuple #[.slice a3 bs.length cap3, .nilIface]) (by simp [results, Tryz.results122, go_sem]) rfl ⟨_, bs, rfl, HBS.out, HB3.out, HP.out⟩
end Go.Proofs.YtilljaneegbhlaaGreatDoor
