import Derived.Test.YtilljaneegbhlaaGreatDoorZCDecA
import Derived.Deep.DeepCutAuto
import Derived.Deep.RegionHeld3
import Derived.Deep.RegionLaw
import Derived.Deep.DrawnRows
namespace Go.Proofs.YtilljaneegbhlaaGreatDoor
open Go.RowKit Gf Cd
attribute [local go_sem ↓] Go.wp_at_zero Go.wp_at_succ
def lineP (k : Nat) (p : Pt) : List UInt8 := rowB k p.1.toNat ++ p.2
def linesP (k : Nat) (ps : List Pt) : List (List UInt8) := ps.map (lineP k)
variable {k s : Nat}
theorem lineP_length {p : Pt} (h : p.2.length = s) : (lineP k p).length = k + s := by unfold lineP; rw [List.length_append, rowB_length, h]
def CRelS1 (k : Nat) (ps : List Pt) (g : Nat) (w : World) (i : Value) (wr : World) : Prop :=
 ∃ (j : Nat) (us : List Value), j ≤ ps.length ∧ i = .int .i64 j ∧ OwnLs w.heap.size wr (.slice (some ⟨g, 0, none⟩) ps.length ps.length) us (tabL ps.length fun x => if x < j then lineP k (ps.getD x pt0) else []) ∧ Below w.heap.size w wr
variable {g j : Nat} {w w1 w2 : World} {us : List Value} {u : Value} {l : List UInt8}
theorem relS1_next {ps : List Pt} {wr : World} (hO : OwnLs w.heap.size wr (.slice (some ⟨g, 0, none⟩) ps.length ps.length) us (tabL ps.length fun x => if x < j then lineP k (ps.getD x pt0) else [])) (hb : Below w.heap.size w wr)
  (hj : j < ps.length) (hl : l = lineP k (ps.getD j pt0)) (hb1 : Below wr.heap.size wr w1) (hu : w2.ownsRow w1.heap.size 5 1 u l.length (bytesV l)) (hb2 : Below w1.heap.size w1 w2) : CRelS1 k ps g w (.int .i64 ((j : Int) + 1)) (w2.setCell ⟨g, j, none⟩ u) := by
 subst hl
 have hn : (tabL ps.length fun x => if x < j then lineP k (ps.getD x pt0) else []).length = ps.length := tabL_length ..
 have hO' : OwnLs w.heap.size wr (.slice (some ⟨g, 0, none⟩) (tabL ps.length fun x => if x < j then lineP k (ps.getD x pt0) else []).length ps.length) us (tabL ps.length fun x => if x < j then lineP k (ps.getD x pt0) else []) := by rw [hn]; exact hO
 have hb12 := bthen hb1 hb2
 have := hO'.put_new hb12 (i := j) (by rw [hn]; exact hj) hb.size (own_rebase hu hb1.size)
 rw [hn, tabL_set (g := fun x => if x < j + 1 then lineP k (ps.getD x pt0) else []) (fun i _ hi => by simp only [show i < j + 1 ↔ i < j by omega]) (by simp only [show j < j + 1 by omega, if_pos])] at this
 exact ⟨j + 1, _, by omega, by go_num, this, (bthen hb hb12).setCell (by exact (own_block hO.top (k := g) rfl).1) _⟩
variable {B : Nat}
theorem two_rows {b : Nat} {u1 u2 : Value} {l1 l2 : List UInt8} (h1 : w.cell? ⟨b, 0, none⟩ = some u1) (h2 : w.cell? ⟨b, 1, none⟩ = some u2) (hb : b < B) (s1 : SlB B w u1 l1) (s2 : SlB B w u2 l2) : SlBs B w (.slice (some ⟨b, 0, none⟩) 2 2) [l1, l2] :=
 Or.inr ⟨b, 0, 2, rfl, hb, fun i hi => by
  match i, hi with
  | 0, _ => exact ⟨u1, h1, s1⟩
  | 1, _ => exact ⟨u2, h2, s2⟩
  | i + 2, hi => simp at hi; omega, by simp, by simp⟩
def KS (w W : World) (pb : Nat) (x0 x1 : Value) (w' : World) : Prop := Below w.heap.size W w' ∧ (w'.cell? ⟨pb, 0, none⟩ = some x0 ∧ w'.cell? ⟨pb, 1, none⟩ = some x1)
variable {W w' : World} {pb : Nat} {x0 x1 : Value}
theorem KS.drew (h : KS w W pb x0 x1 w') : KS w W pb x0 x1 w'.drew := ⟨h.1.drew, h.2⟩
theorem KS.call {w'' : World} (h : KS w W pb x0 x1 w') (hW : w.heap.size ≤ W.heap.size) (hb : Below w'.heap.size w' w'') : KS w W pb x0 x1 w'' :=
 ⟨h.1.trans (hb.mono (Nat.le_trans hW h.1.size)), by rw [hb.cell (p := ⟨pb, 0, none⟩) (World.block_lt_of_cell? w' _ h.2.1)]; exact h.2.1, by rw [hb.cell (p := ⟨pb, 1, none⟩) (World.block_lt_of_cell? w' _ h.2.2)]; exact h.2.2⟩
theorem KS.alloc (h : KS w W pb x0 x1 w') (hW : w.heap.size ≤ W.heap.size) (o : Obj) : KS w W pb x0 x1 (w'.alloc o) := h.call hW (one_below _ _)
variable {i : Nat}
theorem KS.set (h : KS w W pb x0 x1 w') (hg : w.heap.size ≤ g) (hne : pb ≠ g) : KS w W pb x0 x1 (w'.setCell ⟨g, i, none⟩ u) := by
 have hb := (grownBy_set w' g i u).block pb (World.block_lt_of_cell? w' _ h.2.1) (fun e => hne (by injection e))
 refine ⟨h.1.setCell (by exact hg) _, ?_, ?_⟩
 ·rw [World.cell?_of_block (a := ⟨pb, 0, none⟩) hb]; exact h.2.1
 ·rw [World.cell?_of_block (a := ⟨pb, 1, none⟩) hb]; exact h.2.2
theorem linesP_tab (k : Nat) (ps : List Pt) : linesP k ps = tabL ps.length fun x => lineP k (ps.getD x pt0) := by
 refine List.ext_getElem (by simp [linesP, tabL]) fun i h1 h2 => ?_
 have hi : i < ps.length := by simpa [linesP] using h1
 simp [linesP, tabL, hi]
def CRelS2 (n m g : Nat) (M0 : Mat) (w : World) (i : Value) (wr : World) : Prop :=
 ∃ (j : Nat) (us : List Value) (ls : List (List UInt8)), j ≤ n ∧ i = .int .i64 j ∧ OwnLs w.heap.size wr (.slice (some ⟨g, 0, none⟩) n n) us ls ∧ Lines n m j M0 ls ∧ Below w.heap.size w wr
def CutS (g n j : Nat) (T : List UInt8) (us : List Value) (A : List (List UInt8)) (w wx : World) : Prop := ∃ u, OwnLs w.heap.size wx (.slice (some ⟨g, 0, none⟩) n n) (us.set j u) (A.set j T) ∧ Below w.heap.size w wx
variable {n : Nat}
theorem cutS_of {T : List UInt8} {A : List (List UInt8)} {wS : World} (hO : OwnLs w.heap.size wS (.slice (some ⟨g, 0, none⟩) n n) us A) (hn : A.length = n) (hj : j < n) (hb : Below w.heap.size w wS) (h1 : Below wS.heap.size wS w1)
  (hu : w2.ownsRow w1.heap.size 5 1 u T.length (bytesV T)) (h2 : Below w1.heap.size w1 w2) : CutS g n j T us A w (w2.setCell ⟨g, j, none⟩ u) := by
 subst hn
 have hb12 := bthen h1 h2
 exact ⟨u, hO.put_new hb12 hj hb.size (own_rebase hu h1.size), (bthen hb hb12).setCell (by exact (own_block hO.top (k := g) rfl).1) _⟩
def RelS3 (g n j : Nat) (us : List Value) (L : List (List UInt8)) (w : World) (c : Value) (wr : World) : Prop :=
 ∃ i : Nat, i ≤ n ∧ c = .int .i64 i ∧ OwnLs w.heap.size wr (.slice (some ⟨g, 0, none⟩) n n) us (elimK L j i) ∧ Below w.heap.size w wr
variable {L : List (List UInt8)}
theorem relS3_skip {wr : World} (hj : j < n) (hO : OwnLs w.heap.size wr (.slice (some ⟨g, 0, none⟩) n n) us (elimK L j j)) (hb : Below w.heap.size w wr) : RelS3 g n j us L w (.int .i64 ((j : Int) + 1)) wr :=
 ⟨j + 1, by omega, by go_num, by rw [elimK_skip]; exact hO, hb⟩
theorem relS3_next {wr : World} (hi : i < n) (hL : L.length = n) (hne : i ≠ j) (hO : OwnLs w.heap.size wr (.slice (some ⟨g, 0, none⟩) n n) us (elimK L j i)) (hb : Below w.heap.size w wr)
  (hu : w2.ownsRow w.heap.size 5 1 (us.getD i nilB) (addB (L.getD i []) (L.getD j []) ((L.getD i []).getD j 0).toNat).length (bytesV (addB (L.getD i []) (L.getD j []) ((L.getD i []).getD j 0).toNat)))
  (hg : Grew wr.drew (us.getD i nilB).ownBlock w2 (us.getD i nilB).ownBlock) : RelS3 g n j us L w (.int .i64 ((i : Int) + 1)) w2 := by
 have h1 := (hO.below (Below.refl _ _).drew).bytes (i := i) (by rw [elimK_length, hL]; exact hi) hu hg
 rw [elimK_next hne] at h1
 refine ⟨i + 1, by omega, by go_num, h1, ?_⟩
 exact (hb.trans ((Below.refl _ wr).drew.mono hb.size)).trans (hg.below (by exact hb.size) fun q hq => (own_block hu hq).1)
def SolR (k s : Nat) (ps : List Pt) (w : World) (e : Ending) (w' : World) : Prop := ∃ (v : Value) (bs : List (List UInt8)), e = .returned v ∧ SlBs w'.heap.size w' v bs ∧ Below w.heap.size w w' ∧ bs.length = k ∧ (∀ i, i < k → (bs.getD i []).length = s) ∧
 ∀ x, x < s → ∀ i, i < k → dot (mat (linesP k ps) i) (fun j => mat bs j x) k = mat (linesP k ps) i (k + x)
def RelS4 (n k g4 : Nat) (ls : List (List UInt8)) (wo : World) (c : Value) (wr : World) : Prop :=
 ∃ (j : Nat) (cells : List Value), j ≤ n ∧ c = .int .i64 j ∧ wr.ownsRow wo.heap.size 37 1 (.slice (some ⟨g4, 0, none⟩) n n) n cells ∧ (∀ x, x < j → ∃ u, cells[x]? = some u ∧ SlB wo.heap.size wr u ((ls.getD x []).drop k)) ∧ Below wo.heap.size wo wr
theorem slb_drop {m c : Nat} (h : SlB B w (.slice (some ⟨g, 0, none⟩) m c) l) (hl : l.length = m) (hk : k < m) : SlB B w (.slice (some ⟨g, k, none⟩) (m - k) (c - k)) (l.drop k) := by
 rcases h with ⟨rfl, _⟩ | ⟨b, o, cap, h1, h2, h3, _, h5⟩
 ·simp at hl; omega
 ·injection h1 with h1 _ h1'
  injection h1 with h1; injection h1 with h1 h6 _; subst h1 h1' h6; refine Or.inr ⟨g, k, c - k, by rw [List.length_drop, hl], h2, fun y hy => ?_, by rw [List.length_drop]; omega, by rw [List.length_drop]; omega⟩; rw [List.length_drop] at hy; have := h3 (k + y) (by omega); rw [Nat.zero_add] at this; rw [this]
  simp [List.getD]
variable {g4 : Nat} {ls : List (List UInt8)}
theorem relS4_next {wo wr : World} {cells : List Value} (hj : j < n) (hown : wr.ownsRow wo.heap.size 37 1 (.slice (some ⟨g4, 0, none⟩) n n) n cells) (hc : ∀ x, x < j → ∃ u, cells[x]? = some u ∧ SlB wo.heap.size wr u ((ls.getD x []).drop k))
  (hb : Below wo.heap.size wo wr) (hu : SlB wo.heap.size wr u ((ls.getD j []).drop k)) : RelS4 n k g4 ls wo (.int .i64 ((j : Int) + 1)) (wr.setCell ⟨g4, j, none⟩ u) := by
 have hB4 := (own_block hown (k := g4) rfl).1
 have hkeep : ∀ {x : Value} {l : List UInt8}, SlB wo.heap.size wr x l → SlB wo.heap.size (wr.setCell ⟨g4, j, none⟩ u) x l := fun {x l} h => h.below ((Below.refl _ _).setCell (by exact hB4) _)
 have hcl : cells.length = n := by have := hown.1; omega
 refine ⟨j + 1, cells.set j u, by omega, by go_num, own_set hown j u, fun x hx => ?_, hb.setCell (by exact hB4) _⟩
 by_cases e : x = j
 ·subst e; exact ⟨u, by rw [List.getElem?_set_self (by omega)], hkeep hu⟩
 ·obtain ⟨u', e1, e2⟩ := hc x (by omega)
  exact ⟨u', by rw [List.getElem?_set_ne (fun q => e q.symm)]; exact e1, hkeep e2⟩
theorem sol_of {B4 : Nat} {ps : List Pt} {wr : World} {cells : List Value} (hk : ps.length = k) (hn : n = k) (hown : wr.ownsRow B4 37 1 (.slice (some ⟨g4, 0, none⟩) n n) n cells) (hc : ∀ x, x < n → ∃ u, cells[x]? = some u ∧ SlB B4 wr u ((ls.getD x []).drop k))
  (hL : Lines n (k + s) n (mat (linesP k ps)) ls) (hb : Below w.heap.size w wr) (h0 : 0 < n) : SolR k s ps w (.returned (.slice (some ⟨g4, 0, none⟩) n n)) wr := by
 subst hn hk
 have hB4 := own_block hown (k := g4) rfl
 have hgd : ∀ i, i < ps.length → (ls.map fun l : List UInt8 => l.drop ps.length).getD i [] = (ls.getD i []).drop ps.length := fun i hi => by
  have := hL.len
  simp [List.getD, show i < ls.length by omega]
 refine ⟨_, ls.map fun l : List UInt8 => l.drop ps.length, rfl, ?_, hb, by rw [List.length_map, hL.len], fun i hi => by rw [hgd i hi, List.length_drop, hL.each i hi]; omega, fun x hx i hi => ?_⟩
 ·refine Or.inr ⟨g4, 0, ps.length, by rw [List.length_map, hL.len], hB4.2, fun i hi => ?_, by rw [List.length_map, hL.len]; exact h0, by rw [List.length_map, hL.len]; exact Nat.le_refl _⟩
  rw [List.length_map, hL.len] at hi; obtain ⟨u, e1, e2⟩ := hc i hi; exact ⟨u, by rw [Nat.zero_add]; exact own_cell hown e1, by rw [hgd i hi]; exact e2.wider (by omega)⟩
 ·rw [← solved (w := s) (mat_bm ls) hL.same hL.unit x hx i hi]
  refine dot_congr fun j hj => ⟨rfl, ?_⟩
  show (((ls.map fun l : List UInt8 => l.drop ps.length).getD j []).getD x 0).toNat = ((ls.getD j []).getD (ps.length + x) 0).toNat
  rw [hgd j hj]
  simp [List.getD]
set_option maxHeartbeats 4000000 in
set_option maxRecDepth 100000 in
theorem solve_any (B B' c k n s : Nat) (v : Value) (ps : List Pt) (w : World) (hC : CodeIn B w c k n) (hB : B ≤ w.heap.size) (hv : SlP B' w v ps) (hB' : B' ≤ w.heap.size) (hk : ps.length = k)
  (hat : ∀ i, i < k → 0 ≤ (ps.getD i pt0).1 ∧ (ps.getD i pt0).1 < n) (hs : ∀ i, i < k → (ps.getD i pt0).2.length = s) (hsz : s ≤ 1000) (hn : NSing k (mat (linesP k ps))) :
  Calls Tryz.prog 142 #[.pointer (some ⟨c, 0, none⟩), v] w (SolR k s ps w) := by
 have HC := hI hC
 have HV := hI hv
 have HAT := hI hat
 have HS := hI hs
 have HN := hI hn
 have HK := hI hk
 obtain ⟨hk1, hkn, hn8⟩ := hC.small
 have hpl : ps.length ≤ 8 := by omega
 obtain ⟨a1, cap1, rfl, hcap⟩ := hv.len
 have hmk := make_rows ps.length (by omega)
 have HMO := hI (ownLs_made w w.heap.size ps.length (Nat.le_refl _) (by omega))
 rw [tabL_nils] at HMO
 have HCL := hI (show c < w.heap.size by have := hC.lt; omega)
 clear hC hv hat hs hn hk
 go_enter Tryz.func142, Tryz.ntmps142
 go_wp2_with fail
 go_loopw [20] (fun i wr => CRelS1 k ps w.heap.size w i wr) (fun i _ => ps.length - (intOf i).toNat)
 case atStart => exact ⟨0, _, Nat.zero_le _, rfl, by rw [tabL_congr (g := fun _ => []) fun i _ => by rw [if_neg (by omega)]]; exact HMO.out, one_below _ _⟩
 case round =>
  obtain ⟨j, us, hj, rfl, hO, hb⟩ := hrel; clear hmk
  by_cases hlt : j < ps.length
  ·obtain ⟨b, o, cap, e1, hcap', hbB, hq, u, hu1, hu2⟩ := (HV.out.below (Below.mono hb hB')).part hlt
   injection e1 with e1 _ e2; subst e1 e2; have hr := HAT.out j (by have := HK.out; omega); have hsj := HS.out j (by have := HK.out; omega)
   obtain ⟨a, ha⟩ : ∃ a : Nat, (ps.getD j pt0).1 = (a : Int) := ⟨(ps.getD j pt0).1.toNat, by omega⟩
   have HLI := hI (show [rowB k a, (ps.getD j pt0).2].flatten = lineP k (ps.getD j pt0) by unfold lineP; rw [ha]; simp); rw [ha] at hr hq
   have han : a < n := by omega
   obtain ⟨-, ⟨rv, c1, hrows⟩, -⟩ := HC.out.below (Below.mono hb hB); obtain ⟨b2, o2, cap2, ur, rfl, hcap2, hb2B, hr1, hr2⟩ := hrows.row (i := a) (by rw [rowsL_length]; exact han); rw [rowsL_getD han] at hr2; rw [rowsL_length] at c1 hcap2; obtain ⟨ra, rc, rfl, _⟩ := hr2.len; obtain ⟨ua, uc, rfl, _⟩ := hu2.len; rw [rowB_length] at hr1; rw [hsj] at hu1; have hx := hO.cell (i := j) (by rw [tabL_length]; exact hlt); have hy := hO.frozen j; have hgl := (own_block hO.top (k := w.heap.size) rfl).2; have HO := hI hO; have HB := hI hb; have HR2 := hI hr2; have HU2 := hI hu2; have HSJ := hI hsj
   have han' : (a : Int) < n := by omega
   rw [rowB_length] at HR2; rw [HSJ.out] at HU2; generalize (ps.getD j pt0).2 = dat at *
   obtain ⟨W, hW⟩ : ∃ W, W = wr.alloc (.cells #[.int .i64 a, .slice ua s uc] 204) := ⟨_, rfl⟩
   have HBW := hI (show Below wr.heap.size wr W by rw [hW]; exact one_below _ _)
   have hks : KS w W wr.heap.size (.int .i64 a) (.slice ua s uc) W := ⟨Below.refl _ _, by rw [hW]; simp, by rw [hW]; simp⟩
   have HWL := hI (show w.heap.size ≤ W.heap.size from Nat.le_trans hb.size HBW.out.size); have HNE := hI (show wr.heap.size ≠ w.heap.size by omega); have HBK := hI (fun w' (h : KS w W wr.heap.size (.int .i64 a) (.slice ua s uc) w') => show Below w.heap.size wr w' from (HBW.out.mono hb.size).trans h.1)
   have HMEM := hI (fun w' (h : KS w W wr.heap.size (.int .i64 a) (.slice ua s uc) w') => show KS w W wr.heap.size (.int .i64 a) (.slice ua s uc) w' ∧ w'.cell? ⟨c, 1, none⟩ = some (.slice (some ⟨b2, o2, none⟩) n cap2) ∧ w'.cell? ⟨b2, o2 + a, none⟩ = some (.slice ra k rc) ∧ w'.cell? ⟨wr.heap.size, 0, none⟩ = some (.int .i64 a) ∧ w'.cell? ⟨wr.heap.size, 1, none⟩ = some (.slice ua s uc) from
    ⟨h, ((HBK.out _ h).cell (p := ⟨c, 1, none⟩) HCL.out).trans c1, ((HBK.out _ h).cell (p := ⟨b2, o2 + a, none⟩) (show b2 < w.heap.size by omega)).trans hr1, h.2⟩)
   have HSL := hI (fun w' (h : KS w W wr.heap.size (.int .i64 a) (.slice ua s uc) w') => show SlB w'.heap.size w' (.slice ra k rc) (rowB k a) ∧ SlB w'.heap.size w' (.slice ua s uc) dat from
    ⟨(HR2.out.below (Below.mono (HBK.out _ h) hB)).wider (Nat.le_trans hB (HBK.out _ h |>.size |> Nat.le_trans hb.size)), (HU2.out.below (Below.mono (HBK.out _ h) hB')).wider (Nat.le_trans hB' (HBK.out _ h |>.size |> Nat.le_trans hb.size))⟩)
   have HFL := hI (show [rowB k a, dat].flatten.length ≤ 10000 by simp [rowB_length]; have := HSJ.out; omega)
   obtain ⟨LX, hLX⟩ : ∃ LX, LX = [rowB k a, dat].flatten := ⟨_, rfl⟩
   have HLI2 := hI (hLX.trans HLI.out); have HCC := hI (fun (Wx : World) (v : Value) (h : SlBs Wx.heap.size Wx v [rowB k a, dat]) => show Calls Tryz.prog 170 #[v] Wx (NewB LX Wx) by rw [hLX]; exact concat_any _ v _ Wx h (Nat.le_refl _) (by simp) HFL.out); clear hLX
   have hlines : wr.cell? ⟨w.heap.size, j, none⟩ = some (us.getD j nilB) ∧ wr.frozen? ⟨w.heap.size, j, none⟩ = false := ⟨hx, hy⟩
   have HLN := hI hlines; have HLX := hI (fun (w' : World) (h : Below wr.heap.size wr w') => show w'.cell? ⟨w.heap.size, j, none⟩ = some (us.getD j nilB) ∧ w'.frozen? ⟨w.heap.size, j, none⟩ = false from ⟨(h.cell (p := ⟨w.heap.size, j, none⟩) hgl).trans hlines.1, (h.frozen (p := ⟨w.heap.size, j, none⟩) hgl).trans hlines.2⟩); obtain ⟨s0, s1, s2, s3, s4⟩ := HMEM.out W hks; clear hO hb hr2 hu2 hrows hsj ha hr hx hy hlines; go_wp2_with fail; rw [← hW]; clear hW hq hu1 c1 hr1
   go_region_held3 (fun w' => KS w W wr.heap.size (.int .i64 a) (.slice ua s uc) w' ∧ w'.cell? ⟨c, 1, none⟩ = some (.slice (some ⟨b2, o2, none⟩) n cap2) ∧ w'.cell? ⟨b2, o2 + a, none⟩ = some (.slice ra k rc) ∧ w'.cell? ⟨wr.heap.size, 0, none⟩ = some (.int .i64 a) ∧ w'.cell? ⟨wr.heap.size, 1, none⟩ = some (.slice ua s uc)) (exact HMEM.out _ (by repeat (first | assumption | refine KS.drew ?_ | refine KS.alloc ?_ HWL.out _ | refine KS.set ?_ (Nat.le_refl _) HNE.out))) ((go_at_call 170; (with_reducible refine (HCC.out _ _ (two_rows (by simp) (by simp) (by simp) (HSL.out _ (KS.drew (KS.alloc hks HWL.out _))).1 (HSL.out _ (KS.drew (KS.alloc hks HWL.out _))).2)).mono ?_); rintro e w2 ⟨u, rfl, hu, hb2⟩; have hks2 := KS.call (KS.drew (KS.alloc hks HWL.out _)) HWL.out hb2; obtain ⟨gu, cu, rfl, _⟩ := own_slice hu; have HU := hI hu; have HB2 := hI hb2; obtain ⟨lx, ly⟩ := HLX.out w2 (bthen (bthen HBW.out (one_below W _).drew) hb2); clear hu hb2))
   all_goals
    go_wp2_with fail
    go_roundw
    case rel => exact relS1_next HO.out HB.out hlt HLI2.out (bthen HBW.out (one_below W _).drew) HU.out HB2.out
    case measure => simp [intOf]; omega
  ·obtain rfl : j = ps.length := by omega
   have hO2 := hO; rw [tabL_congr (g := fun x => lineP k (ps.getD x pt0)) fun i hi => by rw [if_pos hi], ← linesP_tab] at hO2; have HO := hI hO2; have HB := hI hb; have HL0 := hI (show Lines ps.length (k + s) 0 (mat (linesP k ps)) (linesP k ps) from ⟨by simp [linesP], fun i hi => by rw [linesP_tab, tabL_getD _ hi]; exact lineP_length (HS.out i (by have := HK.out; omega)), fun c hc => by omega, SameEq.refl _ _⟩); have HN2 := hI (show NSing ps.length (mat (linesP k ps)) by rw [HK.out]; exact HN.out); clear hO hb hO2; go_wp2_with fail
   go_loopw [43] (fun i wr => CRelS2 ps.length (k + s) w.heap.size (mat (linesP k ps)) w i wr) (fun i _ => ps.length - (intOf i).toNat)
   case atStart => exact ⟨0, us, linesP k ps, Nat.zero_le _, rfl, HO.out, HL0.out, HB.out⟩
   case round =>
    obtain ⟨j, us2, ls, hj, rfl, hO, hL, hb⟩ := hrel
    by_cases hlt : j < ps.length
    ·have hlen := hL.len
     have HPV := hI (pivot_any _ _ ls j _ hO.slbs (by omega) (hL.pivot HN2.out hlt) (fun i hi => by rw [hL.each i (by omega)]; have := HK.out; omega)); have hfz := hO.frozen
     have hcl := fun p (hp : p < ps.length) => show ∃ gp cp, us2.getD p nilB = .slice gp (k + s) cp ∧ wr.cell? ⟨w.heap.size, p, none⟩ = some (.slice gp (k + s) cp) by
      obtain ⟨gp, cp, e, _⟩ := own_slice (hO.each p (by omega)); rw [hL.each p hp] at e; exact ⟨gp, cp, e, e ▸ hO.cell (i := p) (by omega)⟩
     have HFZ := hI hfz; have HCE := hI hcl; have HO := hI hO; have HB := hI hb; have HLI := hI hL; have HLE := hI hlen; clear hO hb hL hlen hfz hcl; go_wp2_with fail; refine HPV.out.mono ?_; rintro e w' ⟨p, ⟨hp1, hp2, hp3, -⟩, rfl, rfl⟩; rw [HLE.out] at hp2; have HP3 := hI hp3; clear hp3; obtain ⟨gj, cj, ej, hx⟩ := HCE.out j hlt; obtain ⟨gp, cp, ep, hy⟩ := HCE.out p hp2; have EJ := hI ej; have EP := hI ep; clear ej ep; have f1 := HFZ.out j; have f2 := HFZ.out p; obtain ⟨v1, hy1⟩ := cell?_setCell_some (w := wr) (p := ⟨w.heap.size, p, none⟩) (x := .slice gj (k + s) cj) (q := ⟨w.heap.size, j, none⟩) (v := .slice gj (k + s) cj) hx; obtain ⟨v2, hy2⟩ := cell?_setCell_some (w := wr) (p := ⟨w.heap.size, j, none⟩) (x := .slice gp (k + s) cp) (q := ⟨w.heap.size, p, none⟩) (v := .slice gp (k + s) cp) hy; go_wp2_with fail
     go_region
     obtain ⟨wS, hS⟩ : ∃ wS, wS = ((wr.setCell ⟨w.heap.size, p, none⟩ (.slice gj (k + s) cj)).setCell ⟨w.heap.size, j, none⟩ (.slice gp (k + s) cp)).drew := ⟨_, rfl⟩
     have HSW : OwnLs w.heap.size wS (.slice (some ⟨w.heap.size, 0, none⟩) ps.length ps.length) (swapL us2 p j nilB) (swapL ls p j []) ∧ Below w.heap.size w wS ∧ (swapL us2 p j nilB).getD j nilB = .slice gp (k + s) cp := by
      have h1 := HO.out; rw [← HLE.out] at h1; have h2 := (h1.swap (p := p) (j := j) (by rw [HLE.out]; exact hp2) (by rw [HLE.out]; exact hlt)).below (Below.refl _ _).drew; rw [EJ.out, EP.out, ← hS, HLE.out] at h2; refine ⟨h2, ?_, ?_⟩
      ·rw [hS]; exact ((HB.out.setCell (p := ⟨w.heap.size, p, none⟩) (Nat.le_refl _) _).setCell (p := ⟨w.heap.size, j, none⟩) (Nat.le_refl _) _).drew
      ·have hul := h1.ulen
       rw [swapL_getD _ _ _ _ _ (by rw [hul, HLE.out]; exact hp2) (by rw [hul, HLE.out]; exact hlt)]; unfold swp; rw [if_pos rfl]; exact EP.out
     rw [← hS]; clear hS hy1 hy2 hx hy f1 f2; obtain ⟨hOS, hBS, hUS⟩ := HSW
     have hAL : (swapL ls p j []).length = ps.length := by rw [swapL_length, HLE.out]
     have hAJ : ((swapL ls p j []).getD j []).length = k + s := by rw [swapL_getD _ _ _ _ _ (by rw [HLE.out]; exact hp2) (by rw [HLE.out]; exact hlt)]; exact HLI.out.each _ (swp_lt hp2 hlt hlt)
     have HAA := hI (show ∀ i, i < ps.length → ((swapL ls p j []).getD i []).length = k + s from fun i hi => by rw [swapL_getD _ _ _ _ _ (by rw [HLE.out]; exact hp2) (by rw [HLE.out]; exact hlt)]; exact HLI.out.each _ (swp_lt hp2 hlt hi)); have HTL := hI (show (addB (zeros ((swapL ls p j []).getD j []).length) ((swapL ls p j []).getD j []) (inv (((swapL ls p j []).getD j []).getD j 0).toNat)).length = k + s by rw [addB_length, zeros_length, hAJ]); have hSt : stepL ls p j = elimK ((swapL ls p j []).set j (addB (zeros ((swapL ls p j []).getD j []).length) ((swapL ls p j []).getD j []) (inv (((swapL ls p j []).getD j []).getD j 0).toNat))) j ls.length := rfl; have HST := hI hSt; have HAL := hI hAL; clear hSt hAL; generalize swapL ls p j [] = A at *; generalize swapL us2 p j nilB = usA at *; have hej := hOS.each j (by rw [HAL.out]; exact hlt); rw [hUS, hAJ] at hej; have HSL := hI (show SlB wS.heap.size wS (.slice gp (A.getD j []).length cp) (A.getD j []) by have := hOS.slb (i := j) (by rw [HAL.out]; exact hlt); rw [hUS] at this; rw [hAJ]; exact this); obtain ⟨gb, rfl⟩ := own_addr hej (by have := HK.out; omega)
     have x1 : wS.cell? ⟨w.heap.size, j, none⟩ = some (.slice (some ⟨gb, 0, none⟩) (k + s) cp) := by rw [← hUS]; exact hOS.cell (by rw [HAL.out]; exact hlt)
     have x2 := hOS.frozen j; have x3 : wS.cell? ⟨gb, j, none⟩ = some (.int .u8 ((A.getD j []).getD j 0).toNat) := own_cell hej (bytesV_at (by have := HK.out; omega)); have hgl := (own_block hOS.top (k := w.heap.size) rfl).2; have hCS := HC.out.below (Below.mono hBS hB); obtain ⟨-, -, ⟨fb, x4, hF, hfb⟩, -⟩ := hCS; have HF := hI hF; have HCS := hI (HC.out.below (Below.mono hBS hB)); have HOS := hI hOS; have HBS := hI hBS; have HAJ := hI hAJ; have hx8 : ((A.getD j []).getD j 0).toNat < 256 := UInt8.toNat_lt _
     have hjk : (j : Int) < k + s := by have := HK.out; omega
     have HT : Hid (∀ (w' : World), Below wS.heap.size wS w' → Calls Tryz.prog 172 #[.pointer (some ⟨c, 0, none⟩), .slice (some ⟨gb, 0, none⟩) (k + s) cp, .int .u8 (inv ((A.getD j []).getD j 0).toNat : Nat)] w' (NewB (addB (zeros (A.getD j []).length) (A.getD j []) (inv ((A.getD j []).getD j 0).toNat)) w')) := hI (fun w' hw => by
      have := times_any B wS.heap.size c k n (inv ((A.getD j []).getD j 0).toNat) _ _ w' (HCS.out.below (Below.mono hw (Nat.le_trans hB HBS.out.size))) (Nat.le_trans hB (Nat.le_trans HBS.out.size hw.size)) (HSL.out.below hw) hw.size (by rw [HAJ.out]; have := HK.out; omega) (inv_lt _)
      have e : (Value.slice (some ⟨gb, 0, none⟩) (A.getD j []).length cp) = .slice (some ⟨gb, 0, none⟩) (k + s) cp := by rw [HAJ.out]
      rw [e] at this
      exact this)
     clear hOS hBS hUS hej hF hAJ; generalize addB (zeros (A.getD j []).length) (A.getD j []) (inv ((A.getD j []).getD j 0).toNat) = T at *; generalize ((A.getD j []).getD j 0).toNat = y at *
     go_upto_region 12 with fail
     go_cut [] (fun wx => CutS w.heap.size ps.length j T usA A w wx)
     case first =>
      go_region_law (go_simp; first | (go_at_call 166; (with_reducible refine (inv_any _ fb (by repeat (first | exact HF.out | apply FieldIn.drewN | apply FieldIn.drew)) _ hx8).mono ?_); rintro e w' ⟨rfl, rfl⟩) | (go_at_call 172; (with_reducible refine (HT.out _ (by repeat (first | exact Below.refl _ _ | apply Below.drew | apply below_drewN))).mono ?_); rintro e w2 ⟨u, rfl, hu, hb2⟩; obtain ⟨gu, cu, rfl, _⟩ := own_slice hu; have HU := hI hu; have HB2 := hI hb2; have z1 := (hb2.cell (p := ⟨w.heap.size, j, none⟩) hgl).trans x1; have z2 := (hb2.frozen (p := ⟨w.heap.size, j, none⟩) hgl).trans x2; clear hu hb2))
      all_goals
       go_wp2_with fail
       go_meet
       exact cutS_of HOS.out HAL.out hlt HBS.out (by repeat (first | exact Below.refl _ _ | apply Below.drew | apply below_drewN)) HU.out HB2.out
     case rest =>
      obtain ⟨u, hO3, hb3⟩ := hcut; have HOL := hI hO3; have HBL := hI hb3
      have hLL : (A.set j T).length = ps.length := by rw [List.length_set, HAL.out]
      have HLL := hI hLL; clear hO3 hb3 hLL x1 x2 x3 x4 hgl
      have HMM := hI (show ∀ i, i < ps.length → ((A.set j T).getD i []).length = k + s from fun i hi => by
       by_cases e : i = j
       ·subst e; rw [getD_set_eq _ _ _ _ (by rw [HAL.out]; exact hi)]; exact HTL.out
       ·rw [getD_set_ne _ _ _ _ _ e]; exact HAA.out i hi)
      generalize usA.set j u = usB at *; generalize A.set j T = L at *; have hlast := HST.out; rw [HLE.out] at hlast; have HFIN := hI hlast; clear hlast HST; go_wp2_with fail
      go_loopw [86] (fun i wr => RelS3 w.heap.size ps.length j usB L w i wr) (fun i _ => ps.length - (intOf i).toNat)
      case atStart => exact ⟨0, Nat.zero_le _, rfl, by rw [elimK_0]; exact HOL.out, HBL.out⟩
      case round =>
       obtain ⟨i, hi, rfl, hO, hb⟩ := hrel
       by_cases hil : i < ps.length
       ·have hei := hO.each i (by rw [elimK_length, HLL.out]; exact hil)
        rw [elimK_getD (by rw [HLL.out]; exact hil), if_neg (by omega)] at hei; have hgi := own_slice hei; obtain ⟨gi, ci, ei, _⟩ := hgi; rw [HMM.out i hil] at ei
        have y1 : wr.cell? ⟨w.heap.size, i, none⟩ = some (.slice gi (k + s) ci) := by rw [← ei]; exact hO.cell (by rw [elimK_length, HLL.out]; exact hil)
        by_cases hij : i = j
        ·subst hij
         have HO := hI hO; have HB := hI hb; clear hO hb hei ei; go_wp2_with fail
         go_roundw
         case rel => exact relS3_skip hlt HO.out HB.out
         case measure => simp [intOf]; omega
        ·have hejj := hO.each j (by rw [elimK_length, HLL.out]; exact hlt)
         rw [elimK_getD (by rw [HLL.out]; exact hlt), if_neg (by omega)] at hejj; obtain ⟨gq, cq, eq, _⟩ := own_slice hejj; rw [HMM.out j hlt] at eq
         have y2 : wr.cell? ⟨w.heap.size, j, none⟩ = some (.slice gq (k + s) cq) := by rw [← eq]; exact hO.cell (by rw [elimK_length, HLL.out]; exact hlt)
         have hei' := hei; rw [ei, HMM.out i hil] at hei'; obtain ⟨gib, rfl⟩ := own_addr hei' (by have := HK.out; omega); have y3 : wr.cell? ⟨gib, j, none⟩ = some (.int .u8 ((L.getD i []).getD j 0).toNat) := own_cell hei' (bytesV_at (by rw [HMM.out i hil]; have := HK.out; omega)); obtain ⟨-, -, ⟨fb', y4, hF', hfb'⟩, -⟩ := HC.out.below (Below.mono hb hB); have HEI := hI hei; have HEE := hI ei; have HSJ := hI (show SlB wr.heap.size wr (.slice gq (k + s) cq) (L.getD j []) by have := slb_own hejj; rwa [eq] at this); have HFF := hI hF'; have HO := hI hO; have HB := hI hb; have HIJ := hI hij
         have hij1 : ((i : Int) != j) = true := by simpa using (by omega : ¬ (i : Int) = j)
         have hy8 : ((L.getD i []).getD j 0).toNat < 256 := UInt8.toNat_lt _
         have hjk' : (j : Int) < k + s := by have := HK.out; omega
         have HNF := hI (show w.heap.size ≤ gib ∧ fb' < w.heap.size from ⟨(own_lt hei').1, by omega⟩)
         have hne5 : (Value.slice (some ⟨gib, 0, none⟩) (k + s) ci).ownBlock ≠ some fb' := fun e => by
          have e' : gib = fb' := by injection e
          have := HNF.out; omega
         have hei5 : wr.drew.ownsRow w.heap.size 5 1 (.slice (some ⟨gib, 0, none⟩) (k + s) ci) (L.getD i []).length (bytesV (L.getD i [])) := by
          have := own_below HEI.out (Below.refl _ _).drew
          rwa [ei] at this
         have HAD : Hid (Calls Tryz.prog 173 #[.pointer (some ⟨fb', 0, none⟩), .slice (some ⟨gib, 0, none⟩) (k + s) ci, .slice gq (k + s) cq, .int .u8 ((L.getD i []).getD j 0).toNat] wr.drew (AddedF w.heap.size (.slice (some ⟨gib, 0, none⟩) (k + s) ci) (addB (L.getD i []) (L.getD j []) ((L.getD i []).getD j 0).toNat) wr.drew)) :=
          hI (add_any fb' w.heap.size wr.heap.size _ _ (L.getD i []) (L.getD j []) ((L.getD i []).getD j 0).toNat wr.drew HFF.out.drew hy8 hei5 (HSJ.out.below (Below.refl _ _).drew) (Nat.le_refl _) hne5 (by rw [HMM.out i hil]; have := HK.out; omega) (by rw [HMM.out j hlt]; have := HK.out; omega))
         clear hO hb hei hejj ei eq hei' hF' hij hne5 hei5; generalize hTT : addB (L.getD i []) (L.getD j []) ((L.getD i []).getD j 0).toNat = TT at *; have HTT := hI hTT; clear hTT; generalize hYY : ((L.getD i []).getD j 0).toNat = yy at *; have HYY := hI hYY; clear hYY; go_wp2_with fail
         go_still_tail 13, (by kernel_rfl)
         go_wp2_with fail; refine HAD.out.mono ?_; rintro e w5 ⟨rfl, ho5, hg5⟩; have HO5 := hI ho5; have HG5 := hI hg5; clear ho5 hg5; go_wp2_with fail
         go_roundw
         case rel => exact relS3_next hil HLL.out HIJ.out HO.out HB.out (by rw [HEE.out, HYY.out, HTT.out]; exact HO5.out) (by rw [HEE.out]; exact HG5.out)
         case measure => simp [intOf]; omega
       ·obtain rfl : i = ps.length := by omega
        rw [← HFIN.out] at hO; have HO := hI hO; have HB := hI hb; clear hO hb; go_wp2_with fail
        go_roundw
        case rel => exact ⟨j + 1, usB, stepL ls p j, by omega, by go_num, HO.out, HLI.out.step hlt hp1 hp2 HP3.out, HB.out⟩
        case measure => simp [intOf]; omega
    ·obtain rfl : j = ps.length := by omega
     have HO := hI hO; have HB := hI hb; have HLI := hI hL; have hmk4 := make_rows ps.length (by omega); have HM4 := hI (ownLs_made wr wr.heap.size ps.length (Nat.le_refl _) (by omega)); clear hO hb hL
     obtain ⟨wo, rfl⟩ : ∃ wo : World, wo = wr := ⟨_, rfl⟩
     go_wp2_with fail
     go_loopw [115] (fun i wx => RelS4 ps.length k wo.heap.size ls wo i wx) (fun i _ => ps.length - (intOf i).toNat)
     case atStart =>
      have h1 := HM4.out.top; rw [List.length_replicate] at h1; exact ⟨0, _, Nat.zero_le _, rfl, h1, (fun x hx => by omega), one_below _ _⟩
     case round =>
      obtain ⟨j, cells, hj, rfl, hown, hc, hb⟩ := hrel; clear hmk4
      by_cases hlt : j < ps.length
      ·have hlen := HLI.out.len
       have hOr := HO.out.below hb; obtain ⟨gj, cj, ej, hcj⟩ := own_slice (hOr.each j (by omega)); have hej := hOr.each j (by omega); rw [HLI.out.each j hlt] at ej hcj; rw [ej, HLI.out.each j hlt] at hej; obtain ⟨gb, rfl⟩ := own_addr hej (by have := HK.out; omega)
       have y1 : wr.cell? ⟨w.heap.size, j, none⟩ = some (.slice (some ⟨gb, 0, none⟩) (k + s) cj) := by rw [← ej]; exact hOr.cell (by omega)
       have hSl : SlB wo.heap.size wr (.slice (some ⟨gb, 0, none⟩) (k + s) cj) (ls.getD j []) := by
        have := (HO.out.slb (i := j) (by omega)).below hb
        rwa [ej] at this
       have y2 := (HC.out.below (Below.mono (HB.out.trans (Below.mono hb HB.out.size)) hB)).k_
       have hlc : j < cells.length := by have := hown.1; omega
       have y3 := own_cell hown (List.getElem?_eq_getElem hlc); have y4 := own_frozen hown j; generalize cells[j] = cv at y3; have HSL := hI hSl; have HOW := hI hown; have HCC := hI hc; have HB4 := hI hb; have HLJ := hI (HLI.out.each j hlt); clear hSl hown hc hb hOr ej hej hlen hlc
       by_cases hs0 : s = 0
       ·subst hs0
        by_cases hck : cj = k
        ·subst hck
         go_wp2_with fail
         go_roundw
         case rel => exact relS4_next hlt HOW.out HCC.out HB4.out (Or.inl ⟨List.drop_eq_nil_of_le (by rw [HLJ.out]; omega), _, _, rfl⟩)
         case measure => simp [intOf]; omega
        ·have hck' : (k : Int) < cj := by omega
         go_wp2_with fail
         go_roundw
         case rel => exact relS4_next hlt HOW.out HCC.out HB4.out (Or.inl ⟨List.drop_eq_nil_of_le (by rw [HLJ.out]; omega), _, _, rfl⟩)
         case measure => simp [intOf]; omega
       ·have hck' : (k : Int) < cj := by omega
        have HDR := hI (show SlB wo.heap.size wr (.slice (some ⟨gb, k, none⟩) s (cj - k)) ((ls.getD j []).drop k) by
         have := slb_drop HSL.out HLJ.out (by omega : k < k + s)
         rwa [Nat.add_sub_cancel_left] at this)
        go_wp2_with fail
        go_roundw
        case rel => exact relS4_next hlt HOW.out HCC.out HB4.out HDR.out
        case measure => simp [intOf]; omega
      ·obtain rfl : j = ps.length := by omega
       have HOW := hI hown; have HCC := hI hc; have HB4 := hI (HB.out.trans (Below.mono hb HB.out.size)); clear hown hc hb; go_wp2_with fail; go_ret; exact sol_of HK.out HK.out HOW.out HCC.out HLI.out HB4.out (by have := HK.out; omega)
end Go.Proofs.YtilljaneegbhlaaGreatDoor
