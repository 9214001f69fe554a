import Derived.Test.YtilljaneegbhlaaGreatDoorZCEncA
import Derived.Lib.AppendZeros
namespace Go.Proofs.YtilljaneegbhlaaGreatDoor
open Go.RowKit Gf Cd
set_option maxHeartbeats 2000000
set_option maxRecDepth 100000
abbrev Pt := Int × List UInt8
def pt0 : Pt := (0, [])
structure PartAt (B : Nat) (w : World) (b o : Nat) (p : Pt) : Prop where
 at_ : w.cell? ⟨b, o, none⟩ = some (.int .i64 p.1)
 data : ∃ u, w.cell? ⟨b, o + 1, none⟩ = some u ∧ SlB B w u p.2
variable {B b o : Nat} {w w' : World}
theorem PartAt.mono {p : Pt} (h : PartAt B w b o p) (hb : b < B) (hc : ∀ b o, b < B → w'.cell? ⟨b, o, none⟩ = w.cell? ⟨b, o, none⟩) : PartAt B w' b o p := by
 obtain ⟨h1, u, h2, h3⟩ := h
 exact ⟨by rw [hc _ _ hb]; exact h1, u, by rw [hc _ _ hb]; exact h2, h3.mono hc⟩
def SlP (B : Nat) (w : World) (v : Value) (ps : List Pt) : Prop :=
 (ps = [] ∧ ∃ a cap, v = .slice a 0 cap) ∨ ∃ b o cap, v = .slice (some ⟨b, o, none⟩) ps.length cap ∧ b < B ∧ (∀ i, i < ps.length → PartAt B w b (o + i * 2) (ps.getD i pt0)) ∧ 0 < ps.length ∧ ps.length ≤ cap
variable {v : Value}
theorem SlP.mono {ps : List Pt} (h : SlP B w v ps) (hc : ∀ b o, b < B → w'.cell? ⟨b, o, none⟩ = w.cell? ⟨b, o, none⟩) : SlP B w' v ps := by
 rcases h with h | ⟨b, o, cap, h1, h2, h3, h4⟩
 ·exact Or.inl h
 ·exact Or.inr ⟨b, o, cap, h1, h2, fun i hi => (h3 i hi).mono h2 hc, h4⟩
theorem SlP.below {ps : List Pt} (h : SlP B w v ps) (hb : Below B w w') : SlP B w' v ps := h.mono fun b o hl => hb.cell (p := ⟨b, o, none⟩) hl
variable {B' : Nat}
theorem SlP.wider {ps : List Pt} (h : SlP B w v ps) (hB : B ≤ B') : SlP B' w v ps := by
 rcases h with h | ⟨b, o, cap, h1, h2, h3, h4⟩
 ·exact Or.inl h
 ·refine Or.inr ⟨b, o, cap, h1, by omega, fun i hi => ?_, h4⟩
  obtain ⟨e1, u, e2, e3⟩ := h3 i hi; exact ⟨e1, u, e2, e3.wider hB⟩
theorem SlP.len {ps : List Pt} (h : SlP B w v ps) : ∃ a cap, v = .slice a ps.length cap ∧ ps.length ≤ cap := by
 rcases h with ⟨rfl, a, cap, h⟩ | ⟨b, o, cap, h1, _, _, _, h2⟩
 ·exact ⟨a, cap, h, Nat.zero_le _⟩
 ·exact ⟨_, cap, h1, h2⟩
theorem SlP.part {ps : List Pt} (h : SlP B w v ps) {i : Nat} (hi : i < ps.length) : ∃ b o cap, v = .slice (some ⟨b, o, none⟩) ps.length cap ∧ ps.length ≤ cap ∧ b < B ∧ PartAt B w b (o + i * 2) (ps.getD i pt0) := by
 rcases h with ⟨rfl, _⟩ | ⟨b, o, cap, h1, hb, h2, _, h3⟩
 ·simp at hi
 ·exact ⟨b, o, cap, h1, h3, hb, h2 i hi⟩
variable {n cap : Nat}
theorem SlP.part' {ps : List Pt} (h : SlP B w (.slice (some ⟨b, o, none⟩) n cap) ps) {i : Nat} (hi : i < ps.length) : PartAt B w b (o + i * 2) (ps.getD i pt0) := by
 obtain ⟨b', o', cap', h1, _, _, h2⟩ := h.part hi
 injection h1 with h1 _ _
 injection h1 with h1
 injection h1 with h1 h1' _
 subst h1 h1'
 exact h2
theorem SlP.lt {ps : List Pt} (h : SlP B w (.slice (some ⟨b, o, none⟩) n cap) ps) (h0 : 0 < ps.length) : b < B := by
 obtain ⟨b', o', cap', h1, _, h2, _⟩ := h.part h0
 injection h1 with h1 _ _
 injection h1 with h1
 injection h1 with h1 h1' _
 subst h1
 exact h2
theorem chas_any (B c k n : Nat) (a : Int) (w : World) (hC : CodeIn B w c k n) : Calls Tryz.prog 168 #[.pointer (some ⟨c, 0, none⟩), .int .i64 a] w (BitSame (decide (0 ≤ a ∧ a < n)) w) := by
 obtain ⟨-, ⟨rv, c1, hrows⟩, -⟩ := hC
 obtain ⟨a1, cap1, rfl, _⟩ := hrows.len
 rw [rowsL_length] at c1
 clear hrows
 by_cases h0 : 0 ≤ a
 ·by_cases h1 : a < n
  ·rw [decide_eq_true ⟨h0, h1⟩]
   go_enter Tryz.func168, Tryz.ntmps168
   go_wp2
   go_ret; exact bitSame (by simp)
  ·rw [decide_eq_false (by omega)]
   go_enter Tryz.func168, Tryz.ntmps168
   go_wp2
   go_ret; exact bitSame (by simp)
 ·rw [decide_eq_false (by omega)]
  go_enter Tryz.func168, Tryz.ntmps168
  go_wp2
  go_ret; exact bitSame (by simp)
variable {c k : Nat}
theorem has_quiet {a : Int} {r : Bool} (hC : CodeIn B w c k n) (hr : decide (0 ≤ a ∧ a < n) = r) : Calls Tryz.prog 168 #[.pointer (some ⟨c, 0, none⟩), .int .i64 a] w (fun e w' => e = .returned (.bool r) ∧ w' = w) :=
 (chas_any B c k n a w hC).mono fun _ _ ⟨h1, h2⟩ => ⟨by rw [h1, hr], h2.symm⟩
def wrongP (n m : Nat) (p : Pt) : Bool := !(decide (0 ≤ p.1 ∧ p.1 < n)) || decide (p.2.length ≠ m)
theorem wrong_part (B c k n p1 p2 b o cap np lx cx m c0 : Nat) (ad a0 : Option Addr) (a : Int) (l : List UInt8) (w : World) (hC : CodeIn B w c k n) (hB : B ≤ w.heap.size) (hl : lx = l.length) (h1 : w.cell? ⟨p1, 0, none⟩ = some (.pointer (some ⟨c, 0, none⟩))) (h2 : w.cell? ⟨p2, 0, none⟩ = some (.slice (some ⟨b, o, none⟩) np cap)) (hnp : 0 < np)
  (h3 : w.cell? ⟨b, o + 1, none⟩ = some (.slice a0 m c0)) :
  Calls Tryz.prog 167 #[.agg #[.int .i64 a, .slice ad lx cx], .pointer (some ⟨p1, 0, none⟩), .pointer (some ⟨p2, 0, none⟩)] w (Bit (wrongP n m (a, l)) w) := by
 subst hl
 have hnp' : (0 : Int) < np := by omega
 have n1 := World.block_lt_of_cell? w _ h1
 have n2 := World.block_lt_of_cell? w _ h2
 have n3 := World.block_lt_of_cell? w _ h3
 simp only at n1 n2 n3
 by_cases hh : 0 ≤ a ∧ a < n
 ·have hd : decide (0 ≤ a ∧ a < n) = true := decide_eq_true hh
  by_cases e : l.length = m
  ·have e1 : ((l.length : Int) != m) = false := by simpa using (by omega : (l.length : Int) = m)
   rw [show wrongP n m (a, l) = false by unfold wrongP; rw [hd, decide_eq_false (by simpa using e)]; rfl]; have HD := hI hd; have HC := hI hC; clear hd e hC hh; generalize l.length = lx at *
   go_enter Tryz.func167, Tryz.ntmps167
   go_wp2_with fail
   go_quiet ((go_at_call 168; exact Calls.quiet_of_same (has_quiet (B := B) (k := k) (n := n) (HC.out.below (by repeat (first | exact Below.mono (one_below _ _) hB | apply below_drewN | apply Below.drew))) HD.out)))
   go_wp2_with fail; go_ret; exact bit rfl (by repeat (first | exact one_below _ _ | apply below_drewN | apply Below.drew))
  ·have e1 : ((l.length : Int) != m) = true := by simpa using (by omega : ¬ (l.length : Int) = m)
   rw [show wrongP n m (a, l) = true by unfold wrongP; rw [hd, decide_eq_true (by simpa using e)]; rfl]; have HD := hI hd; have HC := hI hC; clear hd e hC hh; generalize l.length = lx at *
   go_enter Tryz.func167, Tryz.ntmps167
   go_wp2_with fail
   go_quiet ((go_at_call 168; exact Calls.quiet_of_same (has_quiet (B := B) (k := k) (n := n) (HC.out.below (by repeat (first | exact Below.mono (one_below _ _) hB | apply below_drewN | apply Below.drew))) HD.out)))
   go_wp2_with fail; go_ret; exact bit rfl (by repeat (first | exact one_below _ _ | apply below_drewN | apply Below.drew))
 ·have hd : decide (0 ≤ a ∧ a < n) = false := decide_eq_false hh
  rw [show wrongP n m (a, l) = true by unfold wrongP; rw [hd]; rfl]; have HD := hI hd; have HC := hI hC; clear hd hC hh; generalize l.length = lx at *
  go_enter Tryz.func167, Tryz.ntmps167
  go_wp2_with fail
  go_quiet ((go_at_call 168; exact Calls.quiet_of_same (has_quiet (B := B) (k := k) (n := n) (HC.out.below (by repeat (first | exact Below.mono (one_below _ _) hB | apply below_drewN | apply Below.drew))) HD.out)))
  go_wp2_with fail; go_ret; exact bit rfl (by repeat (first | exact one_below _ _ | apply below_drewN | apply Below.drew))
def RelWr (n m : Nat) (ps : List Pt) (w : World) (c : Value) (wr : World) : Prop := ∃ k : Nat, k ≤ ps.length ∧ c = .int .i64 k ∧ (∀ x, x < k → wrongP n m (ps.getD x pt0) = false) ∧ Below w.heap.size w wr
theorem index_wrong (B B' c k n p1 p2 b o cap : Nat) (ps : List Pt) (w : World) (hC : CodeIn B w c k n) (hB : B ≤ w.heap.size) (hv : SlP B' w (.slice (some ⟨b, o, none⟩) ps.length cap) ps) (hB' : B' ≤ w.heap.size) (hl : ps.length ≤ 100000)
  (h1 : w.cell? ⟨p1, 0, none⟩ = some (.pointer (some ⟨c, 0, none⟩))) (h2 : w.cell? ⟨p2, 0, none⟩ = some (.slice (some ⟨b, o, none⟩) ps.length cap)) :
  Calls Tryz.prog 169 #[.slice (some ⟨b, o, none⟩) ps.length cap, .func (.func 167) #[] #[.pointer (some ⟨p1, 0, none⟩), .pointer (some ⟨p2, 0, none⟩)]] w (Num (firstAt (wrongP n (ps.getD 0 pt0).2.length) ps 0) w) := by
 have HV := hI hv
 have HC := hI hC
 have H1 := hI h1
 have H2 := hI h2
 obtain ⟨_, _, _, hcl⟩ := hv.len
 clear hv hC h1 h2
 go_enter Tryz.func169, Tryz.ntmps169
 go_wp2
 go_loopw [8] (fun i wr => RelWr n (ps.getD 0 pt0).2.length ps w i wr) (fun i _ => ps.length - (intOf i).toNat)
 case atStart => exact ⟨0, Nat.zero_le _, rfl, fun x hx => by omega, Below.refl _ _⟩
 case round =>
  obtain ⟨j, hj, rfl, hno, hb⟩ := hrel; have HN := hI hno; have HB := hI hb; clear hno
  by_cases hlt : j < ps.length
  ·have hbl : b < w.heap.size := Nat.lt_of_lt_of_le (HV.out.lt (by omega)) hB'
   have HVr := HV.out.below (Below.mono hb hB'); obtain ⟨q1, u, q2, q3⟩ := HVr.part' hlt; obtain ⟨-, u0, r2, r3⟩ := HVr.part' (i := 0) (by omega); rw [Nat.zero_mul, Nat.add_zero] at r2; have HE := hI (show wrongP n (ps.getD 0 pt0).2.length ((ps.getD j pt0).1, (ps.getD j pt0).2) = wrongP n (ps.getD 0 pt0).2.length (ps.getD j pt0) from rfl); obtain ⟨a1, cu, rfl, _⟩ := q3.len; obtain ⟨a0, c0, rfl, _⟩ := r3.len; have hcw := HC.out.below (Below.mono hb hB); have HW := hI (wrong_part B c k n p1 p2 b o cap ps.length (ps.getD j pt0).2.length cu (ps.getD 0 pt0).2.length c0 a1 a0 (ps.getD j pt0).1 (ps.getD j pt0).2 wr hcw (Nat.le_trans hB hb.size) rfl ((hb.cell (p := ⟨p1, 0, none⟩) (World.block_lt_of_cell? w _ H1.out)).trans H1.out) ((hb.cell (p := ⟨p2, 0, none⟩) (World.block_lt_of_cell? w _ H2.out)).trans H2.out) (by omega) r2); rw [HE.out] at HW; have HR := hI (show wrongP n (ps.getD 0 pt0).2.length (ps.getD j pt0) = wrongP n (ps.getD 0 pt0).2.length (ps.getD j pt0) from rfl); clear q3 r2 r3 hcw HVr hb HE; generalize (ps.getD j pt0).2.length = m1 at *; generalize (ps.getD j pt0).1 = x1 at *
   cases hd : wrongP n (ps.getD 0 pt0).2.length (ps.getD j pt0)
   ·rw [hd] at HW
    have HD := hI hd; clear hd; go_wp2_with fail; refine HW.out.mono ?_; rintro e w' ⟨rfl, hb2⟩; have HB2 := hI hb2; clear hb2; go_wp2_with fail
    go_roundw
    case rel =>
     refine ⟨j + 1, by omega, by go_num, fun x hx => ?_, bthen HB.out HB2.out⟩
     rcases Nat.lt_or_ge x j with h | h
     ·exact HN.out x h
     ·obtain rfl : x = j := by omega
      exact HD.out
    case measure => simp [intOf]; omega
   ·rw [hd] at HW
    have HD := hI hd; clear hd; go_wp2_with fail; refine HW.out.mono ?_; rintro e w' ⟨rfl, hb2⟩; have HB2 := hI hb2; clear hb2; go_wp2_with fail; go_ret; exact num (firstAt_here _ pt0 ps j hlt HN.out HD.out).symm (bthen HB.out HB2.out)
  ·obtain rfl : j = ps.length := by omega
   clear hb; go_wp2_with fail; go_ret; exact num (firstAt_none _ pt0 ps HN.out).symm HB.out
theorem index_wrong_none (f : Value) (a : Option Addr) (cap : Nat) (w : World) :
  Calls Tryz.prog 169 #[.slice a 0 cap, f] w (Num (-1) w) := by
 go_enter Tryz.func169, Tryz.ntmps169
 go_wp2
 refine wp_loop_rounds 1 ?_
 rw [rounds_succ]
 go_wp2
 go_ret
 exact ⟨rfl, Below.refl _ _⟩
def wrongAt (n : Nat) (ps : List Pt) : Int := firstAt (wrongP n (ps.getD 0 pt0).2.length) ps 0
theorem firstWrong_any (B B' c k n : Nat) (v : Value) (ps : List Pt) (w : World) (hC : CodeIn B w c k n) (hB : B ≤ w.heap.size) (hv : SlP B' w v ps) (hB' : B' ≤ w.heap.size) (hl : ps.length ≤ 100000) :
  Calls Tryz.prog 140 #[.pointer (some ⟨c, 0, none⟩), v] w (Num (wrongAt n ps) w) := by
 have hmf : ∀ (fn : Fn) (first cap : Array Value) (w : World), (Instr.makeFunc fn first cap).run Tryz.prog w = .ok (.func fn first cap) w := fun _ _ _ _ => rfl
 have HI := hI (fun (W : World) (hW : Below w.heap.size w W) (p1 p2 : Nat) (h1 : W.cell? ⟨p1, 0, none⟩ = some (.pointer (some ⟨c, 0, none⟩))) (h2 : W.cell? ⟨p2, 0, none⟩ = some v) => show Calls Tryz.prog 169 #[v, .func (.func 167) #[] #[.pointer (some ⟨p1, 0, none⟩), .pointer (some ⟨p2, 0, none⟩)]] W (Num (wrongAt n ps) W) by
  rcases hv with ⟨rfl, a, cap, rfl⟩ | ⟨b, o, cap, rfl, hr⟩
  ·exact index_wrong_none _ _ _ _
  ·exact index_wrong B B' c k n p1 p2 b o cap ps W (hC.below (Below.mono hW hB)) (Nat.le_trans hB hW.size) (SlP.below (Or.inr ⟨b, o, cap, rfl, hr⟩) (Below.mono hW hB')) (Nat.le_trans hB' hW.size) hl h1 h2)
 obtain ⟨a1, cap1, rfl, _⟩ := hv.len
 clear hv hC
 generalize wrongAt n ps = r at *
 go_enter Tryz.func140, Tryz.ntmps140
 go_wp2_with fail
 refine (HI.out _ (balloc (one_below _ _) _) _ _ (by simp) (by simp)).mono ?_
 rintro e w' ⟨rfl, hb⟩
 have HB := hI hb
 clear hb
 go_wp2
 go_ret
 exact num rfl (bthen (balloc (one_below _ _) _) HB.out)
theorem rev_ind {α : Type} {motive : List α → Prop} (nil : motive []) (append_singleton : ∀ l a, motive l → motive (l ++ [a])) (l : List α) : motive l := by
 rw [← List.reverse_reverse l]
 induction l.reverse with
 | nil => exact nil
 | cons a m ih => rw [List.reverse_cons]; exact append_singleton _ _ ih
def hasP (l : List Pt) (a : Int) : Bool := l.any fun q => q.1 == a
def diffP (ps : List Pt) : List Pt := ps.foldl (fun acc p => if hasP acc p.1 then acc else acc ++ [p]) []
theorem diffP_snoc (l : List Pt) (p : Pt) : diffP (l ++ [p]) = if hasP (diffP l) p.1 then diffP l else diffP l ++ [p] := by
 unfold diffP; rw [List.foldl_append]; rfl
theorem hasP_snoc (l : List Pt) (p : Pt) (a : Int) : hasP (l ++ [p]) a = (hasP l a || p.1 == a) := by simp [hasP]
theorem diffP_has (a : Int) : ∀ l : List Pt, hasP (diffP l) a = hasP l a := by
 intro l
 induction l using rev_ind with
 | nil => rfl
 | append_singleton l p ih =>
  rw [diffP_snoc, hasP_snoc]
  split
  ·rename_i h
   by_cases e : p.1 = a
   ·subst e; rw [h, ← ih, h]; rfl
   ·rw [ih, show (p.1 == a) = false by simpa using e, Bool.or_false]
  ·rw [hasP_snoc, ih]
theorem diffP_sub : ∀ l : List Pt, ∀ p ∈ diffP l, p ∈ l := by
 intro l
 induction l using rev_ind with
 | nil => intro p hp; cases hp
 | append_singleton l q ih =>
  intro p hp; rw [diffP_snoc] at hp
  split at hp
  ·exact List.mem_append_left _ (ih p hp)
  ·rcases List.mem_append.1 hp with h | h
   ·exact List.mem_append_left _ (ih p h)
   ·exact List.mem_append_right _ h
theorem hasP_mem {l : List Pt} {a : Int} : hasP l a = true ↔ a ∈ l.map (·.1) := by
 simp [hasP]
theorem diffP_nodup : ∀ l : List Pt, ((diffP l).map (·.1)).Nodup := by
 intro l
 induction l using rev_ind with
 | nil => exact List.nodup_nil
 | append_singleton l p ih =>
  rw [diffP_snoc]
  split
  ·exact ih
  ·rename_i h
   rw [List.map_append, List.nodup_append]; refine ⟨ih, by simp, fun a ha b hb => ?_⟩; rw [List.map_cons, List.map_nil, List.mem_singleton] at hb; subst hb; intro e; subst e; exact h (hasP_mem.2 ha)
theorem diffP_length_le (l : List Pt) : (diffP l).length ≤ l.length := by
 induction l using rev_ind with
 | nil => exact Nat.le_refl _
 | append_singleton l p ih =>
  rw [diffP_snoc]
  split
  ·simp; omega
  ·simp; omega
def cellsPt (q : Pt × Value) : List Value := [.int .i64 q.1.1, q.2]
theorem flat2_at : ∀ (qs : List (Pt × Value)) (i : Nat) (h : i < qs.length), (qs.flatMap cellsPt)[i * 2]? = some (.int .i64 qs[i].1.1) ∧ (qs.flatMap cellsPt)[i * 2 + 1]? = some qs[i].2
 | [], i, h => by simp at h
 | q :: qs, 0, _ => by simp [cellsPt]
 | q :: qs, i + 1, h => by
  have := flat2_at qs i (by simpa using h); rw [List.flatMap_cons]
  have e1 : (i + 1) * 2 = (cellsPt q).length + i * 2 := by simp [cellsPt]; omega
  have e2 : (i + 1) * 2 + 1 = (cellsPt q).length + (i * 2 + 1) := by simp [cellsPt]; omega
  rw [e2, e1, List.getElem?_append_right (by omega), List.getElem?_append_right (by omega), Nat.add_sub_cancel_left, Nat.add_sub_cancel_left]
  simpa using this
variable {Bd : Nat}
theorem slp_own {qs : List (Pt × Value)} (h : w.ownsRow B 204 2 v qs.length (qs.flatMap cellsPt)) (hd : ∀ q ∈ qs, SlB Bd w q.2 q.1.2) (hB : Bd ≤ w.heap.size) : SlP w.heap.size w v (qs.map (·.1)) := by
 have hh := h
 rcases hh.2 with ⟨rfl, h0⟩ | ⟨g, cap, cur, rfl, _, hg, hle, _⟩
 ·have : qs = [] := List.eq_nil_of_length_eq_zero h0
  subst this; exact Or.inl ⟨rfl, _, _, rfl⟩
 ·rcases Nat.eq_zero_or_pos qs.length with h0 | h0
  ·have : qs = [] := List.eq_nil_of_length_eq_zero h0
   subst this; exact Or.inl ⟨rfl, _, _, rfl⟩
  ·refine Or.inr ⟨g, 0, cap, by rw [List.length_map], (Array.getElem?_eq_some_iff.1 hg).1, fun i hi => ?_, by rw [List.length_map]; exact h0, by rw [List.length_map]; exact hle⟩
   have hi' : i < qs.length := by simpa using hi
   obtain ⟨e1, e2⟩ := flat2_at qs i hi'; have hc := holds_own h
   have hq : (qs.map (·.1)).getD i pt0 = qs[i].1 := by simp [List.getD, hi']
   rw [hq, Nat.zero_add]; exact ⟨hc _ _ e1, qs[i].2, hc _ _ e2, (hd _ (List.getElem_mem hi')).wider hB⟩
theorem Tryz.info204 : (Tryz.prog.info? 204).map (fun i => (i.zero, i.size, i.bytes)) = some (some (.agg #[.int .i64 0, .slice none 0 0]), 2, 32) := by kernel_rfl
theorem part_src {c0 c1 : Value} (hb0 : w.cell? ⟨b, 0, none⟩ = some c0) (hb1 : w.cell? ⟨b, 1, none⟩ = some c1) (h0 : c0.oneCell' = true) (h1 : c1.oneCell' = true) :
  Src Tryz.prog 2 176 (.slice (some ⟨b, 0, none⟩) 1 1) 1 [c0, c1] w :=
 Src.ofSlice _ Tryz.underlying176 ⟨b, 0, none⟩ 1 1 [c0, c1] rfl (fun j y hy => by
  match j, hy with
  | 0, hy => injection hy with hy; subst hy; simpa [Addr.add] using hb0
  | 1, hy => injection hy with hy; subst hy; simpa [Addr.add] using hb1
  | j + 2, hy => simp at hy) (fun y hy => by
  rcases List.mem_cons.1 hy with rfl | hy
  ·exact h0
  ·rw [List.mem_singleton.1 hy]; exact h1)
theorem wpList_append_part (w : World) {ops : Array Oper} {rest : List Oper} {o : Oper} {a : Act} {Q : Exit → Act → World → Prop} (hgd : o.guard = none) (s x : Operand)
  (ho : o.op = .call { callee := .builtin .append, args := #[s, x], argTypes := #[176, 176] })
  (base : Nat) (v : Value) (n : Nat) (xs : List Value) (hsv : a.eval s = v) (hown : w.ownsRow base 204 2 v n xs)
  (b : Nat) (c0 c1 : Value) (hx : a.eval x = .slice (some ⟨b, 0, none⟩) 1 1) (hb0 : w.cell? ⟨b, 0, none⟩ = some c0) (hb1 : w.cell? ⟨b, 1, none⟩ = some c1) (h0 : c0.oneCell' = true) (h1 : c1.oneCell' = true) (h63 : n + 1 ≤ 100000) (hbase : base ≤ w.heap.size)
  (h : ∀ v' w', w'.ownsRow base 204 2 v' (n + 1) (xs ++ [c0, c1]) → Grew w v.ownBlock w' v'.ownBlock → wpList Tryz.prog ops Q rest (a.put o.dst v') w') : wpList Tryz.prog ops Q (o :: rest) a w := by
 obtain ⟨i0, hi0, hz⟩ := Option.map_eq_some_iff.1 Tryz.info204
 simp only [Prod.mk.injEq] at hz
 obtain ⟨hz0, hz1, hz2⟩ := hz
 exact wpList_append_src w hgd s x 176 176 ho base 204 i0 (.agg #[.int .i64 0, .slice none 0 0]) 2 32 Tryz.underlying176 hi0 hz0 hz1 hz2 rfl v n xs hsv hown (.slice (some ⟨b, 0, none⟩) 1 1) 1 [c0, c1] hx (part_src hb0 hb1 h0 h1) (by unfold maxLen; omega) (by omega) hbase fun v' w' h1 h2 _ => h v' w' h1 h2
def Seen (w : World) (g : Nat) (l : List Pt) : Prop := ∃ cs T, w.heap[g]? = some (.cells cs T (0, 0)) ∧ cs.size = 8 ∧ ∀ a : Nat, a < 8 → cs[a]? = some (.bool (hasP l a))
variable {g a : Nat}
theorem Seen.cell {l : List Pt} (h : Seen w g l) (ha : a < 8) : w.cell? ⟨g, a, none⟩ = some (.bool (hasP l a)) ∧ w.frozen? ⟨g, a, none⟩ = false ∧ g < w.heap.size := by
 obtain ⟨cs, T, h1, h2, h3⟩ := h
 refine ⟨?_, ?_, (Array.getElem?_eq_some_iff.1 h1).1⟩
 ·rw [cell_of_row _ g a cs T (0, 0) h1]; exact h3 a ha
 ·unfold World.frozen?; rw [h1]; simp
theorem Seen.below {l : List Pt} (h : Seen w g l) (hb : Below w.heap.size w w') : Seen w' g l := by
 obtain ⟨cs, T, h1, h2⟩ := h
 exact ⟨cs, T, by rw [hb.block g (Array.getElem?_eq_some_iff.1 h1).1]; exact h1, h2⟩
theorem Seen.grew {l : List Pt} {r r' : Option Nat} (h : Seen w g l) (hg : Grew w r w' r') (hr : r ≠ some g) : Seen w' g l := by
 obtain ⟨cs, T, h1, h2⟩ := h
 exact ⟨cs, T, by rw [hg.by_.block g (Array.getElem?_eq_some_iff.1 h1).1 (fun e => hr e.symm)]; exact h1, h2⟩
theorem Seen.set {l : List Pt} {p : Pt} (h : Seen w g l) (ha : a < 8) (hp : p.1 = a) : Seen (w.setCell ⟨g, a, none⟩ (.bool true)) g (l ++ [p]) := by
 obtain ⟨cs, T, h1, h2, h3⟩ := h
 refine ⟨cs.setIfInBounds a (.bool true), T, ?_, by simpa using h2, fun b hb => ?_⟩
 ·show (w.heap.modify g _)[g]? = _
  rw [Array.getElem?_modify, if_pos rfl, h1]; rfl
 ·rw [hasP_snoc]
  by_cases e : b = a
  ·subst e
   rw [Array.getElem?_setIfInBounds_self_of_lt (by omega), hp]
   simp
  ·rw [Array.getElem?_setIfInBounds_ne (fun q => e q.symm), h3 b hb, hp, show ((a : Int) == (b : Int)) = false by simpa using fun q : (a : Int) = b => e (by omega), Bool.or_false]
theorem Seen.same {l l' : List Pt} (h : Seen w g l) (he : ∀ a : Nat, hasP l a = hasP l' a) : Seen w g l' := by
 obtain ⟨cs, T, h1, h2, h3⟩ := h
 exact ⟨cs, T, h1, h2, fun a ha => by rw [h3 a ha, he a]⟩
def PartsR (Bd : Nat) (ps : List Pt) (w : World) (e : Ending) (w' : World) : Prop := ∃ (v : Value) (qs : List (Pt × Value)), e = .returned v ∧ qs.map (·.1) = ps ∧ w'.ownsRow w.heap.size 204 2 v qs.length (qs.flatMap cellsPt) ∧ (∀ q ∈ qs, SlB Bd w' q.2 q.1.2) ∧ Below w.heap.size w w'
def RelDi (Bd : Nat) (ps : List Pt) (w : World) (v i : Value) (wr : World) : Prop :=
 ∃ (k : Nat) (qs : List (Pt × Value)), k ≤ ps.length ∧ i = .int .i64 k ∧ qs.map (·.1) = diffP (ps.take k) ∧ wr.ownsRow (w.heap.size + 1) 204 2 v qs.length (qs.flatMap cellsPt) ∧ (∀ q ∈ qs, SlB Bd wr q.2 q.1.2) ∧ Seen wr w.heap.size (ps.take k) ∧ Below w.heap.size w wr
variable {w2 : World}
theorem relDi_skip {ps : List Pt} {wr : World} {qs : List (Pt × Value)} (hBd : Bd ≤ w.heap.size) (hk : k < ps.length) (h1 : qs.map (·.1) = diffP (ps.take k)) (hown : wr.ownsRow (w.heap.size + 1) 204 2 v qs.length (qs.flatMap cellsPt)) (hd : ∀ q ∈ qs, SlB Bd wr q.2 q.1.2)
  (hs : Seen wr w.heap.size (ps.take k)) (hb : Below w.heap.size w wr) (hb2 : Below wr.heap.size wr w2) (hp : hasP (ps.take k) (ps.getD k pt0).1 = true) : RelDi Bd ps w v (.int .i64 ((k : Int) + 1)) w2 := by
 have ht := ctake_next ps k pt0 hk
 refine ⟨k + 1, qs, by omega, by go_num, ?_, own_below hown hb2, fun q hq => (hd q hq).below (Below.mono hb2 (Nat.le_trans hBd hb.size)), ?_, bthen hb hb2⟩
 ·rw [ht, diffP_snoc, diffP_has, hp, if_pos rfl]; exact h1
 ·rw [ht]
  refine (hs.below hb2).same fun a => ?_
  rw [hasP_snoc]
  by_cases e : (ps.getD k pt0).1 = a
  ·rw [← e, hp]; rfl
  ·rw [show ((ps.getD k pt0).1 == (a : Int)) = false by simpa using e, Bool.or_false]
theorem own_rebase' {e s : Nat} {xs : List Value} (h : w.ownsRow B e s v n xs) (hB : B' ≤ B) : w.ownsRow B' e s v n xs := by
 refine ⟨h.1, ?_⟩
 rcases h.2 with h1 | ⟨g', cap, cur, h1, h2, h3⟩
 ·exact Or.inl h1
 ·exact Or.inr ⟨g', cap, cur, h1, by omega, h3⟩
theorem relDi_take {ps : List Pt} {wr wx wy : World} {v' u : Value} {qs : List (Pt × Value)} {d : List UInt8} (hBd : Bd ≤ w.heap.size) (hk : k < ps.length) (h1 : qs.map (·.1) = diffP (ps.take k)) (hown : wr.ownsRow (w.heap.size + 1) 204 2 v qs.length (qs.flatMap cellsPt)) (hd : ∀ q ∈ qs, SlB Bd wr q.2 q.1.2)
  (hs : Seen wr w.heap.size (ps.take k)) (hb : Below w.heap.size w wr) (hp : hasP (ps.take k) (ps.getD k pt0).1 = false) (hpa : ps.getD k pt0 = ((a : Int), d)) (ha : a < 8) (hu : SlB Bd wr u d) (hx : Below wr.heap.size wr wx) (hy : Below (wx.setCell ⟨w.heap.size, a, none⟩ (.bool true)).heap.size (wx.setCell ⟨w.heap.size, a, none⟩ (.bool true)) wy)
  (hown2 : w2.ownsRow (w.heap.size + 1) 204 2 v' (qs.length + 1) (qs.flatMap cellsPt ++ [.int .i64 a, u])) (hg : Grew wy v.ownBlock w2 v'.ownBlock) : RelDi Bd ps w v' (.int .i64 ((k : Int) + 1)) w2 := by
 have ht := ctake_next ps k pt0 hk
 have hvb : ∀ q, v.ownBlock = some q → w.heap.size + 1 ≤ q := fun q hq => (hown.lt q hq).1
 have hsb := (hs.cell (a := 0) (by omega)).2.2
 have hbx : Below w.heap.size w wx := bthen hb hx
 have hbs : Below w.heap.size w (wx.setCell ⟨w.heap.size, a, none⟩ (.bool true)) := hbx.setCell (Nat.le_refl _) _
 have hby : Below w.heap.size w wy := bthen hbs hy
 have hb2 : Below w.heap.size w w2 := hby.trans (hg.below hby.size fun q hq => by have := hvb q hq; omega)
 have hdat : ∀ (x : Value) (l : List UInt8), SlB Bd wr x l → SlB Bd w2 x l := fun x l h => by
  refine h.mono fun b o hl => ?_
  have e1 := hb2.cell (p := ⟨b, o, none⟩) (show b < w.heap.size by omega); have e2 := hb.cell (p := ⟨b, o, none⟩) (show b < w.heap.size by omega); rw [e1, e2]
 refine ⟨k + 1, qs ++ [(((a : Int), d), u)], by omega, by go_num, ?_, ?_, ?_, ?_, hb2⟩
 ·rw [List.map_append, h1, ht, diffP_snoc, diffP_has, hp, if_neg (by decide), hpa]; rfl
 ·rw [List.length_append, List.flatMap_append]; exact hown2
 ·intro q hq
  rcases List.mem_append.1 hq with h | h
  ·exact hdat _ _ (hd q h)
  ·rw [List.mem_singleton.1 h]; exact hdat _ _ hu
 ·rw [ht]
  refine Seen.grew ((Seen.set (hs.below hx) ha (by rw [hpa])).below hy) hg fun e => ?_
  have := hvb _ e; omega
theorem different_any (Bd : Nat) (v : Value) (ps : List Pt) (w : World) (hv : SlP Bd w v ps) (hBd : Bd ≤ w.heap.size) (hl : ps.length ≤ 1000) (hat : ∀ p ∈ ps, 0 ≤ p.1 ∧ p.1 < 8) : Calls Tryz.prog 141 #[v] w (PartsR Bd (diffP ps) w) := by
 have HV := hI hv
 obtain ⟨a1, cap1, rfl, hcap⟩ := hv.len
 have HA := hI hat
 clear hv hat
 go_enter Tryz.func141, Tryz.ntmps141
 go_wp2_with fail
 go_loopw [4, 9] (fun v i wr => RelDi Bd ps w v i wr) (fun _ i _ => ps.length - (intOf i).toNat)
 case atStart =>
  refine ⟨0, [], Nat.zero_le _, rfl, rfl, World.ownsRow_nil _ _ _ _, (by intro q hq; cases hq), ?_, one_below _ _⟩; refine ⟨_, _, heap_alloc_new w _, by rfl, fun a ha => ?_⟩
  match a, ha with
  | 0, _ => rfl
  | 1, _ => rfl
  | 2, _ => rfl
  | 3, _ => rfl
  | 4, _ => rfl
  | 5, _ => rfl
  | 6, _ => rfl
  | 7, _ => rfl
  | a + 8, ha => omega
 case round =>
  obtain ⟨k, qs, hk, rfl, hq1, hown, hd, hs, hb⟩ := hrel
  by_cases hlt : k < ps.length
  ·obtain ⟨b, o, cap, e1, hcap', hbB, hq, u, hu1, hu2⟩ := (HV.out.below (Below.mono hb hBd)).part hlt
   injection e1 with e1 _ e2; subst e1 e2; have hr := HA.out _ (show ps.getD k pt0 ∈ ps by simp [List.getD, hlt])
   obtain ⟨a, ha⟩ : ∃ a : Nat, (ps.getD k pt0).1 = (a : Int) := ⟨(ps.getD k pt0).1.toNat, by omega⟩
   rw [ha] at hr hq
   have ha8 : a < 8 := by omega
   obtain ⟨s1, s2, s3⟩ := hs.cell ha8; have HPA := hI (show ps.getD k pt0 = ((a : Int), (ps.getD k pt0).2) by rw [← ha]); obtain ⟨au, cu, rfl, _⟩ := hu2.len; have HU := hI hu2; have HQ := hI hq1; have HO := hI hown; have HD := hI hd; have HSE := hI hs; have HB := hI hb; have hbl : b < wr.heap.size := Nat.lt_of_lt_of_le (Nat.lt_of_lt_of_le hbB hBd) hb.size
   have hne : w.heap.size ≠ wr.heap.size := by omega
   have HP := hI (show hasP (ps.take k) (ps.getD k pt0).1 = hasP (ps.take k) (a : Int) by rw [ha]); clear hu2 hq1 hown hd hs hb ha hbB; generalize (ps.getD k pt0).2 = dat at *
   have hal : (a : Int) < 8 := by omega
   cases hh : hasP (ps.take k) (a : Int)
   ·rw [hh] at s1 HP
    clear hh
    have hql : qs.length ≤ 1000 := by
     have e1 := congrArg List.length HQ.out; rw [List.length_map] at e1; have e2 := diffP_length_le (ps.take k); rw [List.length_take] at e2; omega
    have HO2 := hI (fun o1 o2 => ((World.ownsRow.kept HO.out (grownBy_set wr w.heap.size a (.bool true)) (Or.inr fun e => by have := (HO.out.lt _ e).1; omega)).alloc o1).alloc o2); have HC3 := hI (show qs.length + 1 ≤ 100000 by omega); have HC4 := hI (fun o1 o2 => show w.heap.size + 1 ≤ (((wr.setCell ⟨w.heap.size, a, none⟩ (.bool true)).alloc o1).alloc o2).heap.size from Nat.le_trans (Nat.le_trans (by omega) ((Below.refl 0 wr).setCell (p := ⟨w.heap.size, a, none⟩) (Nat.zero_le _) (.bool true)).size) (balloc (one_below _ o1) o2).size); clear hql; go_wp2_with (at_builtin; refine wpList_append_part _ rfl (.tmp 21) (.tmp 23) rfl (w.heap.size + 1) _ _ _ rfl (HO2.out _ _) (wr.heap.size + 1) (.int .i64 a) (.slice au dat.length cu) rfl ?_ ?_ rfl rfl HC3.out (HC4.out _ _) ?_; rotate_right; intro v2 w2 hown2 hg2; have HOW := hI hown2; have HG := hI hg2; clear hown2 hg2)
    go_roundw
    case rel => exact relDi_take hBd hlt HQ.out HO.out HD.out HSE.out HB.out HP.out HPA.out ha8 HU.out (Below.refl _ _) (balloc (one_below _ _) _) HOW.out HG.out
    case measure => simp [intOf]; omega
   ·rw [hh] at s1 HP
    clear hh; go_wp2_with fail
    go_roundw
    case rel => exact relDi_skip hBd hlt HQ.out HO.out HD.out HSE.out HB.out (one_below _ _) HP.out
    case measure => simp [intOf]; omega
  ·obtain rfl : k = ps.length := by omega
   have HQ := hI hq1; have HO := hI hown; have HD := hI hd; have HB := hI hb; clear hq1 hown hd hb hs; go_wp2_with fail; go_ret; exact ⟨_, qs, rfl, by rw [HQ.out, List.take_length], own_rebase' HO.out (by omega), HD.out, HB.out⟩
def Room0 (w : World) (e : Ending) (w' : World) : Prop := ∃ v, e = .returned v ∧ w'.ownsRow w.heap.size 5 1 v 0 [] ∧ Below w.heap.size w w'
theorem grow_nil (n : Nat) (w : World) (hn : n ≤ 100000) : Calls Tryz.prog 185 #[.slice none 0 0, .int .i64 n] w (Room0 w) := by
 by_cases h0 : n = 0
 ·subst h0
  go_enter Tryz.func185, Tryz.ntmps185
  go_wp2
  go_ret; exact ⟨_, rfl, World.ownsRow_nil _ _ _ _, Below.refl _ _⟩
 ·obtain ⟨i0, hi0, hz0, hz1, hz2⟩ := info_u8
  have hr := fun ty => Lib.run_append_nil_zeros (P := Tryz.prog) w 37 3 ty 5 i0 (.int .u8 0) .i64 .i64 Tryz.underlying37 Tryz.underlying3 hi0 hz0 n (by omega) (by omega) (by omega) (by rw [hz2]; omega)
  have hc := grownCap_le_maxLen w n 0 5 (by unfold maxLen; omega); have hg := grownCap_ge w n 0 5
  have hpos : (0 : Int) < n := by omega
  have HPOST := hI (show Room0 w (.returned (.slice (some ⟨w.heap.size, 0, none⟩) 0 (grownCap w n 0 5))) (w.drew.alloc (.cells (Builtin.zeroCells (Value.int .u8 0).cells n ++ Builtin.zeroCells (Value.int .u8 0).cells (grownCap w n 0 5 - n)) 5)) from
   ⟨_, rfl, World.ownsRow_made w.drew _ _ (Nat.le_refl _) hc (by rw [Array.size_append, size_zeroCells, size_zeroCells]; show n * 1 + _ * 1 = _; omega), (Below.refl _ w).drew.alloc (by exact Nat.le_refl _) _⟩)
  generalize Builtin.zeroCells (Value.int .u8 0).cells n ++ Builtin.zeroCells (Value.int .u8 0).cells (grownCap w n 0 5 - n) = cs at *; generalize grownCap w n 0 5 = G at *; unfold maxLen at hc
  have hgi : (0 : Int) ≤ G := by omega
  clear hi0 hz0 hz1 hz2 h0
  go_enter Tryz.func185, Tryz.ntmps185
  go_wp2_with (at_builtin; refine Lib.wpList_append_run _ rfl _ _ _ _ rfl _ _ rfl rfl _ _ (hr _) ?_)
  all_goals
   go_ret; exact HPOST.out
theorem flat_next (ls : List (List UInt8)) (j : Nat) (h : j < ls.length) : (ls.take (j + 1)).flatten = (ls.take j).flatten ++ ls.getD j [] := by
 rw [ctake_next ls j [] h, List.flatten_append]; simp
theorem flat_le (ls : List (List UInt8)) (j : Nat) : (ls.take j).flatten.length ≤ ls.flatten.length := by
 have : ls.flatten = (ls.take j).flatten ++ (ls.drop j).flatten := by rw [← List.flatten_append, List.take_append_drop]
 rw [this, List.length_append]; omega
def RelC1 (ls : List (List UInt8)) (s c : Value) : Prop := ∃ j : Nat, j ≤ ls.length ∧ c = .int .i64 j ∧ s = .int .i64 (ls.take j).flatten.length
def RelC2 (ls : List (List UInt8)) (w : World) (v c : Value) (wr : World) : Prop := ∃ j : Nat, j ≤ ls.length ∧ c = .int .i64 j ∧ wr.ownsRow w.heap.size 5 1 v (ls.take j).flatten.length (bytesV (ls.take j).flatten) ∧ Below w.heap.size w wr
variable {ls : List (List UInt8)} {j m : Nat}
theorem relC2_next {wr : World} {v2 : Value} {q : Nat} (hq : (ls.take j).flatten.length = q) (hm : (ls.getD j []).length = m) (hj : j < ls.length) (hb : Below w.heap.size w wr) (ho : wr.ownsRow w.heap.size 5 1 v q (bytesV (ls.take j).flatten))
  (ho2 : w2.ownsRow w.heap.size 5 1 v2 (q + m) (bytesV (ls.take j).flatten ++ bytesV (ls.getD j []))) (hg : Grew wr v.ownBlock w2 v2.ownBlock) : RelC2 ls w v2 (.int .i64 ((j : Int) + 1)) w2 := by
 subst hq hm
 exact ⟨j + 1, by omega, by go_num, by rw [flat_next ls j hj, List.length_append, bytesV_append]; exact ho2, hb.trans (hg.below hb.size fun _ hk => (own_block ho hk).1)⟩
theorem wpList_append_bytes' (w : World) {ops : Array Oper} {rest : List Oper} {o : Oper} {a : Act} {Q : Exit → Act → World → Prop} (hgd : o.guard = none) (s x : Operand)
  (ho : o.op = .call { callee := .builtin .append, args := #[s, x], argTypes := #[37, 37] })
  (base : Nat) (v : Value) (n : Nat) (xs : List Value) (hsv : a.eval s = v) (hown : w.ownsRow base 5 1 v n xs)
  (B m : Nat) (y : Value) (l : List UInt8) (hm : l.length = m) (hx : a.eval x = y) (hs : SlB B w y l) (h63 : n + m ≤ 10000000) (hbase : base ≤ w.heap.size)
  (h : ∀ v' w', w'.ownsRow base 5 1 v' (n + m) (xs ++ bytesV l) → Grew w v.ownBlock w' v'.ownBlock → wpList Tryz.prog ops Q rest (a.put o.dst v') w') : wpList Tryz.prog ops Q (o :: rest) a w := by
 subst hm
 exact wpList_append_bytes w hgd s x ho base v n xs hsv hown B y l hx hs h63 hbase h
theorem concat_any (B : Nat) (v : Value) (ls : List (List UInt8)) (w : World) (hv : SlBs B w v ls) (hB : B ≤ w.heap.size) (hl : ls.length ≤ 1000) (hf : ls.flatten.length ≤ 10000) : Calls Tryz.prog 170 #[v] w (NewB ls.flatten w) := by
 have HV := hI hv
 obtain ⟨a1, cap1, rfl, hcap⟩ := hv.len
 clear hv
 go_enter Tryz.func170, Tryz.ntmps170
 go_wp2_with fail
 go_loop [3, 11] (fun s c => RelC1 ls s c) (fun _ c => ls.length - (intOf c).toNat)
 case atStart => exact ⟨0, Nat.zero_le _, rfl, rfl⟩
 case round =>
  obtain ⟨j, hj, rfl, rfl⟩ := hrel; have h1 := flat_le ls j
  by_cases hlt : j < ls.length
  ·obtain ⟨b, o, cap, u, e1, hcap', hbB, hu1, hu2⟩ := HV.out.row hlt
   injection e1 with e1 _ e2; subst e1 e2; obtain ⟨a2, c2, rfl, _⟩ := hu2.len; have h2 := flat_le ls (j + 1); have h3 := flat_next ls j hlt; rw [h3, List.length_append] at h2; have HN := hI (congrArg List.length h3); rw [List.length_append] at HN; clear hu2 h3; generalize (ls.getD j []).length = m at *; generalize (ls.take j).flatten.length = q at *; go_wp2_with fail
   go_round
   case rel => exact ⟨j + 1, by omega, by go_num, by rw [HN.out]; go_num⟩
   case measure => simp [intOf]; omega
  ·obtain rfl : j = ls.length := by omega
   rw [List.take_length]; generalize hT : ls.flatten.length = tot at *; have HT := hI hT; have HG := hI (grow_nil tot w (by omega)); clear h1 hT; go_wp2_with fail; refine HG.out.mono ?_; rintro e w1 ⟨v1, rfl, hown1, hb1⟩; have HO1 := hI hown1; have HB1 := hI hb1; obtain ⟨g1, c1, rfl, _⟩ := own_slice hown1; clear hown1 hb1; go_wp2_with fail
   go_loopw [6, 27] (fun v c wr => RelC2 ls w v c wr) (fun _ c _ => ls.length - (intOf c).toNat)
   case atStart => exact ⟨0, Nat.zero_le _, rfl, HO1.out, HB1.out⟩
   case round =>
    obtain ⟨j, hj, rfl, hown, hb⟩ := hrel; have h1 := flat_le ls j
    by_cases hlt : j < ls.length
    ·obtain ⟨b, o, cap, u, e1, hcap', hbB, hu1, hu2⟩ := (HV.out.below (Below.mono hb hB)).row hlt
     injection e1 with e1 _ e2; subst e1 e2; obtain ⟨a2, c2, rfl, _⟩ := hu2.len; have h2 := flat_le ls (j + 1); rw [HT.out] at h1 h2; rw [flat_next ls j hlt, List.length_append] at h2; have HU := hI hu2; have HO := hI hown; have HB := hI hb; have HSZ := hI (show (ls.take j).flatten.length + (ls.getD j []).length ≤ 10000000 by omega); clear hu2 hown hb h2 h1; generalize hq : (ls.take j).flatten.length = q at *; generalize hm : (ls.getD j []).length = m at *; have HQ := hI hq; have HM := hI hm; clear hq hm; obtain ⟨gx, cx, rfl, _⟩ := own_slice HO.out; go_wp2_with (at_builtin; refine wpList_append_bytes' _ rfl (.tmp 31) (.tmp 32) rfl w.heap.size _ _ _ rfl HO.out B _ _ _ HM.out rfl HU.out HSZ.out HB.out.size ?_; intro v2 w2 hown2 hg2; have HOW := hI hown2; have HGR := hI hg2; clear hown2 hg2)
     go_roundw
     case rel => exact relC2_next HQ.out HM.out hlt HB.out HO.out HOW.out HGR.out
     case measure => simp [intOf]; omega
    ·obtain rfl : j = ls.length := by omega
     have HO := hI hown; have HB := hI hb; clear hown hb h1; go_wp2_with fail; go_ret; have hO := HO.out; rw [List.take_length] at hO; exact ⟨_, rfl, hO, HB.out⟩
def mat (ls : List (List UInt8)) : Mat := fun i c => ((ls.getD i []).getD c 0).toNat
theorem mat_bm (ls : List (List UInt8)) : BM (mat ls) := fun _ _ => UInt8.toNat_lt _
def PivR (ls : List (List UInt8)) (j : Nat) (w : World) (e : Ending) (w' : World) : Prop := ∃ p : Nat, (j ≤ p ∧ p < ls.length ∧ mat ls p j ≠ 0 ∧ ∀ i, j ≤ i → i < p → mat ls i j = 0) ∧ e = .returned (.int .i64 p) ∧ w = w'
def RelPi (ls : List (List UInt8)) (j p0 : Nat) (iv : Value) : Prop := ∃ i : Nat, j ≤ i ∧ i ≤ p0 ∧ iv = .int .i64 i ∧ ∀ x, j ≤ x → x < i → mat ls x j = 0
theorem pivot_any (B : Nat) (v : Value) (ls : List (List UInt8)) (j : Nat) (w : World) (hv : SlBs B w v ls) (hl : ls.length ≤ 1000) (hex : ∃ p, j ≤ p ∧ p < ls.length ∧ mat ls p j ≠ 0) (hj : ∀ i, i < ls.length → j < (ls.getD i []).length) :
  Calls Tryz.prog 171 #[v, .int .i64 j] w (PivR ls j w) := by
 obtain ⟨p0, hp1, hp2, hp3⟩ := hex
 have HV := hI hv
 have HJ := hI hj
 have HP := hI hp3
 obtain ⟨a1, cap1, rfl, hcap⟩ := hv.len
 clear hv hj hp3
 go_enter Tryz.func171, Tryz.ntmps171
 go_wp2_with fail
 go_loop [5] (fun i => RelPi ls j p0 i) (fun i => p0 - (intOf i).toNat)
 case atStart => exact ⟨j, Nat.le_refl _, hp1, rfl, fun x h1 h2 => by omega⟩
 case round =>
  obtain ⟨i, h1, h2, rfl, hz⟩ := hrel; have HZ := hI hz; clear hz
  have hil : i < ls.length := by omega
  obtain ⟨b, o, cap, u, e1, hcap', hbB, hu1, hu2⟩ := HV.out.row hil; injection e1 with e1 _ e2; subst e1 e2; have hlen := HJ.out i hil
  rcases hu2 with ⟨h0, _⟩ | ⟨b2, o2, cap2, rfl, _, hb2, _, hcap2⟩
  ·rw [h0] at hlen; simp at hlen
  have hc := hb2 j hlen; have HE := hI (show mat ls i j = ((ls.getD i []).getD j 0).toNat from rfl); have hx : ((ls.getD i []).getD j 0).toNat < 256 := UInt8.toNat_lt _; clear hb2; generalize (ls.getD i []).length = m at *; generalize ((ls.getD i []).getD j 0).toNat = x at *
  have hil' : (i : Int) < ls.length := by omega
  have hjm : (j : Int) < m := by omega
  by_cases h0 : x = 0
  ·subst h0
   have hne : i ≠ p0 := fun e => HP.out (by rw [← e]; exact HE.out)
   go_wp2_with fail
   go_round
   case rel =>
    refine ⟨i + 1, by omega, by omega, by go_num, fun y hy1 hy2 => ?_⟩
    by_cases e : y = i
    ·rw [e]; exact HE.out
    ·exact HZ.out y hy1 (by omega)
   case measure => simp [intOf]; omega
  ·have hx0 : ((x : Int) == 0) = false := by simpa using h0
   have H0 := hI h0; clear h0; go_wp2_with fail; go_ret; exact ⟨i, ⟨h1, hil, by rw [HE.out]; exact H0.out, HZ.out⟩, rfl, rfl⟩
theorem times_any (B B' c k n x : Nat) (v : Value) (l : List UInt8) (w : World) (hC : CodeIn B w c k n) (hB : B ≤ w.heap.size) (hv : SlB B' w v l) (hB' : B' ≤ w.heap.size) (hl : l.length ≤ 10000) (hx : x < 256) :
  Calls Tryz.prog 172 #[.pointer (some ⟨c, 0, none⟩), v, .int .u8 x] w (NewB (addB (zeros l.length) l x) w) := by
 obtain ⟨-, -, ⟨fb, c2, hF, hfb⟩, hcB, -⟩ := hC
 obtain ⟨a1, cap1, rfl, hcap⟩ := hv.len
 have HV := hI hv
 have HF := hI hF
 have hmk := make_u8 l.length (by omega)
 have HMO := hI (made_own w w.heap.size l.length (Nat.le_refl _) (by omega))
 have n1 : c < w.heap.size := by omega
 clear hv hF
 go_enter Tryz.func172, Tryz.ntmps172
 go_wp2_with fail
 go_at_call 173
 refine (add_any fb w.heap.size B' _ _ (zeros l.length) l x _ (HF.out.at (Below.mono (one_below _ _) hB) hfb) hx ?_ (HV.out.below (Below.mono (one_below _ _) hB')) ?_ ?_ (by rw [zeros_length]; omega) (by omega)).mono ?_
 ·rw [zeros_length]; exact HMO.out
 ·simp; omega
 ·intro e; have e' : w.heap.size = fb := by injection e
  omega
 rintro e w2 ⟨rfl, hown2, hg2⟩
 have HO2 := hI hown2
 have HG2 := hI hg2
 clear hown2 hg2
 go_wp2_with fail
 go_ret
 refine ⟨_, rfl, ?_, (one_below w _).trans (HG2.out.below (by simp) fun q hq => (own_block HO2.out hq).1)⟩
 exact HO2.out
def swp (p j i : Nat) : Nat := if i = j then p else if i = p then j else i
variable {p i : Nat}
theorem swp_inj {i' : Nat} (h : swp p j i = swp p j i') : i = i' := by
 unfold swp at h
 repeat' split at h
 all_goals omega
theorem swp_lt (hp : p < k) (hj : j < k) (hi : i < k) : swp p j i < k := by
 unfold swp; split
 ·exact hp
 ·split
  ·exact hj
  ·exact hi
def swapL {α : Type} (l : List α) (p j : Nat) (d : α) : List α := (l.set p (l.getD j d)).set j (l.getD p d)
theorem swapL_length {α : Type} (l : List α) (p j : Nat) (d : α) : (swapL l p j d).length = l.length := by simp [swapL]
theorem swapL_getD {α : Type} (l : List α) (p j i : Nat) (d : α) (hp : p < l.length) (hj : j < l.length) : (swapL l p j d).getD i d = l.getD (swp p j i) d := by
 unfold swapL swp
 by_cases e : i = j
 ·subst e; rw [if_pos rfl, getD_set_eq _ _ _ _ (by simpa using hj)]
 ·rw [if_neg e, getD_set_ne _ _ _ _ _ e]
  by_cases e2 : i = p
  ·subst e2; rw [if_pos rfl, getD_set_eq _ _ _ _ hp]
  ·rw [if_neg e2, getD_set_ne _ _ _ _ _ e2]
theorem OwnLs.swap {us : List Value} (h : OwnLs B w (.slice (some ⟨g, 0, none⟩) ls.length c) us ls) (hp : p < ls.length) (hj : j < ls.length) :
  OwnLs B ((w.setCell ⟨g, p, none⟩ (us.getD j nilB)).setCell ⟨g, j, none⟩ (us.getD p nilB)) (.slice (some ⟨g, 0, none⟩) ls.length c) (swapL us p j nilB) (swapL ls p j []) := by
 have hul := h.ulen
 have hg : ∀ i, i < ls.length → (us.getD i nilB).ownBlock = none ∨ (us.getD i nilB).ownBlock ≠ some g := fun i hi => h.off i hi
 refine ⟨?_, fun i hi => ?_, fun i i' hi hi' hne => ?_, fun i hi => ?_⟩
 ·rw [swapL_length]; exact own_set (own_set h.top p _) j _
 ·rw [swapL_length] at hi
  rw [swapL_getD _ _ _ _ _ (by omega) (by omega), swapL_getD _ _ _ _ _ hp hj]; have hl := swp_lt hp hj hi; exact own_kept_set (own_kept_set (h.each _ hl) (hg _ hl)) (hg _ hl)
 ·rw [swapL_length] at hi hi'
  rw [swapL_getD _ _ _ _ _ (by omega) (by omega), swapL_getD _ _ _ _ _ (by omega) (by omega)]
  exact h.apart _ _ (swp_lt hp hj hi) (swp_lt hp hj hi') fun e => hne (swp_inj e)
 ·rw [swapL_length] at hi
  rw [swapL_getD _ _ _ _ _ (by omega) (by omega)]; exact h.off _ (swp_lt hp hj hi)
theorem mat_swap (hp : p < ls.length) (hj : j < ls.length) : mat (swapL ls p j []) = swapM (mat ls) p j := by
 funext i
 unfold mat swapM
 funext c
 rw [swapL_getD _ _ _ _ _ hp hj]
 unfold swp
 by_cases e : i = j
 ·rw [if_pos e, if_pos e]
 ·rw [if_neg e, if_neg e]
  by_cases e2 : i = p
  ·rw [if_pos e2, if_pos e2]
  ·rw [if_neg e2, if_neg e2]
def elimK (ls : List (List UInt8)) (j i0 : Nat) : List (List UInt8) := tabL ls.length fun i => if i < i0 ∧ i ≠ j then addB (ls.getD i []) (ls.getD j []) ((ls.getD i []).getD j 0).toNat else ls.getD i []
theorem elimK_length (ls : List (List UInt8)) (j i0 : Nat) : (elimK ls j i0).length = ls.length := tabL_length ..
theorem elimK_0 (ls : List (List UInt8)) (j : Nat) : elimK ls j 0 = ls := by
 refine List.ext_getElem (elimK_length ..) fun i h1 h2 => ?_
 simp [elimK, tabL, h2]
variable {i0 : Nat}
theorem elimK_getD (h : i < ls.length) : (elimK ls j i0).getD i [] = if i < i0 ∧ i ≠ j then addB (ls.getD i []) (ls.getD j []) ((ls.getD i []).getD j 0).toNat else ls.getD i [] := tabL_getD _ h
theorem elimK_skip (ls : List (List UInt8)) (j : Nat) : elimK ls j (j + 1) = elimK ls j j := tabL_congr fun i _ => by simp only [show (i < j + 1 ∧ i ≠ j) ↔ (i < j ∧ i ≠ j) by omega]
theorem elimK_next (hi : i ≠ j) : (elimK ls j i).set i (addB (ls.getD i []) (ls.getD j []) ((ls.getD i []).getD j 0).toNat) = elimK ls j (i + 1) :=
 tabL_set (fun x _ hx => by simp only [show (x < i + 1 ∧ x ≠ j) ↔ (x < i ∧ x ≠ j) by omega]) (by simp only [show (i < i + 1 ∧ i ≠ j) by omega, if_pos, and_self, ne_eq, not_false_eq_true])
theorem elimK_len (h : ∀ i, i < ls.length → (ls.getD i []).length = m) : ∀ i, i < ls.length → ((elimK ls j i0).getD i []).length = m := fun i hi => by
 rw [elimK_getD hi]
 split
 ·rw [addB_length]; exact h i hi
 ·exact h i hi
theorem addB_mat {l m : List UInt8} {x : Nat} (h : m.length = l.length) (c : Nat) : ((addB l m x).getD c 0).toNat = (l.getD c 0).toNat ^^^ mul (m.getD c 0).toNat x := by
 by_cases hc : c < l.length
 ·rw [addB_getD _ _ _ _ hc, if_pos (by omega)]
 ·have e1 : (addB l m x).getD c 0 = 0 := by simp [List.getD, List.getElem?_eq_none (show (addB l m x).length ≤ c by rw [addB_length]; omega)]
  have e2 : l.getD c 0 = 0 := by simp [List.getD, List.getElem?_eq_none (show l.length ≤ c by omega)]
  have e3 : m.getD c 0 = 0 := by simp [List.getD, List.getElem?_eq_none (show m.length ≤ c by omega)]
  rw [e1, e2, e3]; show 0 = 0 ^^^ mul 0 x; rw [zero_mul]; rfl
def stepL (ls : List (List UInt8)) (p j : Nat) : List (List UInt8) :=
 let a := swapL ls p j []
 let l := a.getD j []
 elimK (a.set j (addB (zeros l.length) l (inv (l.getD j 0).toNat))) j ls.length
theorem mat_step (hp : p < ls.length) (hj : j < ls.length) (hl : ∀ i, i < ls.length → (ls.getD i []).length = m) : ∀ i, i < ls.length → mat (stepL ls p j) i = stepM (swapM (mat ls) p j) j i := by
 intro i hi
 rw [← mat_swap hp hj]
 have hal : (swapL ls p j []).length = ls.length := swapL_length ..
 have hall : ∀ i, i < ls.length → ((swapL ls p j []).getD i []).length = m := fun i hi => by rw [swapL_getD _ _ _ _ _ hp hj]; exact hl _ (swp_lt hp hj hi)
 unfold stepL
 generalize swapL ls p j [] = a at *
 have e1 : ∀ c, (((addB (zeros (a.getD j []).length) (a.getD j []) (inv ((a.getD j []).getD j 0).toNat))).getD c 0).toNat = mul (mat a j c) (inv (mat a j j)) := fun c => by
  rw [addB_mat (by rw [zeros_length]), zeros_getD, Nat.zero_xor]; rfl
 have e2 : (addB (zeros (a.getD j []).length) (a.getD j []) (inv ((a.getD j []).getD j 0).toNat)).length = m := by rw [addB_length, zeros_length, hall j hj]
 show mat (elimK (a.set j (addB (zeros (a.getD j []).length) (a.getD j []) (inv ((a.getD j []).getD j 0).toNat))) j ls.length) i = _
 generalize addB (zeros (a.getD j []).length) (a.getD j []) (inv ((a.getD j []).getD j 0).toNat) = t at *
 funext c
 have hsl : (a.set j t).length = ls.length := by rw [List.length_set, hal]
 unfold stepM
 by_cases e : i = j
 ·subst e
  rw [if_pos rfl]
  show (((elimK (a.set i t) i ls.length).getD i []).getD c 0).toNat = _
  rw [elimK_getD (by omega), if_neg (by omega), getD_set_eq _ _ _ _ (by omega)]; exact e1 c
 ·rw [if_neg e]
  show (((elimK (a.set j t) j ls.length).getD i []).getD c 0).toNat = _
  rw [elimK_getD (by omega), if_pos ⟨hi, e⟩, getD_set_eq _ _ _ _ (by omega), getD_set_ne _ _ _ _ _ e, addB_mat (by rw [e2, hall i hi]), e1 c]
  rfl
theorem stepL_length (ls : List (List UInt8)) (p j : Nat) : (stepL ls p j).length = ls.length := by unfold stepL; simp only [elimK_length, List.length_set, swapL_length]
theorem stepL_len (hp : p < ls.length) (hj : j < ls.length) (hl : ∀ i, i < ls.length → (ls.getD i []).length = m) : ∀ i, i < ls.length → ((stepL ls p j).getD i []).length = m := by
 intro i hi
 have hal : (swapL ls p j []).length = ls.length := swapL_length ..
 have hall : ∀ i, i < ls.length → ((swapL ls p j []).getD i []).length = m := fun i hi => by rw [swapL_getD _ _ _ _ _ hp hj]; exact hl _ (swp_lt hp hj hi)
 unfold stepL
 generalize swapL ls p j [] = a at *
 refine elimK_len (m := m) (fun x hx => ?_) i (by rw [List.length_set, hal]; exact hi)
 rw [List.length_set, hal] at hx
 by_cases e : x = j
 ·subst e; rw [getD_set_eq _ _ _ _ (by omega), addB_length, zeros_length, hall x hx]
 ·rw [getD_set_ne _ _ _ _ _ e]; exact hall x hx
structure Lines (k m j : Nat) (M0 : Mat) (ls : List (List UInt8)) : Prop where
 len : ls.length = k
 each : ∀ i, i < k → (ls.getD i []).length = m
 unit : UnitTo k j (mat ls)
 same : SameEq k M0 (mat ls)
theorem Lines.step {M0 : Mat} (h : Lines k m j M0 ls) (hj : j < k) (hp1 : j ≤ p) (hp2 : p < k) (hne : mat ls p j ≠ 0) : Lines k m (j + 1) M0 (stepL ls p j) := by
 obtain ⟨h1, h2, h3, h4⟩ := h
 subst h1
 have hm := mat_step hp2 hj h2
 have hb : BM (swapM (mat ls) p j) := swap_bm (mat_bm ls) p j
 have hne' : swapM (mat ls) p j j j ≠ 0 := by unfold swapM; rw [if_pos rfl]; exact hne
 refine ⟨stepL_length .., stepL_len hp2 hj h2, fun c hc i hi => ?_, ?_⟩
 ·rw [hm i hi]; exact step_unit hb (swap_unit h3 hp2 hp1) hj hne' c hc i hi
 ·refine (h4.trans (swap_same (mat ls) hp2 hj)).trans ((step_same hb hj hne').trans ?_)
  intro F hF
  constructor
  ·intro h i hi; rw [hm i hi]; exact h i hi
  ·intro h i hi; rw [← hm i hi]; exact h i hi
theorem Lines.pivot {M0 : Mat} (h : Lines k m j M0 ls) (hn : NSing k M0) (hj : j < k) : ∃ p, j ≤ p ∧ p < ls.length ∧ mat ls p j ≠ 0 := by
 rw [h.len]; exact pivot_ex (mat_bm ls) (h.same.ns hn) h.unit hj
end Go.Proofs.YtilljaneegbhlaaGreatDoor
