/-
  stavelaw11.StripeApart: what the disks have, read by read.
-/
import Derived.Test.YtidnmkghmaeniaaGreatTLaw
import Derived.Test.YtidnmkghmaeniaaGreatSameB
namespace Go.Proofs.YtidnmkghmaeniaaGreat
open Go.RowKit Go.Deep Dk Qk Go.Maps Hf
/-- The first m stripes are stored. -/
def apQ (cf : Cf) (N SC K : Nat) : Nat → Rk
  | 0 => newRk N SC
  | m + 1 => Rk.tput (apQ cf N SC K m) cf (m : Nat) (2 + (m : Int)) (blks (m : Int) K)
structure ApI (cf : Cf) (N SC : Nat) (G : Nat → Int) (Bs : Nat → List (List UInt8)) (m : Nat) (q : Rk) : Prop where
  pl : Pl q cf
  nn : q.n = N
  kk : q.k = SC
  al : ∀ d, d < N → (q.s d).dead = false
  is : ∀ i, i < m → ∀ d, d < N → (q.s d).read (tsec cf i) = put (tF cf.k.toNat (i : Nat) (G i) (Bs i) d)
theorem ApI.put {cf : Cf} {N SC : Nat} {G : Nat → Int} {Bs : Nat → List (List UInt8)} {m : Nat} {q : Rk} (h : ApI cf N SC G Bs m q) {s : Nat} {g : Int} {bs : List (List UInt8)} (hx : StIn cf s g bs) :
    Rk.tputC q cf s g bs = 0 ∧ Pl (Rk.tput q cf s g bs) cf ∧ (Rk.tput q cf s g bs).n = N ∧ (Rk.tput q cf s g bs).k = SC ∧ (∀ d, d < N → ((Rk.tput q cf s g bs).s d).dead = false) ∧ ∀ d, d < N → ∀ p, ((Rk.tput q cf s g bs).s d).read p = if p = tsec cf s then put (tF cf.k.toNat s g bs d) else (q.s d).read p := by
  obtain ⟨p1, p2, p3, p4, _⟩ := h.pl.tput hx
  refine ⟨p1, p2, (tput_n _ _ _ _ _).trans h.nn, (tput_k _ _ _ _ _).trans h.kk, fun d hd => (p3 d (by rw [h.nn]; exact hd)).trans (h.al d hd), fun d hd p => ?_⟩
  rw [p4 d p (by rw [h.nn]; exact hd)]
  by_cases e : p = tsec cf s
  · rw [if_pos ⟨e, h.al d hd⟩, if_pos e]
  · rw [if_neg (fun hh => e hh.1), if_neg e]
theorem ap_start {cf : Cf} {N K SC : Nat} (h : CfL cf N K SC 4 2) : ∀ m, m ≤ 4 → ApI cf N SC (fun i => 2 + (i : Int)) (fun i => blks (i : Int) K) m (apQ cf N SC K m)
  | 0, _ => ⟨h.pl, rfl, rfl, fun _ _ => rfl, fun i hi => absurd hi (by omega)⟩
  | m + 1, hm => by
    have hI := ap_start h m (by omega)
    have hx := h.stIn (s := m) (g := 2 + (m : Int)) (m : Int) (by omega) (by omega) (by omega)
    obtain ⟨p1, p2, p3, p4, p5, p6⟩ := hI.put hx
    refine ⟨p2, p3, p4, p5, fun i hi d hd => ?_⟩
    show ((Rk.tput (apQ cf N SC K m) cf (m : Nat) (2 + (m : Int)) (blks (m : Int) K)).s d).read (tsec cf i) = _
    rw [p6 d hd]
    by_cases e : i = m
    · subst e; rw [if_pos rfl]
    · rw [if_neg (fun hh => e (tsec_inj hh))]
      exact hI.is i (by omega) d hd
theorem ap_put {cf : Cf} {N K SC : Nat} (h : CfL cf N K SC 4 2) {m : Nat} (hm : m < 4) : Rk.tputC (apQ cf N SC K m) cf (m : Nat) (2 + (m : Int)) (blks (m : Int) K) = 0 :=
  ((ap_start h m (by omega)).put (h.stIn (s := m) (g := 2 + (m : Int)) (m : Int) (by omega) (by omega) (by omega))).1
/-- One stripe more is stored: the others' sectors stay. -/
theorem ap_more {cf : Cf} {N K SC : Nat} (h : CfL cf N K SC 4 2) {x : Nat} (hx4 : x < 4) (a : Int) :
    Rk.tputC (apQ cf N SC K 4) cf (x : Nat) 9 (blks a K) = 0 ∧ (∀ d, d < N → ∀ p, p ≠ tsec cf x → ((Rk.tput (apQ cf N SC K 4) cf (x : Nat) 9 (blks a K)).s d).read p = ((apQ cf N SC K 4).s d).read p) ∧
    ApI cf N SC (fun i => if i = x then 9 else 2 + (i : Int)) (fun i => if i = x then blks a K else blks (i : Int) K) 4 (Rk.tput (apQ cf N SC K 4) cf (x : Nat) 9 (blks a K)) := by
  have hI := ap_start h 4 (Nat.le_refl _)
  have hx := h.stIn (s := x) (g := 9) a (by omega) (by decide) (by decide)
  obtain ⟨p1, p2, p3, p4, p5, p6⟩ := hI.put hx
  refine ⟨p1, fun d hd p hp => by rw [p6 d hd, if_neg hp], p2, p3, p4, p5, fun i hi d hd => ?_⟩
  rw [p6 d hd]
  show (if tsec cf i = tsec cf x then _ else _) = put (tF cf.k.toNat (i : Nat) (if i = x then 9 else 2 + (i : Int)) (if i = x then blks a K else blks (i : Int) K) d)
  by_cases e : i = x
  · subst e; rw [if_pos rfl, if_pos rfl, if_pos rfl]
  · rw [if_neg (fun hh => e (tsec_inj hh)), if_neg e, if_neg e]
    exact hI.is i hi d hd
theorem ApI.told {cf : Cf} {N K SC : Nat} {G : Nat → Int} {Bs : Nat → List (List UInt8)} {q : Rk} (h : ApI cf N SC G Bs 4 q) (hL : CfL cf N K SC 4 2) {i : Nat} (hi : i < 4) (hx : StIn cf i (G i) (Bs i)) :
    tcode q cf (i : Nat) = 0 ∧ tnew q cf (i : Nat) = G i ∧ ∀ bs', BlocksOf cf.k.toNat 108 (chosen cf.k.toNat (tpts q cf (i : Nat))) bs' → bs' = Bs i := by
  have hT : TIs q cf i (G i) (Bs i) (fun _ => true) := fun d hd => ⟨fun _ => ⟨h.al d (by rw [← h.nn]; exact hd), h.is i hi d (by rw [← h.nn]; exact hd)⟩, fun hh => by cases hh⟩
  have hl : (tL q (fun _ => true)).length = N := by unfold tL; rw [List.filter_eq_self.2 fun _ _ => rfl, List.length_range, h.nn]
  exact got_told h.pl hx hT (by rw [hl, hL.kn]; exact hL.r.2.2.2.2.2.2)
/-- What the reads have told. -/
def rdL (q : Rk) (SC j : Nat) : List UInt8 := (q.s (j / SC)).read (j % SC)
def hadL (q : Rk) (SC m : Nat) : List (List UInt8) := (List.range m).map (rdL q SC)
theorem hadL_length (q : Rk) (SC m : Nat) : (hadL q SC m).length = m := by unfold hadL; simp
theorem hadL_next (q : Rk) {SC d p : Nat} (hp : p < SC) : hadL q SC (d * SC + (p + 1)) = hadL q SC (d * SC + p) ++ [(q.s d).read p] := by
  unfold hadL
  rw [← Nat.add_assoc, List.range_succ, List.map_append]
  show _ ++ [rdL q SC (d * SC + p)] = _
  unfold rdL
  rw [Nat.mul_comm d SC, Nat.mul_add_div (by omega), Nat.mul_add_mod, Nat.div_eq_of_lt hp, Nat.mod_eq_of_lt hp, Nat.add_zero]
theorem hadL_getD (q : Rk) {SC d p m : Nat} (hp : p < SC) (hm : d * SC + p < m) : (hadL q SC m).getD (d * SC + p) [] = (q.s d).read p := by
  unfold hadL
  simp only [List.getD, List.getElem?_map, List.getElem?_range hm, Option.map_some, Option.getD_some]
  unfold rdL
  rw [Nat.mul_comm d SC, Nat.mul_add_div (by omega), Nat.mul_add_mod, Nat.div_eq_of_lt hp, Nat.mod_eq_of_lt hp, Nat.add_zero]
theorem had_lt {N SC d p : Nat} (hd : d < N) (hp : p < SC) : d * SC + p < N * SC := by
  have : (d + 1) * SC ≤ N * SC := Nat.mul_le_mul_right SC hd
  rw [Nat.succ_mul] at this
  omega
/-- The row of what was read. -/
structure HadU (B : Nat) (v : Value) (us : List Value) (ls : List (List UInt8)) (w : World) : Prop where
  row : w.ownsRow B 45 1 v ls.length us
  each : ∀ y, y < ls.length → ∃ g, us[y]? = some (.slice (some ⟨g, 0, none⟩) 128 128) ∧ B ≤ g ∧ g < w.heap.size ∧ v.ownBlock ≠ some g ∧ Holds w g (bytesV (ls.getD y [])) ∧ (ls.getD y []).length = 128
theorem had_nil {B : Nat} {q : Rk} {SC : Nat} {w : World} : HadU B (.slice none 0 0) [] (hadL q SC (0 * SC)) w := by
  rw [Nat.zero_mul]
  exact ⟨World.ownsRow_nil _ _ _ _, fun y hy => absurd hy (by simp [hadL])⟩
theorem HadU.below {B : Nat} {v : Value} {us : List Value} {ls : List (List UInt8)} {w w' : World} (h : HadU B v us ls w) (hb : Below w.heap.size w w') : HadU B v us ls w' :=
  ⟨own_below h.row hb, fun y hy => by
    obtain ⟨g, h1, h2, h3, h4, h5, h6⟩ := h.each y hy
    exact ⟨g, h1, h2, Nat.lt_of_lt_of_le h3 hb.size, h4, h5.below h3 hb, h6⟩⟩
theorem HadU.rc {B n : Nat} {v : Value} {us : List Value} {ls : List (List UInt8)} {w w' : World} {c : Lc} (h : HadU B v us ls w) (hf : Far B c n) (hc : RC c n w w') : HadU B v us ls w' :=
  ⟨own_rc h.row hf hc, fun y hy => by
    obtain ⟨g, h1, h2, h3, h4, h5, h6⟩ := h.each y hy
    have e : w'.heap[g]? = w.heap[g]? := hc.block g h3 (by have := hf.1; omega) (fun i hi => by have := hf.2 i hi; omega)
    have hlt : g < w'.heap.size := by
      have h7 : w.heap[g]? = some w.heap[g] := Array.getElem?_eq_getElem h3
      rw [← e] at h7
      exact (Array.getElem?_eq_some_iff.1 h7).1
    exact ⟨g, h1, h2, hlt, h4, fun i u hu => by rw [World.cell?_of_block (a := ⟨g, i, none⟩) e]; exact h5 i u hu, h6⟩⟩
theorem HadU.snoc {B : Nat} {v v' u : Value} {us : List Value} {ls : List (List UInt8)} {l : List UInt8} {w0 w1 w2 : World} {o : Obj} (h : HadU B v us ls w0) (hB : B ≤ w0.heap.size) (hb : Below w0.heap.size w0 w1) (hu : NewRow l w0 u w1) (hl : l.length = 128)
    (ho : w2.ownsRow B 45 1 v' (ls.length + 1) (us ++ [u])) (hg : Grew (w1.alloc o) v.ownBlock w2 v'.ownBlock) : HadU B v' (us ++ [u]) (ls ++ [l]) w2 := by
  have hul : us.length = ls.length := by have := h.row.1; omega
  obtain ⟨gu, rfl, u1, u2, u3⟩ := hu
  have hs1 : w1.heap.size ≤ (w1.alloc o).heap.size := by simp
  have hst : ∀ g, g < w1.heap.size → v.ownBlock ≠ some g → ∀ xs, Holds w1 g xs → g < w2.heap.size ∧ v'.ownBlock ≠ some g ∧ Holds w2 g xs := fun g hg1 hne xs hx => by
    have e1 : (w1.alloc o).heap[g]? = w1.heap[g]? := heap_alloc_old (r := g) w1 o hg1
    have e2 : w2.heap[g]? = (w1.alloc o).heap[g]? := hg.by_.block g (Nat.lt_of_lt_of_le hg1 hs1) (fun e => hne e.symm)
    refine ⟨Nat.lt_of_lt_of_le hg1 (Nat.le_trans hs1 hg.size), ?_, fun i u hu => by rw [World.cell?_of_block (a := ⟨g, i, none⟩) (e2.trans e1)]; exact hx i u hu⟩
    rcases hg.own with e | e
    · rw [e]; exact hne
    · exact fun he => by have := e g he; omega
  refine ⟨by rw [List.length_append]; exact ho, fun y hy => ?_⟩
  rw [List.length_append] at hy
  by_cases e : y < ls.length
  · obtain ⟨g, h1, h2, h3, h4, h5, h6⟩ := h.each y e
    obtain ⟨k1, k2, k3⟩ := hst g (Nat.lt_of_lt_of_le h3 hb.size) h4 _ (h5.below h3 hb)
    have hgd : (ls ++ [l]).getD y [] = ls.getD y [] := by simp [List.getD, List.getElem?_append_left e]
    rw [hgd]
    exact ⟨g, by rw [List.getElem?_append_left (by omega)]; exact h1, h2, k1, k2, k3, h6⟩
  · have hy' : y = ls.length := by simp at hy; omega
    subst hy'
    have hgd : (ls ++ [l]).getD ls.length [] = l := by simp [List.getD]
    rw [hgd]
    obtain ⟨k1, k2, k3⟩ := hst gu u2 (fun e => by have := (own_block h.row e).2; omega) _ u3
    exact ⟨gu, by rw [List.getElem?_append_right (by omega), hul, Nat.sub_self, hl]; rfl, Nat.le_trans hB u1, k1, k2, k3, hl⟩
theorem HadU.cell {B : Nat} {g n cp : Nat} {us : List Value} {ls : List (List UInt8)} {w : World} (h : HadU B (.slice (some ⟨g, 0, none⟩) n cp) us ls w) (hn : n = ls.length) {y : Nat} (hy : y < ls.length) :
    ∃ u, w.cell? ⟨g, y, none⟩ = some u ∧ SlB w.heap.size w u (ls.getD y []) := by
  obtain ⟨g', h1, _, h3, _, h5, h6⟩ := h.each y hy
  subst hn
  exact ⟨_, own_cell h.row h1, by have := slb_lit (cap := 128) h5 h3 (Nat.le_of_eq h6); rwa [h6] at this⟩
/-- One sector read, where all works. -/
theorem qread_new {lo : Nat} {c : Lc} {q : Rk} (w : World) (h : RackIn lo w c q) (k p : Nat) (hk : k < q.n) (ho : q.off = false) (hd : (q.s k).dead = false) (hp : p < (q.s k).n) :
    Calls Tryz.prog 17 #[.pointer (some ⟨c.r, 0, none⟩), .int .i64 (k : Int), .int .i64 (p : Int)] w (Reads ((q.s k).read p) w) := by
  have HH := Lib.hid (qhas_any w h k)
  rw [decide_eq_true (show q.has (k : Int) from ⟨by omega, by omega⟩)] at HH
  have c1 := h.c1
  rw [ho] at c1
  have c0 := h.c0
  have ca := h.at_ hk
  have i1 : (k : Int) < q.n := by omega
  have i2 : (0 : Int) ≤ k := by omega
  have HP := Lib.hid (read_yes w (h.disk k hk) hd p hp)
  clear h ho hd hp
  go_enter Tryz.func17, Tryz.ntmps17
  go_wp2_with (first
    | (go_at_call 28; refine HH.out.mono ?_; rintro e w' ⟨rfl, rfl⟩)
    | (go_at_call 36; refine HP.out.mono ?_; rintro e w1 ⟨v, rfl, hv, hb⟩)
    | (go_at_call 22; refine (wrap_nil _ _ _).mono ?_; rintro e w' ⟨rfl, rfl⟩))
  exact bodyPost_ret (v := .tuple #[v, .nilIface]) (by simp [results, Tryz.results17, go_sem]) rfl ⟨v, rfl, hv, hb⟩
theorem JW.grew {w1 : World} {c : Lc} {cf : Cf} {b B n : Nat} {q : Rk} {w w' : World} (h : JW w1 c cf b B n q w) {e s m : Nat} {v : Value} {xs : List Value} {r' : Option Nat} (ho : w.ownsRow B e s v m xs) (he : 65 ≠ e) (hg : Grew w v.ownBlock w' r') : JW w1 c cf b B n q w' := by
  have hb : Below B w w' := hg.below h.bB fun k hk => (own_block' ho hk).1
  have hl : w1.heap.size ≤ B := by have := h.qs.rack.lr; have := h.far.1; omega
  obtain ⟨cs, hr, _⟩ := h.qs.rack.row
  refine ⟨⟨h.qs.rack.keep (hb.block _ (by have := h.far.1; omega)) (hg.by_.block _ h.qs.rack.lt.2.1 fun e => own_kind_ne ho hr he e.symm) fun i hi => ?_, h.qs.base.trans (hb.mono hl)⟩, h.nn, h.cfg.below (B := B) (by have := h.bl; omega) hb, h.bl, h.far, Nat.le_trans h.bB hg.size⟩
  have := h.far.2 i (by rw [← h.nn]; exact hi)
  exact ⟨hb.block _ (by omega), hb.block _ (by omega), hb.block _ (by omega)⟩
end Go.Proofs.YtidnmkghmaeniaaGreat
