import Derived.Test.YtilljaneegbhlaaGreatDoorZTBase
namespace Go.Proofs.YtilljaneegbhlaaGreatDoor
open Go.RowKit Go.Deep Crc Dk Qk Go.Maps Hf
def Cn (q : Rk) (d p : Nat) (x : Sec) : Prop := (q.s d).st p = x ∨ (q.s d).wt p = some x
theorem cn_read (q : Rk) (d p : Nat) : Cn q d p ((q.s d).read p) := by
 unfold Cn St.read
 cases h : (q.s d).wt p with
 | none => exact Or.inl rfl
 | some b => exact Or.inr rfl
def CnS (s : St) (p : Nat) (x : Sec) : Prop := s.st p = x ∨ s.wt p = some x
theorem cnS_write {s : St} {p i : Nat} {b x : Sec} (h : CnS (s.write i b) p x) : CnS s p x ∨ (p = i ∧ x = b) := by
 rcases h with h | h
 ·exact Or.inl (Or.inl h)
 ·by_cases e : p = i
  ·subst e
   have h : upd s.wt p (some b) p = some x := h; rw [upd_same] at h; injection h with h; exact Or.inr ⟨rfl, h.symm⟩
  ·have h : upd s.wt i (some b) p = some x := h
   rw [upd_other _ _ e] at h; exact Or.inl (Or.inr h)
theorem cnS_flush {s : St} (hs : s.Ok) {p : Nat} {x : Sec} (h : CnS s.flush p x) : CnS s p x := by
 rcases h with h | h
 ·rw [St.flush_st hs] at h
  subst h; unfold CnS St.read
  cases e : s.wt p with
  | none => exact Or.inl rfl
  | some b => exact Or.inr rfl
 ·rw [St.flush_wt hs] at h; cases h
theorem flush_ok {s : St} (hs : s.Ok) : s.flush.Ok := hs.stores
def SOk (n k : Nat) (s : Nat → St) : Prop := ∀ d, d < n → (s d).Ok ∧ (s d).n = k
variable {n k : Nat} {D : Nat → Bool}
theorem on_sok {s : Nat → St} (h : SOk n k s) {o : Rop} (ho : o.fit n k D) : SOk n k (o.on s) := by
 intro d hd
 refine ⟨?_, by rw [on_n]; exact (h d hd).2⟩
 cases o with
 | w i sec l =>
  obtain ⟨a, b, rfl, rfl, ha, hb, hl, _⟩ := ho
  show (Dk.upd s ((a : Int)).toNat ((s ((a : Int)).toNat).write ((b : Int)).toNat l) d).Ok
  rw [Int.toNat_natCast, Int.toNat_natCast]
  by_cases e : d = a
  ·subst e; rw [upd_same]; exact (h d hd).1.write (by rw [(h d hd).2]; exact hb) hl
  ·rw [upd_other _ _ e]; exact (h d hd).1
 | f i =>
  obtain ⟨a, rfl, ha, _⟩ := ho
  show (Dk.upd s ((a : Int)).toNat ((s ((a : Int)).toNat).flush) d).Ok
  rw [Int.toNat_natCast]
  by_cases e : d = a
  ·subst e; rw [upd_same]; exact flush_ok (h d hd).1
  ·rw [upd_other _ _ e]; exact (h d hd).1
theorem on_cn {s : Nat → St} (h : SOk n k s) {o : Rop} (ho : o.fit n k D) {d p : Nat} {x : Sec} (hc : CnS (o.on s d) p x) : CnS (s d) p x ∨ o = .w (d : Int) (p : Int) x := by
 cases o with
 | w i sec l =>
  obtain ⟨a, b, rfl, rfl, ha, hb, hl, _⟩ := ho; have hc : CnS (Dk.upd s ((a : Int)).toNat ((s ((a : Int)).toNat).write ((b : Int)).toNat l) d) p x := hc; rw [Int.toNat_natCast, Int.toNat_natCast] at hc
  by_cases e : d = a
  ·subst e
   rw [upd_same] at hc
   rcases cnS_write hc with h1 | ⟨rfl, rfl⟩
   ·exact Or.inl h1
   ·exact Or.inr rfl
  ·rw [upd_other _ _ e] at hc; exact Or.inl hc
 | f i =>
  obtain ⟨a, rfl, ha, _⟩ := ho; have hc : CnS (Dk.upd s ((a : Int)).toNat ((s ((a : Int)).toNat).flush) d) p x := hc; rw [Int.toNat_natCast] at hc
  by_cases e : d = a
  ·subst e; rw [upd_same] at hc; exact Or.inl (cnS_flush (h d ha).1 hc)
  ·rw [upd_other _ _ e] at hc; exact Or.inl hc
theorem ons_cn {n k : Nat} {D : Nat → Bool} : ∀ (L : List Rop) (s : Nat → St), SOk n k s → (∀ o ∈ L, o.fit n k D) → SOk n k (ons s L) ∧ (∀ d, (ons s L d).dead = (s d).dead) ∧
  ∀ d p x, CnS (ons s L d) p x → CnS (s d) p x ∨ Rop.w (d : Int) (p : Int) x ∈ L
 | [], s, h, _ => ⟨h, fun _ => rfl, fun d p x hx => Or.inl hx⟩
 | o :: L, s, h, hf => by
  have ho := hf o (List.mem_cons_self ..); obtain ⟨i1, i2, i3⟩ := ons_cn L (o.on s) (on_sok h ho) (fun o' h' => hf o' (List.mem_cons_of_mem _ h')); rw [ons_cons]; refine ⟨i1, fun d => (i2 d).trans (on_dead s o d), fun d p x hx => ?_⟩
  rcases i3 d p x hx with h1 | h1
  ·rcases on_cn h ho h1 with h2 | h2
   ·exact Or.inl h2
   ·exact Or.inr (h2 ▸ List.mem_cons_self ..)
  ·exact Or.inr (List.mem_cons_of_mem _ h1)
structure On (q : Rk) (c : Cf) : Prop where
 ok : q.Ok
 off : q.off = false
 rem : -1 ≤ q.rem
 fits : c.fits q = true
 sok : ∀ d, d < q.n → (q.s d).Ok
variable {q : Rk} {c : Cf}
theorem On.right (h : On q c) : CfRight c := (fits_right h.fits).1
theorem On.sk (h : On q c) : SOk q.n q.k q.s := fun d hd => ⟨h.sok d hd, h.ok.k d hd⟩
theorem Pl.on (h : Pl q c) : On q c := ⟨h.ok, h.off, by rw [h.rem]; decide, h.fits, h.sok⟩
structure Rest (q : Rk) (c : Cf) : Prop where
 ok : q.Ok
 fits : c.fits q = true
 sok : ∀ d, d < q.n → (q.s d).Ok
theorem On.rest (h : On q c) : Rest q c := ⟨h.ok, h.fits, h.sok⟩
variable {r : Rk}
theorem fits_same (h : c.fits q = true) (hn : r.n = q.n) (hk : r.k = q.k) : c.fits r = true := by
 have : c.fits r = c.fits q := by unfold Cf.fits; rw [hn, hk]
 rw [this]; exact h
structure Ran (c : Cf) (q : Rk) (L : List Rop) (q' : Rk) (e : Int) : Prop where
 n : q'.n = q.n
 k : q'.k = q.k
 rest : Rest q' c
 dead : ∀ d, (q'.s d).dead = (q.s d).dead
 out : (e = 0 ∧ On q' c ∧ (q.rem = -1 → q'.rem = -1) ∧ q'.s = ons q.s L) ∨ (e = 5 ∧ q'.off = true ∧ q.rem ≠ -1 ∧ ∃ m, q'.s = ons q.s (L.take m))
variable {L : List Rop}
theorem ran_fit (h : On q c) (hf : ∀ o ∈ L, o.fit q.n q.k fun j => (q.s j).dead) : Ran c q L (runS q L) (runC q L) := by
 obtain ⟨a1, a2, a3⟩ := run_fit L q h.off h.rem hf
 have key : ∀ (M : List Rop) (r : Rk), (∀ o ∈ M, o.fit q.n q.k fun j => (q.s j).dead) → r.n = q.n → r.k = q.k → r.s = ons q.s M → -1 ≤ r.rem → r.rem ≤ q.rem ∨ r.rem = 0 → Rest r c ∧ ∀ d, (r.s d).dead = (q.s d).dead := fun M r hM hn hk hs hr1 hr2 => by
  obtain ⟨i1, i2, i3⟩ := ons_cn M q.s h.sk hM; rw [← hs] at i1 i2; have hhi := h.ok.high; refine ⟨⟨⟨by rw [hn]; exact h.ok.n0, by rw [hn]; exact h.ok.n8, by rw [hk]; exact h.ok.k0, by rw [hk]; exact h.ok.k8, fun i hi => by rw [hk]; exact (i1 i (by rw [← hn]; exact hi)).2, by omega, by omega⟩, fits_same h.fits hn hk, fun d hd => (i1 d (by rw [← hn]; exact hd)).1⟩, i2⟩
 have hr := h.rem
 by_cases h0 : q.rem < 0
 ·obtain ⟨e1, e2⟩ := a1 h0
  obtain ⟨k1, k2⟩ := key L (runS q L) hf (by rw [e2]) (by rw [e2]) (by rw [e2]) (by rw [e2]; exact hr) (Or.inl (by rw [e2]; exact Int.le_refl _)); exact ⟨by rw [e2], by rw [e2], k1, k2, Or.inl ⟨e1, ⟨k1.ok, by rw [e2]; exact h.off, by rw [e2]; exact hr, k1.fits, k1.sok⟩, fun hh => by rw [e2]; exact hh, by rw [e2]⟩⟩
 ·by_cases h1 : (L.length : Int) ≤ q.rem
  ·obtain ⟨e1, e2⟩ := a2 (by omega) h1
   obtain ⟨k1, k2⟩ := key L (runS q L) hf (by rw [e2]) (by rw [e2]) (by rw [e2]) (by rw [e2]; show -1 ≤ q.rem - L.length; omega) (Or.inl (by rw [e2]; show q.rem - L.length ≤ q.rem; omega)); exact ⟨by rw [e2], by rw [e2], k1, k2, Or.inl ⟨e1, ⟨k1.ok, by rw [e2]; exact h.off, by rw [e2]; show -1 ≤ q.rem - L.length; omega, k1.fits, k1.sok⟩, fun hh => by omega, by rw [e2]⟩⟩
  ·obtain ⟨e1, e2⟩ := a3 (by omega) (by omega)
   obtain ⟨k1, k2⟩ := key (L.take q.rem.toNat) (runS q L) (fun o ho => hf o (List.mem_of_mem_take ho)) (by rw [e2]) (by rw [e2]) (by rw [e2]) (by rw [e2]; show (-1 : Int) ≤ 0; decide) (Or.inr (by rw [e2])); exact ⟨by rw [e2], by rw [e2], k1, k2, Or.inr ⟨e1, by rw [e2], by omega, _, by rw [e2]⟩⟩
variable {q' : Rk} {e : Int}
theorem Ran.cn (h : Ran c q L q' e) (ho : On q c) (hf : ∀ o ∈ L, o.fit q.n q.k fun j => (q.s j).dead) {d p : Nat} {x : Sec} (hx : Cn q' d p x) : Cn q d p x ∨ Rop.w (d : Int) (p : Int) x ∈ L := by
 rcases h.out with ⟨_, _, _, hs⟩ | ⟨_, _, _, m, hs⟩
 ·have hx : CnS (q'.s d) p x := hx
  rw [hs] at hx; exact (ons_cn L q.s ho.sk hf).2.2 d p x hx
 ·have hx : CnS (q'.s d) p x := hx
  rw [hs] at hx
  rcases (ons_cn (L.take m) q.s ho.sk (fun o h => hf o (List.mem_of_mem_take h))).2.2 d p x hx with h | h
  ·exact Or.inl h
  ·exact Or.inr (List.mem_of_mem_take h)
theorem jops_done {base : Nat} {F : List (List UInt8)} (h : Ran c q (jops base F (ups q)) q' e) (ho : On q c) (he : e = 0) (hb : base + F.length ≤ q.k) (hF : ∀ i, i < F.length → (F.getD i []).length = 128) {d i : Nat} (hd : d < q.n) (hl : (q.s d).dead = false) (hi : i < F.length) {x : Sec} (hx : Cn q' d (base + i) x) : x = F.getD i [] := by
 rcases h.out with ⟨_, _, _, hs⟩ | ⟨h5, _⟩
 ·have hx : CnS (q'.s d) (base + i) x := hx
  rw [hs, ons_jops base F (Go.Proofs.YtilljaneegbhlaaGreatDoor.ups q) q.s (ups_nodup q), if_pos (mem_ups.2 ⟨hd, hl⟩)] at hx; obtain ⟨f1, f2, f3, f4, f5, f6⟩ := slotS_facts (ho.sok d hd) hF (by rw [ho.ok.k d hd]; exact hb)
  rcases hx with hx | hx
  ·have h5 := f5 (base + i)
   rw [if_pos ⟨by omega, by omega⟩, show base + i - base = i by omega] at h5; unfold St.read at h5; rw [f4] at h5; exact hx.symm.trans h5
  ·rw [f4] at hx; cases hx
 ·rw [he] at h5; cases h5
theorem tops_done {base : Nat} {F : Nat → List UInt8} {U : List Nat} (h : Ran c q (tops base F U) q' e) (ho : On q c) (he : e = 0) (hU : U.Nodup) (hb : base < q.k) {d : Nat} (hd : d < q.n) (hl : d ∈ U) (hF : (F d).length = 128) {x : Sec} (hx : Cn q' d base x) : x = F d := by
 rcases h.out with ⟨_, _, _, hs⟩ | ⟨h5, _⟩
 ·have hx : CnS (q'.s d) base x := hx
  rw [hs, ons_tops base F U q.s hU, if_pos hl] at hx; have hwo : ((q.s d).write base (F d)).Ok := (ho.sok d hd).write (by rw [ho.ok.k d hd]; exact hb) hF
  rcases hx with hx | hx
  ·rw [St.flush_st hwo] at hx
   unfold St.read St.write at hx; simp only [upd_same, Option.getD_some] at hx; exact hx.symm
  ·rw [St.flush_wt hwo] at hx; cases hx
 ·rw [he] at h5; cases h5
theorem boot_cn (h : Rest q c) (bits : Nat → Nat) {d p : Nat} {x : Sec} (hd : d < q.n) (hx : Cn (q.boot bits) d p x) : Cn q d p x := by
 have e : (q.boot bits).s d = (q.s d).crash (bits d) := if_pos hd
 have hx : CnS ((q.boot bits).s d) p x := hx
 rw [e] at hx
 have hr : ((q.s d).crash (bits d)).read p = x := by
  rcases hx with h1 | h1
  ·unfold St.read; rw [St.crash_wt]; exact h1
  ·rw [St.crash_wt] at h1; cases h1
 rcases St.crash_either (h.sok d hd) (bits d) p with h1 | h1
 ·exact Or.inl (h1.symm.trans hr)
 ·rw [hr] at h1
  rw [h1]; exact cn_read q d p
theorem boot_on (h : Rest q c) (bits : Nat → Nat) : On (q.boot bits) c ∧ (q.boot bits).rem = -1 ∧ (q.boot bits).n = q.n ∧ (q.boot bits).k = q.k ∧ ∀ d, ((q.boot bits).s d).dead = (q.s d).dead := by
 have e : ∀ d, (q.boot bits).s d = if d < q.n then (q.s d).crash (bits d) else q.s d := fun d => rfl
 refine ⟨⟨⟨h.ok.n0, h.ok.n8, h.ok.k0, h.ok.k8, fun i hi => ?_, by show (-9223372036854775808 : Int) ≤ -1; decide, by show (-1 : Int) < 9223372036854775808; decide⟩, rfl, Int.le_refl _, fits_same h.fits rfl rfl, fun d hd => ?_⟩, rfl, rfl, rfl, fun d => ?_⟩
 ·rw [e, if_pos (show i < q.n from hi), crash_nn]; exact h.ok.k i hi
 ·rw [e, if_pos (show d < q.n from hd)]; exact (h.sok d hd).crash _
 ·rw [e]
  split
  ·exact (St.stores_dead _ _)
  ·rfl
theorem arm_on (h : On q c) {f : Int} (h0 : -1 ≤ f) (h1 : f < 9223372036854775808) : On (q.arm f) c := ⟨⟨h.ok.n0, h.ok.n8, h.ok.k0, h.ok.k8, h.ok.k, by show -9223372036854775808 ≤ f; omega, h1⟩, h.off, h0, fits_same h.fits rfl rfl, h.sok⟩
variable {f : Fr}
theorem fr_put_inj {g : Fr} (hf : f.is) (hg : g.is) (rf : rightB f = true) (rg : rightB g = true) (h : put f = put g) : f = g := by
 have h1 := got_put hf rf
 have h2 := got_put hg rg
 rw [h] at h1
 exact h1.2.symm.trans h2.2
structure JSet (q : Rk) (c : Cf) (s : Nat) (A : Rc → Prop) : Prop where
 is : ∀ r, A r → RcIn c s r
 one : ∀ r r', A r → A r' → r.q = r'.q → r = r'
 fr : ∀ i d : Nat, (i : Int) < c.k → d < q.n → (q.s d).dead = false → jfr q c s i d = none ∨ ∃ r, A r ∧ jfr q c s i d = some (jF r i)
theorem jnew_at {L : Nat → List Fr} (hk : 1 ≤ k) (h0 : ∀ i, i < k → ∀ f ∈ L i, 0 ≤ f.g) (he : ∃ f, f ∈ L 0) : ∃ i, i < k ∧ ∃ f ∈ L i, f.g = jnew L k := by
 refine Classical.byContradiction fun hno => ?_
 have hno : ∀ i, i < k → ∀ f ∈ L i, f.g ≠ jnew L k := fun i hi f hf e => hno ⟨i, hi, f, hf, e⟩
 obtain ⟨g1, g2⟩ := jnew_ge L k
 obtain ⟨f, hf⟩ := he
 have a1 := h0 0 hk f hf
 have a2 := g2 0 hk f hf
 have a3 := hno 0 hk f hf
 have := jnew_le L (M := jnew L k - 1) (by omega) k (fun i hi f hf => by have := g2 i hi f hf; have := hno i hi f hf; omega)
 omega
variable {s : Nat}
theorem JSet.told {A : Rc → Prop} (h : JSet q c s A) (hh : jhasSlot c q s = true) (hk : 1 ≤ c.k) :
    (jcode q c s = 6 ∧ ∃ i : Nat, (i : Int) < c.k ∧ ∀ d, d < q.n → (q.s d).dead = false → jfr q c s i d = none) ∨
    (jcode q c s = 0 ∧ ∃ r0, A r0 ∧ jnewest q c s = r0.q ∧ (∀ (i d : Nat) (r : Rc), (i : Int) < c.k → d < q.n → (q.s d).dead = false → jfr q c s i d = some (jF r i) → r.q ≤ r0.q) ∧
      ((jwhole q c s = true ∧ jrecR q c s = r0 ∧ ∀ i : Nat, (i : Int) < c.k → ∃ d, d < q.n ∧ (q.s d).dead = false ∧ jfr q c s i d = some (jF r0 i)) ∨
       (jwhole q c s = false ∧ ∃ i : Nat, (i : Int) < c.k ∧ ∀ d, d < q.n → (q.s d).dead = false → jfr q c s i d ≠ some (jF r0 i)))) := by
  by_cases hs : ∀ i : Nat, (i : Int) < c.k → ∃ d f, d < q.n ∧ (q.s d).dead = false ∧ jfr q c s i d = some f
  · right
    obtain ⟨hw, hc⟩ := slot_all hh hs; refine ⟨hc, ?_⟩
    have hm : ∀ i : Nat, (i : Int) < c.k → ∀ f ∈ jl q c s i, ∃ r, A r ∧ f = jF r i := fun i hi f hf => by
      obtain ⟨d, h1, h2, h3⟩ := mem_jl.1 hf
      rcases h.fr i d hi h1 h2 with h4 | ⟨r, h4, h5⟩
      · rw [h4] at h3; cases h3
      · rw [h5] at h3; injection h3 with h3; exact ⟨r, h4, h3.symm⟩
    have he : ∀ i : Nat, (i : Int) < c.k → ∃ f, f ∈ jl q c s i := fun i hi => by obtain ⟨d, f, h1, h2, h3⟩ := hs i hi; exact ⟨f, mem_jl.2 ⟨d, h1, h2, h3⟩⟩
    obtain ⟨i0, hi0, f0, hf0, hg0⟩ := jnew_at (L := jl q c s) (k := c.k.toNat) (by omega) (fun i hi f hf => by
      obtain ⟨r, h1, rfl⟩ := hm i (by omega) f hf
      exact (h.is r h1).q0) (he 0 (by omega))
    obtain ⟨r0, hr0, rfl⟩ := hm i0 (by omega) f0 hf0; have hn : jnew (jl q c s) c.k.toNat = r0.q := hg0.symm; have hge := (jnew_ge (jl q c s) c.k.toNat).2; refine ⟨r0, hr0, (if_pos hw).trans hn, fun i d r hi hd hl hf => ?_, ?_⟩
    · have := hge i (by omega) _ (mem_jl.2 ⟨d, hd, hl, hf⟩)
      rw [hn] at this; exact this
    · by_cases hall : ∀ i : Nat, (i : Int) < c.k → jF r0 i ∈ jl q c s i
      · left
        obtain ⟨_, e2, e3⟩ := slot_whole hw hn hk (h.is r0 hr0).len fun i hi => ⟨fun f hf e => by
          obtain ⟨r, h1, rfl⟩ := hm i hi f hf
          rw [h.one r r0 h1 hr0 e], _, hall i hi, rfl⟩
        refine ⟨e2, e3, fun i hi => ?_⟩; obtain ⟨d, h1, h2, h3⟩ := mem_jl.1 (hall i hi); exact ⟨d, h1, h2, h3⟩
      · right
        obtain ⟨i1, hno⟩ := Classical.not_forall.1 hall; obtain ⟨hi1, hno⟩ := Classical.not_imp.1 hno; refine ⟨(slot_torn hw hn hi1 fun f hf e => ?_).2.1, i1, hi1, fun d hd hl e => hno (mem_jl.2 ⟨d, hd, hl, e⟩)⟩; obtain ⟨r, h1, rfl⟩ := hm i1 hi1 f hf; rw [h.one r r0 h1 hr0 e] at hf; exact hno hf
  · left
    obtain ⟨i, hno⟩ := Classical.not_forall.1 hs; obtain ⟨hi, hno⟩ := Classical.not_imp.1 hno
    have hn : ∀ d, d < q.n → (q.s d).dead = false → jfr q c s i d = none := fun d hd hl => by
      cases e : jfr q c s i d with
      | none => rfl
      | some f => exact absurd ⟨d, f, hd, hl, e⟩ hno
    exact ⟨(slot_lost hh hi hn).1, i, hi, hn⟩
theorem tnewN_at (q : Rk) (c : Cf) (s : Int) : ∀ m, (∃ d f, d < m ∧ tfr q c s d = some f ∧ f.g = tnewN q c s m) ∨ (tnewN q c s m = 0 ∧ ∀ d, d < m → tfr q c s d = none)
 | 0 => Or.inr ⟨tnewN_zero, fun d hd => absurd hd (by omega)⟩
 | m + 1 => by
  cases h : tfr q c s m with
  | none =>
   rw [tnewN_no h]
   rcases tnewN_at q c s m with ⟨d, f, h1, h2, h3⟩ | ⟨h1, h2⟩
   ·exact Or.inl ⟨d, f, by omega, h2, h3⟩
   ·refine Or.inr ⟨h1, fun d hd => ?_⟩
    by_cases e : d = m
    ·rw [e]; exact h
    ·exact h2 d (by omega)
  | some f =>
   rw [tnewN_yes h]
   left
   rcases tnewN_at q c s m with ⟨d, f', h1, h2, h3⟩ | ⟨h1, h2⟩
   ·by_cases hle : tnewN q c s m ≤ f.g
    ·exact ⟨m, f, by omega, h, by omega⟩
    ·exact ⟨d, f', by omega, h2, by omega⟩
   ·have := (tfr_some h).2
    exact ⟨m, f, by omega, h, by omega⟩
variable {m d : Nat}
theorem mem_tlN {s : Int} (hd : d < m) (h : tfr q c s d = some f) : (d, f) ∈ tlN q c s m := by
 unfold tlN
 rw [List.mem_filterMap]
 exact ⟨d, List.mem_range.2 hd, by rw [h]; rfl⟩
theorem tnew_ge (ht : thas c q s = true) {d : Nat} {f : Fr} (hd : d < q.n) (h : tfr q c s d = some f) : f.g ≤ tnew q c s := by
 unfold tnew
 rw [if_pos ht]
 exact (tnewN_le q c s q.n).2 _ (mem_tlN hd h)
theorem tnew_at (ht : thas c q s = true) : (∃ d f, d < q.n ∧ tfr q c s d = some f ∧ f.g = tnew q c s) ∨ (tnew q c s = 0 ∧ ∀ d, d < q.n → tfr q c s d = none) := by
 unfold tnew
 rw [if_pos ht]
 exact tnewN_at q c s q.n
theorem on_has (h : c.fits q = true) (hs : (s : Int) < c.t) : thas c q s = true := thas_iff.2 ⟨h, by omega, hs⟩
variable {P : Nat → Bool}
theorem filter_ups (hP : ∀ d, P d = true → d < q.n ∧ (q.s d).dead = false) : ((List.range q.n).filter P).length ≤ (ups q).length := by
 refine nodup_bound _ _ (List.Nodup.sublist List.filter_sublist List.nodup_range) fun d hd => ?_
 rw [List.mem_filter] at hd
 exact mem_ups.2 (hP d hd.2)
variable {Q : Nat → Bool}
theorem filter_mono (h : ∀ d, d < n → P d = true → Q d = true) : ((List.range n).filter P).length ≤ ((List.range n).filter Q).length := by
 refine nodup_bound _ _ (List.Nodup.sublist List.filter_sublist List.nodup_range) fun d hd => ?_
 rw [List.mem_filter, List.mem_range] at hd
 rw [List.mem_filter, List.mem_range]
 exact ⟨hd.1, h d hd.1 hd.2⟩
variable {g : Int} {bs : List (List UInt8)}
theorem t_one (h : On q c) (hx : StIn c s g bs) (hP : ∀ d, P d = true → d < q.n ∧ (q.s d).dead = false)
  (hy : ∀ d, P d = true → tfr q c s d = some (tF c.k.toNat s g bs d)) (hn : ∀ d, d < q.n → P d = false → tfr q c s d = none) :
  (tnew q c s = if ((List.range q.n).filter P) = [] then 0 else g) ∧
  (c.k.toNat ≤ ((List.range q.n).filter P).length → tcode q c s = 0 ∧ ∀ bs', BlocksOf c.k.toNat 108 (chosen c.k.toNat (tpts q c s)) bs' → bs' = bs) ∧
  (((List.range q.n).filter P).length < c.k.toNat → tcode q c s = 6 ∨ tcode q c s = 7) := by
 have ht := on_has h.fits hx.s1
 have hr := h.right
 have hk1 : 1 ≤ c.k := hr.2.2.1
 have hk8 : c.k.toNat ≤ 8 := by have := hr.2.2.2.1; have := hr.2.2.2.2.1; omega
 have hfu := filter_ups hP
 have hrng : ∀ d ∈ (List.range q.n).filter P, d < q.n := fun d hd => by rw [List.mem_filter, List.mem_range] at hd; exact hd.1
 have hc0 : ∀ n, (tpts q c s).length = n → tcode q c s = if (q.off = true ∨ ((ups q).length : Int) < c.k) then 7 else if (n : Int) < c.k then 6 else 0 := fun n hn => by
  unfold tcode; rw [if_pos ht, hn]
 have hoff : ¬ q.off = true := by rw [h.off]; decide
 rcases tl_told (q := q) (c := c) (s := s) (k := c.k.toNat) (bs := bs) hx.g0 P q.n (fun d hd => ⟨hy d, fun hp f hf => by rw [hn d hd hp] at hf; cases hf⟩) with ⟨e1, e2⟩ | ⟨e1, e2, e3⟩
 ·have hnone : ∀ d, d < q.n → tfr q c s d = none := fun d hd => by
   cases hp : P d with
   | false => exact hn d hd hp
   | true =>
    have : d ∈ (List.range q.n).filter P := List.mem_filter.2 ⟨List.mem_range.2 hd, hp⟩; rw [e1] at this; cases this
  obtain ⟨n1, n2⟩ := tl_none q.n hnone; refine ⟨by unfold tnew; rw [if_pos ht, if_pos e1, n1], fun hl => ?_, fun _ => ?_⟩
  ·rw [e1] at hl; simp at hl; omega
  ·have hp : tpts q c s = [] := by unfold tpts; rw [if_pos ht, n2]
   rw [hc0 0 (by rw [hp]; rfl)]
   split
   ·exact Or.inr rfl
   ·rw [if_pos (by omega)]; exact Or.inl rfl
 ·have hp : tpts q c s = ((List.range q.n).filter P).map fun (d : Nat) => ((d : Int), frg c.k.toNat d bs) := by unfold tpts; rw [if_pos ht, e3]
  have hl0 : (tpts q c s).length = ((List.range q.n).filter P).length := by rw [hp, List.length_map]
  refine ⟨by unfold tnew; rw [if_pos ht, if_neg e1, e2], fun hl => ⟨?_, fun bs' hb => ?_⟩, fun hl => ?_⟩
  ·rw [hc0 _ hl0, if_neg (by rintro (h1 | h1); exact hoff h1; omega), if_neg (by omega)]
  ·rw [hp] at hb
   exact parts_blocks hk8 (List.Nodup.sublist List.filter_sublist List.nodup_range) hl (fun d hd => by have := hrng d hd; have := h.ok.n8; omega) hx.len hx.is hb
  ·rw [hc0 _ hl0]
   split
   ·exact Or.inr rfl
   ·rw [if_pos (by omega)]; exact Or.inl rfl
theorem fnd_told (h : On q c) (hy : ∀ d : Nat, Q d = true → d < q.n ∧ cfHas q d = true ∧ cfOf q d = c) (hn : ∀ d : Nat, d < q.n → Q d = false → cfHas q d = false) :
  (c.k.toNat ≤ ((List.range q.n).filter Q).length → fndOk q = true ∧ fndC q = c) ∧ (((List.range q.n).filter Q).length < c.k.toNat → fndOk q = false) := by
 have hr := h.right
 have hk1 : 1 ≤ c.k := hr.2.2.1
 have hall := fnd_all (q := q) (c := c) (m := q.n) (fun j hj hc => by
  cases hq : Q j with
  | true => exact (hy j hq).2.2
  | false => rw [hn j hj hq] at hc; cases hc)
 have hcnt : ∀ m, m ≤ q.n → cntN (fun j => cfHas q (j : Int)) m = ((List.range m).filter Q).length := fun m => by
  induction m with
  | zero => intro _; rfl
  | succ m ih =>
   intro hm; rw [List.range_succ, List.filter_append, List.length_append, ← ih (by omega)]
   show (if cfHas q (m : Int) = true then _ else _) = _
   cases hq : Q m with
   | true => rw [if_pos (hy m hq).2.1]; simp [hq]
   | false => rw [if_neg (by rw [hn m (by omega) hq]; decide)]; simp [hq]
 rw [hcnt q.n (Nat.le_refl _)] at hall
 refine ⟨fun hl => ?_, fun hl => ?_⟩
 ·rw [if_neg (by omega)] at hall
  have hok : fndOk q = true := by
   unfold fndOk; rw [hall, Bool.and_eq_true]; exact ⟨decide_eq_true (show c.k ≤ ((((List.range q.n).filter Q).length : Nat) : Int) by omega), h.fits⟩
  exact ⟨hok, by unfold fndC; rw [if_pos hok, hall]⟩
 ·unfold fndOk
  rw [hall]
  split
  ·show (decide ((0 : Int) ≤ ((0 : Nat) : Int)) && zeroC.fits q) = false
   have : zeroC.fits q = false := by unfold Cf.fits; rw [zero_wrong]; rfl
   rw [this, Bool.and_false]
  ·show (decide (c.k ≤ ((((List.range q.n).filter Q).length : Nat) : Int)) && c.fits q) = false
   rw [decide_eq_false (by omega), Bool.false_and]
structure Vl where
 R : Nat → Rc
 G : Nat → Int
 B : Nat → List (List UInt8)
def RGood (V : Vl) (x : Rc) : Prop := x.q < V.G x.t.toNat ∨ (x.q = V.G x.t.toNat ∧ x.b = V.B x.t.toNat)
structure VOk (c : Cf) (V : Vl) : Prop where
 r : ∀ s : Nat, (s : Int) < c.s → RcIn c s (V.R s)
 z : ∀ s : Nat, (s : Int) < c.s → (V.R s).q = 0 → V.R s = blankR c
 a : ∀ s : Nat, (s : Int) < c.s → 2 ≤ (V.R s).q → RGood V (V.R s)
 g : ∀ t : Nat, (t : Int) < c.t → StIn c t (V.G t) (V.B t)
structure VLe (c : Cf) (V : Vl) (M : Int) : Prop where
 r : ∀ s : Nat, (s : Int) < c.s → (V.R s).q ≤ M
 g : ∀ t : Nat, (t : Int) < c.t → V.G t ≤ M
def slotOf (c : Cf) (y : Rc) : Nat := (y.q % c.s).toNat
structure YIn (c : Cf) (V : Vl) (y : Rc) : Prop where
 is : RcIn c (slotOf c y) y
 q2 : 2 ≤ y.q
 r : ∀ s : Nat, (s : Int) < c.s → (V.R s).q < y.q
 g : ∀ t : Nat, (t : Int) < c.t → V.G t < y.q
def AllowR (c : Cf) (V : Vl) (Y : Option Rc) (s : Nat) (r : Rc) : Prop := r = V.R s ∨ ∃ y, Y = some y ∧ s = slotOf c y ∧ (r = y ∨ r = blankR c)
def AllowT (V : Vl) (Y : Option Rc) (t : Nat) (g : Int) (bs : List (List UInt8)) : Prop := (g = V.G t ∧ bs = V.B t) ∨ ∃ y, Y = some y ∧ t = y.t.toNat ∧ g = y.q ∧ bs = y.b
structure Inv (c : Cf) (V : Vl) (Y : Option Rc) (P : Nat → Bool) (q : Rk) : Prop where
 v : VOk c V
 y : ∀ y, Y = some y → YIn c V y
 p : ∀ d, P d = true → d < q.n ∧ (q.s d).dead = false
 jr : ∀ (s i d : Nat) (x : Sec), (s : Int) < c.s → (i : Int) < c.k → d < q.n → (q.s d).dead = false → Cn q d (jsec c s i) x → (∃ r, AllowR c V Y s r ∧ x = put (jF r i)) ∨ (P d = false ∧ goodB x = false)
 tr : ∀ (t d : Nat) (x : Sec), (t : Int) < c.t → d < q.n → (q.s d).dead = false → Cn q d (tsec c t) x → (∃ g bs, AllowT V Y t g bs ∧ x = put (tF c.k.toNat t g bs d)) ∨ (P d = false ∧ goodB x = false)
 link : ∀ y, Y = some y → ∀ d, d < q.n → (q.s d).dead = false → Cn q d (tsec c y.t.toNat) (put (tF c.k.toNat y.t.toNat y.q y.b d)) →
  ∀ (d' i : Nat) (x : Sec), d' < q.n → (q.s d').dead = false → (i : Int) < c.k → Cn q d' (jsec c (slotOf c y) i) x → x = put (jF y i) ∨ (P d' = false ∧ goodB x = false)
structure Sup (c : Cf) (Q : Nat → Bool) (q : Rk) : Prop where
 p : ∀ d, Q d = true → d < q.n ∧ (q.s d).dead = false
 s : ∀ (d : Nat) (x : Sec), d < q.n → (q.s d).dead = false → Cn q d 0 x → x = put (supF c d) ∨ (Q d = false ∧ goodB x = false)
theorem slotOf_lt (hr : CfRight c) {y : Rc} : ((slotOf c y : Nat) : Int) < c.s := by
 unfold slotOf
 have h1 : 1 ≤ c.s := hr.2.2.2.2.2.2.2.1
 have := Int.emod_lt_of_pos y.q (show 0 < c.s by omega)
 have := Int.emod_nonneg y.q (show c.s ≠ 0 by omega)
 omega
theorem slotOf_eq (hr : CfRight c) (y : Rc) : ((slotOf c y : Nat) : Int) = y.q % c.s := by
 unfold slotOf
 have h1 : 1 ≤ c.s := hr.2.2.2.2.2.2.2.1
 have := Int.emod_nonneg y.q (show c.s ≠ 0 by omega)
 omega
variable {y : Rc}
theorem rcIn_stripe (h : RcIn c s y) : ((y.t.toNat : Nat) : Int) = y.t ∧ ((y.t.toNat : Nat) : Int) < c.t := by
 have := h.t0; have := h.t1; omega
theorem rcIn_stIn (h : RcIn c s y) (h2 : 2 ≤ y.q) : StIn c y.t.toNat y.q y.b := ⟨(rcIn_stripe h).2, by omega, h.q1, h.len, h.is⟩
variable {V : Vl} {Y : Option Rc}
theorem allowR_in (h : Inv c V Y P q) (hr : CfRight c) {s : Nat} (hs : (s : Int) < c.s) {r : Rc} (ha : AllowR c V Y s r) : RcIn c s r := by
 rcases ha with rfl | ⟨y, h1, rfl, rfl | rfl⟩
 ·exact h.v.r s hs
 ·exact (h.y _ h1).is
 ·exact blank_in hr _
theorem allowR_one (h : Inv c V Y P q) {s : Nat} (hs : (s : Int) < c.s) {r r' : Rc} (ha : AllowR c V Y s r) (hb : AllowR c V Y s r') (e : r.q = r'.q) : r = r' := by
 rcases ha with rfl | ⟨y, h1, h1', rfl | rfl⟩ <;> rcases hb with rfl | ⟨y', h2, h2', rfl | rfl⟩
 ·rfl
 ·have := (h.y _ h2).r s hs; omega
 ·exact h.v.z s hs e
 ·have := (h.y _ h1).r s hs; omega
 ·rw [h1] at h2; injection h2
 ·have := (h.y _ h1).q2; have h0 : r.q = 0 := e; omega
 ·exact (h.v.z s hs e.symm).symm
 ·have := (h.y _ h2).q2; have h0 : r'.q = 0 := e.symm; omega
 ·rfl
theorem allowT_in (h : Inv c V Y P q) {t : Nat} (ht : (t : Int) < c.t) {g : Int} {bs : List (List UInt8)} (ha : AllowT V Y t g bs) : StIn c t g bs := by
 rcases ha with ⟨rfl, rfl⟩ | ⟨y, h1, rfl, rfl, rfl⟩
 ·exact h.v.g t ht
 ·exact rcIn_stIn (h.y _ h1).is (h.y _ h1).q2
theorem jfr_cn (h : On q c) {s i d : Nat} {r : Rc} (hs : (s : Int) < c.s) (hi : (i : Int) < c.k) (hd : d < q.n) (hl : (q.s d).dead = false) (hr : RcIn c s r) (hv : (q.s d).read (jsec c s i) = put (jF r i)) : jfr q c s i d = some (jF r i) :=
 jfr_put h.ok h.fits hs hi hd h.off hl hr.is hr.q0 hr.q1 hr.t0 hr.t1 hr.slot hv
theorem tfr_cn (h : On q c) {t d : Nat} {g : Int} {bs : List (List UInt8)} (hd : d < q.n) (hl : (q.s d).dead = false) (hx : StIn c t g bs) (hv : (q.s d).read (tsec c t) = put (tF c.k.toNat t g bs d)) : tfr q c t d = some (tF c.k.toNat t g bs d) :=
 tfr_put h.ok h.fits hx.s1 hd h.off hl (tF_is _ _ _ _ _) (hx.frame h.right (by have := h.ok.n8; omega)) rfl rfl rfl hx.g0 hv
theorem tF_inj (hr : CfRight c) {t d : Nat} {g g' : Int} {bs bs' : List (List UInt8)} (hd : d < 8) (h : StIn c t g bs) (h' : StIn c t g' bs') (e : put (tF c.k.toNat t g bs d) = put (tF c.k.toNat t g' bs' d)) : g = g' := by
 have := fr_put_inj (tF_is _ _ _ _ _) (tF_is _ _ _ _ _) (h.frame hr hd) (h'.frame hr hd) e
 exact congrArg Fr.g this
theorem put_good (h : f.is) (hr : rightB f = true) : goodB (put f) = true := (got_put h hr).1
theorem Inv.jset (h : Inv c V Y P q) (ho : On q c) {s : Nat} (hs : (s : Int) < c.s) : JSet q c s (AllowR c V Y s) where
 is := fun r ha => allowR_in h ho.right hs ha
 one := fun r r' ha hb e => allowR_one h hs ha hb e
 fr := fun i d hi hd hl => by
  rcases h.jr s i d _ hs hi hd hl (cn_read q d _) with ⟨r, h1, h2⟩ | ⟨_, h2⟩
  ·exact Or.inr ⟨r, h1, jfr_cn ho hs hi hd hl (allowR_in h ho.right hs h1) h2⟩
  ·exact Or.inl (jfr_bad (by have := ho.right.2.2.1; omega) (Or.inr (Or.inr h2)))
theorem Inv.jp (h : Inv c V Y P q) (ho : On q c) {s i d : Nat} (hs : (s : Int) < c.s) (hi : (i : Int) < c.k) (hp : P d = true) : ∃ r, AllowR c V Y s r ∧ jfr q c s i d = some (jF r i) := by
 obtain ⟨hd, hl⟩ := h.p d hp
 rcases h.jr s i d _ hs hi hd hl (cn_read q d _) with ⟨r, h1, h2⟩ | ⟨h1, _⟩
 ·exact ⟨r, h1, jfr_cn ho hs hi hd hl (allowR_in h ho.right hs h1) h2⟩
 ·rw [hp] at h1; cases h1
theorem Inv.tp (h : Inv c V Y P q) (ho : On q c) {t d : Nat} (ht : (t : Int) < c.t) (hp : P d = true) : ∃ g bs, AllowT V Y t g bs ∧ tfr q c t d = some (tF c.k.toNat t g bs d) := by
 obtain ⟨hd, hl⟩ := h.p d hp
 rcases h.tr t d _ ht hd hl (cn_read q d _) with ⟨g, bs, h1, h2⟩ | ⟨h1, _⟩
 ·exact ⟨g, bs, h1, tfr_cn ho hd hl (allowT_in h ht h1) h2⟩
 ·rw [hp] at h1; cases h1
theorem Inv.ta (h : Inv c V Y P q) (ho : On q c) {t d : Nat} (ht : (t : Int) < c.t) (hd : d < q.n) : tfr q c t d = none ∨ ∃ g bs, AllowT V Y t g bs ∧ tfr q c t d = some (tF c.k.toNat t g bs d) := by
 cases hl : (q.s d).dead with
 | true => exact Or.inl (tfr_bad ho.right (Or.inr (Or.inl hl)))
 | false =>
  rcases h.tr t d _ ht hd hl (cn_read q d _) with ⟨g, bs, h1, h2⟩ | ⟨_, h2⟩
  ·exact Or.inr ⟨g, bs, h1, tfr_cn ho hd hl (allowT_in h ht h1) h2⟩
  ·exact Or.inl (tfr_bad ho.right (Or.inr (Or.inr h2)))
def seenB (q : Rk) (c : Cf) (t d : Nat) : Bool := decide (d < q.n) && (!(q.s d).dead && goodB ((q.s d).read (tsec c t)))
theorem Inv.stripe (h : Inv c V none P q) (ho : On q c) {t : Nat} (ht : (t : Int) < c.t) :
  (∀ d, P d = true → seenB q c t d = true) ∧
  (tnew q c t = if ((List.range q.n).filter (seenB q c t)) = [] then 0 else V.G t) ∧
  (c.k.toNat ≤ ((List.range q.n).filter (seenB q c t)).length → tcode q c t = 0 ∧ ∀ bs', BlocksOf c.k.toNat 108 (chosen c.k.toNat (tpts q c t)) bs' → bs' = V.B t) ∧
  (((List.range q.n).filter (seenB q c t)).length < c.k.toNat → tcode q c t = 6 ∨ tcode q c t = 7) := by
 have hseen : ∀ d, seenB q c t d = true ↔ d < q.n ∧ (q.s d).dead = false ∧ goodB ((q.s d).read (tsec c t)) = true := fun d => by
  unfold seenB; simp
 have hg : ∀ d, d < q.n → (q.s d).dead = false → (∃ g bs, AllowT V none t g bs ∧ (q.s d).read (tsec c t) = put (tF c.k.toNat t g bs d)) → (q.s d).read (tsec c t) = put (tF c.k.toNat t (V.G t) (V.B t) d) := fun d hd hl ⟨g, bs, h1, h2⟩ => by
  rcases h1 with ⟨rfl, rfl⟩ | ⟨y, h1, _⟩
  ·exact h2
  ·cases h1
 refine ⟨fun d hp => ?_, t_one ho (h.v.g t ht) (fun d hs => ?_) (fun d hs => ?_) (fun d hd hs => ?_)⟩
 ·obtain ⟨hd, hl⟩ := h.p d hp
  rcases h.tr t d _ ht hd hl (cn_read q d _) with h1 | ⟨h1, _⟩
  ·rw [hseen, hg d hd hl h1]
   exact ⟨hd, hl, put_good (tF_is _ _ _ _ _) ((h.v.g t ht).frame ho.right (by have := ho.ok.n8; omega))⟩
  ·rw [hp] at h1; cases h1
 ·obtain ⟨h1, h2, _⟩ := (hseen d).1 hs; exact ⟨h1, h2⟩
 ·obtain ⟨h1, h2, h3⟩ := (hseen d).1 hs
  rcases h.tr t d _ ht h1 h2 (cn_read q d _) with h4 | ⟨_, h4⟩
  ·exact tfr_cn ho h1 h2 (h.v.g t ht) (hg d h1 h2 h4)
  ·rw [h3] at h4; cases h4
 ·cases hl : (q.s d).dead with
  | true => exact tfr_bad ho.right (Or.inr (Or.inl hl))
  | false =>
   cases hgd : goodB ((q.s d).read (tsec c t)) with
   | false => exact tfr_bad ho.right (Or.inr (Or.inr hgd))
   | true => rw [(hseen d).2 ⟨hd, hl, hgd⟩] at hs; cases hs
theorem Inv.read (h : Inv c V none P q) (ho : On q c) {t : Nat} (ht : (t : Int) < c.t) (hp : c.k.toNat ≤ ((List.range q.n).filter P).length) :
  tcode q c t = 0 ∧ tnew q c t = V.G t ∧ ∀ bs', BlocksOf c.k.toNat 108 (chosen c.k.toNat (tpts q c t)) bs' → bs' = V.B t := by
 obtain ⟨h1, h2, h3, _⟩ := h.stripe ho ht
 have hle : ((List.range q.n).filter P).length ≤ ((List.range q.n).filter (seenB q c t)).length := filter_mono fun d _ hp => h1 d hp
 have hk1 : 1 ≤ c.k := ho.right.2.2.1
 obtain ⟨h4, h5⟩ := h3 (by omega)
 refine ⟨h4, ?_, h5⟩
 rw [h2, if_neg]
 intro e
 rw [e, List.length_nil] at hle
 omega
theorem Inv.readAny (h : Inv c V none P q) (ho : On q c) {t : Nat} (ht : (t : Int) < c.t) :
  (tcode q c t = 0 ∧ tnew q c t = V.G t ∧ ∀ bs', BlocksOf c.k.toNat 108 (chosen c.k.toNat (tpts q c t)) bs' → bs' = V.B t) ∨ tcode q c t = 6 ∨ tcode q c t = 7 := by
 obtain ⟨h1, h2, h3, h4⟩ := h.stripe ho ht
 have hk1 : 1 ≤ c.k := ho.right.2.2.1
 by_cases hl : c.k.toNat ≤ ((List.range q.n).filter (seenB q c t)).length
 ·obtain ⟨a, b⟩ := h3 hl
  refine Or.inl ⟨a, ?_, b⟩; rw [h2, if_neg]; intro e; rw [e, List.length_nil] at hl; omega
 ·exact Or.inr (h4 (by omega))
theorem Sup.found (h : Sup c Q q) (ho : On q c) (hq : c.k.toNat ≤ ((List.range q.n).filter Q).length) : fndOk q = true ∧ fndC q = c := by
 have hgood : ∀ d, d < q.n → goodB (put (supF c d)) = true := fun d hd => put_good (supF_is c d) (supF_right (by omega) (by have := ho.ok.n8; omega))
 refine (fnd_told (Q := fun d => decide (d < q.n) && (!(q.s d).dead && goodB ((q.s d).read 0))) ho (fun d hd => ?_) (fun d hd hn => ?_)).1 ?_
 ·have hd : d < q.n ∧ (q.s d).dead = false ∧ goodB ((q.s d).read 0) = true := by simpa using hd
  obtain ⟨h1, h2, h3⟩ := hd
  rcases h.s d _ h1 h2 (cn_read q d 0) with h4 | ⟨_, h4⟩
  ·exact ⟨h1, has_sup ho.ok h1 ho.off h2 h4 ho.right⟩
  ·rw [h3] at h4; cases h4
 ·have hn : d < q.n → (q.s d).dead = false → goodB ((q.s d).read 0) = false := by simpa using hn
  cases hl : (q.s d).dead with
  | true => exact no_sup (Or.inr (Or.inr (Or.inl hl)))
  | false => exact no_sup (Or.inr (Or.inr (Or.inr (hn hd hl))))
 ·refine Nat.le_trans hq (filter_mono fun d hd hp => ?_)
  obtain ⟨h1, h2⟩ := h.p d hp
  rcases h.s d _ h1 h2 (cn_read q d 0) with h4 | ⟨h4, _⟩
  ·simp [h1, h2, h4, hgood d h1]
  ·rw [hp] at h4; cases h4
theorem Sup.foundAny (h : Sup c Q q) (ho : On q c) : (fndOk q = true ∧ fndC q = c) ∨ fndOk q = false := by
 have hgood : ∀ d, d < q.n → goodB (put (supF c d)) = true := fun d hd => put_good (supF_is c d) (supF_right (by omega) (by have := ho.ok.n8; omega))
 obtain ⟨a, b⟩ := fnd_told (Q := fun d => decide (d < q.n) && (!(q.s d).dead && goodB ((q.s d).read 0))) ho (fun d hd => by
  have hd : d < q.n ∧ (q.s d).dead = false ∧ goodB ((q.s d).read 0) = true := by simpa using hd
  obtain ⟨h1, h2, h3⟩ := hd
  rcases h.s d _ h1 h2 (cn_read q d 0) with h4 | ⟨_, h4⟩
  ·exact ⟨h1, has_sup ho.ok h1 ho.off h2 h4 ho.right⟩
  ·rw [h3] at h4; cases h4) (fun d hd hn => by
  have hn : d < q.n → (q.s d).dead = false → goodB ((q.s d).read 0) = false := by simpa using hn
  cases hl : (q.s d).dead with
  | true => exact no_sup (Or.inr (Or.inr (Or.inl hl)))
  | false => exact no_sup (Or.inr (Or.inr (Or.inr (hn hd hl)))))
 by_cases hl : c.k.toNat ≤ ((List.range q.n).filter fun d => decide (d < q.n) && (!(q.s d).dead && goodB ((q.s d).read 0))).length
 ·exact Or.inl (a hl)
 ·exact Or.inr (b (by omega))
theorem Inv.sub (h : Inv c V Y P q) (hn : q'.n = q.n) (hd : ∀ d, (q'.s d).dead = (q.s d).dead) (hc : ∀ d p x, d < q.n → Cn q' d p x → Cn q d p x) : Inv c V Y P q' where
 v := h.v
 y := h.y
 p := fun d hp => by rw [hn, hd]; exact h.p d hp
 jr := fun s i d x hs hi hdn hl hx => h.jr s i d x hs hi (by omega) (by rw [← hd]; exact hl) (hc d _ x (by omega) hx)
 tr := fun t d x ht hdn hl hx => h.tr t d x ht (by omega) (by rw [← hd]; exact hl) (hc d _ x (by omega) hx)
 link := fun y hy d hdn hl hx d' i x hdn' hl' hi hx' => h.link y hy d (by omega) (by rw [← hd]; exact hl) (hc d _ _ (by omega) hx) d' i x (by omega) (by rw [← hd]; exact hl') hi (hc d' _ x (by omega) hx')
theorem Sup.sub (h : Sup c Q q) (hn : q'.n = q.n) (hd : ∀ d, (q'.s d).dead = (q.s d).dead) (hc : ∀ d x, d < q.n → Cn q' d 0 x → Cn q d 0 x) : Sup c Q q' where
 p := fun d hp => by rw [hn, hd]; exact h.p d hp
 s := fun d x hdn hl hx => h.s d x (by omega) (by rw [← hd]; exact hl) (hc d x (by omega) hx)
theorem Inv.boot (h : Inv c V Y P q) (hr : Rest q c) (bits : Nat → Nat) : Inv c V Y P (q.boot bits) :=
 h.sub rfl (boot_on hr bits).2.2.2.2 fun _ _ _ hd hx => boot_cn hr bits hd hx
theorem Sup.boot (h : Sup c Q q) (hr : Rest q c) (bits : Nat → Nat) : Sup c Q (q.boot bits) :=
 h.sub rfl (boot_on hr bits).2.2.2.2 fun _ _ hd hx => boot_cn hr bits hd hx
theorem Inv.arm (h : Inv c V Y P q) (f : Int) : Inv c V Y P (q.arm f) := h.sub rfl (fun _ => rfl) fun _ _ _ _ hx => hx
theorem Sup.arm (h : Sup c Q q) (f : Int) : Sup c Q (q.arm f) := h.sub rfl (fun _ => rfl) fun _ _ _ hx => hx
theorem Inv.start (h : Inv c V none P q) (hr : CfRight c) (h8 : q.n ≤ 8) {y : Rc} (hy : YIn c V y) : Inv c V (some y) P q where
 v := h.v
 y := fun y' e => by injection e with e; exact e ▸ hy
 p := h.p
 jr := fun s i d x hs hi hd hl hx => by
  rcases h.jr s i d x hs hi hd hl hx with ⟨r, h1, h2⟩ | h1
  ·rcases h1 with h1 | ⟨y', h1, _⟩
   ·exact Or.inl ⟨r, Or.inl h1, h2⟩
   ·cases h1
  ·exact Or.inr h1
 tr := fun t d x ht hd hl hx => by
  rcases h.tr t d x ht hd hl hx with ⟨g, bs, h1, h2⟩ | h1
  ·rcases h1 with h1 | ⟨y', h1, _⟩
   ·exact Or.inl ⟨g, bs, Or.inl h1, h2⟩
   ·cases h1
  ·exact Or.inr h1
 link := fun y' e d hd hl hx => by
  injection e with e; subst e
  exfalso
  have ht := (rcIn_stripe hy.is).2
  rcases h.tr _ d _ ht hd hl hx with ⟨g, bs, h1, h2⟩ | ⟨_, h1⟩
  ·rcases h1 with ⟨rfl, rfl⟩ | ⟨y', h1, _⟩
   ·have := tF_inj hr (by omega) (rcIn_stIn hy.is hy.q2) (h.v.g _ ht) h2
    have := hy.g _ ht; omega
   ·cases h1
  ·rw [put_good (tF_is _ _ _ _ _) ((rcIn_stIn hy.is hy.q2).frame hr (by omega))] at h1; cases h1
def Qt (q : Rk) : Prop := ∀ d, d < q.n → (q.s d).dead = false → ∀ p, (q.s d).wt p = none
theorem Qt.cn (h : Qt q) {d p : Nat} {x : Sec} (hd : d < q.n) (hl : (q.s d).dead = false) (hx : Cn q d p x) : x = (q.s d).read p := by
 rcases hx with h1 | h1
 ·unfold St.read; rw [h d hd hl p]; exact h1.symm
 ·rw [h d hd hl p] at h1; cases h1
theorem Qt.boot (q : Rk) (bits : Nat → Nat) : Qt (q.boot bits) := fun d hd _ p => by
 have e : (q.boot bits).s d = (q.s d).crash (bits d) := if_pos hd
 rw [e]; rfl
theorem jsec_tsec (hr : CfRight c) {s i : Nat} (hs : (s : Int) < c.s) (hi : (i : Int) < c.k) (t : Nat) : jsec c s i ≠ tsec c t := by
 unfold jsec tsec
 have h1 := mul_lt_slots (s := s) (k := c.k) (S := c.s) (by omega) hs (by have := hr.2.2.1; omega)
 have e1 : ((c.s.toNat * c.k.toNat : Nat) : Int) = c.s * c.k := by
  rw [Int.natCast_mul, Int.toNat_of_nonneg (by omega), Int.toNat_of_nonneg (by have := hr.2.2.1; omega)]
 have e2 : ((s * c.k.toNat : Nat) : Int) = (s : Int) * c.k := by rw [Int.natCast_mul, Int.toNat_of_nonneg (by have := hr.2.2.1; omega)]
 omega
theorem jsec_pos (c : Cf) (s i : Nat) : jsec c s i ≠ 0 := by unfold jsec; omega
theorem tsec_pos (c : Cf) (t : Nat) : tsec c t ≠ 0 := by unfold tsec; omega
theorem Ran.on (h : Ran c q L q' e) (he : e = 0) : On q' c := by
 rcases h.out with ⟨_, h1, _⟩ | ⟨h1, _⟩
 ·exact h1
 ·rw [he] at h1; cases h1
theorem Ran.code (h : Ran c q L q' e) : e = 0 ∨ (e = 5 ∧ q'.off = true ∧ q.rem ≠ -1) := by
 rcases h.out with ⟨h1, _⟩ | ⟨h1, h2, h3, _⟩
 ·exact Or.inl h1
 ·exact Or.inr ⟨h1, h2, h3⟩
theorem Ran.rem (h : Ran c q L q' e) (he : e = 0) (hr : q.rem = -1) : q'.rem = -1 := by
 rcases h.out with ⟨_, _, h1, _⟩ | ⟨h1, _⟩
 ·exact h1 hr
 ·rw [he] at h1; cases h1
structure SlotRan (c : Cf) (q : Rk) (s : Nat) (x : Rc) (q' : Rk) (e : Int) : Prop where
 ran : Ran c q (slotOps c s x q) q' e
 cn : ∀ d p z, Cn q' d p z → Cn q d p z ∨ ∃ i : Nat, (i : Int) < c.k ∧ p = jsec c s i ∧ z = put (jF x i)
 all : e = 0 → ∀ (d i : Nat) z, d < q.n → (q.s d).dead = false → (i : Int) < c.k → Cn q' d (jsec c s i) z → z = put (jF x i)
 qt : e = 0 → Qt q'
variable {x : Rc}
theorem slot_ran (h : On q c) (hs : (s : Int) < c.s) (hx : RcIn c s x) : SlotRan c q s x (runS q (slotOps c s x q)) (runC q (slotOps c s x q)) := by
 have hr := h.right
 have hk1 : 1 ≤ c.k := hr.2.2.1
 have hlen := jFs_length x
 have hxl := hx.len
 have hlast := jsec_last h.fits hs
 have hF := jFs_128 hx hr
 have eL : slotOps c s x q = jops (jsec c s 0 : Nat) (jFs x) (ups q) := by unfold slotOps; rw [base_nat (by omega) s]
 have hb : jsec c s 0 + (jFs x).length ≤ q.k := by rw [hlen, hxl]; exact hlast
 have hfit : ∀ o ∈ slotOps c s x q, o.fit q.n q.k fun j => (q.s j).dead := by rw [eL]; exact jops_fit hb hF
 have hran := ran_fit h hfit
 refine ⟨hran, fun d p z hz => ?_, fun he d i z hd hl hi hz => ?_, fun he d hd hl p => ?_⟩
 ·rcases hran.cn h hfit hz with h1 | h1
  ·exact Or.inl h1
  ·right
   rw [eL] at h1
   rcases mem_jops h1 with ⟨d', i, _, hi, e⟩ | ⟨d', _, e⟩
   ·injection e with e1 e2 e3
    refine ⟨i, by omega, ?_, ?_⟩
    ·have := jsec_add c s i; omega
    ·rw [e3, jFs_getD (by omega)]
   ·cases e
 ·have hran' := hran
  rw [he, eL] at hran'; rw [eL] at hz; have := jops_done hran' h rfl hb hF hd hl (i := i) (by omega) (by rw [jsec_add]; exact hz); rw [this, jFs_getD (by omega)]
 ·rcases hran.out with ⟨_, _, _, hs'⟩ | ⟨h5, _⟩
  ·rw [hs', eL, ons_jops _ _ (ups q) q.s (ups_nodup q)]
   have hd' : d < q.n := by rw [← hran.n]; exact hd
   rw [if_pos (mem_ups.2 ⟨hd', by rw [← hran.dead]; exact hl⟩)]; exact (slotS_facts (h.sok d hd') hF (by rw [h.ok.k d hd']; exact hb)).2.2.2.1 p
  ·rw [he] at h5; cases h5
structure StripeRan (c : Cf) (q : Rk) (t : Nat) (g : Int) (bs : List (List UInt8)) (q' : Rk) (e : Int) : Prop where
 ran : Ran c q (topsOf c t g bs q) q' e
 cn : ∀ d p z, Cn q' d p z → Cn q d p z ∨ (p = tsec c t ∧ z = put (tF c.k.toNat t g bs d))
 all : e = 0 → ∀ d z, d < q.n → (q.s d).dead = false → Cn q' d (tsec c t) z → z = put (tF c.k.toNat t g bs d)
 qt : e = 0 → Qt q'
variable {t : Nat}
theorem stripe_ran (h : On q c) (hx : StIn c t g bs) : StripeRan c q t g bs (runS q (topsOf c t g bs q)) (runC q (topsOf c t g bs q)) := by
 have hr := h.right
 have hF : ∀ d, d < q.n → (put (tF c.k.toNat t g bs d)).length = 128 := fun d hd => hx.put128 hr (by have := h.ok.n8; omega)
 have hb := tsec_lt h.fits hx.s1
 have eL : topsOf c t g bs q = tops (tsec c t : Nat) (fun d => put (tF c.k.toNat t g bs d)) (ups q) := by unfold topsOf; rw [tsec_eq hr]
 have hfit : ∀ o ∈ topsOf c t g bs q, o.fit q.n q.k fun j => (q.s j).dead := by rw [eL]; exact tops_fit hb hF
 have hran := ran_fit h hfit
 refine ⟨hran, fun d p z hz => ?_, fun he d z hd hl hz => ?_, fun he d hd hl p => ?_⟩
 ·rcases hran.cn h hfit hz with h1 | h1
  ·exact Or.inl h1
  ·right
   rw [eL] at h1
   rcases mem_tops h1 with ⟨d', _, e⟩ | ⟨d', _, e⟩
   ·injection e with e1 e2 e3
    obtain rfl : d = d' := by omega
    exact ⟨by omega, e3⟩
   ·cases e
 ·have hran' := hran
  rw [he, eL] at hran'; rw [eL] at hz; exact tops_done hran' h rfl (ups_nodup q) hb hd (mem_ups.2 ⟨hd, hl⟩) (hF d hd) hz
 ·rcases hran.out with ⟨_, _, _, hs'⟩ | ⟨h5, _⟩
  ·have hd' : d < q.n := by rw [← hran.n]; exact hd
   rw [hs', eL, ons_tops _ _ (ups q) q.s (ups_nodup q), if_pos (mem_ups.2 ⟨hd', by rw [← hran.dead]; exact hl⟩)]; exact St.flush_wt ((h.sok d hd').write (by rw [h.ok.k d hd']; exact hb) (hF d hd')) p
  ·rw [he] at h5; cases h5
def YSeen (c : Cf) (q : Rk) (y : Rc) : Prop := ∃ d, d < q.n ∧ (q.s d).dead = false ∧ Cn q d (tsec c y.t.toNat) (put (tF c.k.toNat y.t.toNat y.q y.b d))
def YSlot (c : Cf) (q : Rk) (P : Nat → Bool) (y : Rc) : Prop := ∀ (d i : Nat) (x : Sec), d < q.n → (q.s d).dead = false → (i : Int) < c.k → Cn q d (jsec c (slotOf c y) i) x → x = put (jF y i) ∨ (P d = false ∧ goodB x = false)
theorem Inv.slot (h : Inv c V Y P q) (hr : CfRight c) (hs : (s : Int) < c.s) (ha : AllowR c V Y s x) (hl : ∀ y, Y = some y → s = slotOf c y → x = y ∨ ¬ YSeen c q y) (hran : SlotRan c q s x q' e) : Inv c V Y P q' where
 v := h.v
 y := h.y
 p := fun d hp => by rw [hran.ran.n, hran.ran.dead]; exact h.p d hp
 jr := fun s' i d z hs' hi hd hl' hz => by
  rw [hran.ran.n] at hd; rw [hran.ran.dead] at hl'
  rcases hran.cn d _ z hz with h1 | ⟨j, hj, e1, e2⟩
  ·exact h.jr s' i d z hs' hi hd hl' h1
  ·obtain ⟨rfl, rfl⟩ := jsec_inj hi hj e1
   exact Or.inl ⟨x, ha, e2⟩
 tr := fun t d z ht hd hl' hz => by
  rw [hran.ran.n] at hd; rw [hran.ran.dead] at hl'
  rcases hran.cn d _ z hz with h1 | ⟨j, hj, e1, _⟩
  ·exact h.tr t d z ht hd hl' h1
  ·exact absurd e1.symm (jsec_tsec hr hs hj t)
 link := fun y hy d hd hl' hz d' i z' hd' hld' hi hz' => by
  rw [hran.ran.n] at hd hd'; rw [hran.ran.dead] at hl' hld'
  rcases hran.cn d _ _ hz with h1 | ⟨j, hj, e1, _⟩
  ·rcases hran.cn d' _ z' hz' with h2 | ⟨j, hj, e1, e2⟩
   ·exact h.link y hy d hd hl' h1 d' i z' hd' hld' hi h2
   ·obtain ⟨e3, rfl⟩ := jsec_inj hi hj e1
    rcases hl y hy e3.symm with rfl | h3
    ·exact Or.inl e2
    ·exact absurd ⟨d, hd, hl', h1⟩ h3
  ·exact absurd e1.symm (jsec_tsec hr hs hj _)
theorem Inv.stripePut (h : Inv c V Y P q) (hr : CfRight c) (ha : AllowT V Y t g bs) (hl : ∀ y, Y = some y → g = y.q → YSlot c q P y) (h8 : q.n ≤ 8) (ht : (t : Int) < c.t) (hran : StripeRan c q t g bs q' e) : Inv c V Y P q' where
 v := h.v
 y := h.y
 p := fun d hp => by rw [hran.ran.n, hran.ran.dead]; exact h.p d hp
 jr := fun s' i d z hs' hi hd hl' hz => by
  rw [hran.ran.n] at hd; rw [hran.ran.dead] at hl'
  rcases hran.cn d _ z hz with h1 | ⟨e1, e2⟩
  ·exact h.jr s' i d z hs' hi hd hl' h1
  ·exact absurd e1 (jsec_tsec hr hs' hi _)
 tr := fun t' d z ht' hd hl' hz => by
  rw [hran.ran.n] at hd; rw [hran.ran.dead] at hl'
  rcases hran.cn d _ z hz with h1 | ⟨e1, e2⟩
  ·exact h.tr t' d z ht' hd hl' h1
  ·obtain rfl := tsec_inj e1
   exact Or.inl ⟨g, bs, ha, e2⟩
 link := fun y hy d hd hl' hz d' i z' hd' hld' hi hz' => by
  rw [hran.ran.n] at hd hd'; rw [hran.ran.dead] at hl' hld'; have hsl := slotOf_lt hr (y := y)
  have hz'' : Cn q d' (jsec c (slotOf c y) i) z' := by
   rcases hran.cn d' _ z' hz' with h2 | ⟨e1, _⟩
   ·exact h2
   ·exact absurd e1 (jsec_tsec hr hsl hi _)
  rcases hran.cn d _ _ hz with h1 | ⟨e1, e2⟩
  ·exact h.link y hy d hd hl' h1 d' i z' hd' hld' hi hz''
  ·have e1 := tsec_inj e1
   subst e1; have hg := tF_inj hr (by omega) (rcIn_stIn (h.y y hy).is (h.y y hy).q2) (allowT_in h ht ha) e2; exact hl y hy hg.symm d' i z' hd' hld' hi hz''
theorem Sup.slot (h : Sup c Q q) (hran : SlotRan c q s x q' e) : Sup c Q q' :=
 h.sub hran.ran.n hran.ran.dead fun d x _ hx => by
  rcases hran.cn d 0 x hx with h1 | ⟨i, _, e1, _⟩
  ·exact h1
  ·exact absurd e1.symm (jsec_pos _ _ _)
theorem Sup.stripePut (h : Sup c Q q) (hran : StripeRan c q t g bs q' e) : Sup c Q q' :=
 h.sub hran.ran.n hran.ran.dead fun d x _ hx => by
  rcases hran.cn d 0 x hx with h1 | ⟨e1, _⟩
  ·exact h1
  ·exact absurd e1.symm (tsec_pos _ _)
def addY (c : Cf) (V : Vl) (y : Rc) : Vl := ⟨upd V.R (slotOf c y) y, upd V.G y.t.toNat y.q, upd V.B y.t.toNat y.b⟩
theorem addY_ok (h : VOk c V) {y : Rc} (hy : YIn c V y) : VOk c (addY c V y) where
 r := fun s hs => by
  show RcIn c s (upd V.R (slotOf c y) y s)
  by_cases e : s = slotOf c y
  ·subst e; rw [upd_same]; exact hy.is
  ·rw [upd_other _ _ e]; exact h.r s hs
 z := fun s hs h0 => by
  have h0 : (upd V.R (slotOf c y) y s).q = 0 := h0
  show upd V.R (slotOf c y) y s = blankR c
  by_cases e : s = slotOf c y
  ·subst e; rw [upd_same] at h0; have := hy.q2; omega
  ·rw [upd_other _ _ e] at h0 ⊢; exact h.z s hs h0
 a := fun s hs h2 => by
  have h2 : 2 ≤ (upd V.R (slotOf c y) y s).q := h2
  show (upd V.R (slotOf c y) y s).q < upd V.G y.t.toNat y.q (upd V.R (slotOf c y) y s).t.toNat ∨ ((upd V.R (slotOf c y) y s).q = upd V.G y.t.toNat y.q (upd V.R (slotOf c y) y s).t.toNat ∧ (upd V.R (slotOf c y) y s).b = upd V.B y.t.toNat y.b (upd V.R (slotOf c y) y s).t.toNat)
  by_cases e : s = slotOf c y
  ·subst e; rw [upd_same, upd_same, upd_same]; exact Or.inr ⟨rfl, rfl⟩
  ·rw [upd_other _ _ e] at h2 ⊢
   by_cases e2 : (V.R s).t.toNat = y.t.toNat
   ·rw [e2, upd_same]; exact Or.inl (hy.r s hs)
   ·rw [upd_other _ _ e2, upd_other _ _ e2]; exact h.a s hs h2
 g := fun t ht => by
  show StIn c t (upd V.G y.t.toNat y.q t) (upd V.B y.t.toNat y.b t)
  by_cases e : t = y.t.toNat
  ·subst e; rw [upd_same, upd_same]; exact rcIn_stIn hy.is hy.q2
  ·rw [upd_other _ _ e, upd_other _ _ e]; exact h.g t ht
variable {M : Int}
theorem addY_le (h : VLe c V M) {y : Rc} (hy : y.q ≤ M) : VLe c (addY c V y) M where
 r := fun s hs => by
  show (upd V.R (slotOf c y) y s).q ≤ M
  by_cases e : s = slotOf c y
  ·subst e; rw [upd_same]; exact hy
  ·rw [upd_other _ _ e]; exact h.r s hs
 g := fun t ht => by
  show upd V.G y.t.toNat y.q t ≤ M
  by_cases e : t = y.t.toNat
  ·subst e; rw [upd_same]; exact hy
  ·rw [upd_other _ _ e]; exact h.g t ht
theorem Inv.added (h : Inv c V (some y) P q) (hsl : YSlot c q P y) (ht : ∀ d x, d < q.n → (q.s d).dead = false → Cn q d (tsec c y.t.toNat) x → x = put (tF c.k.toNat y.t.toNat y.q y.b d)) : Inv c (addY c V y) none P q where
 v := addY_ok h.v (h.y y rfl)
 y := fun y' e => by cases e
 p := h.p
 jr := fun s i d x hs hi hd hl hx => by
  by_cases e : s = slotOf c y
  ·subst e
   rcases hsl d i x hd hl hi hx with h1 | h1
   ·exact Or.inl ⟨y, Or.inl (upd_same V.R (slotOf c y) y).symm, h1⟩
   ·exact Or.inr h1
  ·rcases h.jr s i d x hs hi hd hl hx with ⟨r, h1, h2⟩ | h1
   ·rcases h1 with h1 | ⟨y', h1, h3, _⟩
    ·exact Or.inl ⟨r, Or.inl (h1.trans (upd_other V.R y e).symm), h2⟩
    ·injection h1 with h1; subst h1; exact absurd h3 e
   ·exact Or.inr h1
 tr := fun t d x htt hd hl hx => by
  by_cases e : t = y.t.toNat
  ·subst e
   exact Or.inl ⟨y.q, y.b, Or.inl ⟨(upd_same V.G _ _).symm, (upd_same V.B _ _).symm⟩, ht d x hd hl hx⟩
  ·rcases h.tr t d x htt hd hl hx with ⟨g, bs, h1, h2⟩ | h1
   ·rcases h1 with ⟨h1, h3⟩ | ⟨y', h1, h3, _⟩
    ·exact Or.inl ⟨g, bs, Or.inl ⟨h1.trans (upd_other V.G _ e).symm, h3.trans (upd_other V.B _ e).symm⟩, h2⟩
    ·injection h1 with h1; subst h1; exact absurd h3 e
   ·exact Or.inr h1
 link := fun y' e => by cases e
def setR (V : Vl) (s : Nat) (x : Rc) : Vl := ⟨upd V.R s x, V.G, V.B⟩
theorem Inv.drop (h : Inv c V (some y) P q) (hr : CfRight c) {x : Rc} (hx : x = V.R (slotOf c y) ∨ x = blankR c) (hno : ¬ YSeen c q y)
  (hsl : ∀ (d i : Nat) (z : Sec), d < q.n → (q.s d).dead = false → (i : Int) < c.k → Cn q d (jsec c (slotOf c y) i) z → z = put (jF x i) ∨ (P d = false ∧ goodB z = false)) : Inv c (setR V (slotOf c y) x) none P q where
 v := {
  r := fun s hs => by
   show RcIn c s (upd V.R (slotOf c y) x s)
   by_cases e : s = slotOf c y
   ·subst e; rw [upd_same]
    rcases hx with rfl | rfl
    ·exact h.v.r _ hs
    ·exact blank_in hr _
   ·rw [upd_other _ _ e]; exact h.v.r s hs
  z := fun s hs h0 => by
   have h0 : (upd V.R (slotOf c y) x s).q = 0 := h0
   show upd V.R (slotOf c y) x s = blankR c
   by_cases e : s = slotOf c y
   ·subst e
    rw [upd_same] at h0 ⊢
    rcases hx with rfl | rfl
    ·exact h.v.z _ hs h0
    ·rfl
   ·rw [upd_other _ _ e] at h0 ⊢; exact h.v.z s hs h0
  a := fun s hs h2 => by
   have h2 : 2 ≤ (upd V.R (slotOf c y) x s).q := h2
   show RGood (setR V (slotOf c y) x) (upd V.R (slotOf c y) x s)
   by_cases e : s = slotOf c y
   ·subst e
    rw [upd_same] at h2 ⊢
    rcases hx with rfl | rfl
    ·exact h.v.a _ hs h2
    ·exact absurd h2 (by show ¬ (2 : Int) ≤ 0; decide)
   ·rw [upd_other _ _ e] at h2 ⊢; exact h.v.a s hs h2
  g := h.v.g }
 y := fun y' e => by cases e
 p := h.p
 jr := fun s i d z hs hi hd hl hz => by
  by_cases e : s = slotOf c y
  ·subst e
   rcases hsl d i z hd hl hi hz with h1 | h1
   ·exact Or.inl ⟨x, Or.inl (upd_same V.R (slotOf c y) x).symm, h1⟩
   ·exact Or.inr h1
  ·rcases h.jr s i d z hs hi hd hl hz with ⟨r, h1, h2⟩ | h1
   ·rcases h1 with h1 | ⟨y', h1, h3, _⟩
    ·exact Or.inl ⟨r, Or.inl (h1.trans (upd_other V.R x e).symm), h2⟩
    ·injection h1 with h1; subst h1; exact absurd h3 e
   ·exact Or.inr h1
 tr := fun t d z ht hd hl hz => by
  rcases h.tr t d z ht hd hl hz with ⟨g, bs, h1, h2⟩ | h1
  ·rcases h1 with h1 | ⟨y', h1, rfl, rfl, rfl⟩
   ·exact Or.inl ⟨g, bs, Or.inl h1, h2⟩
   ·injection h1 with h1; subst h1; exact absurd ⟨d, hd, hl, by rw [← h2]; exact hz⟩ hno
  ·exact Or.inr h1
 link := fun y' e => by cases e
structure Stl where
 q : Rk
 l : List Rc
 g : Int
 e : Int
def settle1 (c : Cf) (p : Stl) (s : Nat) : Stl :=
 if p.e = 0 then
  (if jcode p.q c s = 0 then
   (if jwhole p.q c s = true then
    (if 1 < (jrecR p.q c s).q then ⟨Rk.jlog p.q c (jrecR p.q c s), p.l ++ [jrecR p.q c s], max p.g (jnewest p.q c s), Rk.jlogC p.q c (jrecR p.q c s)⟩
    else ⟨p.q, p.l, max p.g (jnewest p.q c s), 0⟩)
   else ⟨Rk.jblank p.q c s, p.l, max p.g (jnewest p.q c s), Rk.jblankC p.q c s⟩)
  else ⟨p.q, p.l, p.g, jcode p.q c s⟩)
 else p
def settleN (c : Cf) (q : Rk) : Nat → Stl
 | 0 => ⟨q, [], 0, 0⟩
 | m + 1 => settle1 c (settleN c q m) m
def replayL (c : Cf) : Rk → List Rc → Rk × Int
 | q, [] => (q, 0)
 | q, x :: l => if x.q < tnew q c x.t then replayL c q l else if Rk.tputC q c x.t x.q x.b = 0 then replayL c (Rk.tput q c x.t x.q x.b) l else (Rk.tput q c x.t x.q x.b, Rk.tputC q c x.t x.q x.b)
def gensN (c : Cf) (q : Rk) : Nat → Int × Int
 | 0 => (1, 0)
 | m + 1 => if (gensN c q m).2 = 0 then (if tcode q c m = 0 then (max (gensN c q m).1 (tnew q c m), 0) else ((gensN c q m).1, tcode q c m)) else gensN c q m
def RSorted (l : List Rc) : Prop := l.Pairwise fun x y => x.q ≤ y.q
def OpensTo (q q' : Rk) (e g : Int) : Prop :=
 if q.off = true then q' = q ∧ e = 5
 else if fndOk q = false then q' = q ∧ e = 7
 else if ((ups q).length : Int) < (fndC q).k then q' = q ∧ e = 7
 else
  if (settleN (fndC q) q (fndC q).s.toNat).e = 0 then
   ∃ l, l.Perm (settleN (fndC q) q (fndC q).s.toNat).l ∧ RSorted l ∧ q' = (replayL (fndC q) (settleN (fndC q) q (fndC q).s.toNat).q l).1 ∧
    (if (replayL (fndC q) (settleN (fndC q) q (fndC q).s.toNat).q l).2 = 0 then e = (gensN (fndC q) q' (fndC q).t.toNat).2 ∧ g = max (settleN (fndC q) q (fndC q).s.toNat).g (gensN (fndC q) q' (fndC q).t.toNat).1
    else e = (replayL (fndC q) (settleN (fndC q) q (fndC q).s.toNat).q l).2)
  else q' = (settleN (fndC q) q (fndC q).s.toNat).q ∧ e = (settleN (fndC q) q (fndC q).s.toNat).e
def Evo (c : Cf) (V : Vl) (Y : Option Rc) (V' : Vl) (Y' : Option Rc) : Prop :=
 (V' = V ∧ Y' = Y) ∨ ∃ y, Y = some y ∧ Y' = none ∧ (V' = addY c V y ∨ ∃ x, (x = V.R (slotOf c y) ∨ x = blankR c) ∧ V' = setR V (slotOf c y) x)
theorem Evo.refl (c : Cf) (V : Vl) (Y : Option Rc) : Evo c V Y V Y := Or.inl ⟨rfl, rfl⟩
variable {V1 : Vl} {Y1 : Option Rc}
theorem Evo.trans {V2 : Vl} {Y2 : Option Rc} (h : Evo c V Y V1 Y1) (h2 : Evo c V1 Y1 V2 Y2) : Evo c V Y V2 Y2 := by
 rcases h with ⟨rfl, rfl⟩ | ⟨y, a1, a2, a3⟩
 ·exact h2
 ·rcases h2 with ⟨rfl, rfl⟩ | ⟨y', b1, _⟩
  ·exact Or.inr ⟨y, a1, a2, a3⟩
  ·rw [a2] at b1; cases b1
theorem evo_add (c : Cf) (V : Vl) (y : Rc) : Evo c V (some y) (addY c V y) none := Or.inr ⟨y, rfl, rfl, Or.inl rfl⟩
theorem evo_drop (hy : Y = some y) (hx : x = V.R (slotOf c y) ∨ x = blankR c) : Evo c V Y (setR V (slotOf c y) x) none := Or.inr ⟨y, hy, rfl, Or.inr ⟨x, hx, rfl⟩⟩
variable {V' : Vl} {Y' : Option Rc}
theorem Evo.old (h : Evo c V Y V' Y') : (V'.G = V.G ∧ V'.B = V.B ∧ (Y' = Y ∨ Y' = none)) ∨ ∃ y, Y = some y ∧ Y' = none ∧ V'.G = upd V.G y.t.toNat y.q ∧ V'.B = upd V.B y.t.toNat y.b := by
 rcases h with ⟨rfl, rfl⟩ | ⟨y, a1, a2, rfl | ⟨x, _, rfl⟩⟩
 ·exact Or.inl ⟨rfl, rfl, Or.inl rfl⟩
 ·exact Or.inr ⟨y, a1, a2, rfl, rfl⟩
 ·exact Or.inl ⟨rfl, rfl, Or.inr a2⟩
def LA (c : Cf) (V : Vl) (Y : Option Rc) (x : Rc) : Prop := (∃ s : Nat, (s : Int) < c.s ∧ x = V.R s ∧ 2 ≤ x.q ∧ ∀ y, Y = some y → s ≠ slotOf c y) ∨ Y = some x
theorem jlog_is (h : On q c) (hx : RcIn c s x) (h2 : 2 ≤ x.q) : Rk.jlog q c x = runS q (slotOps c s x q) ∧ Rk.jlogC q c x = runC q (slotOps c s x q) := by
 have hj := hx.jr h2 (by have := h.right.2.2.1; omega)
 have hb : (c.fits q && jright c x) = true := by rw [h.fits, hj]; rfl
 have hs : x.q % c.s = (s : Int) := by
  rcases hx.slot with h0 | ⟨_, h0⟩
  ·omega
  ·exact h0
 unfold Rk.jlog Rk.jlogC
 rw [if_pos hb, if_pos hb, hs]
 exact ⟨rfl, rfl⟩
theorem jblank_is (h : On q c) (hs : (s : Int) < c.s) : Rk.jblank q c s = runS q (slotOps c s (blankR c) q) ∧ Rk.jblankC q c s = runC q (slotOps c s (blankR c) q) := by
 unfold Rk.jblank Rk.jblankC
 rw [if_pos (has_slot h.fits hs), if_pos (has_slot h.fits hs)]
 exact ⟨rfl, rfl⟩
theorem tput_is (h : On q c) (hx : StIn c t g bs) : Rk.tput q c t g bs = runS q (topsOf c t g bs q) ∧ Rk.tputC q c t g bs = runC q (topsOf c t g bs q) := by
 unfold Rk.tput Rk.tputC
 rw [if_pos (hx.ok h.fits), if_pos (hx.ok h.fits)]
 exact ⟨rfl, rfl⟩
structure Enough (c : Cf) (P : Nat → Bool) (n : Nat) : Prop where
 le : c.k.toNat ≤ ((List.range n).filter P).length
theorem Enough.one (h : Enough c P n) (hr : CfRight c) : ∃ d, d < n ∧ P d = true := by
 have hk1 : 1 ≤ c.k := hr.2.2.1
 have := h.le
 match e : (List.range n).filter P with
 | [] => rw [e] at this; simp at this; omega
 | d :: l =>
  have : d ∈ (List.range n).filter P := by rw [e]; exact List.mem_cons_self ..
  rw [List.mem_filter, List.mem_range] at this; exact ⟨d, this.1, this.2⟩
structure Alike0 (q q' : Rk) : Prop where
 n : q'.n = q.n
 k : q'.k = q.k
 dead : ∀ d, (q'.s d).dead = (q.s d).dead
theorem Alike0.refl (q : Rk) : Alike0 q q := ⟨rfl, rfl, fun _ => rfl⟩
variable {q1 : Rk}
theorem Alike0.trans {q2 : Rk} (h : Alike0 q q1) (h2 : Alike0 q1 q2) : Alike0 q q2 := ⟨h2.n.trans h.n, h2.k.trans h.k, fun d => (h2.dead d).trans (h.dead d)⟩
theorem Ran.alike (h : Ran c q L q' e) : Alike0 q q' := ⟨h.n, h.k, h.dead⟩
def Free (q q' : Rk) : Prop := q.rem = -1 → q'.rem = -1
structure Goes (c : Cf) (V : Vl) (Y : Option Rc) (P Q : Nat → Bool) (M : Int) (q q' : Rk) (V' : Vl) (Y' : Option Rc) : Prop where
 al : Alike0 q q'
 inv : Inv c V' Y' P q'
 sup : Sup c Q q'
 evo : Evo c V Y V' Y'
 le : VLe c V' M
 yle : ∀ y, Y' = some y → y.q ≤ M
structure Settled (c : Cf) (V : Vl) (Y : Option Rc) (P Q : Nat → Bool) (M : Int) (q : Rk) (m : Nat) (p : Stl) (V' : Vl) (Y' : Option Rc) : Prop where
 goes : Goes c V Y P Q M q p.q V' Y'
 on : On p.q c
 qt : Qt p.q
 free : Free q p.q
 l : ∀ x ∈ p.l, LA c V' Y' x
 y : ∀ y, Y' = some y → slotOf c y < m → y ∈ p.l ∧ YSlot c p.q P y
 ge : ∀ s, s < m → (V'.R s).q ≤ p.g
 le : p.g ≤ M
 pos : 0 ≤ p.g
 ls : ∀ x ∈ p.l, slotOf c x < m
structure Cut (c : Cf) (V : Vl) (Y : Option Rc) (P Q : Nat → Bool) (M : Int) (q q' : Rk) (e : Int) : Prop where
 five : e = 5
 burnt : q.rem ≠ -1
 off : q'.off = true
 rest : Rest q' c
 goes : ∃ V' Y', Goes c V Y P Q M q q' V' Y'
theorem VLe.setR (h : VLe c V M) {s : Nat} {x : Rc} (hx : x.q ≤ M) : VLe c (setR V s x) M where
 r := fun s' hs => by
  show (upd V.R s x s').q ≤ M
  by_cases e : s' = s
  ·subst e; rw [upd_same]; exact hx
  ·rw [upd_other _ _ e]; exact h.r s' hs
 g := h.g
set_option maxHeartbeats 4000000 in
theorem settle_step {p : Stl} (h : Settled c V Y P Q M q m p V1 Y1) (he : p.e = 0) (hm : (m : Int) < c.s) (hP : Enough c P q.n) (hM : 1 ≤ M) :
  (∃ V' Y', Settled c V Y P Q M q (m + 1) (settle1 c p m) V' Y' ∧ (settle1 c p m).e = 0) ∨ Cut c V Y P Q M q (settle1 c p m).q (settle1 c p m).e := by
 have hr := h.on.right
 have hk1 : 1 ≤ c.k := hr.2.2.1
 obtain ⟨d0, hd0, hp0⟩ := hP.one hr
 have hd0' : d0 < p.q.n := by rw [h.goes.al.n]; exact hd0
 have hl0 := (h.goes.inv.p d0 hp0).2
 have hjs := h.goes.inv.jset h.on hm
 have hnf : p.q.rem ≠ -1 → q.rem ≠ -1 := fun h1 h2 => h1 (h.free h2)
 -- the two writes
 have cutOf : ∀ {x : Rc} {e : Int} {q' : Rk}, SlotRan c p.q m x q' e → AllowR c V1 Y1 m x → (∀ y, Y1 = some y → m = slotOf c y → x = y ∨ ¬ YSeen c p.q y) → e ≠ 0 → Cut c V Y P Q M q q' e := fun {x e q'} hs ha hl hne => by
  rcases hs.ran.code with h1 | ⟨h1, h2, h3⟩
  ·exact absurd h1 hne
  ·exact ⟨h1, hnf h3, h2, hs.ran.rest, V1, Y1, ⟨h.goes.al.trans hs.ran.alike, h.goes.inv.slot hr hm ha hl hs, h.goes.sup.slot hs, h.goes.evo, h.goes.le, h.goes.yle⟩⟩
 rcases hjs.told (has_slot h.on.fits hm) hk1 with ⟨_, i, hi, hno⟩ | ⟨hc0, r0, hr0, hnew, hmax, hcase⟩
 ·obtain ⟨r, _, h2⟩ := h.goes.inv.jp h.on hm hi hp0
  rw [hno d0 hd0' hl0] at h2; cases h2
 have hrq : r0.q ≤ M := by
  rcases hr0 with rfl | ⟨y, h1, _, rfl | rfl⟩
  ·exact h.goes.le.r m hm
  ·exact h.goes.yle _ h1
  ·show (0 : Int) ≤ M; omega
 have hrin := allowR_in h.goes.inv hr hm hr0
 have hr0q := hrin.q0
 have hgm : max p.g (jnewest p.q c m) ≤ M := by rw [hnew]; have := h.le; omega
 have hgp : p.g ≤ max p.g (jnewest p.q c m) := by omega
 have hgr : r0.q ≤ max p.g (jnewest p.q c m) := by rw [hnew]; omega
 -- the record y, where its slot is this one
 have notSeen : ∀ y, Y1 = some y → m = slotOf c y → r0 ≠ y → ¬ YSeen c p.q y := fun y hy hs hne ⟨d, hd, hl, hx⟩ => by
  have hall := h.goes.inv.link y hy d hd hl hx
  rcases hall d0 0 _ hd0' hl0 (show ((0 : Nat) : Int) < c.k by omega) (cn_read p.q d0 _) with h1 | ⟨h1, _⟩
  ·have hyin : RcIn c m y := by rw [hs]; exact (h.goes.inv.y y hy).is
   have hf := jfr_cn (i := 0) h.on hm (show ((0 : Nat) : Int) < c.k by omega) hd0' hl0 hyin (by rw [hs]; exact h1); have := hmax 0 d0 y (show ((0 : Nat) : Int) < c.k by omega) hd0' hl0 hf
   rcases hr0 with rfl | ⟨y', h2, _, rfl | rfl⟩
   ·have := (h.goes.inv.y y hy).r m hm; omega
   ·rw [hy] at h2; injection h2 with h2; exact hne h2.symm
   ·have := (h.goes.inv.y y hy).q2
    have h0 : (blankR c).q = 0 := rfl; omega
  ·rw [hp0] at h1; cases h1
 have lsApp : 1 < r0.q → ∀ {x : Rc}, x ∈ p.l ++ [r0] → slotOf c x < m + 1 := fun h1q {x} hx => by
  rcases List.mem_append.1 hx with hx | hx
  ·exact Nat.lt_succ_of_lt (h.ls x hx)
  ·rw [List.mem_singleton] at hx
   subst hx
   rcases hrin.slot with h2 | ⟨_, h2⟩
   ·omega
   ·unfold slotOf; rw [h2]; simp
 unfold settle1
 rw [if_pos he, if_pos hc0]
 rcases hcase with ⟨hw, hrec, hev⟩ | ⟨hw, i1, hi1, hno1⟩
 ·rw [if_pos hw, hrec]
  by_cases h1q : 1 < r0.q
  ·rw [if_pos h1q]
   have lsApp : ∀ {x : Rc}, x ∈ p.l ++ [r0] → slotOf c x < m + 1 := fun {x} hx => lsApp h1q hx
   obtain ⟨e1, e2⟩ := jlog_is h.on hrin (by omega); rw [e1, e2]; have hsr := slot_ran h.on hm hrin
   have hlink : ∀ y, Y1 = some y → m = slotOf c y → r0 = y ∨ ¬ YSeen c p.q y := fun y hy hs => by
    by_cases e : r0 = y
    ·exact Or.inl e
    ·exact Or.inr (notSeen y hy hs e)
   generalize runS p.q (slotOps c (m : Int) r0 p.q) = q' at *; generalize runC p.q (slotOps c (m : Int) r0 p.q) = e' at *
   by_cases hz : e' = 0
   ·left
    subst hz; have hinv := h.goes.inv.slot hr hm hr0 hlink hsr; have hsup := h.goes.sup.slot hsr; have hon := hsr.ran.on rfl; have hall := hsr.all rfl; have hal := h.goes.al.trans hsr.ran.alike
    have hfree : Free q q' := fun hh => hsr.ran.rem rfl (h.free hh)
    have other : ∀ s : Nat, s ≠ m → ∀ (d i : Nat) (x : Sec), (s : Int) < c.s → (i : Int) < c.k → Cn q' d (jsec c s i) x → Cn p.q d (jsec c s i) x := fun s hsm d i x _ hi hx => by
     rcases hsr.cn d _ x hx with h1 | ⟨j, hj, e3, _⟩
     ·exact h1
     ·exact absurd (jsec_inj hi hj e3).1 hsm
    by_cases hy : ∃ y, Y1 = some y ∧ m = slotOf c y
    ·obtain ⟨y, hy, hs⟩ := hy
     by_cases hry : r0 = y
     ·-- y itself is written
      subst hry; refine ⟨V1, Y1, ⟨⟨hal, hinv, hsup, h.goes.evo, h.goes.le, h.goes.yle⟩, hon, hsr.qt rfl, hfree, fun x hx => ?_, fun y' hy' _ => ?_, fun s hs' => ?_, hgm, by have := h.pos; show 0 ≤ max p.g _; omega, fun z hz => lsApp hz⟩, rfl⟩
      ·rcases List.mem_append.1 hx with hx | hx
       ·exact h.l x hx
       ·rw [List.mem_singleton] at hx; subst hx; exact Or.inr hy
      ·rw [hy] at hy'
       injection hy' with hy'; subst hy'; refine ⟨List.mem_append.2 (Or.inr (List.mem_singleton.2 rfl)), fun d i x hd hl hi hx => Or.inl ?_⟩; rw [hal.n, ← h.goes.al.n] at hd; rw [hal.dead, ← h.goes.al.dead] at hl; rw [← hs] at hx; exact hall d i x hd hl hi hx
      ·by_cases e : s = m
       ·subst e
        have := (h.goes.inv.y r0 hy).r s hm
        show (V1.R s).q ≤ max p.g _
        omega
       ·have := h.ge s (by omega); show (V1.R s).q ≤ max p.g _; omega
     ·-- the elder one is written over it
      have hr0' : r0 = V1.R (slotOf c y) := by
       rcases hr0 with h2 | ⟨y', h2, _, h3 | h3⟩
       ·rw [h2, hs]
       ·rw [hy] at h2; injection h2 with h2; exact absurd (h3.trans h2.symm) hry
       ·rw [h3] at h1q; exact absurd h1q (by show ¬ (1 : Int) < 0; decide)
      have hnos := notSeen y hy hs hry
      have hnos' : ¬ YSeen c q' y := fun ⟨d, hd, hl, hx⟩ => by
       rcases hsr.cn d _ _ hx with h2 | ⟨j, hj, e3, _⟩
       ·exact hnos ⟨d, by rw [← hsr.ran.n]; exact hd, by rw [← hsr.ran.dead]; exact hl, h2⟩
       ·exact absurd e3.symm (jsec_tsec hr hm hj _)
      rw [hy] at hinv
      have hdrop := hinv.drop hr (Or.inl hr0') hnos' (fun d i z hd hl hi hz => Or.inl (by
       rw [hal.n, ← h.goes.al.n] at hd; rw [hal.dead, ← h.goes.al.dead] at hl; rw [← hs] at hz
       exact hall d i z hd hl hi hz))
      refine ⟨setR V1 (slotOf c y) r0, none, ⟨⟨hal, hdrop, hsup, h.goes.evo.trans (evo_drop hy (Or.inl hr0')), h.goes.le.setR hrq, fun y' e => (by cases e)⟩, hon, hsr.qt rfl, hfree, fun x hx => ?_, fun y' e => (by cases e), fun s hs' => ?_, hgm, by have := h.pos; show 0 ≤ max p.g _; omega, fun z hz => lsApp hz⟩, rfl⟩
      ·rcases List.mem_append.1 hx with hx | hx
       ·rcases h.l x hx with ⟨s, a1, a2, a3, a4⟩ | a1
        ·exact Or.inl ⟨s, a1, a2.trans (upd_other V1.R r0 (a4 y hy)).symm, a3, fun _ e => by cases e⟩
        ·exfalso
         rw [hy] at a1; injection a1 with a1; subst a1; have := h.ls _ hx; omega
       ·rw [List.mem_singleton] at hx; subst hx
        exact Or.inl ⟨m, hm, by rw [hs]; exact (upd_same V1.R (slotOf c y) x).symm, by omega, fun _ e => by cases e⟩
      ·show (upd V1.R (slotOf c y) r0 s).q ≤ max p.g _
       by_cases e : s = slotOf c y
       ·subst e; rw [upd_same]; exact hgr
       ·rw [upd_other _ _ e]; have := h.ge s (by omega); omega
    ·-- another slot
     have hr0' : r0 = V1.R m := by
      rcases hr0 with h2 | ⟨y', h2, h3, _⟩
      ·exact h2
      ·exact absurd ⟨y', h2, h3⟩ hy
     refine ⟨V1, Y1, ⟨⟨hal, hinv, hsup, h.goes.evo, h.goes.le, h.goes.yle⟩, hon, hsr.qt rfl, hfree, fun x hx => ?_, fun y' hy' hlt => ?_, fun s hs' => ?_, hgm, by have := h.pos; show 0 ≤ max p.g _; omega, fun z hz => lsApp hz⟩, rfl⟩
     ·rcases List.mem_append.1 hx with hx | hx
      ·exact h.l x hx
      ·rw [List.mem_singleton] at hx; subst hx
       exact Or.inl ⟨m, hm, hr0', by omega, fun y hy' e => hy ⟨y, hy', e⟩⟩
     ·have hne : slotOf c y' ≠ m := fun e => hy ⟨y', hy', e.symm⟩
      obtain ⟨b1, b2⟩ := h.y y' hy' (by omega); refine ⟨List.mem_append.2 (Or.inl b1), fun d i x hd hl hi hx => b2 d i x ?_ ?_ hi (other _ hne d i x (slotOf_lt hr) hi hx)⟩
      ·rw [hal.n, ← h.goes.al.n] at hd; exact hd
      ·rw [hal.dead, ← h.goes.al.dead] at hl; exact hl
     ·by_cases e : s = m
      ·subst e; rw [← hr0']; exact hgr
      ·have := h.ge s (by omega); show (V1.R s).q ≤ max p.g _; omega
   ·exact Or.inr (cutOf hsr hr0 hlink hz)
  ·rw [if_neg h1q]
   -- a blank one
   left
   have hq0 : r0.q = 0 := by rcases hrin.slot with h2 | ⟨h2, _⟩ <;> omega
   have hb : r0 = blankR c := by
    rcases hr0 with rfl | ⟨y, h2, _, rfl | rfl⟩
    ·exact h.goes.inv.v.z m hm hq0
    ·have := (h.goes.inv.y _ h2).q2; omega
    ·rfl
   have hsee : ∀ (d i : Nat) (z : Sec), d < p.q.n → (p.q.s d).dead = false → (i : Int) < c.k → Cn p.q d (jsec c m i) z → z = put (jF r0 i) ∨ (P d = false ∧ goodB z = false) := fun d i z hd hl hi hz => by
    have hz' := h.qt.cn hd hl hz
    rcases h.goes.inv.jr m i d z hm hi hd hl hz with ⟨r, h2, h3⟩ | h2
    ·have hf := jfr_cn h.on hm hi hd hl (allowR_in h.goes.inv hr hm h2) (by rw [← hz']; exact h3)
     have h4 := hmax i d r hi hd hl hf; have h5 := (allowR_in h.goes.inv hr hm h2).q0; have h6 := allowR_one h.goes.inv hm h2 hr0 (by omega); rw [h6] at h3; exact Or.inl h3
    ·exact Or.inr h2
   by_cases hy : ∃ y, Y1 = some y ∧ m = slotOf c y
   ·obtain ⟨y, hy, hs⟩ := hy
    have hry : r0 ≠ y := fun e => by have := (h.goes.inv.y y hy).q2; rw [← e] at this; omega
    have hinv := h.goes.inv; rw [hy] at hinv; have hdrop := hinv.drop hr (x := r0) (Or.inr hb) (notSeen y hy hs hry) (fun d i z hd hl hi hz => hsee d i z hd hl hi (by rw [hs]; exact hz)); refine ⟨setR V1 (slotOf c y) r0, none, ⟨⟨h.goes.al, hdrop, h.goes.sup, h.goes.evo.trans (evo_drop hy (Or.inr hb)), h.goes.le.setR hrq, fun y' e => (by cases e)⟩, h.on, h.qt, h.free, fun x hx => ?_, fun y' e => (by cases e), fun s hs' => ?_, hgm, by have := h.pos; show 0 ≤ max p.g _; omega, fun z hz => Nat.lt_succ_of_lt (h.ls z hz)⟩, rfl⟩
    ·rcases h.l x hx with ⟨s, a1, a2, a3, a4⟩ | a1
     ·exact Or.inl ⟨s, a1, a2.trans (upd_other V1.R r0 (a4 y hy)).symm, a3, fun _ e => by cases e⟩
     ·exfalso
      rw [hy] at a1; injection a1 with a1; subst a1; have := h.ls _ hx; omega
    ·show (upd V1.R (slotOf c y) r0 s).q ≤ max p.g _
     by_cases e : s = slotOf c y
     ·subst e; rw [upd_same]; exact hgr
     ·rw [upd_other _ _ e]; have := h.ge s (by omega); omega
   ·have hr0' : r0 = V1.R m := by
     rcases hr0 with h2 | ⟨y', h2, h3, _⟩
     ·exact h2
     ·exact absurd ⟨y', h2, h3⟩ hy
    refine ⟨V1, Y1, ⟨h.goes, h.on, h.qt, h.free, h.l, fun y' hy' hlt => ?_, fun s hs' => ?_, hgm, by have := h.pos; show 0 ≤ max p.g _; omega, fun z hz => Nat.lt_succ_of_lt (h.ls z hz)⟩, rfl⟩
    ·have hne : slotOf c y' ≠ m := fun e => hy ⟨y', hy', e.symm⟩
     exact h.y y' hy' (by omega)
    ·by_cases e : s = m
     ·subst e; rw [← hr0']; exact hgr
     ·have := h.ge s (by omega); show (V1.R s).q ≤ max p.g _; omega
 ·rw [if_neg (by rw [hw]; decide)]
  -- torn: it is blanked
  obtain ⟨e1, e2⟩ := jblank_is h.on hm; rw [e1, e2]; have hbl := blank_in hr m; have hsr := slot_ran h.on hm hbl
  have hy : ∃ y, Y1 = some y ∧ m = slotOf c y := by
   refine Classical.byContradiction fun hy => ?_
   have hone : ∀ r, AllowR c V1 Y1 m r → r = V1.R m := fun r hr => by
    rcases hr with h2 | ⟨y', h2, h3, _⟩
    ·exact h2
    ·exact absurd ⟨y', h2, h3⟩ hy
   obtain ⟨r, h2, h3⟩ := h.goes.inv.jp h.on hm hi1 hp0; rw [hone r h2, ← hone r0 hr0] at h3; exact hno1 d0 hd0' hl0 h3
  obtain ⟨y, hy, hs⟩ := hy
  have hnos : ¬ YSeen c p.q y := fun hsn => by
   by_cases e : r0 = y
   ·obtain ⟨d, hd, hl, hx⟩ := hsn
    rcases h.goes.inv.link y hy d hd hl hx d0 i1 _ hd0' hl0 hi1 (cn_read p.q d0 _) with h1 | ⟨h1, _⟩
    ·refine hno1 d0 hd0' hl0 ?_
     rw [e]; exact jfr_cn h.on hm hi1 hd0' hl0 (by rw [← e]; exact hrin) (by rw [hs]; exact h1)
    ·rw [hp0] at h1; cases h1
   ·exact notSeen y hy hs e hsn
  have ha : AllowR c V1 Y1 m (blankR c) := Or.inr ⟨y, hy, hs, Or.inr rfl⟩
  have hlink : ∀ y', Y1 = some y' → m = slotOf c y' → blankR c = y' ∨ ¬ YSeen c p.q y' := fun y' hy' _ => by
   rw [hy] at hy'; injection hy' with hy'; subst hy'; exact Or.inr hnos
  generalize runS p.q (slotOps c (m : Int) (blankR c) p.q) = q' at *; generalize runC p.q (slotOps c (m : Int) (blankR c) p.q) = e' at *
  by_cases hz : e' = 0
  ·left
   subst hz; have hinv := h.goes.inv.slot hr hm ha hlink hsr; have hall := hsr.all rfl; have hal := h.goes.al.trans hsr.ran.alike
   have hnos' : ¬ YSeen c q' y := fun ⟨d, hd, hl, hx⟩ => by
    rcases hsr.cn d _ _ hx with h2 | ⟨j, hj, e3, _⟩
    ·exact hnos ⟨d, by rw [← hsr.ran.n]; exact hd, by rw [← hsr.ran.dead]; exact hl, h2⟩
    ·exact absurd e3.symm (jsec_tsec hr hm hj _)
   rw [hy] at hinv
   have hdrop := hinv.drop hr (x := blankR c) (Or.inr rfl) hnos' (fun d i z hd hl hi hz => Or.inl (by
    rw [hal.n, ← h.goes.al.n] at hd; rw [hal.dead, ← h.goes.al.dead] at hl; rw [← hs] at hz
    exact hall d i z hd hl hi hz))
   have h0M : (blankR c).q ≤ M := by show (0 : Int) ≤ M; omega
   refine ⟨setR V1 (slotOf c y) (blankR c), none, ⟨⟨hal, hdrop, h.goes.sup.slot hsr, h.goes.evo.trans (evo_drop hy (Or.inr rfl)), h.goes.le.setR h0M, fun y' e => (by cases e)⟩, hsr.ran.on rfl, hsr.qt rfl, fun hh => hsr.ran.rem rfl (h.free hh), fun x hx => ?_, fun y' e => (by cases e), fun s hs' => ?_, hgm, by have := h.pos; show 0 ≤ max p.g _; omega, fun z hz => Nat.lt_succ_of_lt (h.ls z hz)⟩, rfl⟩
   ·rcases h.l x hx with ⟨s, a1, a2, a3, a4⟩ | a1
    ·exact Or.inl ⟨s, a1, a2.trans (upd_other V1.R (blankR c) (a4 y hy)).symm, a3, fun _ e => by cases e⟩
    ·exfalso
     rw [hy] at a1; injection a1 with a1; subst a1; have := h.ls _ hx; omega
   ·show (upd V1.R (slotOf c y) (blankR c) s).q ≤ max p.g _
    by_cases e : s = slotOf c y
    ·subst e; rw [upd_same]; show (0 : Int) ≤ _; have := h.pos; omega
    ·rw [upd_other _ _ e]; have := h.ge s (by omega); omega
  ·exact Or.inr (cutOf hsr ha hlink hz)
theorem settle1_stop {p : Stl} (h : p.e ≠ 0) : settle1 c p s = p := by unfold settle1; rw [if_neg h]
theorem settle_all {c : Cf} {V : Vl} {Y : Option Rc} {P Q : Nat → Bool} {M : Int} {q : Rk} (hi : Inv c V Y P q) (hs : Sup c Q q) (ho : On q c) (hq : Qt q) (hP : Enough c P q.n) (hM : 1 ≤ M) (hV : VLe c V M) (hY : ∀ y, Y = some y → y.q ≤ M) :
  ∀ m : Nat, (m : Int) ≤ c.s → (∃ V' Y', Settled c V Y P Q M q m (settleN c q m) V' Y' ∧ (settleN c q m).e = 0) ∨ Cut c V Y P Q M q (settleN c q m).q (settleN c q m).e
 | 0, _ => Or.inl ⟨V, Y, ⟨⟨Alike0.refl q, hi, hs, Evo.refl c V Y, hV, hY⟩, ho, hq, fun h => h, fun x hx => (by cases hx), fun y _ h => absurd h (by omega), fun s h => absurd h (by omega), (show (0 : Int) ≤ M by omega), Int.le_refl _, fun x hx => (by cases hx)⟩, rfl⟩
 | m + 1, hm => by
  rcases settle_all hi hs ho hq hP hM hV hY m (by omega) with ⟨V1, Y1, h1, h2⟩ | h1
  ·exact settle_step h1 h2 (by omega) hP hM
  ·right
   show Cut c V Y P Q M q (settle1 c (settleN c q m) m).q (settle1 c (settleN c q m) m).e
   rw [settle1_stop (by rw [h1.five]; decide)]; exact h1
structure Rep (c : Cf) (V : Vl) (Y : Option Rc) (P Q : Nat → Bool) (M : Int) (q q' : Rk) (V' : Vl) (Y' : Option Rc) : Prop where
 goes : Goes c V Y P Q M q q' V' Y'
 on : On q' c
 qt : Qt q'
 free : Free q q'
 y : ∀ y, Y' = some y → YSlot c q' P y
set_option maxHeartbeats 4000000 in
theorem replay_all {c : Cf} {V : Vl} {Y : Option Rc} {P Q : Nat → Bool} {M : Int} {q : Rk} (hP : Enough c P q.n) : ∀ (l : List Rc) (q1 : Rk) (V1 : Vl) (Y1 : Option Rc), Rep c V Y P Q M q q1 V1 Y1 → (∀ x ∈ l, LA c V1 Y1 x) →
  ((replayL c q1 l).2 = 0 ∧ ∃ V' Y', Rep c V Y P Q M q (replayL c q1 l).1 V' Y' ∧ (∀ y, Y1 = some y → y ∈ l → Y' = none) ∧ (Y1 = none → Y' = none) ∧ (V'.R = V1.R ∨ ∃ y, Y1 = some y ∧ V'.R = upd V1.R (slotOf c y) y)) ∨ Cut c V Y P Q M q (replayL c q1 l).1 (replayL c q1 l).2
 | [], q1, V1, Y1, h, _ => Or.inl ⟨rfl, V1, Y1, h, fun y _ hy => (by cases hy), fun h => h, Or.inl rfl⟩
 | x :: l, q1, V1, Y1, h, hl => by
  have hr := h.on.right; have hi := h.goes.inv; obtain ⟨d0, hd0, hp0⟩ := hP.one hr
  have hd0' : d0 < q1.n := by rw [h.goes.al.n]; exact hd0
  have h8 := h.on.ok.n8; have hx := hl x (List.mem_cons_self ..)
  have hx2 : 2 ≤ x.q := by
   rcases hx with ⟨s, _, _, h2, _⟩ | h2
   ·exact h2
   ·exact (hi.y x h2).q2
  have hxin : ∃ s, RcIn c s x := by
   rcases hx with ⟨s, h1, rfl, _⟩ | h2
   ·exact ⟨s, hi.v.r s h1⟩
   ·exact ⟨_, (hi.y x h2).is⟩
  obtain ⟨sx, hxr⟩ := hxin; obtain ⟨et, ht⟩ := rcIn_stripe hxr; have hst := rcIn_stIn hxr hx2; have hhas := on_has (s := x.t.toNat) h.on.fits ht
  have hnf : q1.rem ≠ -1 → q.rem ≠ -1 := fun h1 h2 => h1 (h.free h2)
  unfold replayL; rw [← et]
  by_cases hsk : x.q < tnew q1 c (x.t.toNat : Nat)
  ·-- passed over
   rw [if_pos hsk]
   rcases replay_all hP l q1 V1 Y1 h (fun z hz => hl z (List.mem_cons_of_mem _ hz)) with ⟨a1, V', Y', a2, a3, a4, a5⟩ | a1
   ·refine Or.inl ⟨a1, V', Y', a2, fun y hy hm => ?_, a4, a5⟩
    rcases List.mem_cons.1 hm with rfl | hm
    ·exfalso
     rcases tnew_at (s := y.t.toNat) hhas with ⟨d, f, b1, b2, b3⟩ | ⟨b1, _⟩
     ·rcases hi.ta h.on ht b1 with b4 | ⟨g, bs, b4, b5⟩
      ·rw [b4] at b2; cases b2
      ·rw [b5] at b2
       injection b2 with b2; subst b2; have b3 : g = tnew q1 c (y.t.toNat : Nat) := b3
       rcases b4 with ⟨b6, _⟩ | ⟨y', b6, _, b7, _⟩
       ·have := (hi.y y hy).g _ ht; omega
       ·rw [hy] at b6; injection b6 with b6; subst b6; omega
     ·omega
    ·exact a3 y hy hm
   ·exact Or.inr a1
  ·rw [if_neg hsk]
   obtain ⟨e1, e2⟩ := tput_is (t := x.t.toNat) h.on hst; rw [e1, e2]; have hsr := stripe_ran h.on hst
   -- what is written is allowed
   have ha : AllowT V1 Y1 x.t.toNat x.q x.b := by
    rcases hx with ⟨s, h1, h2, h3, h4⟩ | h2
    ·left
     have hge : V1.G x.t.toNat ≤ tnew q1 c (x.t.toNat : Nat) := by
      obtain ⟨g, bs, b1, b2⟩ := hi.tp h.on ht hp0; have := tnew_ge hhas hd0' b2; have this : g ≤ tnew q1 c (x.t.toNat : Nat) := this
      rcases b1 with ⟨rfl, _⟩ | ⟨y, b3, _, rfl, _⟩
      ·exact this
      ·have := (hi.y y b3).g _ ht; omega
     have hg := hi.v.a s h1 (by rw [← h2]; exact h3); rw [← h2] at hg
     rcases hg with hg | hg
     ·omega
     ·exact hg
    ·exact Or.inr ⟨x, h2, rfl, rfl, rfl⟩
   have hlink : ∀ y, Y1 = some y → x.q = y.q → YSlot c q1 P y := fun y hy _ => h.y y hy
   generalize runS q1 (topsOf c ((x.t.toNat : Nat) : Int) x.q x.b q1) = q2 at *; generalize runC q1 (topsOf c ((x.t.toNat : Nat) : Int) x.q x.b q1) = e' at *; have hinv := hi.stripePut hr ha hlink h8 ht hsr; have hsup := h.goes.sup.stripePut hsr; have hal := h.goes.al.trans hsr.ran.alike
   by_cases hz : e' = 0
   ·subst hz
    rw [if_pos rfl]
    have hfree : Free q q2 := fun hh => hsr.ran.rem rfl (h.free hh)
    have hslot : ∀ y, Y1 = some y → YSlot c q2 P y := fun y hy d i z hd hl' hi' hz => by
     rw [hsr.ran.n] at hd; rw [hsr.ran.dead] at hl'; refine h.y y hy d i z hd hl' hi' ?_
     rcases hsr.cn d _ z hz with b1 | ⟨b1, _⟩
     ·exact b1
     ·exact absurd b1 (jsec_tsec hr (slotOf_lt hr) hi' _)
    by_cases hy : Y1 = some x
    ·-- it is the one that was cut short
     rw [hy] at hinv; have hadd := hinv.added (hslot x hy) (fun d z hd hl' hz => hsr.all rfl d z (by rw [← hsr.ran.n]; exact hd) (by rw [← hsr.ran.dead]; exact hl') hz)
     have hgoes : Goes c V Y P Q M q q2 (addY c V1 x) none := ⟨hal, hadd, hsup, h.goes.evo.trans (by rw [hy]; exact evo_add c V1 x), addY_le h.goes.le (h.goes.yle x hy), fun y e => (by cases e)⟩
     rcases replay_all hP l q2 (addY c V1 x) none ⟨hgoes, hsr.ran.on rfl, hsr.qt rfl, hfree, fun y e => (by cases e)⟩ (fun z hz => by
      rcases hl z (List.mem_cons_of_mem _ hz) with ⟨s, b1, b2, b3, b4⟩ | b1
      ·exact Or.inl ⟨s, b1, b2.trans (upd_other V1.R x (b4 x hy)).symm, b3, fun _ e => (by cases e)⟩
      ·rw [hy] at b1
       injection b1 with b1; subst b1
       exact Or.inl ⟨slotOf c x, slotOf_lt hr, (upd_same V1.R _ _).symm, hx2, fun _ e => (by cases e)⟩) with ⟨a1, V', Y', a2, a3, a4, a5⟩ | a1
     ·refine Or.inl ⟨a1, V', Y', a2, fun _ _ _ => a4 rfl, fun _ => a4 rfl, Or.inr ⟨x, hy, ?_⟩⟩
      rcases a5 with a5 | ⟨y, a5, _⟩
      ·exact a5
      ·cases a5
     ·exact Or.inr a1
    ·rcases replay_all hP l q2 V1 Y1 ⟨⟨hal, hinv, hsup, h.goes.evo, h.goes.le, h.goes.yle⟩, hsr.ran.on rfl, hsr.qt rfl, hfree, hslot⟩ (fun z hz => hl z (List.mem_cons_of_mem _ hz)) with ⟨a1, V', Y', a2, a3, a4, a5⟩ | a1
     ·refine Or.inl ⟨a1, V', Y', a2, fun y hy' hm => ?_, a4, a5⟩
      rcases List.mem_cons.1 hm with rfl | hm
      ·exact absurd hy' hy
      ·exact a3 y hy' hm
     ·exact Or.inr a1
   ·rw [if_neg hz]
    right
    rcases hsr.ran.code with b1 | ⟨b1, b2, b3⟩
    ·exact absurd b1 hz
    ·exact ⟨b1, hnf b3, b2, hsr.ran.rest, V1, Y1, ⟨hal, hinv, hsup, h.goes.evo, h.goes.le, h.goes.yle⟩⟩
theorem gens_all {c : Cf} {V : Vl} {P : Nat → Bool} {q : Rk} (h : Inv c V none P q) (ho : On q c) (hP : Enough c P q.n) {M : Int} (hM : 1 ≤ M) (hV : VLe c V M) : ∀ m : Nat, (m : Int) ≤ c.t → (gensN c q m).2 = 0 ∧ 1 ≤ (gensN c q m).1 ∧ (gensN c q m).1 ≤ M ∧ ∀ t, t < m → V.G t ≤ (gensN c q m).1
 | 0, _ => ⟨rfl, Int.le_refl _, hM, fun t h => absurd h (by omega)⟩
 | m + 1, hm => by
  obtain ⟨a1, a2, a3, a4⟩ := gens_all h ho hP hM hV m (by omega); obtain ⟨b1, b2, _⟩ := h.read ho (t := m) (by omega) hP.le; have hv := hV.g m (by omega); unfold gensN; rw [if_pos a1, if_pos b1, b2]; refine ⟨rfl, ?_, ?_, fun t ht => ?_⟩
  ·show 1 ≤ max _ _; omega
  ·show max _ _ ≤ M; omega
  ·show V.G t ≤ max _ _
   by_cases e : t = m
   ·subst e; omega
   ·have := a4 t (by omega); omega
structure Opened (c : Cf) (V : Vl) (Y : Option Rc) (P Q : Nat → Bool) (M : Int) (q q' : Rk) (g : Int) (V' : Vl) : Prop where
 goes : Goes c V Y P Q M q q' V' none
 on : On q' c
 qt : Qt q'
 free : Free q q'
 g1 : 1 ≤ g
 gM : g ≤ M
 vle : VLe c V' g
theorem open_told (hi : Inv c V Y P q) (hs : Sup c Q q) (ho : On q c) (hq : Qt q) (hP : Enough c P q.n) (hQ : Enough c Q q.n) (hM : 1 ≤ M) (hV : VLe c V M) (hY : ∀ y, Y = some y → y.q ≤ M) (h : OpensTo q q' e g) :
  fndOk q = true ∧ fndC q = c ∧ ((e = 0 ∧ ∃ V', Opened c V Y P Q M q q' g V') ∨ Cut c V Y P Q M q q' e) := by
 obtain ⟨f1, f2⟩ := hs.found ho hQ.le
 refine ⟨f1, f2, ?_⟩
 unfold OpensTo at h
 have hk1 : 1 ≤ c.k := ho.right.2.2.1
 have hu := filter_ups hi.p
 have hle := hP.le
 rw [if_neg (by rw [ho.off]; decide), if_neg (by rw [f1]; decide), f2, if_neg (by omega)] at h
 have hcs : ((c.s.toNat : Nat) : Int) = c.s := by have := ho.right.2.2.2.2.2.2.2.1; omega
 have hct : ((c.t.toNat : Nat) : Int) = c.t := by have := ho.right.2.2.2.2.2.1; omega
 rcases settle_all hi hs ho hq hP hM hV hY c.s.toNat (by omega) with ⟨V1, Y1, h1, h2⟩ | h1
 ·rw [if_pos h2] at h
  obtain ⟨l, hl1, _, hl3, hl4⟩ := h
  have hy1 : ∀ y, Y1 = some y → y ∈ (settleN c q c.s.toNat).l ∧ YSlot c (settleN c q c.s.toNat).q P y := fun y hy => h1.y y hy (by have := slotOf_lt ho.right (y := y); omega)
  rcases replay_all hP l (settleN c q c.s.toNat).q V1 Y1 ⟨h1.goes, h1.on, h1.qt, h1.free, fun y hy => (hy1 y hy).2⟩ (fun x hx => h1.l x (hl1.subset hx)) with ⟨a1, V', Y', a2, a3, a4, a5⟩ | a1
  ·left
   rw [if_pos a1] at hl4; rw [← hl3] at a2
   have hY' : Y' = none := by
    cases hY1 : Y1 with
    | none => exact a4 hY1
    | some y => exact a3 y hY1 (hl1.symm.subset (hy1 y hY1).1)
   subst hY'; obtain ⟨b1, b2, b3, b4⟩ := gens_all a2.goes.inv a2.on (by rw [a2.goes.al.n]; exact hP) hM a2.goes.le c.t.toNat (by omega); have hg := hl4.2; have hpg := h1.le; refine ⟨hl4.1.trans b1, V', a2.goes, a2.on, a2.qt, a2.free, by omega, by omega, ⟨fun s hs' => ?_, fun t ht => ?_⟩⟩
   ·have hsm : ∀ s : Nat, (s : Int) < c.s → (V1.R s).q ≤ (settleN c q c.s.toNat).g := fun s hs' => h1.ge s (by omega)
    rcases a5 with a5 | ⟨y, a5, a6⟩
    ·rw [a5]; have := hsm s hs'; omega
    ·rw [a6]
     by_cases es : s = slotOf c y
     ·subst es
      rw [upd_same]
      -- y is a generation
      have hin := a2.goes.inv.v
      have hR : V'.R (slotOf c y) = y := by rw [a6, upd_same]
      have hyy := h1.goes.inv.y y a5; have hga := hin.a (slotOf c y) hs' (by rw [hR]; exact hyy.q2); rw [hR] at hga; obtain ⟨ey, hyt⟩ := rcIn_stripe hyy.is; have := b4 y.t.toNat (by omega)
      rcases hga with hga | ⟨hga, _⟩ <;> omega
     ·rw [upd_other _ _ es]; have := hsm s hs'; omega
   ·have := b4 t (by omega); omega
  ·right
   rw [if_neg (by rw [a1.five]; decide)] at hl4; rw [hl3, hl4]; exact a1
 ·right
  rw [if_neg (by rw [h1.five]; decide)] at h; rw [h.1, h.2]; exact h1
def badArgs (c : Cf) (s : Int) (bs : List (List UInt8)) : Bool := decide (s < 0) || (decide (c.t ≤ s) || !decide ((bs.length : Int) = c.k))
def refused (c : Cf) (q : Rk) (down : Bool) (seq s : Int) (bs : List (List UInt8)) : Int :=
 if badArgs c s bs = true then 1 else if (down || q.off) = true then 5 else if ((ups q).length : Int) < c.k then 7 else if seq = 1152921504606846976 then 8 else tcode q c s
def cRec (seq s : Int) (bs : List (List UInt8)) : Rc := ⟨seq + 1, s, bs⟩
def storeS (c : Cf) (q : Rk) (x : Rc) : Rk := if Rk.jlogC q c x = 0 then Rk.tput (Rk.jlog q c x) c x.t x.q x.b else Rk.jlog q c x
def storeC (c : Cf) (q : Rk) (x : Rc) : Int := if Rk.jlogC q c x = 0 then Rk.tputC (Rk.jlog q c x) c x.t x.q x.b else Rk.jlogC q c x
structure Stored (c : Cf) (V : Vl) (x : Rc) (P Q : Nat → Bool) (q q' : Rk) : Prop where
 al : Alike0 q q'
 inv : Inv c (addY c V x) none P q'
 sup : Sup c Q q'
 on : On q' c
 qt : Qt q'
 free : Free q q'
structure StCut (c : Cf) (V : Vl) (x : Rc) (P Q : Nat → Bool) (q q' : Rk) : Prop where
 al : Alike0 q q'
 inv : Inv c V (some x) P q'
 sup : Sup c Q q'
 off : q'.off = true
 rest : Rest q' c
 burnt : q.rem ≠ -1
theorem store_told (hi : Inv c V none P q) (hs : Sup c Q q) (ho : On q c) (hx : YIn c V x) :
  (storeC c q x = 0 ∧ Stored c V x P Q q (storeS c q x)) ∨ (storeC c q x = 5 ∧ StCut c V x P Q q (storeS c q x)) := by
 have hr := ho.right
 have h8 := ho.ok.n8
 have hsl := slotOf_lt hr (y := x)
 obtain ⟨et, ht⟩ := rcIn_stripe hx.is
 have hst := rcIn_stIn hx.is hx.q2
 obtain ⟨e1, e2⟩ := jlog_is ho hx.is hx.q2
 have hsr := slot_ran ho hsl hx.is
 have hi1 := hi.start hr h8 hx
 unfold storeC storeS
 rw [e1, e2]
 generalize runS q (slotOps c ((slotOf c x : Nat) : Int) x q) = q1 at *
 generalize runC q (slotOps c ((slotOf c x : Nat) : Int) x q) = c1 at *
 have hi2 := hi1.slot hr hsl (Or.inr ⟨x, rfl, rfl, Or.inl rfl⟩) (fun y hy _ => by injection hy with hy; exact Or.inl hy) hsr
 have hs2 := hs.slot hsr
 by_cases hz : c1 = 0
 ·subst hz
  rw [if_pos rfl, if_pos rfl]; have ho2 := hsr.ran.on rfl; obtain ⟨e3, e4⟩ := tput_is (t := x.t.toNat) ho2 hst; rw [et] at e3 e4; have htr := stripe_ran (t := x.t.toNat) ho2 hst; rw [et] at htr; rw [e3, e4]
  have hys : YSlot c q1 P x := fun d i z hd hl hii hz => Or.inl (hsr.all rfl d i z (by rw [← hsr.ran.n]; exact hd) (by rw [← hsr.ran.dead]; exact hl) hii hz)
  generalize runS q1 (topsOf c x.t x.q x.b q1) = q2 at *; generalize runC q1 (topsOf c x.t x.q x.b q1) = c2 at *; have hi3 := hi2.stripePut hr (Or.inr ⟨x, rfl, rfl, rfl, rfl⟩) (fun y hy _ => by injection hy with hy; exact hy ▸ hys) (by rw [hsr.ran.n]; exact h8) ht htr; have hs3 := hs2.stripePut htr; have hal := hsr.ran.alike.trans htr.ran.alike
  rcases htr.ran.code with h1 | ⟨h1, h2, h3⟩
  ·subst h1
   left
   refine ⟨rfl, hal, hi3.added (fun d i z hd hl hii hz => ?_) (fun d z hd hl hz => htr.all rfl d z (by rw [← htr.ran.n]; exact hd) (by rw [← htr.ran.dead]; exact hl) hz), hs3, htr.ran.on rfl, htr.qt rfl, fun hh => htr.ran.rem rfl (hsr.ran.rem rfl hh)⟩; refine hys d i z (by rw [← htr.ran.n]; exact hd) (by rw [← htr.ran.dead]; exact hl) hii ?_
   rcases htr.cn d _ z hz with b1 | ⟨b1, _⟩
   ·exact b1
   ·exact absurd b1 (jsec_tsec hr hsl hii _)
  ·right
   exact ⟨h1, hal, hi3, hs3, h2, htr.ran.rest, fun hh => h3 (hsr.ran.rem rfl hh)⟩
 ·rw [if_neg hz, if_neg hz]
  rcases hsr.ran.code with h1 | ⟨h1, h2, h3⟩
  ·exact absurd h1 hz
  ·exact Or.inr ⟨h1, hsr.ran.alike, hi2, hs2, h2, hsr.ran.rest, h3⟩
variable {seq : Int}
theorem cRec_in (hr : CfRight c) (hV : VLe c V seq) (h1 : 1 ≤ seq) (h2 : seq < 1152921504606846976) (hs : (s : Int) < c.t) (hl : bs.length = c.k.toNat) (hb : ∀ d ∈ bs, d.length = 108) : YIn c V (cRec seq s bs) where
 is := ⟨hb, hl, by show (0 : Int) ≤ seq + 1; omega, by show seq + 1 ≤ _; omega, by show (0 : Int) ≤ (s : Int); omega, hs, Or.inr ⟨by show (2 : Int) ≤ seq + 1; omega, by rw [slotOf_eq hr]⟩⟩
 q2 := by show (2 : Int) ≤ seq + 1; omega
 r := fun s' hs' => by have := hV.r s' hs'; show _ < seq + 1; omega
 g := fun t ht => by have := hV.g t ht; show _ < seq + 1; omega
theorem runC_append : ∀ (L M : List Rop) (q : Rk), runC q (L ++ M) = if runC q L = 0 then runC (runS q L) M else runC q L
 | [], M, q => by show runC q M = if (0 : Int) = 0 then runC q M else 0; rw [if_pos rfl]
 | o :: L, M, q => by
  show (if o.code q = 0 then runC (o.next q) (L ++ M) else o.code q) = if (if o.code q = 0 then runC (o.next q) L else o.code q) = 0 then runC (if o.code q = 0 then runS (o.next q) L else o.next q) M else (if o.code q = 0 then runC (o.next q) L else o.code q)
  by_cases h : o.code q = 0
  ·rw [if_pos h, if_pos h, if_pos h, runC_append L M (o.next q)]
  ·rw [if_neg h, if_neg h, if_neg h]
theorem runS_append : ∀ (L M : List Rop) (q : Rk), runS q (L ++ M) = if runC q L = 0 then runS (runS q L) M else runS q L
 | [], M, q => by show runS q M = if (0 : Int) = 0 then runS q M else q; rw [if_pos rfl]
 | o :: L, M, q => by
  show (if o.code q = 0 then runS (o.next q) (L ++ M) else o.next q) = if (if o.code q = 0 then runC (o.next q) L else o.code q) = 0 then runS (if o.code q = 0 then runS (o.next q) L else o.next q) M else (if o.code q = 0 then runS (o.next q) L else o.next q)
  by_cases h : o.code q = 0
  ·rw [if_pos h, if_pos h, if_pos h, runS_append L M (o.next q)]
  ·rw [if_neg h, if_neg h, if_neg h, if_neg h]
structure RunT (q : Rk) (L : List Rop) (r : Rk) (M : List Rop) : Prop where
 s : runS q L = runS r M
 c : runC q L = runC r M
 n : r.n = q.n
 k : r.k = q.k
 u : ups r = ups q
theorem RunT.refl (q : Rk) (L : List Rop) : RunT q L q L := ⟨rfl, rfl, rfl, rfl, rfl⟩
variable {A : List Rop}
theorem RunT.next {M : List Rop} (h : RunT q L r (A ++ M)) (h0 : runC r A = 0) : RunT q L (runS r A) M :=
 ⟨by rw [h.s, runS_append, if_pos h0], by rw [h.c, runC_append, if_pos h0], by rw [runS_n, h.n], by rw [runS_k, h.k], by rw [runS_ups, h.u]⟩
theorem RunT.fail {M : List Rop} (h : RunT q L r (A ++ M)) (h0 : runC r A ≠ 0) : runS q L = runS r A ∧ runC q L = runC r A :=
 ⟨by rw [h.s, runS_append, if_neg h0], by rw [h.c, runC_append, if_neg h0]⟩
theorem RunT.done (h : RunT q L r []) : runS q L = r ∧ runC q L = 0 := ⟨h.s, h.c⟩
theorem RunT.congr {M M' : List Rop} (h : RunT q L r M) (e : M = M') : RunT q L r M' := by subst e; exact h
def zBs (c : Cf) : List (List UInt8) := List.replicate c.k.toNat z108
def mkB (c : Cf) (q : Rk) (m : Nat) : List Rop := ((List.range c.s.toNat).drop m).flatMap fun (s : Nat) => slotOps c s (blankR c) q
def mkT (c : Cf) (q : Rk) (m : Nat) : List Rop := ((List.range c.t.toNat).drop m).flatMap fun (t : Nat) => topsOf c t 1 (zBs c) q
def supO (c : Cf) (d : Nat) : List Rop := [.w (d : Int) 0 (put (supF c d)), .f (d : Int)]
def mkS (c : Cf) (n m : Nat) : List Rop := ((List.range n).drop m).flatMap fun (d : Nat) => supO c d
def zF : Nat → List UInt8 := fun _ => zer
def fgOps (q : Rk) : List Rop := stops 0 zF (List.range q.n) 0 ++ fops (List.range q.n) 0
def mkOps (c : Cf) (q : Rk) : List Rop := stops 0 zF (List.range q.n) 0 ++ (fops (List.range q.n) 0 ++ (mkB c q 0 ++ (mkT c q 0 ++ mkS c q.n 0)))
theorem range_drop (h : m < n) : (List.range n).drop m = m :: (List.range n).drop (m + 1) := by
 rw [List.drop_eq_getElem_cons (by simpa using h)]; simp
theorem range_getD (h : m < n) : (List.range n).getD m 0 = m := by
 rw [List.getD_eq_getElem?_getD, List.getElem?_range h]; rfl
theorem mkB_next (h : m < c.s.toNat) : mkB c q m = slotOps c m (blankR c) q ++ mkB c q (m + 1) := by
 unfold mkB; rw [range_drop h]; rfl
theorem mkB_end (c : Cf) (q : Rk) : mkB c q c.s.toNat = [] := by
 unfold mkB; rw [List.drop_eq_nil_of_le (by simp)]; rfl
theorem mkT_next (h : m < c.t.toNat) : mkT c q m = topsOf c m 1 (zBs c) q ++ mkT c q (m + 1) := by
 unfold mkT; rw [range_drop h]; rfl
theorem mkT_end (c : Cf) (q : Rk) : mkT c q c.t.toNat = [] := by
 unfold mkT; rw [List.drop_eq_nil_of_le (by simp)]; rfl
theorem mkS_next (h : m < n) : mkS c n m = supO c m ++ mkS c n (m + 1) := by
 unfold mkS; rw [range_drop h]; rfl
theorem mkS_end (c : Cf) (n : Nat) : mkS c n n = [] := by
 unfold mkS; rw [List.drop_eq_nil_of_le (by simp)]; rfl
theorem slotOps_ups {s : Int} (h : ups r = ups q) : slotOps c s x r = slotOps c s x q := by
 unfold slotOps; rw [h]
theorem topsOf_ups {s : Int} (h : ups r = ups q) : topsOf c s g bs r = topsOf c s g bs q := by
 unfold topsOf; rw [h]
theorem sput_run (h : c.fits q = true) (d : Nat) : Rk.sput q c d = runS q (supO c d) ∧ Rk.scode q c d = runC q (supO c d) := by
 unfold Rk.sput Rk.scode
 rw [if_pos h, if_pos h]
 refine ⟨?_, ?_⟩
 ·show _ = if q.wcode d 0 (put (supF c d)).length = 0 then (if (q.write d 0 (put (supF c d))).fcode d = 0 then (q.write d 0 (put (supF c d))).flush d else (q.write d 0 (put (supF c d))).flush d) else q.write d 0 (put (supF c d))
  rw [ite_self]
 ·show _ = if q.wcode d 0 (put (supF c d)).length = 0 then (if (q.write d 0 (put (supF c d))).fcode d = 0 then 0 else (q.write d 0 (put (supF c d))).fcode d) else q.wcode d 0 (put (supF c d)).length
  by_cases h1 : (q.write d 0 (put (supF c d))).fcode d = 0
  ·rw [if_pos h1, h1]
  ·rw [if_neg h1]
def Rk.vmake (q : Rk) (c : Cf) : Rk := if c.fits q = true then (if q.off = true ∨ ((ups q).length : Int) < c.n then q else runS q (mkOps c q)) else q
def Rk.vmakeC (q : Rk) (c : Cf) : Int := if c.fits q = true then (if q.off = true ∨ ((ups q).length : Int) < c.n then 7 else runC q (mkOps c q)) else 1
theorem vmake_n (q : Rk) (c : Cf) : (Rk.vmake q c).n = q.n := by
 unfold Rk.vmake; split
 ·split
  ·rfl
  ·rw [runS_n]
 ·rfl
theorem vmake_k (q : Rk) (c : Cf) : (Rk.vmake q c).k = q.k := by
 unfold Rk.vmake; split
 ·split
  ·rfl
  ·rw [runS_k]
 ·rfl
def PD (P : Nat → Bool) (d : Nat) : Nat → Bool := fun e => P e && decide (e ≠ d)
theorem PD_self (P : Nat → Bool) (d : Nat) : PD P d d = false := by simp [PD]
theorem PD_other (P : Nat → Bool) {d e : Nat} (h : e ≠ d) : PD P d e = P e := by simp [PD, h]
theorem PD_le {e : Nat} (h : PD P d e = true) : P e = true ∧ e ≠ d := by simpa [PD] using h
def Used (c : Cf) (p : Nat) : Prop := p = 0 ∨ (∃ s i : Nat, (s : Int) < c.s ∧ (i : Int) < c.k ∧ p = jsec c s i) ∨ ∃ t : Nat, (t : Int) < c.t ∧ p = tsec c t
structure Worn (c : Cf) (q q' : Rk) (d : Nat) : Prop where
 n : q'.n = q.n
 o : ∀ e, e ≠ d → q'.s e = q.s e
 w : (q'.s d).dead = false → ∀ p x, Used c p → Cn q' d p x → goodB x = false ∨ ((q.s d).dead = false ∧ Cn q d p x)
theorem Inv.worn (h : Inv c V Y P q) (hr : CfRight c) (h8 : q.n ≤ 8) (hw : Worn c q q' d) : Inv c V Y (PD P d) q' where
 v := h.v
 y := h.y
 p := fun e he => by
  obtain ⟨h1, h2⟩ := PD_le he; rw [hw.n, hw.o e h2]; exact h.p e h1
 jr := fun s i e x hs hi hd hl hx => by
  rw [hw.n] at hd
  by_cases he : e = d
  ·subst he
   rcases hw.w hl _ x (Or.inr (Or.inl ⟨s, i, hs, hi, rfl⟩)) hx with h1 | ⟨h1, h2⟩
   ·exact Or.inr ⟨PD_self P e, h1⟩
   ·rcases h.jr s i e x hs hi hd h1 h2 with h3 | ⟨_, h3⟩
    ·exact Or.inl h3
    ·exact Or.inr ⟨PD_self P e, h3⟩
  ·have e1 := hw.o e he
   unfold Cn at hx; rw [e1] at hl hx; rw [PD_other P he]; exact h.jr s i e x hs hi hd hl hx
 tr := fun t e x ht hd hl hx => by
  rw [hw.n] at hd
  by_cases he : e = d
  ·subst he
   rcases hw.w hl _ x (Or.inr (Or.inr ⟨t, ht, rfl⟩)) hx with h1 | ⟨h1, h2⟩
   ·exact Or.inr ⟨PD_self P e, h1⟩
   ·rcases h.tr t e x ht hd h1 h2 with h3 | ⟨_, h3⟩
    ·exact Or.inl h3
    ·exact Or.inr ⟨PD_self P e, h3⟩
  ·have e1 := hw.o e he
   unfold Cn at hx; rw [e1] at hl hx; rw [PD_other P he]; exact h.tr t e x ht hd hl hx
 link := fun y hy e hd hl hx e' i x hd' hl' hi hx' => by
  rw [hw.n] at hd hd'; have hyy := h.y y hy
  have hx0 : (q.s e).dead = false ∧ Cn q e (tsec c y.t.toNat) (put (tF c.k.toNat y.t.toNat y.q y.b e)) := by
   by_cases he : e = d
   ·subst he
    rcases hw.w hl _ _ (Or.inr (Or.inr ⟨y.t.toNat, (rcIn_stripe hyy.is).2, rfl⟩)) hx with h1 | h1
    ·rw [put_good (tF_is ..) ((rcIn_stIn hyy.is hyy.q2).frame hr (by omega))] at h1; cases h1
    ·exact h1
   ·have e1 := hw.o e he
    unfold Cn at hx ⊢; rw [e1] at hl hx; exact ⟨hl, hx⟩
  by_cases he : e' = d
  ·subst he
   rcases hw.w hl' _ x (Or.inr (Or.inl ⟨slotOf c y, i, slotOf_lt hr, hi, rfl⟩)) hx' with h1 | ⟨h1, h2⟩
   ·exact Or.inr ⟨PD_self P e', h1⟩
   ·rcases h.link y hy e hd hx0.1 hx0.2 e' i x hd' h1 hi h2 with h3 | ⟨_, h3⟩
    ·exact Or.inl h3
    ·exact Or.inr ⟨PD_self P e', h3⟩
  ·have e1 := hw.o e' he
   unfold Cn at hx'; rw [e1] at hl' hx'; rw [PD_other P he]; exact h.link y hy e hd hx0.1 hx0.2 e' i x hd' hl' hi hx'
theorem Sup.worn (h : Sup c Q q) (hw : Worn c q q' d) : Sup c (PD Q d) q' where
 p := fun e he => by
  obtain ⟨h1, h2⟩ := PD_le he; rw [hw.n, hw.o e h2]; exact h.p e h1
 s := fun e x hd hl hx => by
  rw [hw.n] at hd
  by_cases he : e = d
  ·subst he
   rcases hw.w hl _ x (Or.inl rfl) hx with h1 | ⟨h1, h2⟩
   ·exact Or.inr ⟨PD_self Q e, h1⟩
   ·rcases h.s e x hd h1 h2 with h3 | ⟨_, h3⟩
    ·exact Or.inl h3
    ·exact Or.inr ⟨PD_self Q e, h3⟩
  ·have e1 := hw.o e he
   unfold Cn at hx; rw [e1] at hl hx; rw [PD_other Q he]; exact h.s e x hd hl hx
theorem worn_dying (hd : d < q.n) (b : Bool) : Worn c q (Rk.dying q d b) d := by
 have e : Rk.dying q d b = q.turn d ((q.s d).wipe b) := by unfold Rk.dying; rw [if_pos ⟨by omega, by omega⟩]; rfl
 rw [e]
 refine ⟨rfl, fun e he => by show upd q.s d _ e = _; rw [upd_other _ _ he], fun _ p x _ hx => Or.inl ?_⟩
 have hx : (upd q.s d ((q.s d).wipe b) d).st p = x ∨ (upd q.s d ((q.s d).wipe b) d).wt p = some x := hx
 rw [upd_same] at hx
 rcases hx with h1 | h1
 ·rw [← h1]; exact zer_bad
 ·cases h1
theorem On.dying (h : On q c) {d : Nat} (hd : d < q.n) (b : Bool) : On (Rk.dying q d b) c := by
 have e : Rk.dying q d b = q.turn d ((q.s d).wipe b) := by unfold Rk.dying; rw [if_pos ⟨by omega, by omega⟩]; rfl
 rw [e]
 refine ⟨⟨h.ok.n0, h.ok.n8, h.ok.k0, h.ok.k8, fun i hi => ?_, h.ok.low, h.ok.high⟩, h.off, h.rem, fits_same h.fits rfl rfl, fun i hi => ?_⟩
 ·show (upd q.s d _ i).n = q.k
  by_cases he : i = d
  ·subst he; rw [upd_same]; exact h.ok.k i hi
  ·rw [upd_other _ _ he]; exact h.ok.k i hi
 ·show (upd q.s d _ i).Ok
  by_cases he : i = d
  ·subst he; rw [upd_same]; exact (h.sok i hi).wipe b
  ·rw [upd_other _ _ he]; exact h.sok i hi
theorem Qt.dying (h : Qt q) {d : Nat} (hd : d < q.n) (b : Bool) : Qt (Rk.dying q d b) := by
 have e : Rk.dying q d b = q.turn d ((q.s d).wipe b) := by unfold Rk.dying; rw [if_pos ⟨by omega, by omega⟩]; rfl
 rw [e]
 intro i hi hl p
 show (upd q.s d _ i).wt p = none
 have hl : (upd q.s d ((q.s d).wipe b) i).dead = false := hl
 by_cases he : i = d
 ·subst he; rw [upd_same]; rfl
 ·rw [upd_other _ _ he] at hl ⊢; exact h i hi hl p
theorem dying_rem (q : Rk) (d : Int) (b : Bool) : (Rk.dying q d b).rem = q.rem ∧ (Rk.dying q d b).n = q.n ∧ (Rk.dying q d b).k = q.k := by
 unfold Rk.dying; split
 ·exact ⟨rfl, rfl, rfl⟩
 ·exact ⟨rfl, rfl, rfl⟩
theorem rotten_is (hd : d < q.n) (p a : Int) (x : Nat) : Rk.rotten q d p a x = q.turn d (rotnext (q.s d) p a x) := by
 unfold Rk.rotten; rw [if_pos ⟨by omega, by omega⟩]; rfl
theorem rotten_rem (q : Rk) (d p a : Int) (x : Nat) : (Rk.rotten q d p a x).rem = q.rem ∧ (Rk.rotten q d p a x).n = q.n ∧ (Rk.rotten q d p a x).k = q.k := by
 unfold Rk.rotten; split
 ·exact ⟨rfl, rfl, rfl⟩
 ·exact ⟨rfl, rfl, rfl⟩
theorem rotD_wt (s : St) (i a x : Nat) : (rotD s i a x).wt = s.wt ∧ (rotD s i a x).n = s.n ∧ (rotD s i a x).dead = s.dead := ⟨rfl, rfl, rfl⟩
theorem used_good (h : Inv c V Y P q) (hs : Sup c Q q) (ho : On q c) {d : Nat} (hp : P d = true) (hq : Q d = true) {p : Nat} {z : Sec} (hu : Used c p) (hx : Cn q d p z) : ∃ f : Fr, f.is ∧ rightB f = true ∧ z = put f := by
 have hr := ho.right
 have h8 := ho.ok.n8
 obtain ⟨hd, hl⟩ := h.p d hp
 rcases hu with rfl | ⟨s, i, h1, h2, rfl⟩ | ⟨t, h1, rfl⟩
 ·rcases hs.s d z hd hl hx with h3 | ⟨h3, _⟩
  ·exact ⟨_, supF_is c d, supF_right (by omega) (by omega), h3⟩
  ·rw [hq] at h3; cases h3
 ·rcases h.jr s i d z h1 h2 hd hl hx with ⟨r, h3, h4⟩ | ⟨h3, _⟩
  ·have hin := allowR_in h hr h1 h3
   exact ⟨_, jF_is hin.is i, hin.frame hr h2, h4⟩
  ·rw [hp] at h3; cases h3
 ·rcases h.tr t d z h1 hd hl hx with ⟨g, bs, h3, h4⟩ | ⟨h3, _⟩
  ·exact ⟨_, tF_is .., (allowT_in h h1 h3).frame hr (by omega), h4⟩
  ·rw [hp] at h3; cases h3
theorem worn_rot (hd : d < q.n) (hl : (q.s d).dead = false) (hw : ∀ p, (q.s d).wt p = none) (hg : ∀ p z, Used c p → Cn q d p z → ∃ f : Fr, f.is ∧ rightB f = true ∧ z = put f) (p a : Int) {x : Nat} (hx0 : x ≠ 0) (hx : x < 2 ^ 32) : Worn c q (Rk.rotten q d p a x) d := by
 rw [rotten_is hd]
 refine ⟨rfl, fun e he => by show upd q.s d _ e = _; rw [upd_other _ _ he], fun _ p' z hu hz => ?_⟩
 have hz : (upd q.s d (rotnext (q.s d) p a x) d).st p' = z ∨ (upd q.s d (rotnext (q.s d) p a x) d).wt p' = some z := hz
 rw [upd_same] at hz
 by_cases hm : mayRot (q.s d) p a x
 ·have e : rotnext (q.s d) p a x = rotD (q.s d) p.toNat a.toNat x := by unfold rotnext; rw [if_pos hm]
  rw [e, (rotD_wt ..).1, hw p'] at hz
  rcases hz with h1 | h1
  ·have h1 : upd (q.s d).st p.toNat (rotL ((q.s d).st p.toNat) a.toNat x 4) p' = z := h1
   by_cases he : p' = p.toNat
   ·subst he
    rw [upd_same] at h1; obtain ⟨f, h2, h3, h4⟩ := hg _ _ hu (Or.inl rfl); rw [h4] at h1
    left
    rw [← h1]; exact rot_bad h2 h3 (by have := hm.2.2.2.1; have := hm.2.2.2.2.1; omega) hx0 hx
   ·rw [upd_other _ _ he] at h1
    exact Or.inr ⟨hl, Or.inl h1⟩
  ·cases h1
 ·have e : rotnext (q.s d) p a x = q.s d := by unfold rotnext; rw [if_neg hm]
  rw [e] at hz; exact Or.inr ⟨hl, hz⟩
theorem On.rotten (h : On q c) {d : Nat} (hd : d < q.n) (p a : Int) (x : Nat) : On (Rk.rotten q d p a x) c := by
 rw [rotten_is hd]
 refine ⟨⟨h.ok.n0, h.ok.n8, h.ok.k0, h.ok.k8, fun i hi => ?_, h.ok.low, h.ok.high⟩, h.off, h.rem, fits_same h.fits rfl rfl, fun i hi => ?_⟩
 ·show (upd q.s d _ i).n = q.k
  by_cases he : i = d
  ·subst he; rw [upd_same, rotnext_nn]; exact h.ok.k i hi
  ·rw [upd_other _ _ he]; exact h.ok.k i hi
 ·show (upd q.s d _ i).Ok
  by_cases he : i = d
  ·subst he; rw [upd_same]; unfold rotnext; split
   ·exact rotD_ok (h.sok i hi) ..
   ·exact h.sok i hi
  ·rw [upd_other _ _ he]; exact h.sok i hi
theorem Qt.rotten (h : Qt q) {d : Nat} (hd : d < q.n) (p a : Int) (x : Nat) : Qt (Rk.rotten q d p a x) := by
 rw [rotten_is hd]
 intro i hi hl p'
 show (upd q.s d _ i).wt p' = none
 have hl : (upd q.s d (rotnext (q.s d) p a x) i).dead = false := hl
 by_cases he : i = d
 ·subst he; rw [upd_same] at hl ⊢
  have e1 : (rotnext (q.s i) p a x).wt = (q.s i).wt := by unfold rotnext; split <;> rfl
  have e2 : (rotnext (q.s i) p a x).dead = (q.s i).dead := by unfold rotnext; split <;> rfl
  rw [e2] at hl; rw [e1]; exact h i hi hl p'
 ·rw [upd_other _ _ he] at hl ⊢; exact h i hi hl p'
structure Tnt (c : Cf) (V : Vl) (Y : Option Rc) (P : Nat → Bool) (q : Rk) : Prop where
 inv : Inv c V Y P q
 sup : Sup c P q
 on : On q c
 qt : Qt q
inductive Wore (q : Rk) (d : Nat) : Rk → Prop where
 | die : Wore q d (Rk.dying q d true)
 | replace : Wore q d (Rk.dying q d false)
 | rot (p a : Int) (x : Nat) (h0 : x ≠ 0) (hx : x < 2 ^ 32) : Wore q d (Rk.rotten q d p a x)
theorem Tnt.wore (h : Tnt c V Y P q) (hp : P d = true) (hw : Wore q d q') : Tnt c V Y (PD P d) q' ∧ q'.n = q.n ∧ q'.k = q.k ∧ q'.rem = q.rem := by
 have hr := h.on.right
 have h8 := h.on.ok.n8
 obtain ⟨hd, hl⟩ := h.inv.p d hp
 cases hw with
 | die =>
  have w := worn_dying (c := c) hd true; obtain ⟨e1, e2, e3⟩ := dying_rem q d true; exact ⟨⟨h.inv.worn hr h8 w, h.sup.worn w, h.on.dying hd true, h.qt.dying hd true⟩, e2, e3, e1⟩
 | replace =>
  have w := worn_dying (c := c) hd false; obtain ⟨e1, e2, e3⟩ := dying_rem q d false; exact ⟨⟨h.inv.worn hr h8 w, h.sup.worn w, h.on.dying hd false, h.qt.dying hd false⟩, e2, e3, e1⟩
 | rot p a x h0 hx =>
  have w := worn_rot (c := c) hd hl (h.qt d hd hl) (fun p z hu hz => used_good h.inv h.sup h.on hp hp hu hz) p a h0 hx; obtain ⟨e1, e2, e3⟩ := rotten_rem q d p a x; exact ⟨⟨h.inv.worn hr h8 w, h.sup.worn w, h.on.rotten hd p a x, h.qt.rotten hd p a x⟩, e2, e3, e1⟩
theorem pd_filter {P : Nat → Bool} {d : Nat} : ∀ (l : List Nat), l.Nodup → d ∈ l → P d = true → (l.filter (PD P d)).length + 1 = (l.filter P).length
 | [], _, h, _ => by cases h
 | a :: l, hn, hm, hp => by
  obtain ⟨h1, h2⟩ := List.nodup_cons.1 hn
  by_cases e : a = d
  ·subst e
   have : l.filter (PD P a) = l.filter P := List.filter_congr fun x hx => PD_other P (fun he => h1 (he ▸ hx))
   rw [List.filter_cons, List.filter_cons, if_neg (by rw [PD_self]; decide), if_pos hp, this]; rfl
  ·have hm' : d ∈ l := by
    rcases List.mem_cons.1 hm with h3 | h3
    ·exact absurd h3.symm e
    ·exact h3
   have ih := pd_filter l h2 hm' hp; rw [List.filter_cons, List.filter_cons, PD_other P e]
   by_cases e2 : P a = true
   ·rw [if_pos e2, if_pos e2, List.length_cons, List.length_cons]; omega
   ·rw [if_neg e2, if_neg e2]; exact ih
theorem pd_range (hd : d < n) (hp : P d = true) : ((List.range n).filter (PD P d)).length + 1 = ((List.range n).filter P).length :=
 pd_filter _ List.nodup_range (List.mem_range.2 hd) hp
def V0 (c : Cf) : Vl := ⟨fun _ => blankR c, fun _ => 1, fun _ => zBs c⟩
theorem zBs_in (ht : (t : Int) < c.t) : StIn c t 1 (zBs c) :=
 ⟨ht, Int.le_refl _, by decide, by simp [zBs], fun d hd => by rw [List.eq_of_mem_replicate hd]; simp [z108]⟩
theorem V0_ok (hr : CfRight c) : VOk c (V0 c) :=
 ⟨fun s _ => blank_in hr s, fun _ _ _ => rfl, fun s _ h => by have h : (2 : Int) ≤ 0 := h; omega, fun _ ht => zBs_in ht⟩
theorem V0_le (c : Cf) : VLe c (V0 c) 1 := ⟨fun _ _ => by show (0 : Int) ≤ 1; decide, fun _ _ => Int.le_refl _⟩
def Alive (q : Rk) : Prop := ∀ d, d < q.n → (q.s d).dead = false
theorem alive_ups (h : Alive q) : ups q = List.range q.n := by
 unfold ups upsN
 exact List.filter_eq_self.2 fun d hd => by rw [h d (List.mem_range.1 hd)]; rfl
structure Mkg (c : Cf) (q q' : Rk) (mb mt ms : Nat) : Prop where
 on : On q' c
 al : Alike0 q q'
 free : Free q q'
 qt : Qt q'
 z : ∀ d x, d < q.n → Cn q' d 0 x → x = if d < ms then put (supF c d) else zer
 b : ∀ (s i d : Nat) x, s < mb → (s : Int) < c.s → (i : Int) < c.k → d < q.n → Cn q' d (jsec c s i) x → x = put (jF (blankR c) i)
 t : ∀ (t d : Nat) x, t < mt → (t : Int) < c.t → d < q.n → Cn q' d (tsec c t) x → x = put (tF c.k.toNat t 1 (zBs c) d)
structure MkCut (c : Cf) (q q' : Rk) : Prop where
  al : Alike0 q q'
  off : q'.off = true
  rest : Rest q' c
  burnt : q.rem ≠ -1
  out : (∀ (d p : Nat) x, d < q.n → Cn q' d p x → (p = 0 ∧ x = zer) ∨ Cn q d p x) ∨ (∀ d x, d < q.n → Cn q' d 0 x → x = zer) ∨
    ((∀ d x, d < q.n → Cn q' d 0 x → x = put (supF c d) ∨ x = zer) ∧
     (∀ (s i d : Nat) x, (s : Int) < c.s → (i : Int) < c.k → d < q.n → Cn q' d (jsec c s i) x → x = put (jF (blankR c) i)) ∧
     (∀ (t d : Nat) x, (t : Int) < c.t → d < q.n → Cn q' d (tsec c t) x → x = put (tF c.k.toNat t 1 (zBs c) d)))
theorem mk_zap (h : On q c) (ha : Alive q) : (runC q (fgOps q) = 0 ∧ Mkg c q (runS q (fgOps q)) 0 0 0) ∨ (runC q (fgOps q) = 5 ∧ MkCut c q (runS q (fgOps q))) := by
 have e : fgOps q = tops ((0 : Nat) : Int) zF (ups q) := by rw [alive_ups ha]; rfl
 rw [e]
 have hk := h.ok.k0
 have hf := tops_fit (q := q) (base := 0) (F := zF) hk (fun d _ => zer_length)
 have hran := ran_fit h hf
 have hcn : ∀ d p x, Cn (runS q (tops ((0 : Nat) : Int) zF (ups q))) d p x → (p = 0 ∧ x = zer) ∨ Cn q d p x := fun d p x hx => by
  rcases hran.cn h hf hx with h1 | h1
  ·exact Or.inr h1
  ·rcases mem_tops h1 with ⟨d', _, h3⟩ | ⟨d', _, h3⟩
   ·injection h3 with h4 h5 h6
    exact Or.inl ⟨by omega, h6⟩
   ·cases h3
 rcases hran.code with h1 | ⟨h1, h2, h3⟩
 ·refine Or.inl ⟨h1, hran.on h1, hran.alike, fun hh => hran.rem h1 hh, ?_, fun d x hd hx => ?_, fun s i d x hs => absurd hs (by omega), fun t d x ht => absurd ht (by omega)⟩
  ·rcases hran.out with ⟨_, _, _, o4⟩ | ⟨o1, _⟩
   ·intro d hd hl p
    have hd' : d < q.n := by rw [← hran.n]; exact hd
    rw [o4, ons_tops 0 zF (ups q) q.s (ups_nodup q) d, if_pos (mem_ups.2 ⟨hd', ha d hd'⟩)]; exact St.flush_wt ((h.sok d hd').write (by rw [h.ok.k d hd']; exact hk) zer_length) p
   ·rw [h1] at o1; cases o1
  ·rw [if_neg (by omega)]
   exact tops_done hran h h1 (ups_nodup q) hk hd (mem_ups.2 ⟨hd, ha d hd⟩) zer_length hx
 ·exact Or.inr ⟨h1, hran.alike, h2, hran.rest, h3, Or.inl fun d p x _ hx => hcn d p x hx⟩
theorem mk_slot (h : Mkg c q q1 m 0 0) (ha : Alive q) (hm : (m : Int) < c.s) :
  (runC q1 (slotOps c m (blankR c) q1) = 0 ∧ Mkg c q (runS q1 (slotOps c m (blankR c) q1)) (m + 1) 0 0) ∨ (runC q1 (slotOps c m (blankR c) q1) = 5 ∧ MkCut c q (runS q1 (slotOps c m (blankR c) q1))) := by
 have hr := h.on.right
 have hsr := slot_ran h.on hm (blank_in hr m)
 have hn1 : q1.n = q.n := h.al.n
 have hl1 : ∀ d, d < q.n → (q1.s d).dead = false := fun d hd => by rw [h.al.dead]; exact ha d hd
 have hz : ∀ d x, d < q.n → Cn (runS q1 (slotOps c m (blankR c) q1)) d 0 x → x = zer := fun d x hd hx => by
  rcases hsr.cn d 0 x hx with h1 | ⟨i, _, h1, _⟩
  ·have := h.z d x hd h1; rw [if_neg (by omega)] at this; exact this
  ·exact absurd h1.symm (jsec_pos c m i)
 rcases hsr.ran.code with h1 | ⟨h1, h2, h3⟩
 ·refine Or.inl ⟨h1, hsr.ran.on h1, h.al.trans hsr.ran.alike, fun hh => hsr.ran.rem h1 (h.free hh), hsr.qt h1, fun d x hd hx => by rw [if_neg (by omega)]; exact hz d x hd hx, fun s i d x hs hs' hi hd hx => ?_, fun t d x ht => absurd ht (by omega)⟩
  by_cases es : s = m
  ·subst es
   exact hsr.all h1 d i x (by omega) (hl1 d hd) hi hx
  ·rcases hsr.cn d _ x hx with h2 | ⟨i', h2, h3, h4⟩
   ·exact h.b s i d x (by omega) hs' hi hd h2
   ·exact absurd (jsec_inj hi h2 h3).1 es
 ·exact Or.inr ⟨h1, h.al.trans hsr.ran.alike, h2, hsr.ran.rest, fun hh => h3 (h.free hh), Or.inr (Or.inl hz)⟩
theorem mk_stripe (h : Mkg c q q1 c.s.toNat m 0) (ha : Alive q) (hm : (m : Int) < c.t) :
  (runC q1 (topsOf c m 1 (zBs c) q1) = 0 ∧ Mkg c q (runS q1 (topsOf c m 1 (zBs c) q1)) c.s.toNat (m + 1) 0) ∨ (runC q1 (topsOf c m 1 (zBs c) q1) = 5 ∧ MkCut c q (runS q1 (topsOf c m 1 (zBs c) q1))) := by
 have hr := h.on.right
 have hsr := stripe_ran (t := m) h.on (zBs_in hm)
 have hl1 : ∀ d, d < q.n → (q1.s d).dead = false := fun d hd => by rw [h.al.dead]; exact ha d hd
 have hn1 : q1.n = q.n := h.al.n
 have hz : ∀ d x, d < q.n → Cn (runS q1 (topsOf c m 1 (zBs c) q1)) d 0 x → x = zer := fun d x hd hx => by
  rcases hsr.cn d 0 x hx with h1 | ⟨h1, _⟩
  ·have := h.z d x hd h1; rw [if_neg (by omega)] at this; exact this
  ·exact absurd h1.symm (tsec_pos c m)
 rcases hsr.ran.code with h1 | ⟨h1, h2, h3⟩
 ·refine Or.inl ⟨h1, hsr.ran.on h1, h.al.trans hsr.ran.alike, fun hh => hsr.ran.rem h1 (h.free hh), hsr.qt h1, fun d x hd hx => by rw [if_neg (by omega)]; exact hz d x hd hx, fun s i d x hs hs' hi hd hx => ?_, fun t d x ht ht' hd hx => ?_⟩
  ·rcases hsr.cn d _ x hx with h2 | ⟨h2, _⟩
   ·exact h.b s i d x hs hs' hi hd h2
   ·exact absurd h2 (jsec_tsec hr hs' hi m)
  ·by_cases es : t = m
   ·subst es
    exact hsr.all h1 d x (by omega) (hl1 d hd) hx
   ·rcases hsr.cn d _ x hx with h2 | ⟨h2, _⟩
    ·exact h.t t d x (by omega) ht' hd h2
    ·exact absurd (tsec_inj h2) es
 ·exact Or.inr ⟨h1, h.al.trans hsr.ran.alike, h2, hsr.ran.rest, fun hh => h3 (h.free hh), Or.inr (Or.inl hz)⟩
theorem mk_super (h : Mkg c q q1 c.s.toNat c.t.toNat m) (ha : Alive q) (hm : m < q.n) :
  (runC q1 (supO c m) = 0 ∧ Mkg c q (runS q1 (supO c m)) c.s.toNat c.t.toNat (m + 1)) ∨ (runC q1 (supO c m) = 5 ∧ MkCut c q (runS q1 (supO c m))) := by
 have hr := h.on.right
 have h8 := h.on.ok.n8
 have hk := h.on.ok.k0
 have hn1 : q1.n = q.n := h.al.n
 have hl1 : ∀ d, d < q.n → (q1.s d).dead = false := fun d hd => by rw [h.al.dead]; exact ha d hd
 have h128 : (put (supF c m)).length = 128 := put_len (supF_is c m) (supF_right (by omega) (by omega))
 have hf : ∀ o ∈ supO c m, o.fit q1.n q1.k fun j => (q1.s j).dead := fun o ho => by
  rcases List.mem_cons.1 ho with rfl | ho
  ·exact ⟨m, 0, rfl, rfl, by omega, by omega, h128, hl1 m hm⟩
  ·rcases List.mem_cons.1 ho with rfl | ho
   ·exact ⟨m, rfl, by omega, hl1 m hm⟩
   ·cases ho
 have hran := ran_fit h.on hf
 have hcn : ∀ d p x, Cn (runS q1 (supO c m)) d p x → Cn q1 d p x ∨ (d = m ∧ p = 0 ∧ x = put (supF c m)) := fun d p x hx => by
  rcases hran.cn h.on hf hx with h1 | h1
  ·exact Or.inl h1
  ·rcases List.mem_cons.1 h1 with h1 | h1
   ·injection h1 with h4 h5 h6
    exact Or.inr ⟨by omega, by omega, h6⟩
   ·rcases List.mem_cons.1 h1 with h1 | h1
    ·cases h1
    ·cases h1
 have hb : ∀ (s i d : Nat) x, (s : Int) < c.s → (i : Int) < c.k → d < q.n → Cn (runS q1 (supO c m)) d (jsec c s i) x → x = put (jF (blankR c) i) := fun s i d x hs hi hd hx => by
  rcases hcn d _ x hx with h2 | ⟨_, h2, _⟩
  ·exact h.b s i d x (by omega) hs hi hd h2
  ·exact absurd h2 (jsec_pos c s i)
 have ht : ∀ (t d : Nat) x, (t : Int) < c.t → d < q.n → Cn (runS q1 (supO c m)) d (tsec c t) x → x = put (tF c.k.toNat t 1 (zBs c) d) := fun t d x ht hd hx => by
  rcases hcn d _ x hx with h2 | ⟨_, h2, _⟩
  ·exact h.t t d x (by omega) ht hd h2
  ·exact absurd h2 (tsec_pos c t)
 rcases hran.code with h1 | ⟨h1, h2, h3⟩
 ·refine Or.inl ⟨h1, hran.on h1, h.al.trans hran.alike, fun hh => hran.rem h1 (h.free hh), ?_, fun d x hd hx => ?_, fun s i d x _ hs hi hd hx => hb s i d x hs hi hd hx, fun t d x _ ht' hd hx => ht t d x ht' hd hx⟩
  ·rcases hran.out with ⟨_, _, _, o4⟩ | ⟨o1, _⟩
   ·intro d hd hl p
    have hd' : d < q.n := by rw [← hn1, ← hran.n]; exact hd
    rw [o4]
    show (upd (upd q1.s m ((q1.s m).write 0 (put (supF c m)))) m ((upd q1.s m ((q1.s m).write 0 (put (supF c m))) m).flush) d).wt p = none
    by_cases e : d = m
    ·subst e; rw [upd_same, upd_same]; exact St.flush_wt ((h.on.sok d (by omega)).write (by rw [h.on.ok.k d (by omega)]; exact hk) h128) p
    ·rw [upd_other _ _ e, upd_other _ _ e]
     exact h.qt d (by omega) (hl1 d hd') p
   ·rw [h1] at o1; cases o1
  ·by_cases e : d = m
   ·subst e
    rw [if_pos (by omega)]; exact tops_done (base := 0) (F := fun d => put (supF c d)) (U := [d]) hran h.on h1 (List.nodup_cons.2 ⟨by simp, List.nodup_nil⟩) hk (by omega) (List.mem_singleton.2 rfl) h128 hx
   ·rcases hcn d _ x hx with h2 | ⟨h2, _⟩
    ·rw [h.z d x hd h2]
     by_cases e2 : d < m
     ·rw [if_pos e2, if_pos (by omega)]
     ·rw [if_neg e2, if_neg (by omega)]
    ·exact absurd h2 e
 ·refine Or.inr ⟨h1, h.al.trans hran.alike, h2, hran.rest, fun hh => h3 (h.free hh), Or.inr (Or.inr ⟨fun d x hd hx => ?_, hb, ht⟩)⟩
  rcases hcn d _ x hx with h2 | ⟨rfl, _, h2⟩
  ·have := h.z d x hd h2
   by_cases e2 : d < m
   ·rw [if_pos e2] at this; exact Or.inl this
   ·rw [if_neg e2] at this; exact Or.inr this
  ·exact Or.inl h2
theorem mkB_run {c : Cf} {q : Rk} (ha : Alive q) : ∀ (j m : Nat) (q1 : Rk), m + j = c.s.toNat → Mkg c q q1 m 0 0 → (runC q1 (mkB c q m) = 0 ∧ Mkg c q (runS q1 (mkB c q m)) c.s.toNat 0 0) ∨ (runC q1 (mkB c q m) = 5 ∧ MkCut c q (runS q1 (mkB c q m)))
 | 0, m, q1, hm, h => by
  have e : m = c.s.toNat := by omega
  subst e; rw [mkB_end]; exact Or.inl ⟨rfl, h⟩
 | j + 1, m, q1, hm, h => by
  rw [mkB_next (by omega), runC_append, runS_append, ← slotOps_ups (ups_congr h.al.n h.al.dead)]
  rcases mk_slot h ha (by omega) with ⟨h1, h2⟩ | ⟨h1, h2⟩
  ·rw [if_pos h1, if_pos h1]; exact mkB_run ha j (m + 1) _ (by omega) h2
  ·rw [if_neg (by rw [h1]; decide), if_neg (by rw [h1]; decide)]; exact Or.inr ⟨h1, h2⟩
theorem mkT_run {c : Cf} {q : Rk} (ha : Alive q) : ∀ (j m : Nat) (q1 : Rk), m + j = c.t.toNat → Mkg c q q1 c.s.toNat m 0 → (runC q1 (mkT c q m) = 0 ∧ Mkg c q (runS q1 (mkT c q m)) c.s.toNat c.t.toNat 0) ∨ (runC q1 (mkT c q m) = 5 ∧ MkCut c q (runS q1 (mkT c q m)))
 | 0, m, q1, hm, h => by
  have e : m = c.t.toNat := by omega
  subst e; rw [mkT_end]; exact Or.inl ⟨rfl, h⟩
 | j + 1, m, q1, hm, h => by
  rw [mkT_next (by omega), runC_append, runS_append, ← topsOf_ups (ups_congr h.al.n h.al.dead)]
  rcases mk_stripe h ha (by omega) with ⟨h1, h2⟩ | ⟨h1, h2⟩
  ·rw [if_pos h1, if_pos h1]; exact mkT_run ha j (m + 1) _ (by omega) h2
  ·rw [if_neg (by rw [h1]; decide), if_neg (by rw [h1]; decide)]; exact Or.inr ⟨h1, h2⟩
theorem mkS_run {c : Cf} {q : Rk} (ha : Alive q) : ∀ (j m : Nat) (q1 : Rk), m + j = q.n → Mkg c q q1 c.s.toNat c.t.toNat m → (runC q1 (mkS c q.n m) = 0 ∧ Mkg c q (runS q1 (mkS c q.n m)) c.s.toNat c.t.toNat q.n) ∨ (runC q1 (mkS c q.n m) = 5 ∧ MkCut c q (runS q1 (mkS c q.n m)))
 | 0, m, q1, hm, h => by
  have e : m = q.n := by omega
  subst e; rw [mkS_end]; exact Or.inl ⟨rfl, h⟩
 | j + 1, m, q1, hm, h => by
  rw [mkS_next (by omega), runC_append, runS_append]
  rcases mk_super h ha (by omega) with ⟨h1, h2⟩ | ⟨h1, h2⟩
  ·rw [if_pos h1, if_pos h1]; exact mkS_run ha j (m + 1) _ (by omega) h2
  ·rw [if_neg (by rw [h1]; decide), if_neg (by rw [h1]; decide)]; exact Or.inr ⟨h1, h2⟩
def allP (q : Rk) : Nat → Bool := fun d => decide (d < q.n)
structure Made (c : Cf) (q q' : Rk) : Prop where
 on : On q' c
 al : Alike0 q q'
 free : Free q q'
 qt : Qt q'
 inv : Inv c (V0 c) none (allP q) q'
 sup : Sup c (allP q) q'
theorem Mkg.made (ha : Alive q) (h : Mkg c q q' c.s.toNat c.t.toNat q.n) : Made c q q' where
 on := h.on
 al := h.al
 free := h.free
 qt := h.qt
 inv := {
  v := V0_ok h.on.right
  y := fun y e => by cases e
  p := fun d hd => by
   have hd : d < q.n := of_decide_eq_true hd; rw [h.al.n, h.al.dead]; exact ⟨hd, ha d hd⟩
  jr := fun s i d x hs hi hd _ hx => Or.inl ⟨blankR c, Or.inl rfl, h.b s i d x (by omega) hs hi (by rw [← h.al.n]; exact hd) hx⟩
  tr := fun t d x ht hd _ hx => Or.inl ⟨1, zBs c, Or.inl ⟨rfl, rfl⟩, h.t t d x (by omega) ht (by rw [← h.al.n]; exact hd) hx⟩
  link := fun y e => by cases e }
 sup := {
  p := fun d hd => by
   have hd : d < q.n := of_decide_eq_true hd; rw [h.al.n, h.al.dead]; exact ⟨hd, ha d hd⟩
  s := fun d x hd _ hx => by
   have hd : d < q.n := by rw [← h.al.n]; exact hd
   have := h.z d x hd hx; rw [if_pos hd] at this
   exact Or.inl this }
theorem make_told (h : On q c) (ha : Alive q) (hn : (q.n : Int) = c.n) : (Rk.vmakeC q c = 0 ∧ Made c q (Rk.vmake q c)) ∨ (Rk.vmakeC q c = 5 ∧ MkCut c q (Rk.vmake q c)) := by
 unfold Rk.vmakeC Rk.vmake
 have hno : ¬ (q.off = true ∨ ((ups q).length : Int) < c.n) := by
  rw [alive_ups ha, List.length_range, h.off]; rintro (h1 | h1)
  ·cases h1
  ·omega
 rw [if_pos h.fits, if_pos h.fits, if_neg hno, if_neg hno]
 have e : mkOps c q = fgOps q ++ (mkB c q 0 ++ (mkT c q 0 ++ mkS c q.n 0)) := by unfold mkOps fgOps; rw [List.append_assoc]
 rw [e, runC_append, runS_append]
 rcases mk_zap h ha with ⟨h1, h2⟩ | ⟨h1, h2⟩
 ·rw [if_pos h1, if_pos h1, runC_append, runS_append]
  rcases mkB_run ha c.s.toNat 0 _ (by omega) h2 with ⟨h3, h4⟩ | ⟨h3, h4⟩
  ·rw [if_pos h3, if_pos h3, runC_append, runS_append]
   rcases mkT_run ha c.t.toNat 0 _ (by omega) h4 with ⟨h5, h6⟩ | ⟨h5, h6⟩
   ·rw [if_pos h5, if_pos h5]
    rcases mkS_run ha q.n 0 _ (by omega) h6 with ⟨h7, h8⟩ | ⟨h7, h8⟩
    ·exact Or.inl ⟨h7, h8.made ha⟩
    ·exact Or.inr ⟨h7, h8⟩
   ·rw [if_neg (by rw [h5]; decide), if_neg (by rw [h5]; decide)]; exact Or.inr ⟨h5, h6⟩
  ·rw [if_neg (by rw [h3]; decide), if_neg (by rw [h3]; decide)]; exact Or.inr ⟨h3, h4⟩
 ·rw [if_neg (by rw [h1]; decide), if_neg (by rw [h1]; decide)]; exact Or.inr ⟨h1, h2⟩
structure Live (c : Cf) (V : Vl) (P : Nat → Bool) (q : Rk) (seq : Int) : Prop where
 inv : Inv c V none P q
 sup : Sup c P q
 on : On q c
 qt : Qt q
 le : VLe c V seq
 s1 : 1 ≤ seq
structure Down (c : Cf) (V : Vl) (Y : Option Rc) (P : Nat → Bool) (q : Rk) (M : Int) : Prop where
 inv : Inv c V Y P q
 sup : Sup c P q
 rest : Rest q c
 le : VLe c V M
 yle : ∀ y, Y = some y → y.q ≤ M
 m1 : 1 ≤ M
structure Raw (c : Cf) (V : Vl) (Y : Option Rc) (P : Nat → Bool) (q : Rk) (M : Int) : Prop where
 tnt : Tnt c V Y P q
 le : VLe c V M
 yle : ∀ y, Y = some y → y.q ≤ M
 m1 : 1 ≤ M
theorem Live.down (h : Live c V P q seq) : Down c V none P q seq := ⟨h.inv, h.sup, h.on.rest, h.le, fun y e => (by cases e), h.s1⟩
theorem Live.raw (h : Live c V P q seq) : Raw c V none P q seq := ⟨⟨h.inv, h.sup, h.on, h.qt⟩, h.le, fun y e => (by cases e), h.s1⟩
theorem Down.boot (h : Down c V Y P q M) (bits : Nat → Nat) : Raw c V Y P (q.boot bits) M ∧ (q.boot bits).rem = -1 ∧ (q.boot bits).n = q.n ∧ (q.boot bits).k = q.k :=
 ⟨⟨⟨h.inv.boot h.rest bits, h.sup.boot h.rest bits, (boot_on h.rest bits).1, Qt.boot q bits⟩, h.le, h.yle, h.m1⟩, (boot_on h.rest bits).2.1, (boot_on h.rest bits).2.2.1, (boot_on h.rest bits).2.2.2.1⟩
theorem Live.arm (h : Live c V P q seq) {f : Int} (h0 : -1 ≤ f) (h1 : f < 9223372036854775808) : Live c V P (q.arm f) seq :=
 ⟨h.inv.arm f, h.sup.arm f, arm_on h.on h0 h1, h.qt, h.le, h.s1⟩
theorem Raw.arm (h : Raw c V Y P q M) {f : Int} (h0 : -1 ≤ f) (h1 : f < 9223372036854775808) : Raw c V Y P (q.arm f) M :=
 ⟨⟨h.tnt.inv.arm f, h.tnt.sup.arm f, arm_on h.tnt.on h0 h1, h.tnt.qt⟩, h.le, h.yle, h.m1⟩
theorem Live.wore (h : Live c V P q seq) (hp : P d = true) (hw : Wore q d q') : Live c V (PD P d) q' seq ∧ q'.n = q.n ∧ q'.k = q.k ∧ q'.rem = q.rem := by
 obtain ⟨⟨a1, a2, a3, a4⟩, a5⟩ := h.raw.tnt.wore hp hw
 exact ⟨⟨a1, a2, a3, a4, h.le, h.s1⟩, a5⟩
theorem Raw.wore (h : Raw c V Y P q M) (hp : P d = true) (hw : Wore q d q') : Raw c V Y (PD P d) q' M ∧ q'.n = q.n ∧ q'.k = q.k ∧ q'.rem = q.rem := by
 obtain ⟨a1, a5⟩ := h.tnt.wore hp hw
 exact ⟨⟨a1, h.le, h.yle, h.m1⟩, a5⟩
theorem Made.raw (h : Made c q q') : Raw c (V0 c) none (allP q) q' 1 := ⟨⟨h.inv, h.sup, h.on, h.qt⟩, V0_le c, fun y e => (by cases e), Int.le_refl _⟩
theorem Raw.opens (h : Raw c V Y P q M) (hP : Enough c P q.n) (ho : OpensTo q q' e g) :
  (fndOk q = true ∧ fndC q = c) ∧ q'.n = q.n ∧ q'.k = q.k ∧ ((e = 0 ∧ Free q q' ∧ ∃ V', Live c V' P q' g ∧ Evo c V Y V' none ∧ g ≤ M) ∨ (e = 5 ∧ q.rem ≠ -1 ∧ q'.off = true ∧ ∃ V' Y', Down c V' Y' P q' M ∧ Evo c V Y V' Y')) := by
 obtain ⟨a1, a2, a3⟩ := open_told h.tnt.inv h.tnt.sup h.tnt.on h.tnt.qt hP hP h.m1 h.le h.yle ho
 refine ⟨⟨a1, a2⟩, ?_⟩
 rcases a3 with ⟨b1, V', b2⟩ | b1
 ·exact ⟨b2.goes.al.n, b2.goes.al.k, Or.inl ⟨b1, b2.free, V', ⟨b2.goes.inv, b2.goes.sup, b2.on, b2.qt, b2.vle, b2.g1⟩, b2.goes.evo, b2.gM⟩⟩
 ·obtain ⟨V', Y', b2⟩ := b1.goes
  exact ⟨b2.al.n, b2.al.k, Or.inr ⟨b1.five, b1.burnt, b1.off, V', Y', ⟨b2.inv, b2.sup, b1.rest, b2.le, b2.yle, h.m1⟩, b2.evo⟩⟩
theorem Live.read (h : Live c V P q seq) (hP : Enough c P q.n) {t : Nat} (ht : (t : Int) < c.t) :
  tcode q c t = 0 ∧ tnew q c t = V.G t ∧ ∀ bs', BlocksOf c.k.toNat 108 (chosen c.k.toNat (tpts q c t)) bs' → bs' = V.B t := h.inv.read h.on ht hP.le
theorem Live.commits (h : Live c V P q seq) (hP : Enough c P q.n) {s : Nat} {bs : List (List UInt8)} (hs : (s : Int) < c.t) (hq : seq < 1152921504606846976) (hl : bs.length = c.k.toNat) (hb : ∀ d ∈ bs, d.length = 108) :
    refused c q false seq s bs = 0 ∧ (storeS c q (cRec seq s bs)).n = q.n ∧ (storeS c q (cRec seq s bs)).k = q.k ∧
    ((storeC c q (cRec seq s bs) = 0 ∧ Free q (storeS c q (cRec seq s bs)) ∧ Live c (addY c V (cRec seq s bs)) P (storeS c q (cRec seq s bs)) (seq + 1)) ∨
     (storeC c q (cRec seq s bs) = 5 ∧ q.rem ≠ -1 ∧ (storeS c q (cRec seq s bs)).off = true ∧ Down c V (some (cRec seq s bs)) P (storeS c q (cRec seq s bs)) (seq + 1))) := by
  have hr := h.on.right
  have hk1 : 1 ≤ c.k := hr.2.2.1
  have hin := cRec_in hr h.le h.s1 hq hs hl hb
  have hcode := (h.read hP hs).1
  have hu := filter_ups h.inv.p
  have hle := hP.le
  have hbad : badArgs c s bs = false := by
    unfold badArgs
    have h1 : ¬ ((s : Int) < 0) := by omega
    have h2 : ¬ (c.t ≤ (s : Int)) := by omega
    have h3 : (bs.length : Int) = c.k := by omega
    rw [decide_eq_false h1, decide_eq_false h2, decide_eq_true h3]; rfl
  refine ⟨?_, ?_⟩
  · unfold refused
    rw [if_neg (by rw [hbad]; decide), if_neg (by rw [h.on.off]; decide), if_neg (by omega), if_neg (by omega)]; exact hcode
  · have hle' : VLe c V (seq + 1) := ⟨fun s hs => by have := h.le.r s hs; omega, fun t ht => by have := h.le.g t ht; omega⟩
    rcases store_told h.inv h.sup h.on hin with ⟨a1, a2⟩ | ⟨a1, a2⟩
    · exact ⟨a2.al.n, a2.al.k, Or.inl ⟨a1, a2.free, a2.inv, a2.sup, a2.on, a2.qt, addY_le hle' (Int.le_refl _), by have := h.s1; omega⟩⟩
    · exact ⟨a2.al.n, a2.al.k, Or.inr ⟨a1, a2.burnt, a2.off, a2.inv, a2.sup, a2.rest, hle', fun y e => (by injection e with e; subst e; exact Int.le_refl _), by have := h.s1; omega⟩⟩
theorem allP_enough (h : c.fits q = true) : Enough c (allP q) q.n := ⟨by
 have e : (List.range q.n).filter (allP q) = List.range q.n := List.filter_eq_self.2 fun d hd => decide_eq_true (List.mem_range.1 hd)
 rw [e, List.length_range]
 obtain ⟨h1, h2⟩ := fits_right h
 obtain ⟨_, _, h3, h4, _⟩ := h1
 omega⟩
theorem cRec_t (seq : Int) (s : Nat) (bs : List (List UInt8)) : (cRec seq s bs).t.toNat = s := by show ((s : Int)).toNat = s; omega
def noP : Nat → Bool := fun _ => false
theorem Inv.noP (h : Inv c V none P q) : Inv c V none noP q where
 v := h.v
 y := h.y
 p := fun d hd => by cases hd
 jr := fun s i d x hs hi hd hl hx => by
  rcases h.jr s i d x hs hi hd hl hx with h1 | ⟨_, h1⟩
  ·exact Or.inl h1
  ·exact Or.inr ⟨rfl, h1⟩
 tr := fun t d x ht hd hl hx => by
  rcases h.tr t d x ht hd hl hx with h1 | ⟨_, h1⟩
  ·exact Or.inl h1
  ·exact Or.inr ⟨rfl, h1⟩
 link := fun y e => by cases e
def Closed (V : Vl) (A : Rc → Prop) : Prop := ∀ x, A x → x.q < V.G x.t.toNat → ∃ z, A z ∧ z.t.toNat = x.t.toNat ∧ z.q = V.G x.t.toNat ∧ z.b = V.B x.t.toNat
def InR (c : Cf) (V : Vl) (x : Rc) : Prop := ∃ s : Nat, (s : Int) < c.s ∧ x = V.R s ∧ 2 ≤ x.q
structure AnyS (c : Cf) (V : Vl) (q q' : Rk) : Prop where
 al : Alike0 q q'
 inv : Inv c V none noP q'
 on : On q' c
 rem : q'.rem = -1
theorem any_settle {c : Cf} {V : Vl} {q : Rk} (h : AnyS c V q q) : ∀ m : Nat, (m : Int) ≤ c.s → (settleN c q m).e = 6 ∨ ((settleN c q m).e = 0 ∧ AnyS c V q (settleN c q m).q ∧ (∀ x, x ∈ (settleN c q m).l ↔ ∃ s : Nat, s < m ∧ x = V.R s ∧ 2 ≤ x.q))
 | 0, _ => Or.inr ⟨rfl, h, fun x => ⟨fun hx => (by cases hx), fun ⟨s, hs, _⟩ => absurd hs (by omega)⟩⟩
 | m + 1, hm => by
  have hr := h.on.right; have hk1 : 1 ≤ c.k := hr.2.2.1
  rcases any_settle h m (by omega) with h1 | ⟨h1, h2, h3⟩
  ·left
   show (settle1 c (settleN c q m) m).e = 6
   unfold settle1; rw [if_neg (by rw [h1]; decide)]; exact h1
  ·show (settle1 c (settleN c q m) m).e = 6 ∨ ((settle1 c (settleN c q m) m).e = 0 ∧ AnyS c V q (settle1 c (settleN c q m) m).q ∧ (∀ x, x ∈ (settle1 c (settleN c q m) m).l ↔ ∃ s : Nat, s < m + 1 ∧ x = V.R s ∧ 2 ≤ x.q))
   generalize settleN c q m = p at *
   have hms : (m : Int) < c.s := by omega
   have hone : ∀ r, AllowR c V none m r → r = V.R m := fun r hr => by
    rcases hr with h2 | ⟨y', h2, _⟩
    ·exact h2
    ·cases h2
   unfold settle1; rw [if_pos h1]
   rcases (h2.inv.jset h2.on hms).told (has_slot h2.on.fits hms) hk1 with ⟨c6, _⟩ | ⟨c0, r0, hr0, hnew, hmax, hcase⟩
   ·left
    rw [if_neg (by rw [c6]; decide)]; exact c6
   ·right
    rw [if_pos c0]; have hr0' := hone r0 hr0
    rcases hcase with ⟨hw, hrec, _⟩ | ⟨hw, i1, hi1, hno1⟩
    ·rw [if_pos hw, hrec, hr0']
     have hrin := h2.inv.v.r m hms
     by_cases h1q : 1 < (V.R m).q
     ·rw [if_pos h1q]
      obtain ⟨e1, e2⟩ := jlog_is h2.on hrin (by omega); rw [e1, e2]; have hsr := slot_ran h2.on hms hrin
      have hz : runC p.q (slotOps c (m : Int) (V.R m) p.q) = 0 := by
       rcases hsr.ran.code with a1 | ⟨_, _, a3⟩
       ·exact a1
       ·exact absurd h2.rem a3
      refine ⟨hz, ⟨h2.al.trans hsr.ran.alike, h2.inv.slot hr hms (Or.inl rfl) (fun y e => by cases e) hsr, hsr.ran.on hz, hsr.ran.rem hz h2.rem⟩, fun x => ?_⟩
      show x ∈ p.l ++ [V.R m] ↔ _
      rw [List.mem_append, h3, List.mem_singleton]
      constructor
      ·rintro (⟨s, a1, a2, a3⟩ | rfl)
       ·exact ⟨s, by omega, a2, a3⟩
       ·exact ⟨m, by omega, rfl, by omega⟩
      ·rintro ⟨s, a1, a2, a3⟩
       by_cases e : s = m
       ·subst e; exact Or.inr a2
       ·exact Or.inl ⟨s, by omega, a2, a3⟩
     ·rw [if_neg h1q]
      refine ⟨rfl, h2, fun x => ?_⟩
      show x ∈ p.l ↔ _
      rw [h3]
      constructor
      ·rintro ⟨s, a1, a2, a3⟩
       exact ⟨s, by omega, a2, a3⟩
      ·rintro ⟨s, a1, a2, a3⟩
       by_cases e : s = m
       ·subst e; rw [a2] at a3; omega
       ·exact ⟨s, by omega, a2, a3⟩
    ·exfalso
     -- whole it is
     have hgood : ∀ i : Nat, (i : Int) < c.k → ∃ d, d < p.q.n ∧ (p.q.s d).dead = false ∧ jfr p.q c m i d ≠ none := by
      intro i hi
      refine Classical.byContradiction fun hno => ?_
      have hall : ¬ jall (jl p.q c m) c.k.toNat := fun ha => by
       have hne := ha i (by omega); obtain ⟨f, hf⟩ := List.exists_mem_of_ne_nil _ hne; obtain ⟨d, a1, a2, a3⟩ := mem_jl.1 hf; exact hno ⟨d, a1, a2, by rw [a3]; exact fun e => by cases e⟩
      unfold jcode at c0; rw [if_pos (has_slot h2.on.fits hms), if_neg hall] at c0
      cases c0
     obtain ⟨d, a1, a2, a3⟩ := hgood i1 hi1
     rcases (h2.inv.jset h2.on hms).fr i1 d hi1 a1 a2 with a4 | ⟨r, a4, a5⟩
     ·exact a3 a4
     ·rw [hone r a4, ← hr0'] at a5
      exact hno1 d a1 a2 a5
def TNor (c : Cf) (V : Vl) (q : Rk) (t : Nat) : Prop := ∀ d x, d < q.n → (q.s d).dead = false → Cn q d (tsec c t) x → x = put (tF c.k.toNat t (V.G t) (V.B t) d) ∨ goodB x = false
def TOld (c : Cf) (V : Vl) (q : Rk) (t : Nat) : Prop := ∃ g bs, StIn c t g bs ∧ g < V.G t ∧ ∀ d x, d < q.n → (q.s d).dead = false → Cn q d (tsec c t) x → x = put (tF c.k.toNat t g bs d)
structure Rpl (c : Cf) (V : Vl) (q q' : Rk) (l : List Rc) : Prop where
 al : Alike0 q q'
 v : VOk c V
 on : On q' c
 rem : q'.rem = -1
 jr : ∀ (s i d : Nat) (x : Sec), (s : Int) < c.s → (i : Int) < c.k → d < q'.n → (q'.s d).dead = false → Cn q' d (jsec c s i) x → x = put (jF (V.R s) i) ∨ goodB x = false
 tr : ∀ t : Nat, (t : Int) < c.t → TNor c V q' t ∨ (TOld c V q' t ∧ ∃ z ∈ l, z.t.toNat = t ∧ z.q = V.G t ∧ z.b = V.B t)
theorem tfr_le (ho : On q c) {t d : Nat} {G : Int} (hd : d < q.n) (h : (q.s d).dead = false → (∃ g bs, StIn c t g bs ∧ g ≤ G ∧ (q.s d).read (tsec c t) = put (tF c.k.toNat t g bs d)) ∨ goodB ((q.s d).read (tsec c t)) = false) : ∀ f, tfr q c t d = some f → f.g ≤ G := by
 intro f hf
 by_cases hl : (q.s d).dead = false
 ·rcases h hl with ⟨g, bs, h1, h2, h3⟩ | h1
  ·rw [tfr_cn ho hd hl h1 h3] at hf
   injection hf with hf; subst hf; exact h2
  ·rw [tfr_bad ho.right (Or.inr (Or.inr h1))] at hf; cases hf
 ·rw [tfr_bad ho.right (Or.inr (Or.inl (by simpa using hl)))] at hf; cases hf
theorem Rpl.tnew_le {l : List Rc} (h : Rpl c V q q' l) {t : Nat} (ht : (t : Int) < c.t) : tnew q' c t ≤ V.G t := by
 have hg := (h.v.g t ht).g0
 rcases tnew_at (s := t) (on_has h.on.fits ht) with ⟨d, f, h1, h2, h3⟩ | ⟨h1, _⟩
 ·rw [← h3]
  refine tfr_le h.on h1 (fun hl => ?_) f h2
  rcases h.tr t ht with a | ⟨⟨g, bs, a1, a2, a3⟩, _⟩
  ·rcases a d _ h1 hl (cn_read q' d _) with a4 | a4
   ·exact Or.inl ⟨V.G t, V.B t, h.v.g t ht, Int.le_refl _, a4⟩
   ·exact Or.inr a4
  ·exact Or.inl ⟨g, bs, a1, by omega, a3 d _ h1 hl (cn_read q' d _)⟩
 ·omega
set_option maxHeartbeats 1000000 in
theorem any_replay {c : Cf} {V : Vl} {q : Rk} : ∀ (l : List Rc) (q1 : Rk), Rpl c V q q1 l → (∀ x ∈ l, InR c V x) → RSorted l → Closed V (· ∈ l) → (replayL c q1 l).2 = 0 ∧ Rpl c V q (replayL c q1 l).1 []
 | [], q1, h, _, _, _ => ⟨rfl, h⟩
 | x :: l, q1, h, hl, hs, hc => by
  have hr := h.on.right; obtain ⟨sx, hsx, hxe, hx2⟩ := hl x (List.mem_cons_self ..)
  have hin : RcIn c sx x := by rw [hxe]; exact h.v.r sx hsx
  obtain ⟨et, ht⟩ := rcIn_stripe hin; have hst := rcIn_stIn hin hx2
  have hgood : RGood V x := by rw [hxe]; exact h.v.a sx hsx (by rw [← hxe]; exact hx2)
  obtain ⟨hs1, hs2⟩ := List.pairwise_cons.1 hs
  have hc' : Closed V (· ∈ l) := fun x' hx' hlt => by
   obtain ⟨z, z1, z2, z3, z4⟩ := hc x' (List.mem_cons_of_mem _ hx') hlt
   rcases List.mem_cons.1 z1 with rfl | z1
   ·have := hs1 x' hx'; omega
   ·exact ⟨z, z1, z2, z3, z4⟩
  have hl' : ∀ z ∈ l, InR c V z := fun z hz => hl z (List.mem_cons_of_mem _ hz)
  unfold replayL; rw [← et]
  by_cases hsk : x.q < tnew q1 c (x.t.toNat : Nat)
  ·rw [if_pos hsk]
   refine any_replay l q1 ⟨h.al, h.v, h.on, h.rem, h.jr, fun t ht' => ?_⟩ hl' hs2 hc'
   rcases h.tr t ht' with a | ⟨a, z, z1, z2, z3, z4⟩
   ·exact Or.inl a
   ·rcases List.mem_cons.1 z1 with rfl | z1
    ·have := h.tnew_le (t := t) ht'
     rw [z2] at hsk; omega
    ·exact Or.inr ⟨a, z, z1, z2, z3, z4⟩
  ·rw [if_neg hsk]
   obtain ⟨e1, e2⟩ := tput_is (t := x.t.toNat) h.on hst; rw [e1, e2]; have hsr := stripe_ran h.on hst
   have hz : runC q1 (topsOf c ((x.t.toNat : Nat) : Int) x.q x.b q1) = 0 := by
    rcases hsr.ran.code with a1 | ⟨_, _, a3⟩
    ·exact a1
    ·exact absurd h.rem a3
   rw [if_pos hz]; have hall := hsr.all hz; refine any_replay l _ ⟨h.al.trans hsr.ran.alike, h.v, hsr.ran.on hz, hsr.ran.rem hz h.rem, fun s i d z hs hi hd hlv hz' => ?_, fun t ht' => ?_⟩ hl' hs2 hc'
   ·rcases hsr.cn d _ z hz' with a1 | ⟨a1, _⟩
    ·exact h.jr s i d z hs hi (by rw [← hsr.ran.n]; exact hd) (by rw [← hsr.ran.dead]; exact hlv) a1
    ·exact absurd a1 (jsec_tsec hr hs hi _)
   ·by_cases e : t = x.t.toNat
    ·subst e
     have hall' : ∀ d z, d < (runS q1 (topsOf c ((x.t.toNat : Nat) : Int) x.q x.b q1)).n → ((runS q1 (topsOf c ((x.t.toNat : Nat) : Int) x.q x.b q1)).s d).dead = false → Cn (runS q1 (topsOf c ((x.t.toNat : Nat) : Int) x.q x.b q1)) d (tsec c x.t.toNat) z → z = put (tF c.k.toNat (x.t.toNat : Nat) x.q x.b d) := fun d z hd hlv hz' => hall d z (by rw [← hsr.ran.n]; exact hd) (by rw [← hsr.ran.dead]; exact hlv) hz'
     rcases hgood with hg | ⟨hg1, hg2⟩
     ·obtain ⟨z, z1, z2, z3, z4⟩ := hc x (List.mem_cons_self ..) hg
      rcases List.mem_cons.1 z1 with rfl | z1
      ·omega
      ·exact Or.inr ⟨⟨x.q, x.b, hst, hg, hall'⟩, z, z1, z2, z3, z4⟩
     ·left
      intro d z hd hlv hz'
      left
      rw [← hg1, ← hg2]; exact hall' d z hd hlv hz'
    ·have hkeep : ∀ d z, Cn (runS q1 (topsOf c ((x.t.toNat : Nat) : Int) x.q x.b q1)) d (tsec c t) z → Cn q1 d (tsec c t) z := fun d z hz' => by
      rcases hsr.cn d _ z hz' with a1 | ⟨a1, _⟩
      ·exact a1
      ·exact absurd (tsec_inj a1) e
     rcases h.tr t ht' with a | ⟨⟨g, bs, a1, a2, a3⟩, z, z1, z2, z3, z4⟩
     ·exact Or.inl fun d z hd hlv hz' => a d z (by rw [← hsr.ran.n]; exact hd) (by rw [← hsr.ran.dead]; exact hlv) (hkeep d z hz')
     ·refine Or.inr ⟨⟨g, bs, a1, a2, fun d z hd hlv hz' => a3 d z (by rw [← hsr.ran.n]; exact hd) (by rw [← hsr.ran.dead]; exact hlv) (hkeep d z hz')⟩, z, ?_, z2, z3, z4⟩
      rcases List.mem_cons.1 z1 with rfl | z1
      ·exact absurd z2.symm e
      ·exact z1
theorem any_gens {c : Cf} {V : Vl} {q : Rk} (h : Inv c V none noP q) (ho : On q c) : ∀ m : Nat, (m : Int) ≤ c.t → ((gensN c q m).2 = 6 ∨ (gensN c q m).2 = 7) ∨ ((gensN c q m).2 = 0 ∧ ∀ t, t < m → tcode q c t = 0)
 | 0, _ => Or.inr ⟨rfl, fun t ht => absurd ht (by omega)⟩
 | m + 1, hm => by
  unfold gensN
  rcases any_gens h ho m (by omega) with h1 | ⟨h1, h2⟩
  ·rw [if_neg (by rcases h1 with h1 | h1 <;> rw [h1] <;> decide)]
   exact Or.inl h1
  ·rw [if_pos h1]
   rcases h.readAny ho (t := m) (by omega) with ⟨h3, _⟩ | h3 | h3
   ·rw [if_pos h3]
    refine Or.inr ⟨rfl, fun t ht => ?_⟩
    by_cases e : t = m
    ·subst e; exact h3
    ·exact h2 t (by omega)
   ·rw [if_neg (by rw [h3]; decide)]; exact Or.inl (Or.inl h3)
   ·rw [if_neg (by rw [h3]; decide)]; exact Or.inl (Or.inr h3)
theorem any_opens (hi : Inv c V none P q) (hs : Sup c Q q) (ho : On q c) (hrem : q.rem = -1) (hc : Closed V (InR c V)) (hop : OpensTo q q' e g) :
  (e = 6 ∨ e = 7) ∨ (e = 0 ∧ q'.n = q.n ∧ q'.k = q.k ∧ Inv c V none noP q' ∧ On q' c ∧ ∀ t : Nat, (t : Int) < c.t → tcode q' c t = 0) := by
 unfold OpensTo at hop
 rw [if_neg (by rw [ho.off]; decide)] at hop
 rcases hs.foundAny ho with ⟨f1, f2⟩ | f1
 ·rw [if_neg (by rw [f1]; decide), f2] at hop
  by_cases hu : ((ups q).length : Int) < c.k
  ·rw [if_pos hu] at hop; exact Or.inl (Or.inr hop.2)
  ·rw [if_neg hu] at hop
   have hcs : ((c.s.toNat : Nat) : Int) = c.s := by have := ho.right.2.2.2.2.2.2.2.1; omega
   have hct : ((c.t.toNat : Nat) : Int) = c.t := by have := ho.right.2.2.2.2.2.1; omega
   have hA : AnyS c V q q := ⟨Alike0.refl q, hi.noP, ho, hrem⟩
   rcases any_settle hA c.s.toNat (by omega) with h1 | ⟨h1, h2, h3⟩
   ·rw [if_neg (by rw [h1]; decide)] at hop
    exact Or.inl (Or.inl (hop.2.trans h1))
   ·rw [if_pos h1] at hop
    obtain ⟨l, l1, l2, l3, l4⟩ := hop
    have hmem : ∀ x, x ∈ l ↔ InR c V x := fun x => by
     rw [l1.mem_iff, h3]
     constructor
     ·rintro ⟨s, a1, a2, a3⟩; exact ⟨s, by omega, a2, a3⟩
     ·rintro ⟨s, a1, a2, a3⟩; exact ⟨s, by omega, a2, a3⟩
    have hR : Rpl c V q (settleN c q c.s.toNat).q l := ⟨h2.al, h2.inv.v, h2.on, h2.rem, fun s i d x hs hi hd hl hx => by
      rcases h2.inv.jr s i d x hs hi hd hl hx with ⟨r, a1, a2⟩ | ⟨_, a1⟩
      ·rcases a1 with rfl | ⟨y, a1, _⟩
       ·exact Or.inl a2
       ·cases a1
      ·exact Or.inr a1, fun t ht => Or.inl fun d x hd hl hx => by
      rcases h2.inv.tr t d x ht hd hl hx with ⟨g, bs, a1, a2⟩ | ⟨_, a1⟩
      ·rcases a1 with ⟨rfl, rfl⟩ | ⟨y, a1, _⟩
       ·exact Or.inl a2
       ·cases a1
      ·exact Or.inr a1⟩
    obtain ⟨r1, r2⟩ := any_replay l _ hR (fun x hx => (hmem x).1 hx) l2 (fun x hx hlt => by
     obtain ⟨z, z1, z2⟩ := hc x ((hmem x).1 hx) hlt
     exact ⟨z, (hmem z).2 z1, z2⟩)
    rw [if_pos r1] at l4; rw [← l3] at r2
    have hfin : Inv c V none noP q' := {
     v := h2.inv.v
     y := fun y e => by cases e
     p := fun d hd => by cases hd
     jr := fun s i d x hs hi hd hl hx => by
      rcases r2.jr s i d x hs hi hd hl hx with a | a
      ·exact Or.inl ⟨V.R s, Or.inl rfl, a⟩
      ·exact Or.inr ⟨rfl, a⟩
     tr := fun t d x ht hd hl hx => by
      rcases r2.tr t ht with a | ⟨_, z, z1, _⟩
      ·rcases a d x hd hl hx with b | b
       ·exact Or.inl ⟨V.G t, V.B t, Or.inl ⟨rfl, rfl⟩, b⟩
       ·exact Or.inr ⟨rfl, b⟩
      ·cases z1
     link := fun y e => by cases e }
    rcases any_gens hfin r2.on c.t.toNat (by omega) with g1 | ⟨g1, g2⟩
    ·rw [← l4.1] at g1; exact Or.inl g1
    ·exact Or.inr ⟨l4.1.trans g1, r2.al.n, r2.al.k, hfin, r2.on, fun t ht => g2 t (by omega)⟩
 ·rw [if_pos f1] at hop; exact Or.inl (Or.inr hop.2)
structure Jn (c : Cf) (V : Vl) (seq : Int) : Prop where
 a : ∀ n : Int, 2 ≤ n → n ≤ seq → seq + 1 < n + c.s → (V.R (n % c.s).toNat).q = n
 b : ∀ s t : Nat, (s : Int) < c.s → (t : Int) < c.t → 2 ≤ V.G t → (V.R s).q = V.G t → (V.R s).t = t ∧ (V.R s).b = V.B t
 e : ∀ s : Nat, (s : Int) < c.s → 2 ≤ (V.R s).q → seq < (V.R s).q + c.s
theorem jn_new (c : Cf) : Jn c (V0 c) 1 := ⟨fun n h1 h2 => by omega, fun s t _ _ h => by have h : (2 : Int) ≤ 1 := h; omega, fun s _ h => by have h : (2 : Int) ≤ 0 := h; omega⟩
theorem mod_ne {n m k : Int} (h1 : n < m) (h2 : m < n + k) : n % k ≠ m % k := by
 intro h
 have h3 : (m - n) % k = 0 := Int.emod_eq_zero_of_dvd (Int.dvd_of_emod_eq_zero (by rw [Int.sub_emod, h, Int.sub_self, Int.zero_emod]))
 rw [Int.emod_eq_of_lt (by omega) (by omega)] at h3
 omega
theorem Jn.closed (h : Jn c V seq) (hv : VOk c V) (hle : VLe c V seq) (hr : CfRight c) : Closed V (InR c V) := by
 rintro x ⟨s, hs, rfl, h2⟩ hlt
 have hin := hv.r s hs
 obtain ⟨et, ht⟩ := rcIn_stripe hin
 have h1 := h.e s hs h2
 have hG := hle.g _ ht
 have hcs : 1 ≤ c.s := hr.2.2.2.2.2.2.2.1
 have h3 := h.a (V.G (V.R s).t.toNat) (by omega) hG (by omega)
 have hsl : (((V.G (V.R s).t.toNat % c.s).toNat : Nat) : Int) < c.s := by
  have := Int.emod_lt_of_pos (V.G (V.R s).t.toNat) (show 0 < c.s by omega); have := Int.emod_nonneg (V.G (V.R s).t.toNat) (show c.s ≠ 0 by omega); omega
 obtain ⟨b1, b2⟩ := h.b _ _ hsl ht (by omega) h3
 exact ⟨_, ⟨_, hsl, rfl, by omega⟩, by rw [b1]; omega, h3, b2⟩
theorem Jn.add (h : Jn c V seq) (hv : VOk c V) (hle : VLe c V seq) (hr : CfRight c) {y : Rc} (hy : y.q = seq + 1) (ht0 : 0 ≤ y.t) : Jn c (addY c V y) (seq + 1) := by
 have hcs : 1 ≤ c.s := hr.2.2.2.2.2.2.2.1
 have hso := slotOf_eq hr y
 have hsame : (addY c V y).R (slotOf c y) = y := upd_same _ _ _
 have hoth : ∀ s, s ≠ slotOf c y → (addY c V y).R s = V.R s := fun s hs => upd_other _ _ hs
 refine ⟨fun n h1 h2 h3 => ?_, fun s t hs ht h1 h2 => ?_, fun s hs h1 => ?_⟩
 ·by_cases e : n = seq + 1
  ·have : (n % c.s).toNat = slotOf c y := by rw [e, ← hy]; rfl
   rw [this, hsame, hy, e]
  ·have hne : (n % c.s).toNat ≠ slotOf c y := fun e2 => by
    have h4 := mod_ne (n := n) (m := seq + 1) (k := c.s) (by omega) (by omega); have := Int.emod_nonneg n (show c.s ≠ 0 by omega); rw [← hy] at h4; omega
   rw [hoth _ hne]; exact h.a n h1 (by omega) (by omega)
 ·by_cases es : s = slotOf c y
  ·subst es
   rw [hsame] at h2 ⊢
   by_cases et : t = y.t.toNat
   ·subst et
    exact ⟨by omega, (upd_same V.B _ _).symm⟩
   ·have hG : (addY c V y).G t = V.G t := upd_other _ _ et
    rw [hG] at h2; have := hle.g t ht; omega
  ·rw [hoth s es] at h2 ⊢
   by_cases et : t = y.t.toNat
   ·subst et
    have hG : (addY c V y).G y.t.toNat = y.q := upd_same _ _ _; rw [hG] at h2; have := hle.r s hs; omega
   ·have hG : (addY c V y).G t = V.G t := upd_other _ _ et
    have hB : (addY c V y).B t = V.B t := upd_other _ _ et; rw [hG] at h1 h2; rw [hB]; exact h.b s t hs ht h1 h2
 ·by_cases es : s = slotOf c y
  ·subst es; rw [hsame, hy]; omega
  ·rw [hoth s es] at h1 ⊢
   have h2 := h.e s hs h1
   have : (V.R s).q + c.s ≠ seq + 1 := fun e3 => by
    apply es
    have h5 : y.q % c.s = (V.R s).q % c.s := by rw [hy, ← e3, Int.add_emod_right]
    rcases (hv.r s hs).slot with h6 | ⟨_, h6⟩
    ·omega
    ·unfold slotOf; rw [h5, h6]; simp
   omega
theorem Jn.evo (h : Jn c V seq) (hv : VOk c V) (hle : VLe c V seq) (hr : CfRight c) (hv' : VOk c V') (hY : ∀ y, Y = some y → y.q = seq + 1 ∧ 0 ≤ y.t) (hs1 : 1 ≤ seq) (he : Evo c V Y V' Y') : Closed V' (InR c V') := by
 have hcs : 1 ≤ c.s := hr.2.2.2.2.2.2.2.1
 rcases he with ⟨rfl, _⟩ | ⟨y, a1, _, rfl | ⟨x, a2, rfl⟩⟩
 ·exact h.closed hv hle hr
 ·obtain ⟨b1, b2⟩ := hY y a1
  have hle' : VLe c V (seq + 1) := ⟨fun s hs => by have := hle.r s hs; omega, fun t ht => by have := hle.g t ht; omega⟩
  exact (h.add hv hle hr b1 b2).closed hv' (addY_le hle' (by omega)) hr
 ·obtain ⟨b1, b2⟩ := hY y a1
  have hso := slotOf_eq hr y
  have hx : x.q ≤ seq := by
   rcases a2 with rfl | rfl
   ·exact hle.r _ (slotOf_lt hr)
   ·show (0 : Int) ≤ seq; omega
  have hsame : (setR V (slotOf c y) x).R (slotOf c y) = x := upd_same _ _ _
  have hoth : ∀ s, s ≠ slotOf c y → (setR V (slotOf c y) x).R s = V.R s := fun s hs => upd_other _ _ hs
  have hj : Jn c (setR V (slotOf c y) x) seq := by
   refine ⟨fun n h1 h2 h3 => ?_, fun s t hs ht h1 h2 => ?_, fun s hs h1 => ?_⟩
   ·have hne : (n % c.s).toNat ≠ slotOf c y := fun e2 => by
     have h4 := mod_ne (n := n) (m := seq + 1) (k := c.s) (by omega) (by omega); have := Int.emod_nonneg n (show c.s ≠ 0 by omega); rw [← b1] at h4; omega
    rw [hoth _ hne]; exact h.a n h1 h2 h3
   ·by_cases es : s = slotOf c y
    ·subst es
     rw [hsame] at h2 ⊢
     rcases a2 with rfl | rfl
     ·exact h.b _ t hs ht h1 h2
     ·have h2 : (0 : Int) = V.G t := h2
      have h1 : 2 ≤ V.G t := h1; omega
    ·rw [hoth s es] at h2 ⊢
     exact h.b s t hs ht h1 h2
   ·by_cases es : s = slotOf c y
    ·subst es
     rw [hsame] at h1 ⊢
     rcases a2 with rfl | rfl
     ·exact h.e _ hs h1
     ·have h1 : (2 : Int) ≤ 0 := h1
      omega
    ·rw [hoth s es] at h1 ⊢
     exact h.e s hs h1
  exact hj.closed hv' (hle.setR hx) hr
end Go.Proofs.YtilljaneegbhlaaGreatDoor
