import Derived.Test.YthbpfnohbilhaaaGreatDoorZBYPure
import Derived.Test.YthbpfnohbilhaaaGreatDoorZBYMem
namespace Go.Proofs.YthbpfnohbilhaaaGreatDoor
open Go.RowKit Go.Deep Crc Dk Qk Go.Maps Hf
def lacks (q : Rk) (d : Nat) (sec : Int) (f : Fr) : Bool := !(qfound q d sec f.k f.s f.t && frEq (qgot q d sec f.k f.s f.t) f)
def ldops (q : Rk) (sec : Nat) (W : List Fr) (d j : Nat) : List Rop :=
 (List.range' j (W.length - j)).flatMap fun (i : Nat) => if lacks q d ((sec : Int) + i) (W.getD i zeroF) = true then [.w (d : Int) ((sec : Int) + i) (put (W.getD i zeroF))] else []
def lwops (q : Rk) (sec : Nat) (W : Nat → List Fr) (U : List Nat) (m : Nat) : List Rop := (U.drop m).flatMap fun (d : Nat) => ldops q sec (W d) d 0
def fillW (q : Rk) (sec : Nat) (W : Nat → List Fr) : List Rop := lwops q sec W (ups q) 0
def fillOps (q : Rk) (sec : Nat) (W : Nat → List Fr) : List Rop := if fillW q sec W = [] then [] else fillW q sec W ++ fops (ups q) 0
variable {q : Rk} {d j : Nat}
theorem ldops_yes {sec : Nat} {W : List Fr} (h : j < W.length) (hl : lacks q d ((sec : Int) + j) (W.getD j zeroF) = true) :
  ldops q sec W d j = .w (d : Int) ((sec : Int) + j) (put (W.getD j zeroF)) :: ldops q sec W d (j + 1) := by
 unfold ldops
 rw [show W.length - j = (W.length - (j + 1)) + 1 by omega, List.range'_succ, List.flatMap_cons, if_pos hl]; rfl
theorem ldops_no {sec : Nat} {W : List Fr} (h : j < W.length) (hl : lacks q d ((sec : Int) + j) (W.getD j zeroF) = false) :
  ldops q sec W d j = ldops q sec W d (j + 1) := by
 unfold ldops
 rw [show W.length - j = (W.length - (j + 1)) + 1 by omega, List.range'_succ, List.flatMap_cons, if_neg (by rw [hl]; decide)]; rfl
theorem ldops_end (q : Rk) (sec : Nat) (W : List Fr) (d : Nat) : ldops q sec W d W.length = [] := by unfold ldops; rw [Nat.sub_self]; rfl
variable {W : Nat → List Fr} {U : List Nat} {m : Nat}
theorem lwops_next {sec : Nat} (h : m < U.length) : lwops q sec W U m = ldops q sec (W (U.getD m 0)) (U.getD m 0) 0 ++ lwops q sec W U (m + 1) := by
 unfold lwops; rw [drop_at h, List.flatMap_cons]
theorem lwops_end (q : Rk) (sec : Nat) (W : Nat → List Fr) (U : List Nat) : lwops q sec W U U.length = [] := by unfold lwops; rw [List.drop_length]; rfl
variable {o : Rop}
theorem mem_ldops {sec : Nat} {W : List Fr} (h : o ∈ ldops q sec W d j) : ∃ i : Nat, j ≤ i ∧ i < W.length ∧ lacks q d ((sec : Int) + i) (W.getD i zeroF) = true ∧ o = .w (d : Int) ((sec : Int) + i) (put (W.getD i zeroF)) := by
 unfold ldops at h
 obtain ⟨i, hi, ho⟩ := List.mem_flatMap.1 h
 have hi := List.mem_range'_1.1 hi
 by_cases hl : lacks q d ((sec : Int) + i) (W.getD i zeroF) = true
 ·rw [if_pos hl] at ho
  exact ⟨i, hi.1, by omega, hl, List.mem_singleton.1 ho⟩
 ·rw [if_neg hl] at ho; cases ho
theorem mem_fillW {sec : Nat} (h : o ∈ fillW q sec W) : ∃ d i : Nat, d ∈ ups q ∧ i < (W d).length ∧ lacks q d ((sec : Int) + i) ((W d).getD i zeroF) = true ∧ o = .w (d : Int) ((sec : Int) + i) (put ((W d).getD i zeroF)) := by
 unfold fillW lwops at h
 rw [List.drop_zero] at h
 obtain ⟨d, hd, ho⟩ := List.mem_flatMap.1 h
 obtain ⟨i, _, h2, h3, h4⟩ := mem_ldops ho
 exact ⟨d, i, hd, h2, h3, h4⟩
variable {i : Nat}
theorem fillW_mem {sec : Nat} (hd : d ∈ ups q) (hi : i < (W d).length) (hl : lacks q d ((sec : Int) + i) ((W d).getD i zeroF) = true) : Rop.w (d : Int) ((sec : Int) + i) (put ((W d).getD i zeroF)) ∈ fillW q sec W := by
 unfold fillW lwops
 rw [List.drop_zero]
 refine List.mem_flatMap.2 ⟨d, hd, ?_⟩
 unfold ldops
 refine List.mem_flatMap.2 ⟨i, List.mem_range'_1.2 ⟨Nat.zero_le _, by omega⟩, ?_⟩
 rw [if_pos hl]
 exact List.mem_singleton.2 rfl
theorem mem_fillOps {sec : Nat} (h : o ∈ fillOps q sec W) : (∃ d i : Nat, d ∈ ups q ∧ i < (W d).length ∧ lacks q d ((sec : Int) + i) ((W d).getD i zeroF) = true ∧ o = .w (d : Int) ((sec : Int) + i) (put ((W d).getD i zeroF))) ∨ ∃ d : Nat, d ∈ ups q ∧ o = .f (d : Int) := by
 unfold fillOps at h
 split at h
 ·cases h
 ·rcases List.mem_append.1 h with h | h
  ·exact Or.inl (mem_fillW h)
  ·exact Or.inr (mem_fops h)
variable {A : List Rop}
theorem run_app (h : runC q A = 0) (B : List Rop) : runS q (A ++ B) = runS (runS q A) B ∧ runC q (A ++ B) = runC (runS q A) B ∧ runE q (A ++ B) = runE (runS q A) B := by
 induction A generalizing q with
 | nil => exact ⟨rfl, rfl, rfl⟩
 | cons o A ih =>
  have e : runC q (o :: A) = if o.code q = 0 then runC (o.next q) A else o.code q := rfl
  rw [e] at h
  by_cases h0 : o.code q = 0
  ·rw [if_pos h0] at h
   have e1 : ∀ M, runS q (o :: M) = runS (o.next q) M := fun M => if_pos h0
   have e2 : ∀ M, runC q (o :: M) = runC (o.next q) M := fun M => if_pos h0
   have e3 : ∀ M, runE q (o :: M) = runE (o.next q) M := fun M => if_pos h0
   rw [List.cons_append, e1, e2, e3, e1]; exact ih h
  ·rw [if_neg h0] at h; exact absurd h h0
theorem run_snoc (h : runC q A = 0) (o : Rop) (h0 : o.code (runS q A) = 0) : runC q (A ++ [o]) = 0 ∧ runS q (A ++ [o]) = o.next (runS q A) := by
 obtain ⟨e1, e2, _⟩ := run_app h [o]
 exact ⟨by rw [e2]; show (if o.code (runS q A) = 0 then _ else _) = _; rw [if_pos h0]; rfl, by rw [e1]; show (if o.code (runS q A) = 0 then _ else _) = _; rw [if_pos h0]; rfl⟩
structure SameAt (q r : Rk) (d p : Nat) : Prop where
 n : r.n = q.n
 off : r.off = q.off
 dead : (r.s d).dead = (q.s d).dead
 sn : (r.s d).n = (q.s d).n
 rd : (r.s d).read p = (q.s d).read p
theorem SameAt.refl (q : Rk) (d p : Nat) : SameAt q q d p := ⟨rfl, rfl, rfl, rfl, rfl⟩
variable {r : Rk} {p : Nat}
theorem SameAt.trans {t : Rk} (h : SameAt q r d p) (h2 : SameAt r t d p) : SameAt q t d p :=
 ⟨h2.n.trans h.n, h2.off.trans h.off, h2.dead.trans h.dead, h2.sn.trans h.sn, h2.rd.trans h.rd⟩
theorem SameAt.look (h : SameAt q r d p) (kind slot stripe : Int) : qfound r d p kind slot stripe = qfound q d p kind slot stripe ∧ qgot r d p kind slot stripe = qgot q d p kind slot stripe := by
 have a1 : r.has (d : Int) ↔ q.has (d : Int) := by unfold Rk.has; rw [h.n]
 have a2 : inN (r.s d) (p : Int) ↔ inN (q.s d) (p : Int) := by unfold inN; rw [h.sn]
 have e1 : qrcode r (d : Int) (p : Int) = qrcode q (d : Int) (p : Int) := by
  unfold qrcode rcode; simp only [Int.toNat_natCast, a1, a2, h.off, h.dead]
 have e2 : qval r (d : Int) (p : Int) = qval q (d : Int) (p : Int) := by
  unfold qval rval; simp only [Int.toNat_natCast, a1, a2, h.off, h.dead, h.rd]
 have e3 : qfound r d p kind slot stripe = qfound q d p kind slot stripe := by unfold qfound; rw [e1, e2]
 exact ⟨e3, by unfold qgot; rw [e3, e2]⟩
theorem SameAt.lacks (h : SameAt q r d p) (f : Fr) : lacks r d p f = lacks q d p f := by
 obtain ⟨e1, e2⟩ := h.look f.k f.s f.t
 show (!(_ && _)) = (!(_ && _))
 rw [e1, e2]
theorem spent_off (h : ¬ q.rem = 0) : q.spent.off = q.off := by
 unfold Rk.spent
 rw [if_neg h]
 split <;> rfl
theorem wcode_zero {i sec : Int} {n : Nat} (h : q.wcode i sec n = 0) : q.ready i = 0 ∧ q.fits sec n ∧ ¬ q.rem = 0 := by
 unfold Rk.wcode at h
 by_cases h1 : q.ready i = 0
 ·rw [if_pos h1] at h
  by_cases h2 : q.fits sec n
  ·rw [if_pos h2] at h
   exact ⟨h1, h2, fun e => by rw [if_pos e] at h; cases h⟩
  ·rw [if_neg h2] at h; cases h
 ·rw [if_neg h1] at h; exact absurd h h1
theorem read_off (s : St) {i p : Nat} (b : Sec) (h : p ≠ i) : (s.write i b).read p = s.read p := by
 show (Dk.upd s.wt i (some b) p).getD _ = _
 rw [Dk.upd_other _ _ h]; rfl
theorem read_on (s : St) (i : Nat) (b : Sec) : (s.write i b).read i = b := by
 show (Dk.upd s.wt i (some b) i).getD _ = _
 rw [Dk.upd_same]; rfl
variable {d' : Nat} {l : List UInt8}
theorem same_write {x : Int} (h : (Rop.w (d' : Int) x l).code q = 0) (hne : d' ≠ d ∨ x ≠ p) : SameAt q ((Rop.w (d' : Int) x l).next q) d p := by
 obtain ⟨h1, h2, h3⟩ := wcode_zero (show q.wcode (d' : Int) x l.length = 0 from h)
 have e : (Rop.w (d' : Int) x l).next q = q.spent.turn d' ((q.s d').write x.toNat l) := (write_goes (i := (d' : Int)) (sec := x) (l := l) h1 h2 h3).1
 rw [e]
 refine ⟨?_, ?_, ?_, ?_, ?_⟩
 ·show q.spent.n = q.n; exact spent_n q
 ·show q.spent.off = q.off; exact spent_off h3
 all_goals
  by_cases hd : d = d'
  ·subst hd
   rw [turn_at]
   first
    | rfl
    | exact read_off _ _ (fun e => by rcases hne with h | h; exact h rfl; exact h (by have := h2.1; omega))
  ·rw [turn_off _ _ hd, spent_s]
theorem same_run {d p : Nat} : ∀ (A : List Rop) (q : Rk), runC q A = 0 → (∀ o ∈ A, ∃ (d' : Nat) (x : Int) (l : List UInt8), o = .w (d' : Int) x l ∧ (d' ≠ d ∨ x ≠ p)) → SameAt q (runS q A) d p
 | [], q, _, _ => SameAt.refl q d p
 | o :: A, q, h, hA => by
  obtain ⟨d', x, l, rfl, hne⟩ := hA _ (List.mem_cons_self ..)
  have e : runC q (.w (d' : Int) x l :: A) = if (Rop.w (d' : Int) x l).code q = 0 then runC ((Rop.w (d' : Int) x l).next q) A else (Rop.w (d' : Int) x l).code q := rfl
  rw [e] at h
  by_cases h0 : (Rop.w (d' : Int) x l).code q = 0
  ·rw [if_pos h0] at h
   have e1 : runS q (.w (d' : Int) x l :: A) = runS ((Rop.w (d' : Int) x l).next q) A := if_pos h0; rw [e1]; exact (same_write h0 hne).trans (same_run A _ h fun o ho => hA o (List.mem_cons_of_mem _ ho))
  ·rw [if_neg h0] at h; exact absurd h h0
structure FillAt (q : Rk) (sec : Nat) (W : Nat → List Fr) (m j n : Nat) (r : Rk) (M : List Rop) : Prop where
 ex : ∃ A : List Rop, A ++ M = fillW q sec W ∧ A.length = n ∧ runC q A = 0 ∧ runS q A = r ∧
  ∀ o ∈ A, ∃ (d i : Nat) (l : List UInt8), o = .w (d : Int) ((sec : Int) + i) l ∧ (d ∈ (ups q).take m ∨ (d = (ups q).getD m 0 ∧ i < j))
theorem FillAt.start (q : Rk) (sec : Nat) (W : Nat → List Fr) : FillAt q sec W 0 0 0 q (lwops q sec W (ups q) 0) := ⟨[], rfl, rfl, rfl, rfl, fun o ho => by cases ho⟩
variable {M : List Rop}
theorem FillAt.congr {sec n : Nat} {M' : List Rop} (h : FillAt q sec W m j n r M) (e : M = M') : FillAt q sec W m j n r M' := by subst e; exact h
theorem FillAt.u {sec n : Nat} (h : FillAt q sec W m j n r M) : ups r = ups q := by obtain ⟨A, _, _, _, e, _⟩ := h.ex; rw [← e, runS_ups]
theorem FillAt.le {sec n : Nat} (h : FillAt q sec W m j n r M) : n + M.length = (fillW q sec W).length := by
 obtain ⟨A, e, h2, _⟩ := h.ex
 rw [← e, List.length_append, h2]
theorem take_lt (hm : m < U.length) (hn : U.Nodup) : U.getD m 0 ∉ U.take m := fun hh => by
 obtain ⟨x, hx, e⟩ := List.getElem_of_mem hh
 have hx' : x < m := by rw [List.length_take] at hx; omega
 rw [List.getElem_take] at e
 have e2 : U.getD m 0 = U[m] := by simp [List.getD, hm]
 rw [e2] at e
 exact List.pairwise_iff_getElem.1 hn x m (by omega) hm hx' e
theorem FillAt.look {sec n : Nat} (h : FillAt q sec W m j n r M) (hm : m < (ups q).length) (f : Fr) : lacks r ((ups q).getD m 0) ((sec : Int) + j) f = lacks q ((ups q).getD m 0) ((sec : Int) + j) f := by
 obtain ⟨A, _, _, h3, rfl, h5⟩ := h.ex
 have hs : SameAt q (runS q A) ((ups q).getD m 0) (sec + j) := same_run A q h3 fun o ho => by
  obtain ⟨d, i, l, rfl, hd⟩ := h5 o ho; refine ⟨d, _, l, rfl, ?_⟩
  rcases hd with hd | ⟨hd, hi⟩
  ·exact Or.inl fun e => take_lt hm (ups_nodup q) (e ▸ hd)
  ·exact Or.inr (by omega)
 have := hs.lacks f
 rw [Int.natCast_add] at this
 exact this
theorem FillAt.skip {sec n : Nat} (h : FillAt q sec W m j n r M) : FillAt q sec W m (j + 1) n r M := by
 obtain ⟨A, h1, h2, h3, h4, h5⟩ := h.ex
 refine ⟨A, h1, h2, h3, h4, fun o ho => ?_⟩
 obtain ⟨d, i, l, e, hd⟩ := h5 o ho
 exact ⟨d, i, l, e, hd.imp id fun ⟨a, b⟩ => ⟨a, by omega⟩⟩
theorem FillAt.disk {sec n : Nat} (h : FillAt q sec W m j n r M) (hm : m < (ups q).length) : FillAt q sec W (m + 1) 0 n r M := by
 obtain ⟨A, h1, h2, h3, h4, h5⟩ := h.ex
 refine ⟨A, h1, h2, h3, h4, fun o ho => ?_⟩
 obtain ⟨d, i, l, e, hd⟩ := h5 o ho
 refine ⟨d, i, l, e, Or.inl ?_⟩
 rw [take_snoc' hm]
 rcases hd with hd | ⟨hd, _⟩
 ·exact List.mem_append.2 (Or.inl hd)
 ·exact List.mem_append.2 (Or.inr (List.mem_singleton.2 hd))
theorem FillAt.wrote {sec n : Nat} (h : FillAt q sec W m j n r (.w ((ups q).getD m 0 : Nat) ((sec : Int) + j) l :: M))
  (h0 : (Rop.w ((ups q).getD m 0 : Nat) ((sec : Int) + j) l).code r = 0) : FillAt q sec W m (j + 1) (n + 1) ((Rop.w ((ups q).getD m 0 : Nat) ((sec : Int) + j) l).next r) M := by
 obtain ⟨A, h1, h2, h3, rfl, h5⟩ := h.ex
 obtain ⟨e1, e2⟩ := run_snoc h3 _ h0
 refine ⟨A ++ [.w ((ups q).getD m 0 : Nat) ((sec : Int) + j) l], by rw [List.append_assoc]; exact h1, by simp [h2], e1, e2, fun o ho => ?_⟩
 rcases List.mem_append.1 ho with ho | ho
 ·obtain ⟨d, i, l, e, hd⟩ := h5 o ho
  exact ⟨d, i, l, e, hd.imp id fun ⟨a, b⟩ => ⟨a, by omega⟩⟩
 ·exact ⟨_, j, l, List.mem_singleton.1 ho, Or.inr ⟨rfl, Nat.lt_succ_self _⟩⟩
theorem FillAt.fail {sec n : Nat} (h : FillAt q sec W m j n r (o :: M)) (h0 : o.code r ≠ 0) :
  runS q (fillOps q sec W) = o.next r ∧ runC q (fillOps q sec W) = o.code r ∧ runE q (fillOps q sec W) = o.ev r := by
 obtain ⟨A, h1, _, h3, rfl, _⟩ := h.ex
 have hne : fillW q sec W ≠ [] := by rw [← h1]; simp
 unfold fillOps
 rw [if_neg hne, ← h1, List.append_assoc]
 obtain ⟨e1, e2, e3⟩ := run_app h3 (o :: M ++ fops (ups q) 0)
 rw [e1, e2, e3]
 exact ⟨if_neg h0, if_neg h0, if_neg h0⟩
theorem FillAt.none_ {sec : Nat} (h : FillAt q sec W m j 0 r []) : fillW q sec W = [] ∧ fillOps q sec W = [] ∧ r = q := by
 obtain ⟨A, h1, h2, _, h4, _⟩ := h.ex
 have hA := List.eq_nil_of_length_eq_zero h2
 subst hA
 have e : fillW q sec W = [] := h1.symm
 exact ⟨e, if_pos e, h4.symm⟩
theorem FillAt.some_ {sec n : Nat} (h : FillAt q sec W m j n r []) (hn : n ≠ 0) :
  runS q (fillOps q sec W) = runS r (fops (ups q) 0) ∧ runC q (fillOps q sec W) = runC r (fops (ups q) 0) ∧ runE q (fillOps q sec W) = runE r (fops (ups q) 0) := by
 obtain ⟨A, h1, h2, h3, rfl, _⟩ := h.ex
 rw [List.append_nil] at h1
 subst h1
 have hne : fillW q sec W ≠ [] := fun e => hn (by rw [← h2, e]; rfl)
 unfold fillOps
 rw [if_neg hne]
 exact run_app h3 _
structure WIn (q : Rk) (sec : Nat) (W : Nat → List Fr) : Prop where
 lt : ∀ d i, d < q.n → i < (W d).length → sec + i < q.k
 is : ∀ d i, d < q.n → i < (W d).length → ((W d).getD i zeroF).is
 ok : ∀ d i, d < q.n → i < (W d).length → rightB ((W d).getD i zeroF) = true
theorem WIn.len {sec : Nat} (h : WIn q sec W) {d i : Nat} (hd : d < q.n) (hi : i < (W d).length) : (put ((W d).getD i zeroF)).length = 128 := put_len (h.is d i hd hi) (h.ok d i hd hi)
theorem fill_fit {sec : Nat} (h : WIn q sec W) : ∀ o ∈ fillOps q sec W, o.fit q.n q.k fun j => (q.s j).dead := fun o ho => by
 rcases mem_fillOps ho with ⟨d, i, hd, hi, _, rfl⟩ | ⟨d, hd, rfl⟩
 ·obtain ⟨h1, h2⟩ := mem_ups.1 hd
  exact ⟨d, sec + i, rfl, by rw [Int.natCast_add], h1, h.lt d i h1 hi, h.len h1 hi, h2⟩
 ·obtain ⟨h1, h2⟩ := mem_ups.1 hd
  exact ⟨d, rfl, h1, h2⟩
variable {f : Fr}
theorem lacks_no (h : lacks q d (p : Int) f = false) : (q.s d).read p = put f := by
 unfold lacks at h
 rw [Bool.not_eq_false', Bool.and_eq_true] at h
 obtain ⟨h1, h2⟩ := h
 have h2 := (frEq_iff _ _).1 h2
 have e : qgot q d p f.k f.s f.t = got (qval q d p) := by unfold qgot; rw [if_pos h1]
 have hf := h1
 unfold qfound at hf
 rw [Bool.and_eq_true, Bool.and_eq_true] at hf
 obtain ⟨hc, hg, _⟩ := hf
 have e2 : qval q (d : Int) (p : Int) = (q.s d).read p := by
  have hc := of_decide_eq_true hc; unfold qrcode rcode at hc; unfold qval rval; rw [Int.toNat_natCast] at hc ⊢
  by_cases a1 : q.has (d : Int)
  ·rw [if_pos a1] at hc
   cases a2 : q.off with
   | true => rw [a2, if_pos rfl] at hc; cases hc
   | false =>
    rw [a2, if_neg (by decide)] at hc
    cases a3 : (q.s d).dead with
    | true => rw [a3, if_pos rfl] at hc; cases hc
    | false =>
     rw [a3, if_neg (by decide)] at hc
     by_cases a4 : inN (q.s d) p
     ·rw [if_pos ⟨a1, rfl⟩, if_pos ⟨rfl, a4⟩, Int.toNat_natCast]
     ·rw [if_neg a4] at hc; cases hc
  ·rw [if_neg a1] at hc; cases hc
 rw [← e2, ← (good_only hg).2, ← e, h2]
theorem lacks_yes (hq : q.Ok) (hd : d < q.n) (ho : q.off = false) (hl : (q.s d).dead = false) (hp : p < q.k) (hi : f.is) (hr : rightB f = true) (h : (q.s d).read p = put f) : lacks q d (p : Int) f = false := by
 obtain ⟨e1, e2⟩ := get_put (kind := f.k) (slot := f.s) (stripe := f.t) hq hd ho hl hp h hi hr (by unfold asked; simp)
 unfold lacks
 rw [e1, e2, (frEq_iff f f).2 rfl]; rfl
theorem ons_wread {d p : Nat} {F : List UInt8} : ∀ (A : List Rop) (s : Nat → St), (∀ o ∈ A, ∃ (d' p' : Nat) (l : List UInt8), o = .w (d' : Int) (p' : Int) l ∧ (d' = d → p' = p → l = F)) →
  (ons s A d).read p = F ∨ ((ons s A d).read p = (s d).read p ∧ ∀ l, Rop.w (d : Int) (p : Int) l ∉ A)
 | [], s, _ => Or.inr ⟨rfl, fun l h => by cases h⟩
 | o :: A, s, h => by
  obtain ⟨d', p', l, rfl, hF⟩ := h _ (List.mem_cons_self ..); rw [ons_cons]
  rcases ons_wread A ((Rop.w (d' : Int) (p' : Int) l).on s) fun o ho => h o (List.mem_cons_of_mem _ ho) with h1 | ⟨h1, h2⟩
  ·exact Or.inl h1
  ·have e : (Rop.w (d' : Int) (p' : Int) l).on s = Dk.upd s d' ((s d').write p' l) := by
    show Dk.upd s (d' : Int).toNat ((s (d' : Int).toNat).write (p' : Int).toNat l) = _
    rw [Int.toNat_natCast, Int.toNat_natCast]
   rw [h1, e]
   by_cases hd : d = d'
   ·subst hd
    rw [Dk.upd_same]
    by_cases hp : p = p'
    ·subst hp
     rw [read_on]; exact Or.inl (hF rfl rfl)
    ·rw [read_off _ _ hp]
     exact Or.inr ⟨rfl, fun l' hh => by
      rcases List.mem_cons.1 hh with hh | hh
      ·injection hh with _ b _; exact hp (by omega)
      ·exact h2 l' hh⟩
   ·rw [Dk.upd_other _ _ hd]
    exact Or.inr ⟨rfl, fun l' hh => by
     rcases List.mem_cons.1 hh with hh | hh
     ·injection hh with a _ _; exact hd (by omega)
     ·exact h2 l' hh⟩
structure FillRan (c : Cf) (q : Rk) (sec : Nat) (W : Nat → List Fr) (q' : Rk) (e : Int) : Prop where
 ran : Ran c q (fillOps q sec W) q' e
 cn : ∀ d p z, Cn q' d p z → Cn q d p z ∨ ∃ i, i < (W d).length ∧ p = sec + i ∧ z = put ((W d).getD i zeroF)
 all : e = 0 → ∀ d i, d < q.n → (q.s d).dead = false → i < (W d).length → (q'.s d).read (sec + i) = put ((W d).getD i zeroF)
 qt : e = 0 → Qt q → Qt q'
 keep : e = 0 → ∀ d p, d < q.n → (∀ i, i < (W d).length → p ≠ sec + i) → (q'.s d).read p = (q.s d).read p
variable {c : Cf}
theorem fill_ran {sec : Nat} (h : On q c) (hW : WIn q sec W) : FillRan c q sec W (runS q (fillOps q sec W)) (runC q (fillOps q sec W)) := by
  have hR := ran_fit h (fill_fit hW)
  generalize runS q (fillOps q sec W) = q' at *
  generalize runC q (fillOps q sec W) = e at *
  have hA : ∀ (d p : Nat) (F : List UInt8), (∀ i, i < (W d).length → p = sec + i → put ((W d).getD i zeroF) = F) → ∀ o ∈ fillW q sec W, ∃ (d' p' : Nat) (l : List UInt8), o = .w (d' : Int) (p' : Int) l ∧ (d' = d → p' = p → l = F) := fun d p F hF o ho => by
    obtain ⟨d', i, _, hi, _, rfl⟩ := mem_fillW ho; exact ⟨d', sec + i, _, by rw [Int.natCast_add], fun e1 e2 => by subst e1; exact hF i hi e2.symm⟩
  have hfl : ∀ (s : Nat → St) (d p : Nat), (∀ d, d ∈ ups q → (s d).Ok) → (ons s (fops (ups q) 0) d).read p = (s d).read p := fun s d p hs => by
    rw [show fops (ups q) 0 = (ups q).map fun (d : Nat) => Rop.f (d : Nat) by unfold fops; rw [List.drop_zero], ons_fops _ _ (ups_nodup q)]
    by_cases hd : d ∈ ups q
    · rw [if_pos hd, St.flush_read (hs d hd)]
    · rw [if_neg hd]
  have hsk : ∀ d, d ∈ ups q → (ons q.s (fillW q sec W) d).Ok := fun d hd => by
    have hw : ∀ o ∈ fillW q sec W, o.fit q.n q.k fun j => (q.s j).dead := fun o ho => by
      obtain ⟨d', i, hd', hi, _, rfl⟩ := mem_fillW ho; obtain ⟨h1, h2⟩ := mem_ups.1 hd'; exact ⟨d', sec + i, rfl, by rw [Int.natCast_add], h1, hW.lt d' i h1 hi, hW.len h1 hi, h2⟩
    exact ((ons_cn _ _ h.sk hw).1 d (mem_ups.1 hd).1).1
  have hrd : e = 0 → ∀ d p, (q'.s d).read p = (ons q.s (fillW q sec W) d).read p := fun he d p => by
    rcases hR.out with ⟨_, _, _, hs⟩ | ⟨he', _⟩
    · rw [hs]
      unfold fillOps
      by_cases hn : fillW q sec W = []
      · rw [if_pos hn, hn]
      · rw [if_neg hn, ons_append, hfl _ d p hsk]
    · rw [he] at he'; cases he'
  refine ⟨hR, ?_, ?_, ?_, ?_⟩
  · intro d p z hz
    rcases hR.cn h (fill_fit hW) hz with h1 | h1
    · exact Or.inl h1
    · right
      rcases mem_fillOps h1 with ⟨d', i, _, hi, _, e1⟩ | ⟨d', _, e1⟩
      · injection e1 with a b l
        have : d = d' := by omega
        subst this; exact ⟨i, hi, by omega, l⟩
      · cases e1
  · intro he d i hd hl hi
    rw [hrd he]
    rcases ons_wread (d := d) (p := sec + i) (F := put ((W d).getD i zeroF)) (fillW q sec W) q.s (hA d (sec + i) _ fun j hj e => by have : i = j := by omega
                                                                                                                                    subst this; rfl) with h1 | ⟨h1, h2⟩
    · exact h1
    · rw [h1]
      cases hlk : lacks q d ((sec + i : Nat) : Int) ((W d).getD i zeroF) with
      | false => exact lacks_no hlk
      | true =>
        rw [Int.natCast_add] at hlk; have := fillW_mem (mem_ups.2 ⟨hd, hl⟩) hi hlk; rw [← Int.natCast_add] at this; exact absurd this (h2 _)
  · intro he hq d hd hl p
    rw [hR.n] at hd; rw [hR.dead] at hl
    rcases hR.out with ⟨_, _, _, hs⟩ | ⟨he', _⟩
    · rw [hs]
      unfold fillOps
      by_cases hn : fillW q sec W = []
      · rw [if_pos hn]; exact hq d hd hl p
      · rw [if_neg hn, ons_append, show fops (ups q) 0 = (ups q).map fun (d : Nat) => Rop.f (d : Nat) by unfold fops; rw [List.drop_zero], ons_fops _ _ (ups_nodup q), if_pos (mem_ups.2 ⟨hd, hl⟩)]
        exact St.flush_wt (hsk d (mem_ups.2 ⟨hd, hl⟩)) p
    · rw [he] at he'; cases he'
  · intro he d p hd hp
    rw [hrd he]
    rcases ons_wread (d := d) (p := p) (F := (q.s d).read p) (fillW q sec W) q.s (hA d p _ fun i hi e => absurd e (hp i hi)) with h1 | ⟨h1, _⟩
    · exact h1
    · exact h1
def sW (x : Rc) : Nat → List Fr := fun _ => jFl x
def tW (k : Nat) (t g : Int) (bs : List (List UInt8)) : Nat → List Fr := fun d => [tF k t g bs d]
theorem jsec_zero (c : Cf) (s i : Nat) : jsec c s 0 + i = jsec c s i := by unfold jsec; omega
variable {s : Nat}
theorem slot_win {x : Rc} (h : On q c) (hs : (s : Int) < c.s) (hx : RcIn c s x) : WIn q (jsec c s 0) (sW x) := by
 have hl : ∀ i, i < (jFl x).length → i < x.b.length ∧ (i : Int) < c.k := fun i hi => by
  rw [jFl_length] at hi; have := hx.len; have := h.right.2.2.1; exact ⟨hi, by omega⟩
 refine ⟨fun d i _ hi => ?_, fun d i _ hi => ?_, fun d i _ hi => ?_⟩
 ·rw [jsec_zero]; exact jsec_lt h.fits hs (hl i hi).2
 ·show ((jFl x).getD i zeroF).is
  rw [jFl_getD (hl i hi).1]; exact jF_is hx.is i
 ·show rightB ((jFl x).getD i zeroF) = true
  rw [jFl_getD (hl i hi).1]; exact jF_right h.right hx.q0 hx.q1 hx.t0 hx.t1 (hl i hi).2
variable {t : Nat}
theorem stripe_win {g : Int} {bs : List (List UInt8)} (h : On q c) (hx : StIn c t g bs) : WIn q (tsec c t) (tW c.k.toNat t g bs) := by
  have h8 := h.ok.n8
  refine ⟨fun d i _ hi => ?_, fun d i hd hi => ?_, fun d i hd hi => ?_⟩
  all_goals
    have hi0 : i = 0 := by have : (tW c.k.toNat t g bs d).length = 1 := rfl
                           omega
    subst hi0
  · exact tsec_lt h.fits hx.s1
  · exact tF_is _ _ _ _ _
  · exact hx.frame h.right (by omega)
variable {V : Vl} {P : Nat → Bool} {q' : Rk} {e : Int}
theorem Inv.filledS (h : Inv c V none P q) (hr : CfRight c) (hs : (s : Int) < c.s) (hran : FillRan c q (jsec c s 0) (sW (V.R s)) q' e) : Inv c V none P q' where
 v := h.v
 y := h.y
 p := fun d hp => by rw [hran.ran.n, hran.ran.dead]; exact h.p d hp
 jr := fun s' i d z hs' hi hd hl' hz => by
  rw [hran.ran.n] at hd; rw [hran.ran.dead] at hl'
  rcases hran.cn d _ z hz with h1 | ⟨j, hj, e1, e2⟩
  ·exact h.jr s' i d z hs' hi hd hl' h1
  ·have hjl : j < (V.R s).b.length := by rw [← jFl_length]; exact hj
   have hjk : (j : Int) < c.k := by have := (h.v.r s hs).len; have := hr.2.2.1; omega
   rw [jsec_zero] at e1; obtain ⟨rfl, rfl⟩ := jsec_inj hi hjk e1; refine Or.inl ⟨V.R s', Or.inl rfl, ?_⟩; rw [e2, show (sW (V.R s') d).getD i zeroF = jF (V.R s') i from jFl_getD hjl]
 tr := fun t d z ht hd hl' hz => by
  rw [hran.ran.n] at hd; rw [hran.ran.dead] at hl'
  rcases hran.cn d _ z hz with h1 | ⟨j, hj, e1, _⟩
  ·exact h.tr t d z ht hd hl' h1
  ·have hjl : j < (V.R s).b.length := by rw [← jFl_length]; exact hj
   have hjk : (j : Int) < c.k := by have := (h.v.r s hs).len; have := hr.2.2.1; omega
   rw [jsec_zero] at e1; exact absurd e1.symm (jsec_tsec hr hs hjk t)
 link := fun y hy => by cases hy
theorem Inv.filledT (h : Inv c V none P q) (hr : CfRight c) (_ht : (t : Int) < c.t) (hran : FillRan c q (tsec c t) (tW c.k.toNat t (V.G t) (V.B t)) q' e) : Inv c V none P q' where
  v := h.v
  y := h.y
  p := fun d hp => by rw [hran.ran.n, hran.ran.dead]; exact h.p d hp
  jr := fun s' i d z hs' hi hd hl' hz => by
    rw [hran.ran.n] at hd; rw [hran.ran.dead] at hl'
    rcases hran.cn d _ z hz with h1 | ⟨j, hj, e1, _⟩
    · exact h.jr s' i d z hs' hi hd hl' h1
    · have hj0 : j = 0 := by have : (tW c.k.toNat t (V.G t) (V.B t) d).length = 1 := rfl
                             omega
      subst hj0; exact absurd e1 (jsec_tsec hr hs' hi _)
  tr := fun t' d z ht' hd hl' hz => by
    rw [hran.ran.n] at hd; rw [hran.ran.dead] at hl'
    rcases hran.cn d _ z hz with h1 | ⟨j, hj, e1, e2⟩
    · exact h.tr t' d z ht' hd hl' h1
    · have hj0 : j = 0 := by have : (tW c.k.toNat t (V.G t) (V.B t) d).length = 1 := rfl
                             omega
      subst hj0; obtain rfl := tsec_inj (show tsec c t' = tsec c t from e1); exact Or.inl ⟨_, _, Or.inl ⟨rfl, rfl⟩, e2⟩
  link := fun y hy => by cases hy
variable {Q : Nat → Bool}
theorem Sup.filled {sec : Nat} (h : Sup c Q q) (h0 : 1 ≤ sec) (hran : FillRan c q sec W q' e) : Sup c Q q' :=
 h.sub hran.ran.n hran.ran.dead fun d x _ hx => by
  rcases hran.cn d 0 x hx with h1 | ⟨i, _, e1, _⟩
  ·exact h1
  ·omega
def tells (c : Cf) (q : Rk) (d : Nat) : Bool := cfHas q d && decide (cfOf q d = c)
def smops (c : Cf) (q : Rk) (U : List Nat) (m : Nat) : List Rop := (U.drop m).flatMap fun (d : Nat) => if tells c q d = true then [] else supO c d
def supW (c : Cf) (q : Rk) : List Rop := smops c q (ups q) 0
def smcnt (c : Cf) (q : Rk) (U : List Nat) (m : Nat) : Nat := ((U.drop m).filter fun d => !tells c q d).length
theorem smops_yes (h : m < U.length) (ht : tells c q (U.getD m 0) = true) : smops c q U m = smops c q U (m + 1) ∧ smcnt c q U m = smcnt c q U (m + 1) := by
 unfold smops smcnt
 rw [drop_at h, List.flatMap_cons, if_pos ht, List.filter_cons, ht]
 exact ⟨rfl, rfl⟩
theorem smops_no (h : m < U.length) (ht : tells c q (U.getD m 0) = false) : smops c q U m = supO c (U.getD m 0) ++ smops c q U (m + 1) ∧ smcnt c q U m = smcnt c q U (m + 1) + 1 := by
 unfold smops smcnt
 rw [drop_at h, List.flatMap_cons, if_neg (by rw [ht]; decide), List.filter_cons, ht]
 exact ⟨rfl, rfl⟩
theorem smops_end (c : Cf) (q : Rk) (U : List Nat) : smops c q U U.length = [] ∧ smcnt c q U U.length = 0 := by unfold smops smcnt; rw [List.drop_length]; exact ⟨rfl, rfl⟩
theorem mem_supW (h : o ∈ supW c q) : ∃ d : Nat, d ∈ ups q ∧ tells c q d = false ∧ (o = .w (d : Int) 0 (put (supF c d)) ∨ o = .f (d : Int)) := by
 unfold supW smops at h
 rw [List.drop_zero] at h
 obtain ⟨d, hd, ho⟩ := List.mem_flatMap.1 h
 cases ht : tells c q d with
 | true => rw [if_pos ht] at ho; cases ho
 | false =>
  rw [if_neg (by rw [ht]; decide)] at ho; unfold supO at ho
  rcases List.mem_cons.1 ho with rfl | ho
  ·exact ⟨d, hd, ht, Or.inl rfl⟩
  ·exact ⟨d, hd, ht, Or.inr (List.mem_singleton.1 ho)⟩
theorem fcode_zero {i : Int} (h : q.fcode i = 0) : q.ready i = 0 ∧ ¬ q.rem = 0 := by
 unfold Rk.fcode at h
 by_cases h1 : q.ready i = 0
 ·rw [if_pos h1] at h
  exact ⟨h1, fun e => by rw [if_pos e] at h; cases h⟩
 ·rw [if_neg h1] at h; exact absurd h h1
theorem same_flush (h : (Rop.f (d' : Int)).code q = 0) (hne : d' ≠ d) : SameAt q ((Rop.f (d' : Int)).next q) d p := by
 obtain ⟨h1, h3⟩ := fcode_zero (show q.fcode (d' : Int) = 0 from h)
 have e : (Rop.f (d' : Int)).next q = q.spent.turn d' (q.s d').flush := (flush_goes (i := (d' : Int)) h1 h3).1
 rw [e]
 have hd : d ≠ d' := fun e => hne e.symm
 exact ⟨spent_n q, spent_off h3, by rw [turn_off _ _ hd, spent_s], by rw [turn_off _ _ hd, spent_s], by rw [turn_off _ _ hd, spent_s]⟩
theorem same_run2 {d p : Nat} : ∀ (A : List Rop) (q : Rk), runC q A = 0 → (∀ o ∈ A, ∃ d' : Nat, d' ≠ d ∧ ((∃ (x : Int) (l : List UInt8), o = .w (d' : Int) x l) ∨ o = .f (d' : Int))) → SameAt q (runS q A) d p
 | [], q, _, _ => SameAt.refl q d p
 | o :: A, q, h, hA => by
  have e : runC q (o :: A) = if o.code q = 0 then runC (o.next q) A else o.code q := rfl
  rw [e] at h
  by_cases h0 : o.code q = 0
  ·rw [if_pos h0] at h
   have e1 : runS q (o :: A) = runS (o.next q) A := if_pos h0; rw [e1]
   have hs : SameAt q (o.next q) d p := by
    obtain ⟨d', hd, ⟨x, l, rfl⟩ | rfl⟩ := hA _ (List.mem_cons_self ..)
    ·exact same_write h0 (Or.inl hd)
    ·exact same_flush h0 hd
   exact hs.trans (same_run2 A _ h fun o ho => hA o (List.mem_cons_of_mem _ ho))
  ·rw [if_neg h0] at h; exact absurd h h0
structure MSupAt (c : Cf) (q : Rk) (m n : Nat) (r : Rk) : Prop where
 ex : ∃ A : List Rop, A ++ smops c q (ups q) m = supW c q ∧ n + smcnt c q (ups q) m = smcnt c q (ups q) 0 ∧ runC q A = 0 ∧ runS q A = r ∧
  ∀ o ∈ A, ∃ d' : Nat, d' ∈ (ups q).take m ∧ ((∃ (x : Int) (l : List UInt8), o = .w (d' : Int) x l) ∨ o = .f (d' : Int))
theorem MSupAt.start (c : Cf) (q : Rk) : MSupAt c q 0 0 q := ⟨[], rfl, by omega, rfl, rfl, fun o ho => by cases ho⟩
theorem MSupAt.n {n : Nat} (h : MSupAt c q m n r) : r.n = q.n ∧ r.k = q.k ∧ ups r = ups q := by obtain ⟨A, _, _, _, rfl, _⟩ := h.ex; exact ⟨runS_n _ _, runS_k _ _, runS_ups _ _⟩
theorem MSupAt.look {n : Nat} (h : MSupAt c q m n r) (hm : m < (ups q).length) : cfHas r ((ups q).getD m 0 : Nat) = cfHas q ((ups q).getD m 0 : Nat) ∧ cfOf r ((ups q).getD m 0 : Nat) = cfOf q ((ups q).getD m 0 : Nat) := by
 obtain ⟨A, _, _, h3, rfl, h5⟩ := h.ex
 have hs : SameAt q (runS q A) ((ups q).getD m 0) 0 := same_run2 A q h3 fun o ho => by
  obtain ⟨d, hd, h⟩ := h5 o ho; exact ⟨d, fun e => take_lt hm (ups_nodup q) (e ▸ hd), h⟩
 obtain ⟨e1, e2⟩ := hs.look 1 ((ups q).getD m 0 : Nat) 0
 have e1' : qfound (runS q A) ((ups q).getD m 0 : Nat) 0 1 ((ups q).getD m 0 : Nat) 0 = qfound q ((ups q).getD m 0 : Nat) 0 1 ((ups q).getD m 0 : Nat) 0 := e1
 have e2' : qgot (runS q A) ((ups q).getD m 0 : Nat) 0 1 ((ups q).getD m 0 : Nat) 0 = qgot q ((ups q).getD m 0 : Nat) 0 1 ((ups q).getD m 0 : Nat) 0 := e2
 have e3 : cfHas (runS q A) ((ups q).getD m 0 : Nat) = cfHas q ((ups q).getD m 0 : Nat) := by unfold cfHas; rw [e1', e2']
 exact ⟨e3, by unfold cfOf; rw [e3, e2']⟩
theorem MSupAt.skip {n : Nat} (h : MSupAt c q m n r) (hm : m < (ups q).length) (ht : tells c q ((ups q).getD m 0) = true) : MSupAt c q (m + 1) n r := by
 obtain ⟨A, h1, h2, h3, h4, h5⟩ := h.ex
 obtain ⟨e1, e2⟩ := smops_yes hm ht
 refine ⟨A, by rw [← e1]; exact h1, by rw [← e2]; exact h2, h3, h4, fun o ho => ?_⟩
 obtain ⟨d, hd, h⟩ := h5 o ho
 exact ⟨d, by rw [take_snoc' hm]; exact List.mem_append.2 (Or.inl hd), h⟩
theorem MSupAt.wrote {n : Nat} (h : MSupAt c q m n r) (hm : m < (ups q).length) (ht : tells c q ((ups q).getD m 0) = false) (h0 : runC r (supO c ((ups q).getD m 0)) = 0) : MSupAt c q (m + 1) (n + 1) (runS r (supO c ((ups q).getD m 0))) := by
 obtain ⟨A, h1, h2, h3, rfl, h5⟩ := h.ex
 obtain ⟨e1, e2⟩ := smops_no hm ht
 obtain ⟨a1, a2, _⟩ := run_app h3 (supO c ((ups q).getD m 0))
 refine ⟨A ++ supO c ((ups q).getD m 0), by rw [List.append_assoc, ← e1]; exact h1, by omega, by rw [a2]; exact h0, a1, fun o ho => ?_⟩
 rcases List.mem_append.1 ho with ho | ho
 ·obtain ⟨d, hd, h⟩ := h5 o ho
  exact ⟨d, by rw [take_snoc' hm]; exact List.mem_append.2 (Or.inl hd), h⟩
 ·refine ⟨(ups q).getD m 0, by rw [take_snoc' hm]; exact List.mem_append.2 (Or.inr (List.mem_singleton.2 rfl)), ?_⟩
  unfold supO at ho
  rcases List.mem_cons.1 ho with rfl | ho
  ·exact Or.inl ⟨_, _, rfl⟩
  ·exact Or.inr (List.mem_singleton.1 ho)
theorem runC_app {B : List Rop} (h : runC q A ≠ 0) : runS q (A ++ B) = runS q A ∧ runC q (A ++ B) = runC q A := by
 induction A generalizing q with
 | nil => exact absurd rfl h
 | cons o A ih =>
  have e1 : ∀ M, runS q (o :: M) = if o.code q = 0 then runS (o.next q) M else o.next q := fun M => rfl
  have e2 : ∀ M, runC q (o :: M) = if o.code q = 0 then runC (o.next q) M else o.code q := fun M => rfl
  rw [List.cons_append, e1, e2, e1, e2]
  by_cases h0 : o.code q = 0
  ·rw [e2, if_pos h0] at h
   rw [if_pos h0, if_pos h0, if_pos h0, if_pos h0]; exact ih h
  ·rw [if_neg h0, if_neg h0, if_neg h0, if_neg h0]; exact ⟨rfl, rfl⟩
theorem MSupAt.fail {n : Nat} (h : MSupAt c q m n r) (hm : m < (ups q).length) (ht : tells c q ((ups q).getD m 0) = false) (h0 : runC r (supO c ((ups q).getD m 0)) ≠ 0) :
  runS q (supW c q) = runS r (supO c ((ups q).getD m 0)) ∧ runC q (supW c q) = runC r (supO c ((ups q).getD m 0)) := by
 obtain ⟨A, h1, _, h3, rfl, _⟩ := h.ex
 obtain ⟨e1, _⟩ := smops_no hm ht
 rw [← h1, e1]
 obtain ⟨a1, a2, _⟩ := run_app h3 (supO c ((ups q).getD m 0) ++ smops c q (ups q) (m + 1))
 rw [a1, a2]
 exact runC_app h0
theorem MSupAt.done {n : Nat} (h : MSupAt c q (ups q).length n r) : runS q (supW c q) = r ∧ runC q (supW c q) = 0 ∧ n = smcnt c q (ups q) 0 := by
 obtain ⟨A, h1, h2, h3, h4, _⟩ := h.ex
 obtain ⟨e1, e2⟩ := smops_end c q (ups q)
 rw [e1, List.append_nil] at h1
 rw [← h1]
 exact ⟨h4, h3, by omega⟩
theorem sup_fit (hq : q.Ok) : ∀ o ∈ supW c q, o.fit q.n q.k fun j => (q.s j).dead := fun o ho => by
 obtain ⟨d, hd, _, h⟩ := mem_supW ho
 obtain ⟨h1, h2⟩ := mem_ups.1 hd
 have := hq.n8
 have := hq.k0
 rcases h with rfl | rfl
 ·exact ⟨d, 0, rfl, rfl, h1, by omega, sup_len (by omega) (by omega), h2⟩
 ·exact ⟨d, rfl, h1, h2⟩
theorem tells_read (h : tells c q d = true) : (q.s d).read 0 = put (supF c d) := by
 unfold tells at h
 rw [Bool.and_eq_true] at h
 obtain ⟨h1, h2⟩ := h
 have h2 := of_decide_eq_true h2
 have e : cfOf q d = readC (qgot q d 0 1 d 0).d := by unfold cfOf; rw [if_pos h1]
 have h3 := h1
 unfold cfHas supGood at h3
 rw [Bool.and_eq_true, Bool.and_eq_true] at h3
 obtain ⟨f1, _, f2⟩ := h3
 have f2 := (frEq_iff _ _).1 f2
 rw [← e, h2] at f2
 refine lacks_no (p := 0) ?_
 unfold lacks
 show (!(qfound q d 0 1 d 0 && frEq (qgot q d 0 1 d 0) (supF c d))) = false
 rw [f1, (frEq_iff _ _).2 f2]; rfl
theorem tells_yes (h : On q c) (hd : d < q.n) (hl : (q.s d).dead = false) (hv : (q.s d).read 0 = put (supF c d)) : tells c q d = true := by
 obtain ⟨e1, e2⟩ := has_sup h.ok hd h.off hl hv h.right
 unfold tells
 rw [e1, e2]; simp
theorem tells_bad (h : goodB ((q.s d).read 0) = false) : tells c q d = false := by
 unfold tells
 rw [no_sup (Or.inr (Or.inr (Or.inr h)))]; rfl
structure SupRan (c : Cf) (q : Rk) (q' : Rk) (e : Int) : Prop where
 ran : Ran c q (supW c q) q' e
 cn : ∀ d p z, Cn q' d p z → Cn q d p z ∨ (p = 0 ∧ z = put (supF c d))
 all : e = 0 → ∀ d, d < q.n → (q.s d).dead = false → (q'.s d).read 0 = put (supF c d)
 qt : e = 0 → Qt q → Qt q'
 keep : e = 0 → ∀ d p, d < q.n → p ≠ 0 → (q'.s d).read p = (q.s d).read p
theorem ons_sup {c : Cf} {q : Rk} : ∀ (U : List Nat) (s : Nat → St), U.Nodup → ∀ d, ons s (U.flatMap fun (d : Nat) => if tells c q d = true then [] else supO c d) d = if d ∈ U ∧ tells c q d = false then ((s d).write 0 (put (supF c d))).flush else s d
 | [], s, _, d => by simp [ons_nil]
 | u :: U, s, hU, d => by
  have hu := (List.nodup_cons.1 hU)
  rw [List.flatMap_cons, ons_append, ons_sup U _ hu.2]
  cases ht : tells c q u with
  | true =>
   rw [if_pos rfl, ons_nil]
   by_cases e : d = u
   ·subst e
    rw [if_neg (fun h => hu.1 h.1), if_neg (fun h => by rw [ht] at h; cases h.2)]
   ·by_cases h2 : d ∈ U ∧ tells c q d = false
    ·rw [if_pos h2, if_pos ⟨List.mem_cons_of_mem _ h2.1, h2.2⟩]
    ·rw [if_neg h2, if_neg (fun h => h2 ⟨(List.mem_cons.1 h.1).resolve_left e, h.2⟩)]
  | false =>
   rw [if_neg (show ¬ (false = true) by decide)]
   have e0 : ons s (supO c u) = Dk.upd s u ((s u).write 0 (put (supF c u))).flush := by
    unfold supO; rw [ons_cons, ons_cons, ons_nil]
    show Dk.upd (Dk.upd s (u : Int).toNat _) (u : Int).toNat (Dk.upd s (u : Int).toNat _ (u : Int).toNat).flush = _
    rw [Int.toNat_natCast, Dk.upd_same]
    funext x
    by_cases hx : x = u
    ·subst hx; rw [Dk.upd_same, Dk.upd_same]; rfl
    ·rw [Dk.upd_other _ _ hx, Dk.upd_other _ _ hx, Dk.upd_other _ _ hx]
   rw [e0]
   by_cases e : d = u
   ·subst e
    rw [if_neg (fun h => hu.1 h.1), if_pos ⟨List.mem_cons_self .., ht⟩, Dk.upd_same]
   ·rw [Dk.upd_other _ _ e]
    by_cases h2 : d ∈ U ∧ tells c q d = false
    ·rw [if_pos h2, if_pos ⟨List.mem_cons_of_mem _ h2.1, h2.2⟩]
    ·rw [if_neg h2, if_neg (fun h => h2 ⟨(List.mem_cons.1 h.1).resolve_left e, h.2⟩)]
theorem sup_ran (h : On q c) : SupRan c q (runS q (supW c q)) (runC q (supW c q)) := by
 have hR := ran_fit h (sup_fit (c := c) h.ok)
 generalize runS q (supW c q) = q' at *
 generalize runC q (supW c q) = e at *
 have hs : e = 0 → ∀ d, q'.s d = if d ∈ ups q ∧ tells c q d = false then ((q.s d).write 0 (put (supF c d))).flush else q.s d := fun he d => by
  rcases hR.out with ⟨_, _, _, hs⟩ | ⟨he', _⟩
  ·rw [hs]
   have := ons_sup (c := c) (q := q) (ups q) q.s (ups_nodup q) d; unfold supW smops; rw [List.drop_zero]; exact this
  ·rw [he] at he'; cases he'
 have hw : ∀ d, d ∈ ups q → ((q.s d).write 0 (put (supF c d))).Ok := fun d hd => by
  have h1 := (mem_ups.1 hd).1; have := h.ok.n8; have := h.ok.k0; have := h.ok.k d h1; exact (h.sok d h1).write (by omega) (sup_len (by omega) (by omega))
 refine ⟨hR, ?_, ?_, ?_, ?_⟩
 ·intro d p z hz
  rcases hR.cn h (sup_fit h.ok) hz with h1 | h1
  ·exact Or.inl h1
  ·obtain ⟨d', _, _, h2 | h2⟩ := mem_supW h1
   ·injection h2 with a b l
    have : d = d' := by omega
    subst this; exact Or.inr ⟨by omega, l⟩
   ·cases h2
 ·intro he d hd hl
  rw [hs he]
  cases ht : tells c q d with
  | true => rw [if_neg (fun h => by cases h.2)]; exact tells_read ht
  | false =>
   rw [if_pos ⟨mem_ups.2 ⟨hd, hl⟩, rfl⟩, St.flush_read (hw d (mem_ups.2 ⟨hd, hl⟩)), read_on]
 ·intro he hq d hd hl p
  rw [hR.n] at hd; rw [hR.dead] at hl; rw [hs he]
  split
  ·exact St.flush_wt (hw d (mem_ups.2 ⟨hd, hl⟩)) p
  ·exact hq d hd hl p
 ·intro he d p hd hp
  rw [hs he]
  split
  ·rename_i h2
   rw [St.flush_read (hw d h2.1), read_off _ _ hp]
  ·rfl
theorem Inv.sups (h : Inv c V none P q) (hran : SupRan c q q' e) : Inv c V none P q' :=
 h.sub0 hran.ran.n hran.ran.dead fun d p x _ hp hx => (hran.cn d p x hx).resolve_right fun e => hp e.1
theorem Sup.sups (h : Sup c Q q) (hran : SupRan c q q' e) : Sup c Q q' where
 p := fun d hp => by rw [hran.ran.n, hran.ran.dead]; exact h.p d hp
 s := fun d x hd hl hx => by
  rw [hran.ran.n] at hd; rw [hran.ran.dead] at hl
  rcases hran.cn d 0 x hx with h1 | ⟨_, h1⟩
  ·exact h.s d x hd hl h1
  ·exact Or.inl h1
theorem Inv.slotAny (h : Inv c V none P q) (ho : On q c) {s : Nat} (hs : (s : Int) < c.s) : jcode q c s = 6 ∨ (jcode q c s = 0 ∧ jwhole q c s = true ∧ jrecR q c s = V.R s) := by
 have hh : jhasSlot c q s = true := by unfold jhasSlot; simp [ho.fits, hs]
 have hk := ho.right.2.2.1
 rcases (h.jset ho hs).told hh hk with ⟨h1, _⟩ | ⟨h1, r0, ha, _, _, hw⟩
 ·exact Or.inl h1
 ·right
  have hr0 : r0 = V.R s := by
   rcases ha with ha | ⟨y, hy, _⟩
   ·exact ha
   ·cases hy
  subst hr0
  rcases hw with ⟨w1, w2, _⟩ | ⟨_, i, hi, hno⟩
  ·exact ⟨h1, w1, w2⟩
  ·exfalso
   have hj : jall (jl q c s) c.k.toNat := by
    unfold jcode at h1; rw [if_pos hh] at h1
    by_cases hj : jall (jl q c s) c.k.toNat
    ·exact hj
    ·rw [if_neg hj] at h1; cases h1
   have hne := hj i (by omega); obtain ⟨f, hf⟩ := List.exists_mem_of_ne_nil _ hne; obtain ⟨d, hd, hl, hf⟩ := mem_jl.1 hf
   rcases (h.jset ho hs).fr i d hi hd hl with h2 | ⟨r, hr, h2⟩
   ·rw [h2] at hf; cases hf
   ·rcases hr with rfl | ⟨y, hy, _⟩
    ·exact hno d hd hl h2
    ·cases hy
theorem Inv.slotYes (h : Inv c V none P q) (ho : On q c) {s : Nat} (hs : (s : Int) < c.s) {d : Nat} (hp : P d = true) : jcode q c s = 0 ∧ jwhole q c s = true ∧ jrecR q c s = V.R s := by
 rcases h.slotAny ho hs with h1 | h1
 ·exfalso
  have hh : jhasSlot c q s = true := by unfold jhasSlot; simp [ho.fits, hs]
  rcases (h.jset ho hs).told hh ho.right.2.2.1 with ⟨_, i, hi, hno⟩ | ⟨h2, _⟩
  ·obtain ⟨hd, hl⟩ := h.p d hp
   obtain ⟨r, _, h3⟩ := h.jp ho hs hi hp; rw [hno d hd hl] at h3; cases h3
  ·rw [h1] at h2; cases h2
 ·exact h1
def onP (q : Rk) : Nat → Bool := fun d => decide (d < q.n) && !(q.s d).dead
theorem onP_iff : onP q d = true ↔ d < q.n ∧ (q.s d).dead = false := by unfold onP; simp
def HasSup (c : Cf) (q : Rk) : Prop := ∀ d, d < q.n → (q.s d).dead = false → (q.s d).read 0 = put (supF c d)
def HasF (q : Rk) (sec : Nat) (W : Nat → List Fr) : Prop := ∀ d i, d < q.n → (q.s d).dead = false → i < (W d).length → (q.s d).read (sec + i) = put ((W d).getD i zeroF)
theorem HasF.none_ {sec : Nat} (h : HasF q sec W) (ho : On q c) (hW : WIn q sec W) : fillW q sec W = [] ∧ fillOps q sec W = [] := by
 have e : fillW q sec W = [] := by
  refine List.eq_nil_iff_forall_not_mem.2 fun o hoo => ?_
  obtain ⟨d, i, hd, hi, hl, _⟩ := mem_fillW hoo; obtain ⟨h1, h2⟩ := mem_ups.1 hd; have := lacks_yes ho.ok h1 ho.off h2 (hW.lt d i h1 hi) (hW.is d i h1 hi) (hW.ok d i h1 hi) (h d i h1 h2 hi); rw [Int.natCast_add] at this; rw [this] at hl; cases hl
 exact ⟨e, if_pos e⟩
theorem HasSup.none_ (h : HasSup c q) (ho : On q c) : supW c q = [] ∧ smcnt c q (ups q) 0 = 0 := by
 have hall : ∀ d ∈ ups q, tells c q d = true := fun d hd => by
  obtain ⟨h1, h2⟩ := mem_ups.1 hd; exact tells_yes ho h1 h2 (h d h1 h2)
 refine ⟨List.eq_nil_iff_forall_not_mem.2 fun o hoo => ?_, ?_⟩
 ·obtain ⟨d, hd, ht, _⟩ := mem_supW hoo
  rw [hall d hd] at ht; cases ht
 ·unfold smcnt
  rw [List.drop_zero, List.length_eq_zero_iff, List.filter_eq_nil_iff]; intro d hd; rw [hall d hd]; decide
theorem Inv.full (h : Inv c V none P q) (_hr : CfRight c) (hq : Qt q) (hS : ∀ s : Nat, (s : Int) < c.s → HasF q (jsec c s 0) (sW (V.R s))) (hT : ∀ t : Nat, (t : Int) < c.t → HasF q (tsec c t) (tW c.k.toNat t (V.G t) (V.B t))) : Inv c V none (onP q) q where
 v := h.v
 y := h.y
 p := fun d hd => onP_iff.1 hd
 jr := fun s i d x hs hi hd hl hx => by
  have hil : i < (V.R s).b.length := by have := (h.v.r s hs).len; omega
  have := hS s hs d i hd hl (by show i < (jFl (V.R s)).length; rw [jFl_length]; exact hil); rw [jsec_zero] at this; refine Or.inl ⟨V.R s, Or.inl rfl, ?_⟩; rw [hq.cn hd hl hx, this, show (sW (V.R s) d).getD i zeroF = jF (V.R s) i from jFl_getD hil]
 tr := fun t d x ht hd hl hx => by
  have := hT t ht d 0 hd hl (by show 0 < 1; decide); exact Or.inl ⟨V.G t, V.B t, Or.inl ⟨rfl, rfl⟩, by rw [hq.cn hd hl hx]; exact this⟩
 link := fun y hy => by cases hy
theorem Sup.full (hq : Qt q) (h : HasSup c q) : Sup c (onP q) q where
 p := fun d hd => onP_iff.1 hd
 s := fun d x hd hl hx => Or.inl (by rw [hq.cn hd hl hx]; exact h d hd hl)
theorem Inv.hasS (h : Inv c V none (onP q) q) (_hr : CfRight c) {s : Nat} (hs : (s : Int) < c.s) : HasF q (jsec c s 0) (sW (V.R s)) := fun d i hd hl hi => by
 have hil : i < (V.R s).b.length := by rw [← jFl_length]; exact hi
 have hik : (i : Int) < c.k := by have := (h.v.r s hs).len; omega
 rw [jsec_zero, show (sW (V.R s) d).getD i zeroF = jF (V.R s) i from jFl_getD hil]
 rcases h.jr s i d _ hs hik hd hl (cn_read q d _) with ⟨r, hr, e⟩ | ⟨hp, _⟩
 ·rcases hr with rfl | ⟨y, hy, _⟩
  ·exact e
  ·cases hy
 ·rw [onP_iff.2 ⟨hd, hl⟩] at hp; cases hp
theorem Inv.hasT (h : Inv c V none (onP q) q) {t : Nat} (ht : (t : Int) < c.t) : HasF q (tsec c t) (tW c.k.toNat t (V.G t) (V.B t)) := fun d i hd hl hi => by
  have hi0 : i = 0 := by have : (tW c.k.toNat t (V.G t) (V.B t) d).length = 1 := rfl
                         omega
  subst hi0
  rcases h.tr t d _ ht hd hl (cn_read q d _) with ⟨g, bs, hr, e⟩ | ⟨hp, _⟩
  · rcases hr with ⟨rfl, rfl⟩ | ⟨y, hy, _⟩
    · exact e
    · cases hy
  · rw [onP_iff.2 ⟨hd, hl⟩] at hp; cases hp
theorem Sup.has (h : Sup c (onP q) q) : HasSup c q := fun d hd hl => by
 rcases h.s d _ hd hl (cn_read q d 0) with e | ⟨hp, _⟩
 ·exact e
 ·rw [onP_iff.2 ⟨hd, hl⟩] at hp; cases hp
theorem allP_on (h : Alive q) : allP q = onP q := by
 funext d
 unfold allP onP
 by_cases hd : d < q.n
 ·rw [h d hd]; simp
 ·simp [hd]
def FillTo (q : Rk) (sec : Nat) (W : Nat → List Fr) (q' : Rk) (e : Int) (n : Nat) : Prop := q' = runS q (fillOps q sec W) ∧ e = runC q (fillOps q sec W) ∧ (e = 0 → n = (fillW q sec W).length)
def slotX (c : Cf) (q : Rk) (s : Nat) : Rc := if jwhole q c s = true then jrecR q c s else blankR c
def SlotTo (c : Cf) (q : Rk) (s : Nat) (q' : Rk) (e : Int) (n : Nat) : Prop :=
 (jcode q c s ≠ 0 ∧ q' = q ∧ e = jcode q c s ∧ n = 0) ∨ (jcode q c s = 0 ∧ FillTo q (jsec c s 0) (sW (slotX c q s)) q' e n)
def StripeTo (c : Cf) (q : Rk) (t : Nat) (q' : Rk) (e : Int) (n : Nat) : Prop :=
 (tcode q c t ≠ 0 ∧ q' = q ∧ e = tcode q c t ∧ n = 0) ∨ (tcode q c t = 0 ∧ ∃ bs, BlocksOf c.k.toNat 108 (chosen c.k.toNat (tpts q c t)) bs ∧ FillTo q (tsec c t) (tW c.k.toNat t (tnew q c t) bs) q' e n)
def SupTo (c : Cf) (q : Rk) (q' : Rk) (e : Int) (n : Nat) : Prop := q' = runS q (supW c q) ∧ e = runC q (supW c q) ∧ (e = 0 → n = smcnt c q (ups q) 0)
def groups (c : Cf) : Nat := 1 + c.s.toNat + c.t.toNat
def TickTo (c : Cf) (q : Rk) (g : Nat) (q' : Rk) (e : Int) (n : Nat) : Prop :=
 if g = 0 then SupTo c q q' e n else if g < 1 + c.s.toNat then SlotTo c q (g - 1) q' e n else StripeTo c q (g - 1 - c.s.toNat) q' e n
theorem tick_super {n : Nat} (h : SupTo c q q' e n) : TickTo c q 0 q' e n := h
theorem tick_slot {n : Nat} (hs : s < c.s.toNat) (h : SlotTo c q s q' e n) : TickTo c q (1 + s) q' e n := by
 unfold TickTo
 rw [if_neg (by omega), if_pos (by omega), show 1 + s - 1 = s by omega]; exact h
theorem tick_stripe {n : Nat} (h : StripeTo c q t q' e n) : TickTo c q (1 + c.s.toNat + t) q' e n := by
 unfold TickTo
 rw [if_neg (by omega), if_neg (by omega), show 1 + c.s.toNat + t - 1 - c.s.toNat = t by omega]; exact h
variable {g : Nat}
theorem group_cases (h : g < groups c) : g = 0 ∨ (∃ s, s < c.s.toNat ∧ g = 1 + s) ∨ ∃ t, t < c.t.toNat ∧ g = 1 + c.s.toNat + t := by
 unfold groups at h
 by_cases h0 : g = 0
 ·exact Or.inl h0
 ·by_cases h1 : g < 1 + c.s.toNat
  ·exact Or.inr (Or.inl ⟨g - 1, by omega, by omega⟩)
  ·exact Or.inr (Or.inr ⟨g - 1 - c.s.toNat, by omega, by omega⟩)
theorem tickTo_slot {n : Nat} (hs : s < c.s.toNat) (h : TickTo c q (1 + s) q' e n) : SlotTo c q s q' e n := by
 unfold TickTo at h
 rw [if_neg (by omega), if_pos (by omega), show 1 + s - 1 = s by omega] at h; exact h
theorem tickTo_stripe {n : Nat} (h : TickTo c q (1 + c.s.toNat + t) q' e n) : StripeTo c q t q' e n := by
 unfold TickTo at h
 rw [if_neg (by omega), if_neg (by omega), show 1 + c.s.toNat + t - 1 - c.s.toNat = t by omega] at h; exact h
def GF (c : Cf) (V : Vl) (g d p : Nat) (f : Fr) : Prop :=
 (g = 0 ∧ p = 0 ∧ f = supF c d) ∨ (∃ s i : Nat, g = 1 + s ∧ s < c.s.toNat ∧ (i : Int) < c.k ∧ p = jsec c s i ∧ f = jF (V.R s) i) ∨
 ∃ t : Nat, g = 1 + c.s.toNat + t ∧ t < c.t.toNat ∧ p = tsec c t ∧ f = tF c.k.toNat t (V.G t) (V.B t) d
def GSec (c : Cf) (g p : Nat) : Prop := (g = 0 ∧ p = 0) ∨ (∃ s i : Nat, g = 1 + s ∧ s < c.s.toNat ∧ (i : Int) < c.k ∧ p = jsec c s i) ∨ ∃ t : Nat, g = 1 + c.s.toNat + t ∧ t < c.t.toNat ∧ p = tsec c t
theorem GF.sec (h : GF c V g d p f) : GSec c g p := by
 rcases h with ⟨a, b, _⟩ | ⟨s, i, a, b, e, f, _⟩ | ⟨t, a, b, e, _⟩
 ·exact Or.inl ⟨a, b⟩
 ·exact Or.inr (Or.inl ⟨s, i, a, b, e, f⟩)
 ·exact Or.inr (Or.inr ⟨t, a, b, e⟩)
theorem gsec_one (hr : CfRight c) {g g' p : Nat} (h : GSec c g p) (h' : GSec c g' p) : g = g' := by
 rcases h with ⟨a, rfl⟩ | ⟨s, i, rfl, b, e, rfl⟩ | ⟨t, rfl, b, rfl⟩ <;> rcases h' with ⟨a', e'⟩ | ⟨s', i', rfl, b', e', f'⟩ | ⟨t', rfl, b', e'⟩
 ·rw [a, a']
 ·exact absurd f'.symm (jsec_pos c s' i')
 ·exact absurd e'.symm (tsec_pos c t')
 ·exact absurd e' (jsec_pos c s i)
 ·rw [(jsec_inj e e' f').1]
 ·exact absurd e' (jsec_tsec hr (by omega) e t')
 ·exact absurd e' (tsec_pos c t)
 ·exact absurd f'.symm (jsec_tsec hr (by omega) e' t)
 ·rw [tsec_inj e']
def HasG (c : Cf) (V : Vl) (q : Rk) (g : Nat) : Prop := ∀ d p f, d < q.n → (q.s d).dead = false → GF c V g d p f → (q.s d).read p = put f
theorem hasG_super : HasG c V q 0 ↔ HasSup c q := by
 constructor
 ·intro h d hd hl; exact h d 0 _ hd hl (Or.inl ⟨rfl, rfl, rfl⟩)
 ·intro h d p f hd hl hf
  rcases hf with ⟨_, rfl, rfl⟩ | ⟨s, i, a, _⟩ | ⟨t, a, _⟩
  ·exact h d hd hl
  ·omega
  ·omega
theorem hasG_slot (hv : VOk c V) (hr : CfRight c) {s : Nat} (hs : s < c.s.toNat) : HasG c V q (1 + s) ↔ HasF q (jsec c s 0) (sW (V.R s)) := by
 have hlen := (hv.r s (by omega)).len
 have := hr.2.2.1
 constructor
 ·intro h d i hd hl hi
  have hil : i < (V.R s).b.length := by rw [← jFl_length]; exact hi
  rw [jsec_zero, show (sW (V.R s) d).getD i zeroF = jF (V.R s) i from jFl_getD hil]; exact h d _ _ hd hl (Or.inr (Or.inl ⟨s, i, rfl, hs, by omega, rfl, rfl⟩))
 ·intro h d p f hd hl hf
  rcases hf with ⟨a, _⟩ | ⟨s', i, a, _, b, rfl, rfl⟩ | ⟨t, a, _⟩
  ·omega
  ·obtain rfl : s = s' := by omega
   have hil : i < (V.R s).b.length := by omega
   have := h d i hd hl (by show i < (jFl (V.R s)).length; rw [jFl_length]; exact hil); rw [jsec_zero, show (sW (V.R s) d).getD i zeroF = jF (V.R s) i from jFl_getD hil] at this; exact this
  ·omega
theorem hasG_stripe (ht : t < c.t.toNat) : HasG c V q (1 + c.s.toNat + t) ↔ HasF q (tsec c t) (tW c.k.toNat t (V.G t) (V.B t)) := by
  constructor
  · intro h d i hd hl hi
    have hi0 : i = 0 := by have : (tW c.k.toNat t (V.G t) (V.B t) d).length = 1 := rfl
                           omega
    subst hi0; exact h d _ _ hd hl (Or.inr (Or.inr ⟨t, rfl, ht, rfl, rfl⟩))
  · intro h d p f hd hl hf
    rcases hf with ⟨a, _⟩ | ⟨s', i, a, _, b, rfl, rfl⟩ | ⟨t', a, _, rfl, rfl⟩
    · omega
    · omega
    · obtain rfl : t = t' := by omega
      exact h d 0 hd hl (by show 0 < 1; decide)
structure Kept (c : Cf) (g : Nat) (q q' : Rk) : Prop where
 al : Alike0 q q'
 keep : ∀ d p, d < q.n → ¬ GSec c g p → (q'.s d).read p = (q.s d).read p
theorem Kept.has {g' : Nat} (h : Kept c g q q') (hr : CfRight c) (hne : g' ≠ g) (hh : HasG c V q g') : HasG c V q' g' := fun d p f hd hl hf => by
 rw [h.al.n] at hd
 rw [h.al.dead] at hl
 rw [h.keep d p hd fun hs => hne (gsec_one hr hf.sec hs)]
 exact hh d p f hd hl hf
structure Ticked (c : Cf) (V : Vl) (P : Nat → Bool) (seq : Int) (q : Rk) (g : Nat) (q' : Rk) (n : Nat) : Prop where
 live : Live c V P q' seq
 kept : Kept c g q q'
 free : Free q q'
 has : HasG c V q' g
 idle : HasG c V q g → n = 0 ∧ q' = q
theorem Ran.free {L : List Rop} (h : Ran c q L q' e) (he : e = 0) : Free q q' := fun hr => h.rem he hr
variable {seq : Int}
theorem Live.fill {n sec : Nat} (h : Live c V P q seq) (hW : WIn q sec W) (h1 : 1 ≤ sec) (hf : FillTo q sec W q' e n) (hinv : FillRan c q sec W q' e → Inv c V none P q')
  (hG : ∀ r, HasG c V r g ↔ HasF r sec W) (hS : ∀ d i, i < (W d).length → GSec c g (sec + i)) :
  (e = 0 ∧ Ticked c V P seq q g q' n) ∨ (e = 5 ∧ q.rem ≠ -1 ∧ q'.off = true ∧ Alike0 q q' ∧ Down c V none P q' seq) := by
 obtain ⟨rfl, rfl, hn⟩ := hf
 have hR := fill_ran h.on hW
 have hI := hinv hR
 have hSu := h.sup.filled h1 hR
 rcases hR.ran.code with he | ⟨he, ho, hb⟩
 ·left
  refine ⟨he, ⟨hI, hSu, hR.ran.on he, hR.qt he h.qt, h.le, h.s1⟩, ⟨hR.ran.alike, fun d p hd hp => hR.keep he d p hd fun i hi e => hp (by rw [e]; exact hS d i hi)⟩, hR.ran.free he, ?_, fun hh => ?_⟩
  ·refine (hG _).2 fun d i hd hl hi => ?_
   rw [hR.ran.n] at hd; rw [hR.ran.dead] at hl; exact hR.all he d i hd hl hi
  ·obtain ⟨a, b⟩ := ((hG _).1 hh).none_ h.on hW
   rw [hn he, a, b]; exact ⟨rfl, rfl⟩
 ·right
  exact ⟨he, hb, ho, hR.ran.alike, ⟨hI, hSu, hR.ran.rest, h.le, fun y hy => (by cases hy), h.s1⟩⟩
theorem Live.ticks {n : Nat} (h : Live c V P q seq) (hg : g < groups c) (ht : TickTo c q g q' e n) :
    (e = 0 ∧ Ticked c V P seq q g q' n) ∨ (e = 5 ∧ q.rem ≠ -1 ∧ q'.off = true ∧ Alike0 q q' ∧ Down c V none P q' seq) ∨
    (q' = q ∧ n = 0 ∧ ((∃ s, s < c.s.toNat ∧ g = 1 + s ∧ e = 6 ∧ jcode q c s = 6) ∨ ∃ t, t < c.t.toNat ∧ g = 1 + c.s.toNat + t ∧ (e = 6 ∨ e = 7) ∧ e = tcode q c t)) := by
  have hr := h.on.right
  rcases group_cases hg with rfl | ⟨s, hs, rfl⟩ | ⟨t, htt, rfl⟩
  · obtain ⟨rfl, rfl, hn⟩ := (show SupTo c q q' e n from ht)
    have hR := sup_ran (c := c) h.on; have hI := h.inv.sups hR; have hSu := h.sup.sups hR
    rcases hR.ran.code with he | ⟨he, ho, hb⟩
    · left
      refine ⟨he, ⟨hI, hSu, hR.ran.on he, hR.qt he h.qt, h.le, h.s1⟩, ⟨hR.ran.alike, fun d p hd hp => hR.keep he d p hd fun e => hp (Or.inl ⟨rfl, e⟩)⟩, hR.ran.free he, ?_, fun hh => ?_⟩
      · refine hasG_super.2 fun d hd hl => ?_
        rw [hR.ran.n] at hd; rw [hR.ran.dead] at hl; exact hR.all he d hd hl
      · obtain ⟨a, b⟩ := (hasG_super.1 hh).none_ h.on
        rw [hn he, a, b]; exact ⟨rfl, rfl⟩
    · right; left
      exact ⟨he, hb, ho, hR.ran.alike, ⟨hI, hSu, hR.ran.rest, h.le, fun y hy => (by cases hy), h.s1⟩⟩
  · have hs' : (s : Int) < c.s := by omega
    rcases tickTo_slot hs ht with ⟨h0, rfl, rfl, rfl⟩ | ⟨h0, hf⟩
    · right; right
      rcases h.inv.slotAny h.on hs' with h6 | ⟨h6, _⟩
      · exact ⟨rfl, rfl, Or.inl ⟨s, hs, rfl, h6, h6⟩⟩
      · exact absurd h6 h0
    · rcases h.inv.slotAny h.on hs' with h6 | ⟨_, hw, hx⟩
      · rw [h0] at h6; cases h6
      · have ex : slotX c q s = V.R s := by unfold slotX; rw [if_pos hw, hx]
        rw [ex] at hf; have hx2 := h.inv.v.r s hs'
        rcases h.fill (slot_win h.on hs' hx2) (by have := jsec_pos c s 0; omega) hf (fun hR => h.inv.filledS hr hs' hR) (fun r => hasG_slot h.inv.v hr hs) (fun d i hi => by
          have hil : i < (V.R s).b.length := by rw [← jFl_length]; exact hi
          rw [jsec_zero]
          exact Or.inr (Or.inl ⟨s, i, rfl, hs, by have := hx2.len; have := hr.2.2.1; omega, rfl⟩)) with h1 | h1
        · exact Or.inl h1
        · exact Or.inr (Or.inl h1)
  · have ht' : (t : Int) < c.t := by omega
    rcases tickTo_stripe ht with ⟨h0, rfl, rfl, rfl⟩ | ⟨h0, bs, hb, hf⟩
    · right; right
      rcases h.inv.readAny h.on ht' with ⟨h6, _⟩ | h6 | h6
      · exact absurd h6 h0
      · exact ⟨rfl, rfl, Or.inr ⟨t, htt, rfl, Or.inl h6, rfl⟩⟩
      · exact ⟨rfl, rfl, Or.inr ⟨t, htt, rfl, Or.inr h6, rfl⟩⟩
    · rcases h.inv.readAny h.on ht' with ⟨_, hG, hB⟩ | h6 | h6
      · rw [hB bs hb, hG] at hf
        rcases h.fill (stripe_win h.on (h.inv.v.g t ht')) (by have := tsec_pos c t; omega) hf (fun hR => h.inv.filledT hr ht' hR) (fun r => hasG_stripe htt) (fun d i hi => by
          have hi0 : i = 0 := by have : (tW c.k.toNat t (V.G t) (V.B t) d).length = 1 := rfl
                                 omega
          subst hi0
          exact Or.inr (Or.inr ⟨t, rfl, htt, rfl⟩)) with h1 | h1
        · exact Or.inl h1
        · exact Or.inr (Or.inl h1)
      · rw [h0] at h6; cases h6
      · rw [h0] at h6; cases h6
theorem Live.ticksY {n : Nat} (h : Live c V P q seq) (hP : Enough c P q.n) (hg : g < groups c) (ht : TickTo c q g q' e n) :
  (e = 0 ∧ Ticked c V P seq q g q' n) ∨ (e = 5 ∧ q.rem ≠ -1 ∧ q'.off = true ∧ Alike0 q q' ∧ Down c V none P q' seq) := by
 rcases h.ticks hg ht with h1 | h1 | ⟨_, _, ⟨s, hs, _, _, h6⟩ | ⟨t, htt, _, h6, e6⟩⟩
 ·exact Or.inl h1
 ·exact Or.inr h1
 ·obtain ⟨d, _, hd⟩ := hP.one h.on.right
  rw [(h.inv.slotYes h.on (by omega) hd).1] at h6; cases h6
 ·rw [(h.read hP (t := t) (by omega)).1] at e6
  rw [e6] at h6
  rcases h6 with h6 | h6 <;> cases h6
theorem Live.allHas (h : Live c V P q seq) (hh : ∀ g, g < groups c → HasG c V q g) : Live c V (onP q) q seq := by
 have hr := h.on.right
 unfold groups at hh
 exact ⟨h.inv.full hr h.qt (fun s hs => (hasG_slot h.inv.v hr (by omega)).1 (hh (1 + s) (by omega))) (fun t ht => (hasG_stripe (by omega)).1 (hh (1 + c.s.toNat + t) (by omega))), Sup.full h.qt (hasG_super.1 (hh 0 (by omega))), h.on, h.qt, h.le, h.s1⟩
theorem Live.hasAll (h : Live c V (onP q) q seq) : ∀ g, g < groups c → HasG c V q g := fun g hg => by
 have hr := h.on.right
 rcases group_cases hg with rfl | ⟨s, hs, rfl⟩ | ⟨t, ht, rfl⟩
 ·exact hasG_super.2 h.sup.has
 ·exact (hasG_slot h.inv.v hr hs).2 (h.inv.hasS hr (by omega))
 ·exact (hasG_stripe ht).2 (h.inv.hasT (by omega))
theorem sum_one (hU : U.Nodup) {d : Nat} (hd : d ∈ U) {f : Nat → List Rop} {k : Nat} (h1 : (f d).length = k) (h0 : ∀ d' ∈ U, d' ≠ d → f d' = []) : (U.flatMap f).length = k := by
 induction U with
 | nil => cases hd
 | cons u U ih =>
  rw [List.flatMap_cons, List.length_append]; have hn := List.nodup_cons.1 hU
  by_cases e : d = u
  ·subst e
   have : U.flatMap f = [] := List.flatMap_eq_nil_iff.2 fun d' hd' => h0 d' (List.mem_cons_of_mem _ hd') fun e => hn.1 (e ▸ hd')
   rw [this, h1]; rfl
  ·rw [h0 u (List.mem_cons_self ..) fun e' => e e'.symm]
   rw [ih hn.2 ((List.mem_cons.1 hd).resolve_left e) fun d' hd' => h0 d' (List.mem_cons_of_mem _ hd')]
   simp
theorem lacks_bad (h : goodB ((q.s d).read p) = false) : lacks q d (p : Int) f = true := by
 unfold lacks
 rw [get_bad (Or.inr (Or.inr h))]; rfl
theorem ldops_all {q : Rk} {sec : Nat} {W : List Fr} {d : Nat} (h : ∀ i, i < W.length → lacks q d ((sec : Int) + i) (W.getD i zeroF) = true) : ∀ k j, j + k = W.length → (ldops q sec W d j).length = k
 | 0, j, e => by
  have : j = W.length := by omega
  subst this; rw [ldops_end]; rfl
 | k + 1, j, e => by
  rw [ldops_yes (by omega) (h j (by omega)), List.length_cons, ldops_all h k (j + 1) (by omega)]
theorem fillW_one {sec : Nat} (hd : d ∈ ups q) (hz : ∀ i, i < (W d).length → goodB ((q.s d).read (sec + i)) = false)
  (ho : ∀ d' ∈ ups q, d' ≠ d → ∀ i, i < (W d').length → lacks q d' ((sec : Int) + i) ((W d').getD i zeroF) = false) : (fillW q sec W).length = (W d).length := by
 unfold fillW lwops
 rw [List.drop_zero]
 refine sum_one (ups_nodup q) hd (ldops_all (fun i hi => ?_) _ 0 (by omega)) fun d' hd' hne => ?_
 ·have := lacks_bad (f := (W d).getD i zeroF) (hz i hi)
  rw [Int.natCast_add] at this; exact this
 ·refine List.eq_nil_iff_forall_not_mem.2 fun o hoo => ?_
  obtain ⟨i, _, hi, hl, _⟩ := mem_ldops hoo; rw [ho d' hd' hne i hi] at hl; cases hl
theorem sm_one (hd : d ∈ ups q) (hz : tells c q d = false) (ho : ∀ d' ∈ ups q, d' ≠ d → tells c q d' = true) : smcnt c q (ups q) 0 = 1 := by
 unfold smcnt
 rw [List.drop_zero]
 have hn := ups_nodup q
 generalize ups q = U at *
 induction U with
 | nil => cases hd
 | cons u U ih =>
  have hn' := List.nodup_cons.1 hn; rw [List.filter_cons]
  by_cases e : d = u
  ·subst e
   rw [hz, if_pos (by decide), List.length_cons, List.length_eq_zero_iff.2]; rw [List.filter_eq_nil_iff]; intro d' hd'; rw [ho d' (List.mem_cons_of_mem _ hd') fun e => hn'.1 (e ▸ hd')]; decide
  ·rw [ho u (List.mem_cons_self ..) fun e' => e e'.symm, if_neg (by decide)]
   exact ih ((List.mem_cons.1 hd).resolve_left e) (fun d' hd' => ho d' (List.mem_cons_of_mem _ hd')) hn'.2
def gsize (c : Cf) (g : Nat) : Nat := if g = 0 then 1 else if g < 1 + c.s.toNat then c.k.toNat else 1
theorem Live.tickOne {n : Nat} (h : Live c V P q seq) (hg : g < groups c) (ht : TickTo c q g q' 0 n) (hd : d < q.n) (hl : (q.s d).dead = false)
    (hP : ∀ d', d' < q.n → d' ≠ d → (q.s d').dead = false → P d' = true) (hz : ∀ p, GSec c g p → goodB ((q.s d).read p) = false) : n = gsize c g := by
  have hr := h.on.right
  have hdu := mem_ups.2 ⟨hd, hl⟩
  have hh : ∀ d', d' ∈ ups q → d' ≠ d → d' < q.n ∧ (q.s d').dead = false ∧ P d' = true := fun d' hd' hne => by
    obtain ⟨h1, h2⟩ := mem_ups.1 hd'; exact ⟨h1, h2, hP d' h1 hne h2⟩
  rcases group_cases hg with rfl | ⟨s, hs, rfl⟩ | ⟨t, htt, rfl⟩
  · obtain ⟨_, he, hn⟩ := (show SupTo c q q' 0 n from ht)
    rw [hn rfl]
    exact sm_one hdu (tells_bad (hz 0 (Or.inl ⟨rfl, rfl⟩))) fun d' hd' hne => by
      obtain ⟨h1, h2, h3⟩ := hh d' hd' hne; refine tells_yes h.on h1 h2 ?_
      rcases h.sup.s d' _ h1 h2 (cn_read q d' 0) with e | ⟨hp, _⟩
      · exact e
      · rw [h3] at hp; cases hp
  · have hs' : (s : Int) < c.s := by omega
    have e1 : gsize c (1 + s) = c.k.toNat := by unfold gsize; rw [if_neg (by omega), if_pos (by omega)]
    rw [e1]
    rcases tickTo_slot hs ht with ⟨h0, _, he, _⟩ | ⟨h0, _, he, hn⟩
    · exact absurd he.symm h0
    · rcases h.inv.slotAny h.on hs' with h6 | ⟨_, hw, hx⟩
      · rw [h0] at h6; cases h6
      · have ex : slotX c q s = V.R s := by unfold slotX; rw [if_pos hw, hx]
        have hx2 := h.inv.v.r s hs'; have hW := slot_win h.on hs' hx2; rw [hn rfl, ex]
        have hln : (sW (V.R s) d).length = c.k.toNat := by show (jFl (V.R s)).length = _; rw [jFl_length, hx2.len]
        rw [← hln]
        refine fillW_one hdu (fun i hi => hz _ ?_) fun d' hd' hne i hi => ?_
        · rw [jsec_zero]
          exact Or.inr (Or.inl ⟨s, i, rfl, hs, by omega, rfl⟩)
        · obtain ⟨h1, h2, h3⟩ := hh d' hd' hne
          have hil : i < (V.R s).b.length := by rw [← jFl_length]; exact hi
          have hik : (i : Int) < c.k := by have := hx2.len; have := hr.2.2.1; omega
          have := lacks_yes h.on.ok h1 h.on.off h2 (hW.lt d' i h1 hi) (hW.is d' i h1 hi) (hW.ok d' i h1 hi) (by
            rw [jsec_zero, show (sW (V.R s) d').getD i zeroF = jF (V.R s) i from jFl_getD hil]
            rcases h.inv.jr s i d' _ hs' hik h1 h2 (cn_read q d' _) with ⟨r, hr, e⟩ | ⟨hp, _⟩
            · rcases hr with rfl | ⟨y, hy, _⟩
              · exact e
              · cases hy
            · rw [h3] at hp; cases hp)
          rw [Int.natCast_add] at this; exact this
  · have ht' : (t : Int) < c.t := by omega
    have e1 : gsize c (1 + c.s.toNat + t) = 1 := by unfold gsize; rw [if_neg (by omega), if_neg (by omega)]
    rw [e1]
    rcases tickTo_stripe ht with ⟨h0, _, he, _⟩ | ⟨h0, bs, hb, _, he, hn⟩
    · exact absurd he.symm h0
    · rcases h.inv.readAny h.on ht' with ⟨_, hG, hB⟩ | h6 | h6
      · rw [hn rfl, hB bs hb, hG]
        have hW := stripe_win h.on (h.inv.v.g t ht'); refine (fillW_one hdu (fun i hi => hz _ ?_) fun d' hd' hne i hi => ?_).trans rfl
        · have hi0 : i = 0 := by have : (tW c.k.toNat t (V.G t) (V.B t) d).length = 1 := rfl
                                 omega
          subst hi0; exact Or.inr (Or.inr ⟨t, rfl, htt, rfl⟩)
        · have hi0 : i = 0 := by have : (tW c.k.toNat t (V.G t) (V.B t) d').length = 1 := rfl
                                 omega
          subst hi0; obtain ⟨h1, h2, h3⟩ := hh d' hd' hne
          have := lacks_yes h.on.ok h1 h.on.off h2 (hW.lt d' 0 h1 hi) (hW.is d' 0 h1 hi) (hW.ok d' 0 h1 hi) (by
            rcases h.inv.tr t d' _ ht' h1 h2 (cn_read q d' _) with ⟨g, bs, hr, e⟩ | ⟨hp, _⟩
            · rcases hr with ⟨rfl, rfl⟩ | ⟨y, hy, _⟩
              · exact e
              · cases hy
            · rw [h3] at hp; cases hp)
          rw [Int.natCast_add] at this; exact this
      · rw [h0] at h6; cases h6
      · rw [h0] at h6; cases h6
theorem tick_idle {n : Nat} (h : Live c V P q seq) (hP : Enough c P q.n) (hr : q.rem = -1) (hh : HasG c V q g) (hg : g < groups c) (ht : TickTo c q g q' e n) : e = 0 ∧ q' = q ∧ n = 0 := by
 rcases h.ticksY hP hg ht with ⟨he, hT⟩ | ⟨_, hb, _⟩
 ·obtain ⟨a, b⟩ := hT.idle hh
  exact ⟨he, b, a⟩
 ·exact absurd hr hb
structure Rnd (c : Cf) (V : Vl) (P : Nat → Bool) (seq : Int) (d i : Nat) (q : Rk) : Prop where
 live : Live c V P q seq
 rem : q.rem = -1
 dn : d < q.n
 dl : (q.s d).dead = false
 oth : ∀ d', d' < q.n → d' ≠ d → (q.s d').dead = false → P d' = true
 has : ∀ g, g < i → HasG c V q g
 bl : ∀ g p, i ≤ g → GSec c g p → goodB ((q.s d).read p) = false
theorem Rnd.tick {n : Nat} (h : Rnd c V P seq d i q) (hP : Enough c P q.n) (hi : i < groups c) (ht : TickTo c q i q' e n) : e = 0 ∧ n = gsize c i ∧ q'.n = q.n ∧ Rnd c V P seq d (i + 1) q' := by
 have hr := h.live.on.right
 rcases h.live.ticksY hP hi ht with ⟨he, hT⟩ | ⟨_, hb, _⟩
 ·subst he
  refine ⟨rfl, h.live.tickOne hi ht h.dn h.dl h.oth (fun p hp => h.bl i p (Nat.le_refl _) hp), hT.kept.al.n, ?_⟩; refine ⟨hT.live, hT.free h.rem, by rw [hT.kept.al.n]; exact h.dn, by rw [hT.kept.al.dead]; exact h.dl, fun d' h1 h2 h3 => h.oth d' (by rw [← hT.kept.al.n]; exact h1) h2 (by rw [← hT.kept.al.dead]; exact h3), fun g hg => ?_, fun g p hg hp => ?_⟩
  ·by_cases e : g = i
   ·subst e; exact hT.has
   ·exact hT.kept.has hr e (h.has g (by omega))
  ·rw [hT.kept.keep d p h.dn fun hs => absurd (gsec_one hr hp hs) (by omega)]
   exact h.bl g p (by omega) hp
 ·exact absurd h.rem hb
theorem Live.replaced (h : Live c V (allP q) q seq) (ha : Alive q) (hr : q.rem = -1) (hd : d < q.n) : Rnd c V (PD (allP q) d) seq d 0 (Rk.dying q d false) ∧ (Rk.dying q d false).n = q.n ∧ Alive (Rk.dying q d false) := by
 obtain ⟨h1, h2, h3, h4⟩ := h.wore (d := d) (decide_eq_true hd) Wore.replace
 have e : Rk.dying q d false = q.wipe d false := if_pos (show q.has (d : Int) from ⟨by omega, by omega⟩)
 have hs : (Rk.dying q d false).s d = (q.s d).wipe false := by rw [e]; exact turn_at _ _ _
 have ho : ∀ d', d' ≠ d → (Rk.dying q d false).s d' = q.s d' := fun d' hne => by rw [e]; exact turn_off _ _ hne
 have hal : Alive (Rk.dying q d false) := fun d' hd' => by
  by_cases he : d' = d
  ·subst he; rw [hs]; exact (wipe_read _ _ 0).2.2
  ·rw [ho d' he]; exact ha d' (by rw [← h2]; exact hd')
 refine ⟨⟨h1, by rw [h4]; exact hr, by rw [h2]; exact hd, hal d (by rw [h2]; exact hd), fun d' h5 h6 _ => ?_, fun g hg => absurd hg (by omega), fun g p _ _ => ?_⟩, h2, hal⟩
 ·show (allP q d' && decide (d' ≠ d)) = true
  rw [show allP q d' = true from decide_eq_true (by rw [← h2]; exact h5), decide_eq_true h6]; rfl
 ·rw [hs, (wipe_read _ _ p).1]; exact zer_bad
theorem Rnd.done (h : Rnd c V P seq d (groups c) q) : Live c V (onP q) q seq := h.live.allHas h.has
theorem onP_dying (hd : d < q.n) : onP (Rk.dying q d true) = PD (onP q) d := by
 have e : Rk.dying q d true = q.wipe d true := if_pos (show q.has (d : Int) from ⟨by omega, by omega⟩)
 funext x
 show (decide (x < (Rk.dying q d true).n) && !((Rk.dying q d true).s x).dead) = (onP q x && decide (x ≠ d))
 rw [e]
 by_cases hx : x = d
 ·subst hx
  have : ((q.wipe x true).s x).dead = true := by show ((q.turn x _).s x).dead = true; rw [turn_at]; exact (wipe_read _ _ 0).2.2
  rw [this]; simp
 ·have : (q.wipe d true).s x = q.s x := turn_off _ _ hx
  rw [this, decide_eq_true hx, Bool.and_true]; rfl
theorem Live.dies (h : Live c V (onP q) q seq) (hd : d < q.n) (hl : (q.s d).dead = false) : Live c V (onP (Rk.dying q d true)) (Rk.dying q d true) seq ∧ (Rk.dying q d true).n = q.n ∧ (Rk.dying q d true).rem = q.rem := by
 obtain ⟨h1, h2, _, h4⟩ := h.wore (d := d) (onP_iff.2 ⟨hd, hl⟩) Wore.die
 rw [onP_dying hd]
 exact ⟨h1, h2, h4⟩
def NR (q : Rk) : Prop := ∀ d p, (q.s d).rot p = false
theorem NR.next (h : NR q) (o : Rop) : NR (o.next q) := by
 have e : q.spent.s = q.s := by
  unfold Rk.spent; split
  ·rfl
  ·split <;> rfl
 have hs : NR q.spent := fun d p => by rw [e]; exact h d p
 have ht : ∀ (i : Nat) (t : St), (∀ p, t.rot p = false) → NR (q.spent.turn i t) := fun i t ht d p => by
  show (Dk.upd q.spent.s i t d).rot p = false
  by_cases e : d = i
  ·subst e; rw [upd_same]; exact ht p
  ·rw [upd_other _ _ e]; exact hs d p
 cases o with
 | w i sec l =>
  show NR (q.write i sec l)
  unfold Rk.write
  split
  ·split
   ·exact hs
   ·exact ht _ _ (fun p => h _ p)
  ·exact h
 | f i =>
  show NR (q.flush i)
  unfold Rk.flush
  split
  ·split
   ·exact hs
   ·refine ht _ _ (fun p => ?_)
    show ((q.s i.toNat).stores (q.s i.toNat).ks).rot p = false
    rw [St.stores_rot]; split
    ·rfl
    ·exact h _ p
  ·exact h
theorem NR.run : ∀ (L : List Rop) {q : Rk}, NR q → NR (runS q L)
 | [], _, h => h
 | o :: L, q, h => by
  show NR (if o.code q = 0 then runS (o.next q) L else o.next q)
  split
  ·exact NR.run L (h.next o)
  ·exact h.next o
theorem NR.jlog (h : NR q) (c : Cf) (x : Rc) : NR (Rk.jlog q c x) := by
 unfold Rk.jlog; split
 ·exact h.run _
 ·exact h
theorem NR.jblank (h : NR q) (c : Cf) (s : Int) : NR (Rk.jblank q c s) := by
 unfold Rk.jblank; split
 ·exact h.run _
 ·exact h
theorem NR.tput (h : NR q) (c : Cf) (s g : Int) (bs : List (List UInt8)) : NR (Rk.tput q c s g bs) := by
 unfold Rk.tput; split
 ·exact h.run _
 ·exact h
theorem NR.settle {c : Cf} {q : Rk} (h : NR q) : ∀ m, NR (settleN c q m).q
 | 0 => h
 | m + 1 => by
  have ih := NR.settle (c := c) h m
  show NR (settle1 c (settleN c q m) m).q
  unfold settle1
  split
  ·split
   ·split
    ·split
     ·exact ih.jlog _ _
     ·exact ih
    ·exact ih.jblank _ _
   ·exact ih
  ·exact ih
theorem NR.replay {c : Cf} : ∀ (l : List Rc) {q : Rk}, NR q → NR (replayL c q l).1
 | [], _, h => h
 | x :: l, q, h => by
  unfold replayL
  split
  ·exact NR.replay l h
  ·split
   ·exact NR.replay l (h.tput _ _ _ _)
   ·exact h.tput _ _ _ _
theorem NR.opens {g : Int} (h : NR q) (ho : OpensTo q q' e g) : NR q' := by
 unfold OpensTo at ho
 split at ho
 ·rw [ho.1]; exact h
 ·split at ho
  ·rw [ho.1]; exact h
  ·split at ho
   ·rw [ho.1]; exact h
   ·split at ho
    ·obtain ⟨l, _, _, e, _⟩ := ho
     rw [e]; exact NR.replay _ (h.settle _)
    ·rw [ho.1]; exact h.settle _
theorem NR.vmake (h : NR q) (c : Cf) : NR (Rk.vmake q c) := by
 unfold Rk.vmake; split
 ·split
  ·exact h
  ·exact h.run _
 ·exact h
theorem nr_new (n k : Nat) : NR (newRk n k) := fun _ _ => rfl
structure LoI (c : Cf) (q : Rk) (T : Nat → Nat → Bool) : Prop where
 pl : Pl q c
 al : Alive q
 sup : HasSup c q
 sl : ∀ s : Nat, s < c.s.toNat → SlotIs q c s (blankR c)
 st : ∀ t : Nat, (t : Int) < c.t → TIs q c t 1 (zBs c) (T t)
theorem LoI.congr {T T' : Nat → Nat → Bool} (h : LoI c q T) (e : ∀ t d : Nat, (t : Int) < c.t → d < q.n → T t d = T' t d) : LoI c q T' :=
 ⟨h.pl, h.al, h.sup, h.sl, fun t ht d hd => by rw [← e t d ht hd]; exact h.st t ht d hd⟩
theorem LoI.live {T : Nat → Nat → Bool} (h : LoI c q T) : Live c (V0 c) (fun _ => false) q 1 := by
 have hr := h.pl.right
 have hq : Qt q := fun d hd _ p => h.pl.wt d p hd
 exact {
  inv := {
   v := V0_ok hr
   y := fun y e => by cases e
   p := fun d e => by cases e
   jr := fun s i d x hs hi hd hl hx => Or.inl ⟨blankR c, Or.inl rfl, by rw [hq.cn hd hl hx]; exact h.sl s (by omega) d i hd hi⟩
   tr := fun t d x ht hd hl hx => by
    rw [hq.cn hd hl hx]
    cases e : T t d with
    | true => exact Or.inl ⟨1, zBs c, Or.inl ⟨rfl, rfl⟩, ((h.st t ht d hd).1 e).2⟩
    | false =>
     refine Or.inr ⟨rfl, ?_⟩
     rcases (h.st t ht d hd).2 e with h1 | h1
     ·rw [hl] at h1; cases h1
     ·exact h1
   link := fun y e => by cases e }
  sup := ⟨fun d e => (by cases e), fun d x hd hl hx => Or.inl (by rw [hq.cn hd hl hx]; exact h.sup d hd hl)⟩
  on := h.pl.on
  qt := hq
  le := V0_le c
  s1 := Int.le_refl _ }
theorem LoI.first (h : Live c (V0 c) (allP q) q 1) (ha : Alive q) (hr : q.rem = -1) : LoI c q (fun _ _ => true) where
 pl := ⟨h.on.ok, h.on.off, hr, h.on.fits, h.on.sok, fun d p hd => h.qt d hd (ha d hd) p⟩
 al := ha
 sup := by have hs := h.sup; rw [allP_on ha] at hs; exact hs.has
 sl := fun s hs d i hd hi => by
  rcases h.inv.jr s i d _ (by omega) hi hd (ha d hd) (cn_read q d _) with ⟨r, ⟨e1⟩ | ⟨y, e1, _⟩, e2⟩ | ⟨e1, _⟩
  ·subst e1; exact e2
  ·cases e1
  ·rw [show allP q d = true from decide_eq_true hd] at e1; cases e1
 st := fun t ht d hd => ⟨fun _ => ⟨ha d hd, by
  rcases h.inv.tr t d _ ht hd (ha d hd) (cn_read q d _) with ⟨g, bs, ⟨e1, e1'⟩ | ⟨y, e1, _⟩, e2⟩ | ⟨e1, _⟩
  ·subst e1 e1'; exact e2
  ·cases e1
  ·rw [show allP q d = true from decide_eq_true hd] at e1; cases e1⟩, fun e => by cases e⟩
theorem LoI.rot {T : Nat → Nat → Bool} (h : LoI c q T) {d t : Nat} (hd : d < q.n) (ht : (t : Int) < c.t) (hT : T t d = true) (hro : (q.s d).rot (tsec c t) = false) :
  Rk.rots q (d : Int) ((tsec c t : Nat) : Int) 9 1 = true ∧ LoI c (Rk.rotten q (d : Int) ((tsec c t : Nat) : Int) 9 1) (fun t' d' => T t' d' && !(decide (t' = t) && decide (d' = d))) ∧ (Rk.rotten q (d : Int) ((tsec c t : Nat) : Int) 9 1).n = q.n ∧
  ∀ d' p', (d' ≠ d ∨ p' ≠ tsec c t) → ((Rk.rotten q (d : Int) ((tsec c t : Nat) : Int) 9 1).s d').rot p' = (q.s d').rot p' := by
 have hr := h.pl.right
 have h8 := h.pl.ok.n8
 obtain ⟨r1, r2, r3, r4, r5, r6, r7⟩ := h.pl.rot (d := d) (p := tsec c t) (a := 9) (x := 1) hd (h.al d hd) (tsec_lt h.pl.fits ht) hro (by decide) (by decide)
 replace r1 : Rk.rots q (d : Int) ((tsec c t : Nat) : Int) 9 1 = true := r1
 replace r2 : Pl (Rk.rotten q (d : Int) ((tsec c t : Nat) : Int) 9 1) c := r2
 replace r3 : (Rk.rotten q (d : Int) ((tsec c t : Nat) : Int) 9 1).n = q.n := r3
 replace r4 : ∀ d', ((Rk.rotten q (d : Int) ((tsec c t : Nat) : Int) 9 1).s d').dead = (q.s d').dead := r4
 replace r5 : ((Rk.rotten q (d : Int) ((tsec c t : Nat) : Int) 9 1).s d).read (tsec c t) = rotL ((q.s d).read (tsec c t)) 9 1 4 := r5
 replace r6 : ∀ d', d' ≠ d → (Rk.rotten q (d : Int) ((tsec c t : Nat) : Int) 9 1).s d' = q.s d' := r6
 replace r7 : ∀ p', p' ≠ tsec c t → ((Rk.rotten q (d : Int) ((tsec c t : Nat) : Int) 9 1).s d).read p' = (q.s d).read p' ∧ ((Rk.rotten q (d : Int) ((tsec c t : Nat) : Int) 9 1).s d).rot p' = (q.s d).rot p' := r7
 generalize Rk.rotten q (d : Int) ((tsec c t : Nat) : Int) 9 1 = q' at *
 have keep : ∀ d' p', (d' ≠ d ∨ p' ≠ tsec c t) → (q'.s d').read p' = (q.s d').read p' ∧ (q'.s d').rot p' = (q.s d').rot p' := fun d' p' hh => by
  by_cases e : d' = d
  ·subst e
   rcases hh with hh | hh
   ·exact absurd rfl hh
   ·exact r7 p' hh
  ·rw [r6 d' e]; exact ⟨rfl, rfl⟩
 refine ⟨r1, ⟨r2, fun d' hd' => by rw [r4]; exact h.al d' (by omega), fun d' hd' hl' => ?_, fun s hs d' i hd' hi => ?_, fun t' ht' d' hd' => ?_⟩, r3, fun d' p' hh => (keep d' p' hh).2⟩
 ·rw [(keep d' 0 (Or.inr (fun e => tsec_pos c t e.symm))).1]
  exact h.sup d' (by omega) (by rw [← r4]; exact hl')
 ·rw [(keep d' _ (Or.inr (jsec_tsec hr (s := s) (by omega) hi t))).1]
  exact h.sl s hs d' i (by omega) hi
 ·by_cases e : t' = t ∧ d' = d
  ·obtain ⟨rfl, rfl⟩ := e
   refine ⟨fun e => by simp at e, fun _ => Or.inr ?_⟩; rw [r5, ((h.st t' ht d' hd).1 hT).2]; exact rot_bad (tF_is ..) ((zBs_in ht).frame hr (by omega)) (by decide) (by decide) (by decide)
  ·have e1 : (T t' d' && !(decide (t' = t) && decide (d' = d))) = T t' d' := by
    rw [← Bool.decide_and, decide_eq_false e]; simp
   have e2 := (keep d' (tsec c t') (by
    by_cases e3 : d' = d
    ·exact Or.inr fun e4 => e ⟨tsec_inj e4, e3⟩
    ·exact Or.inl e3)).1
   have := h.st t' ht' d' (by omega); rw [e1, r4, e2]; exact this
theorem LoI.ticked {T : Nat → Nat → Bool} {n : Nat} (h : LoI c q T) (ht : Ticked c (V0 c) P 1 q g q' n) : q'.n = q.n ∧ LoI c q' (fun t d => decide (g = 1 + c.s.toNat + t) || T t d) := by
 have hr := h.pl.right
 have hn := ht.kept.al.n
 have hdead := ht.kept.al.dead
 have hal : Alive q' := fun d hd => by rw [hdead]; exact h.al d (by omega)
 have hG : ∀ g', HasG c (V0 c) q g' → HasG c (V0 c) q' g' := fun g' hh => by
  by_cases e : g' = g
  ·subst e; exact ht.has
  ·exact ht.kept.has hr e hh
 refine ⟨hn, ⟨⟨ht.live.on.ok, ht.live.on.off, ht.free h.pl.rem, ht.live.on.fits, ht.live.on.sok, fun d p hd => ht.live.qt d hd (hal d hd) p⟩, hal, hasG_super.1 (hG 0 (hasG_super.2 h.sup)), fun s hs d i hd hi => ?_, fun t htt d hd => ?_⟩⟩
 ·have hs0 : HasG c (V0 c) q (1 + s) := fun d p f hd hl hf => by
   rcases hf with ⟨e, _⟩ | ⟨s', i', e, _, hi', rfl, rfl⟩ | ⟨t', e, _⟩
   ·omega
   ·obtain rfl : s' = s := by omega
    exact h.sl s' hs d i' hd hi'
   ·omega
  exact hG _ hs0 d _ _ hd (hal d hd) (Or.inr (Or.inl ⟨s, i, rfl, hs, hi, rfl, rfl⟩))
 ·by_cases e : g = 1 + c.s.toNat + t
  ·rw [decide_eq_true e]
   refine ⟨fun _ => ⟨hal d hd, ?_⟩, fun e => by cases e⟩; exact ht.has d _ _ hd (hal d hd) (Or.inr (Or.inr ⟨t, e, by omega, rfl, rfl⟩))
  ·rw [decide_eq_false e, Bool.false_or, hdead, ht.kept.keep d (tsec c t) (by omega) (fun hs => e (gsec_one hr hs (Or.inr (Or.inr ⟨t, rfl, by omega, rfl⟩))))]
   exact h.st t htt d (by omega)
theorem count_ge (D : Nat) : ∀ N, ((List.range N).filter fun d => decide (D ≤ d)).length = N - D
 | 0 => by simp
 | N + 1 => by
  rw [List.range_succ, List.filter_append, List.length_append, count_ge D N]
  by_cases e : D ≤ N
  ·simp [e]; omega
  ·simp [e]; omega
def Lt (x D d i : Nat) : Nat → Nat → Bool := fun t e => decide (¬ ((e < d ∨ (e = d ∧ t < i)) ∧ (t = x ∨ e < D)))
def LoR (c : Cf) (q : Rk) (d i : Nat) : Prop := ∀ d' p, (d < d' ∨ (d' = d ∧ ∀ t, t < i → p ≠ tsec c t)) → (q.s d').rot p = false
variable {x D : Nat}
theorem LoI.rotNext (h : LoI c q (Lt x D d i)) (hR : LoR c q d i) (hd : d < q.n) (hi : (i : Int) < c.t) (hx : i = x ∨ d < D) :
  Rk.rots q (d : Int) ((tsec c i : Nat) : Int) 9 1 = true ∧ LoI c (Rk.rotten q (d : Int) ((tsec c i : Nat) : Int) 9 1) (Lt x D d (i + 1)) ∧ LoR c (Rk.rotten q (d : Int) ((tsec c i : Nat) : Int) 9 1) d (i + 1) ∧ (Rk.rotten q (d : Int) ((tsec c i : Nat) : Int) 9 1).n = q.n := by
 obtain ⟨r1, r2, r3, r4⟩ := h.rot hd hi (show Lt x D d i i d = true from decide_eq_true (by omega)) (hR d _ (Or.inr ⟨rfl, fun t ht e => by have := tsec_inj e; omega⟩))
 refine ⟨r1, r2.congr fun t e _ _ => ?_, fun d' p hh => ?_, r3⟩
 ·show (decide _ && !(decide _ && decide _)) = decide _
  rw [← Bool.decide_and, ← decide_not, ← Bool.decide_and]; exact decide_eq_decide.2 (by omega)
 ·rw [r4 d' p (by
   rcases hh with hh | ⟨_, hh⟩
   ·exact Or.inl (by omega)
   ·exact Or.inr (hh i (by omega)))]
  exact hR d' p (hh.imp_right fun hh => ⟨hh.1, fun t ht => hh.2 t (by omega)⟩)
theorem LoI.rotSkip (h : LoI c q (Lt x D d i)) (hR : LoR c q d i) (hx : ¬ (i = x ∨ d < D)) : LoI c q (Lt x D d (i + 1)) ∧ LoR c q d (i + 1) :=
 ⟨h.congr fun t e _ _ => decide_eq_decide.2 (by omega), fun d' p hh => hR d' p (hh.imp_right fun hh => ⟨hh.1, fun t ht => hh.2 t (by omega)⟩)⟩
theorem LoI.rotDisk (h : LoI c q (Lt x D d i)) (hR : LoR c q d i) (hi : c.t = (i : Int)) : LoI c q (Lt x D (d + 1) 0) ∧ LoR c q (d + 1) 0 :=
 ⟨h.congr fun t e ht _ => decide_eq_decide.2 (by omega), fun d' p hh => hR d' p (Or.inl (by omega))⟩
theorem LoI.tick {T : Nat → Nat → Bool} {n : Nat} (h : LoI c q T) (hkn : c.k.toNat ≤ q.n) (hg : g < groups c) (ht : TickTo c q g q' e n) :
  q'.n = q.n ∧ ((e = 0 ∧ LoI c q' (fun t d => decide (g = 1 + c.s.toNat + t) || T t d) ∧ ∀ t : Nat, g = 1 + c.s.toNat + t → c.k.toNat ≤ (tL q (T t)).length) ∨
   (e = 6 ∧ q' = q ∧ ∃ t : Nat, g = 1 + c.s.toNat + t ∧ t < c.t.toNat ∧ (tL q (T t)).length < c.k.toNat ∧ tcode q c t ≠ 0 ∧ tgetV q c t = wrapV opTGet t (lossV t ((tL q (T t)).length : Nat) c.k))) := by
 have hr := h.pl.right
 have hL := h.live
 have hw : Wl q c := ⟨h.pl.ok, h.pl.off, h.pl.rem, h.pl.fits, h.al, h.pl.sok, h.pl.wt⟩
 have hu : c.k.toNat ≤ (ups q).length := by rw [alive_ups h.al, List.length_range]; exact hkn
 rcases hL.ticks hg ht with ⟨e0, hT⟩ | ⟨_, hne, _⟩ | ⟨rfl, rfl, hlost⟩
 ·obtain ⟨h1, h2⟩ := h.ticked hT
  refine ⟨h1, Or.inl ⟨e0, h2, fun t hgt => ?_⟩⟩; subst hgt e0
  refine Nat.le_of_not_lt fun hlt => ?_
  have htt : (t : Int) < c.t := by unfold groups at hg; omega
  obtain ⟨k1, _⟩ := lost_told h.pl (zBs_in htt) (h.st t htt) hu hlt
  rcases tickTo_stripe ht with ⟨_, _, e1, _⟩ | ⟨e1, _⟩
  ·rw [k1] at e1; cases e1
  ·rw [k1] at e1; cases e1
 ·exact absurd h.pl.rem hne
 ·refine ⟨rfl, ?_⟩
  rcases hlost with ⟨s, hs, _, _, hj⟩ | ⟨t, htt, hgt, he, het⟩
  ·have := ((h.sl s hs).told hw (by omega) (blank_in hr s)).1
   rw [this] at hj; cases hj
  ·have ht4 : (t : Int) < c.t := by omega
   by_cases hlt : (tL q' (T t)).length < c.k.toNat
   ·obtain ⟨k1, k2⟩ := lost_told h.pl (zBs_in ht4) (h.st t ht4) hu hlt
    exact Or.inr ⟨het.trans k1, rfl, t, hgt, htt, hlt, by rw [k1]; decide, k2⟩
   ·have k1 := (got_told h.pl (zBs_in ht4) (h.st t ht4) (by omega)).1
    rw [k1] at het; omega
theorem LoI.look {T : Nat → Nat → Bool} (h : LoI c q T) {t : Nat} (ht : (t : Int) < c.t) : (tpts q c t).length = (tL q (T t)).length ∧ (ups q).length = q.n := by
 obtain ⟨_, e⟩ := (h.st t ht).look h.pl (zBs_in ht)
 refine ⟨by rw [e, List.length_map], by rw [alive_ups h.al, List.length_range]⟩
structure TOk (x D N i : Nat) (T : Nat → Nat → Bool) : Prop where
 lost : ∀ d, d < N → T x d = decide (D + 1 ≤ d)
 some_ : ∀ t d : Nat, t < 4 → t ≠ x → d < N → D ≤ d → T t d = true
 all : ∀ t d : Nat, t < 4 → t ≠ x → 2 + t < i → d < N → T t d = true
theorem TOk.first (x D N : Nat) : TOk x D N 0 (Lt x D (D + 1) 0) :=
 ⟨fun d _ => decide_eq_decide.2 (by omega), fun t d _ _ _ h => decide_eq_true (by omega), fun t d _ _ h => absurd h (by omega)⟩
theorem tfilter_mono {l : List Nat} {p r : Nat → Bool} (h : ∀ d ∈ l, p d = true → r d = true) : (l.filter p).length ≤ (l.filter r).length := by
 rw [← List.countP_eq_length_filter, ← List.countP_eq_length_filter]
 exact List.countP_mono_left h
variable {N : Nat}
theorem TOk.few {T : Nat → Nat → Bool} (h : TOk x D N i T) {q : Rk} (hn : q.n = N) : (tL q (T x)).length = N - (D + 1) := by
 unfold tL
 rw [hn, ← count_ge (D + 1) N]
 exact congrArg List.length (List.filter_congr fun d hd => h.lost d (List.mem_range.1 hd))
theorem TOk.many {T : Nat → Nat → Bool} (h : TOk x D N i T) {q : Rk} (hn : q.n = N) (ht : t < 4) (hx : t ≠ x) : N - D ≤ (tL q (T t)).length := by
 unfold tL
 rw [hn, ← count_ge D N]
 exact tfilter_mono fun d hd hp => h.some_ t d ht hx (List.mem_range.1 hd) (of_decide_eq_true hp)
theorem TOk.full {T : Nat → Nat → Bool} (h : TOk x D N i T) {q : Rk} (hn : q.n = N) (ht : t < 4) (hx : t ≠ x) (hi : 2 + t < i) : (tL q (T t)).length = N := by
 unfold tL
 rw [hn, List.filter_eq_self.2 fun d hd => h.all t d ht hx hi (List.mem_range.1 hd), List.length_range]
theorem LoI.step {T : Nat → Nat → Bool} {K n : Nat} (h : LoI c q T) (hT : TOk x (N - K) N i T) (hn : q.n = N) (hk : c.k = (K : Int)) (hK : 1 ≤ K ∧ K ≤ N) (hs : c.s = 1) (h4 : c.t = 4) (hx : x < 4) (ht : TickTo c q (i % 6) q' e n) :
  (e = 0 ∧ i % 6 ≠ 2 + x ∧ q'.n = N ∧ ∃ T', LoI c q' T' ∧ TOk x (N - K) N (i + 1) T') ∨
  (e = 6 ∧ i % 6 = 2 + x ∧ q' = q ∧ TOk x (N - K) N (i + 1) T ∧ tcode q c x ≠ 0 ∧ tgetV q c x = wrapV opTGet x (lossV x ((K : Int) - 1) K)) := by
 have hs' : c.s.toNat = 1 := by rw [hs]; rfl
 have hk' : c.k.toNat = K := by omega
 have hg : i % 6 < groups c := by unfold groups; rw [hs, h4]; show i % 6 < 6; omega
 obtain ⟨hn', hc⟩ := h.tick (by omega) hg ht
 have hf := hT.few hn
 rcases hc with ⟨e0, hL, hall⟩ | ⟨e6, hqq, t, hgt, htt, hlt, hc0, hv⟩
 ·have hne : i % 6 ≠ 2 + x := fun e => by
   have := hall x (by omega); omega
  refine Or.inl ⟨e0, hne, by omega, _, hL, ⟨fun d hd => ?_, fun t d h1 h2 h3 h5 => ?_, fun t d h1 h2 h3 h5 => ?_⟩⟩
  ·show (decide _ || T x d) = _
   rw [decide_eq_false (by omega), Bool.false_or]; exact hT.lost d hd
  ·show (decide _ || T t d) = _
   rw [hT.some_ t d h1 h2 h3 h5, Bool.or_true]
  ·show (decide _ || T t d) = _
   by_cases e : 2 + t < i
   ·rw [hT.all t d h1 h2 e h5, Bool.or_true]
   ·rw [decide_eq_true (by omega), Bool.true_or]
 ·have htx : t = x := by
   by_cases e : t = x
   ·exact e
   ·have := hT.many hn (t := t) (by omega) e
    omega
  subst htx; rw [hf] at hv; refine Or.inr ⟨e6, by omega, hqq, ⟨hT.lost, hT.some_, fun t' d h1 h2 h3 h5 => ?_⟩, hc0, ?_⟩
  ·exact hT.all t' d h1 h2 (by omega) h5
  ·rw [hv, hk, show ((N - (N - K + 1) : Nat) : Int) = (K : Int) - 1 by omega]
end Go.Proofs.YthbpfnohbilhaaaGreatDoor
