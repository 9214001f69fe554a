/-
  The program's disk and the reference's beside each other: each call answers alike.
-/
import Derived.Test.YtfhkccldgbgelaaDoorRRot
import Derived.Test.YtfhkccldgbgelaaDoorRNew
import Derived.Test.YtfhkccldgbgelaaDoorSameB
import Derived.Test.YtfhkccldgbgelaaDoorDCrash
import Derived.Test.YtfhkccldgbgelaaDoorDFlush
namespace Go.Proofs.YtfhkccldgbgelaaDoor
open Go.RowKit Go.Deep Dk Go.Maps
def numsV (l : List Nat) : List Value := l.map fun (i : Nat) => Value.int .i64 (i : Int)
theorem numsV_at {l : List Nat} {i : Nat} (h : i < l.length) : (numsV l)[i]? = some (.int .i64 ((l.getD i 0 : Nat) : Int)) := by simp [numsV, List.getD, h]
/-- v is a slice of the numbers l, in blocks ahead of B. -/
def SlN (B : Nat) (w : World) (v : Value) (l : List Nat) : Prop :=
  (l = [] ∧ ∃ a cap, v = .slice a 0 cap) ∨ ∃ b cap, v = .slice (some ⟨b, 0, none⟩) l.length cap ∧ b < B ∧ ∀ x, x < l.length → w.cell? ⟨b, x, none⟩ = some (.int .i64 ((l.getD x 0 : Nat) : Int))
theorem SlN.len {B : Nat} {w : World} {v : Value} {l : List Nat} (h : SlN B w v l) : ∃ a cap, v = .slice a l.length cap := by
  rcases h with ⟨rfl, a, cap, h⟩ | ⟨b, cap, h1, _⟩
  · exact ⟨a, cap, h⟩
  · exact ⟨_, cap, h1⟩
theorem SlN.below {B : Nat} {w w' : World} {v : Value} {l : List Nat} (h : SlN B w v l) (hb : Below B w w') : SlN B w' v l := by
  rcases h with h | ⟨b, cap, h1, h2, h3⟩
  · exact Or.inl h
  · exact Or.inr ⟨b, cap, h1, h2, fun x hx => by rw [hb.cell (p := ⟨b, x, none⟩) h2]; exact h3 x hx⟩
theorem SlN.num {B : Nat} {w wr : World} {v : Value} {l : List Nat} (h : SlN B w v l) (hB : B ≤ w.heap.size) (hb : Below w.heap.size w wr) {k : Nat} (hk : k < l.length) :
    ∃ b cap, v = .slice (some ⟨b, 0, none⟩) l.length cap ∧ wr.cell? ⟨b, k, none⟩ = some (.int .i64 ((l.getD k 0 : Nat) : Int)) := by
  rcases h with ⟨rfl, _⟩ | ⟨b, cap, h1, h2, h3⟩
  · simp at hk
  · exact ⟨b, cap, h1, by rw [hb.cell (by show b < _; omega)]; exact h3 k hk⟩
theorem sln_own {B n : Nat} {w : World} {v : Value} {l : List Nat} (h : w.ownsRow B 3 1 v n (numsV l)) (hn : n = l.length) : SlN w.heap.size w v l := by
  subst hn
  have hh := h
  rcases hh.2 with ⟨rfl, h0⟩ | ⟨g, cap, cur, rfl, _, hg, hle, _⟩
  · exact Or.inl ⟨List.eq_nil_of_length_eq_zero h0, ⟨_, _, rfl⟩⟩
  · exact Or.inr ⟨g, cap, rfl, (Array.getElem?_eq_some_iff.1 hg).1, fun x hx => holds_own h x _ (numsV_at hx)⟩
theorem nums_eq_getD {l m : List Nat} (hl : l.length = m.length) (h : ∀ x, x < l.length → l.getD x 0 = m.getD x 0) : l = m := by
  refine List.ext_getElem hl fun i h1 h2 => ?_
  have := h i h1
  simpa [List.getD, h1, h2] using this
def RelSN (l m : List Nat) (w : World) (c : Value) (wr : World) : Prop := ∃ k : Nat, k ≤ l.length ∧ c = .int .i64 k ∧ (∀ x, x < k → l.getD x 0 = m.getD x 0) ∧ Below w.heap.size w wr
set_option maxHeartbeats 1000000 in
theorem same_nums (B : Nat) (va vb : Value) (l m : List Nat) (w : World) (ha : SlN B w va l) (hb : SlN B w vb m) (hB : B ≤ w.heap.size) (hl : l.length ≤ 100000) :
    Calls Tryd.prog 31 #[va, vb] w (Bit (decide (l = m)) w) := by
  have HA := Lib.hid ha
  have HM := Lib.hid hb
  by_cases hlen : l.length = m.length
  · obtain ⟨a1, cap1, rfl⟩ := ha.len
    obtain ⟨a2, cap2, rfl⟩ := hb.len
    have Hlen := Lib.hid hlen
    generalize hr : decide (l = m) = r
    have Hr := Lib.hid hr
    clear ha hb hr
    rw [← hlen]
    clear hlen
    go_enter Tryd.func31, Tryd.ntmps31
    go_wp2_with fail
    go_loopw [5] (fun c wr => RelSN l m w c wr) (fun c _ => l.length - (intOf c).toNat)
    case atStart => exact ⟨0, Nat.zero_le _, rfl, fun x hx => absurd hx (by omega), Below.refl _ _⟩
    case round =>
      obtain ⟨k, hk, rfl, hno, hB1⟩ := hrel
      have Hno := Lib.hid hno
      have HB1 := Lib.hid hB1
      by_cases hlt : k < l.length
      · obtain ⟨b, cap', h1, h2⟩ := HA.out.num hB hB1 hlt
        obtain ⟨b', cap'', h3, h4⟩ := HM.out.num hB hB1 (k := k) (by have := Hlen.out; omega)
        rw [← Hlen.out] at h3
        injection h1 with h1 h1' h1''
        injection h3 with h3 h3' h3''
        subst h1 h1'' h3 h3''
        clear h1' h3' hno hB1
        by_cases he : l.getD k 0 = m.getD k 0
        · have He := Lib.hid he
          rw [← he] at h4
          clear he
          generalize hx : l.getD k 0 = x at *
          have Hx := Lib.hid hx; clear hx
          go_wp2_with fail
          go_quiet (fail)
          go_wp2_with fail
          go_roundw
          case rel =>
            refine ⟨k + 1, by omega, by go_num, fun y hy => ?_, below_drewN HB1.out _⟩
            rcases Nat.lt_or_ge y k with h | h
            · exact Hno.out y h
            · obtain rfl : y = k := by omega
              rw [Hx.out]; exact He.out
          case measure => simp [intOf]; omega
        · have hne : ((l.getD k 0 : Nat) : Int) ≠ (m.getD k 0 : Nat) := fun e => he (by omega)
          have e1 : (((l.getD k 0 : Nat) : Int) == (m.getD k 0 : Nat)) = false := by simpa using hne
          have e2 : (((l.getD k 0 : Nat) : Int) != (m.getD k 0 : Nat)) = true := by simpa using hne
          have He := Lib.hid (show ¬ l = m from fun e => he (by rw [e]))
          clear he hne
          generalize l.getD k 0 = x at *
          generalize m.getD k 0 = y at *
          go_wp2_with fail
          go_quiet (fail)
          go_wp2_with fail
          go_ret
          exact bit (by rw [← Hr.out]; simpa using He.out) (below_drewN HB1.out _)
      · obtain rfl : k = l.length := by omega
        clear hno hB1
        go_wp2_with fail
        go_ret
        exact bit (by rw [← Hr.out, decide_eq_true (nums_eq_getD Hlen.out Hno.out)]) HB1.out
  · obtain ⟨a1, cap1, rfl⟩ := ha.len
    obtain ⟨a2, cap2, rfl⟩ := hb.len
    have e2 : ((l.length : Int) != m.length) = true := by simpa using (by omega : ¬ (l.length : Int) = m.length)
    have hne : decide (l = m) = false := decide_eq_false fun e => hlen (by rw [e])
    rw [hne]
    clear ha hb hlen hne HA HM
    go_enter Tryd.func31, Tryd.ntmps31
    go_wp2_with fail
    go_ret
    exact ⟨rfl, Below.refl _ _⟩
theorem write_out {d S M B : Nat} {s : St} {w : World} {v : Value} {l : List UInt8} (h : DiskIn w d S M s) (hd : s.dead = false) (i : Int) (hv : SlB B w v l) (hno : ¬ (0 ≤ i ∧ i < s.n ∧ l.length = 128)) :
    Calls Tryd.prog 11 #[.pointer (some ⟨d, 0, none⟩), .int .i64 i, v] w (Err1 opWrite 1 i w) := by
  obtain ⟨a, cap, rfl, _⟩ := hv.len
  exact write_no w h hd i a _ cap hno
structure Pr (lo : Nat) (w : World) (d S M r A C E : Nat) (s1 s2 : St) : Prop where
  disk : DiskIn w d S M s1
  ref : RefIn w r A C E s2
  base : lo ≤ d ∧ lo ≤ S ∧ lo ≤ M ∧ lo ≤ r ∧ lo ≤ A ∧ lo ≤ C ∧ lo ≤ E
  cm : C ≠ M
  em : E ≠ M
/-- What may turn: the seven blocks, and what is new. -/
structure Step (d S M r A C E : Nat) (w w' : World) : Prop where
  os : w'.os = w.os
  tape : w'.tape = w.tape
  output : w'.output = w.output
  size : w.heap.size ≤ w'.heap.size
  block : ∀ k, k < w.heap.size → k ≠ d → k ≠ S → k ≠ M → k ≠ r → k ≠ A → k ≠ C → k ≠ E → w'.heap[k]? = w.heap[k]?
theorem Step.refl (d S M r A C E : Nat) (w : World) : Step d S M r A C E w w := ⟨rfl, rfl, rfl, Nat.le_refl _, fun _ _ _ _ _ _ _ _ _ => rfl⟩
theorem Step.trans {d S M r A C E : Nat} {w w1 w2 : World} (h : Step d S M r A C E w w1) (h2 : Step d S M r A C E w1 w2) : Step d S M r A C E w w2 :=
  ⟨h2.os.trans h.os, h2.tape.trans h.tape, h2.output.trans h.output, Nat.le_trans h.size h2.size, fun k hk a b c x y z t => (h2.block k (Nat.lt_of_lt_of_le hk h.size) a b c x y z t).trans (h.block k hk a b c x y z t)⟩
theorem Step.of_below {d S M r A C E : Nat} {w w' : World} (h : Below w.heap.size w w') : Step d S M r A C E w w' := ⟨h.os, h.tape, h.output, h.size, fun k hk _ _ _ _ _ _ _ => h.block k hk⟩
theorem Step.of_chg {d S M r A C E : Nat} {w w' : World} (h : Chg d S M w w') : Step d S M r A C E w w' := ⟨h.os, h.tape, h.output, h.size, fun k hk a b c _ _ _ _ => h.block k hk a b c⟩
theorem Step.of_rchg {d S M r A C E : Nat} {w w' : World} (h : RChg r A C E w w') : Step d S M r A C E w w' := ⟨h.os, h.tape, h.output, h.size, fun k hk _ _ _ x y z t => h.block k hk x y z t⟩
theorem Pr.below {lo : Nat} {w w' : World} {d S M r A C E : Nat} {s1 s2 : St} (h : Pr lo w d S M r A C E s1 s2) (hb : Below w.heap.size w w') : Pr lo w' d S M r A C E s1 s2 := ⟨h.disk.below hb, h.ref.below hb, h.base, h.cm, h.em⟩
theorem Pr.lower {lo : Nat} {w w' w0 : World} {d S M r A C E : Nat} {s1 s2 : St} (h : Pr lo w d S M r A C E s1 s2) (hs : Step d S M r A C E w w') (hb : Below lo w0 w) (hl : lo ≤ w.heap.size) : Below lo w0 w' := by
  obtain ⟨b1, b2, b3, b4, b5, b6, b7⟩ := h.base
  exact hb.trans ⟨hs.os, hs.tape, hs.output, hs.size, fun k hk => hs.block k (by omega) (by omega) (by omega) (by omega) (by omega) (by omega) (by omega) (by omega)⟩
theorem Pr.stepD {lo : Nat} {w w' : World} {d S M r A C E : Nat} {s1 s2 s' : St} (h : Pr lo w d S M r A C E s1 s2) (hd : DiskIn w' d S M s') (hc : Chg d S M w w') : Pr lo w' d S M r A C E s' s2 ∧ Step d S M r A C E w w' :=
  ⟨⟨hd, h.ref.chg h.disk h.cm h.em hc, h.base, h.cm, h.em⟩, Step.of_chg hc⟩
theorem Pr.stepR {lo : Nat} {w w' : World} {d S M r A C E C' E' : Nat} {s1 s2 s' : St} (h : Pr lo w d S M r A C E s1 s2) (hr : RefIn w' r A C' E' s') (hc : RChg r A C E w w') (h1 : C' = C ∨ w.heap.size ≤ C') (h2 : E' = E ∨ w.heap.size ≤ E') : Pr lo w' d S M r A C' E' s1 s' ∧ Step d S M r A C E w w' := by
  obtain ⟨b1, b2, b3, b4, b5, b6, b7⟩ := h.base
  obtain ⟨l1, l2, l3⟩ := h.disk.lt
  have hcm := h.cm
  have hem := h.em
  refine ⟨⟨h.disk.rchg h.ref h.cm h.em hc, hr, ⟨b1, b2, b3, b4, b5, ?_, ?_⟩, ?_, ?_⟩, Step.of_rchg hc⟩
  · rcases h1 with rfl | h1 <;> omega
  · rcases h2 with rfl | h2 <;> omega
  · rcases h1 with rfl | h1; exact hcm; omega
  · rcases h2 with rfl | h2; exact hem; omega
/-! ### what is answered -/
def evs (op : ByteArray) (c at_ : Int) : Value := if c = 0 then .nilIface else wrapV op at_ (errV c)
theorem kind_ev (op : ByteArray) (c at_ : Int) (w : World) (hT : Typ w) : Calls Tryd.prog 18 #[evs op c at_] w (Num c w) := by
  unfold evs
  by_cases h : c = 0
  · rw [if_pos h, h]; exact kind_nil w
  · rw [if_neg h]; exact kind_err [(op, at_)] c w _ rfl hT
def inN (s : St) (i : Int) : Prop := 0 ≤ i ∧ i < s.n
instance (s : St) (i : Int) : Decidable (inN s i) := by unfold inN; infer_instance
def wOk (s : St) (i : Int) (l : List UInt8) : Prop := s.dead = false ∧ inN s i ∧ l.length = 128
instance (s : St) (i : Int) (l : List UInt8) : Decidable (wOk s i l) := by unfold wOk; infer_instance
def wcode (s : St) (i : Int) (l : List UInt8) : Int := if s.dead = true then 5 else if wOk s i l then 0 else 1
def wnext (s : St) (i : Int) (l : List UInt8) : St := if wOk s i l then s.write i.toNat l else s
theorem pwrite_d {lo : Nat} {w : World} {d S M r A C E : Nat} {s s2 : St} (h : Pr lo w d S M r A C E s s2) (i : Int) (v : Value) (l : List UInt8) (hv : SlB w.heap.size w v l) :
    Calls Tryd.prog 11 #[.pointer (some ⟨d, 0, none⟩), .int .i64 i, v] w fun e w' => e = .returned (evs opWrite (wcode s i l) i) ∧ Pr lo w' d S M r A C E (wnext s i l) s2 ∧ Step d S M r A C E w w' := by
  unfold wcode wnext
  cases hd : s.dead with
  | true =>
    rw [if_pos rfl, if_neg (fun e => by have := e.1; rw [hd] at this; cases this)]
    refine (write_dead w h.disk hd i v).mono ?_
    rintro e w' ⟨rfl, rfl⟩
    exact ⟨rfl, h, Step.refl _ _ _ _ _ _ _ _⟩
  | false =>
    rw [if_neg (by simp)]
    by_cases hok : wOk s i l
    · rw [if_pos hok, if_pos hok]
      obtain ⟨_, ⟨i1, i2⟩, hl⟩ := hok
      obtain ⟨k, rfl⟩ := Int.eq_ofNat_of_zero_le i1
      refine (write_yes w h.disk hd k v l (by omega) hv hl).mono ?_
      rintro e w' ⟨rfl, h1, h2⟩
      exact ⟨rfl, h.stepD h1 h2⟩
    · rw [if_neg hok, if_neg hok]
      refine (write_out h.disk hd i hv (fun e => hok ⟨hd, ⟨e.1, e.2.1⟩, e.2.2⟩)).mono ?_
      rintro e w' ⟨rfl, rfl⟩
      exact ⟨rfl, h, Step.refl _ _ _ _ _ _ _ _⟩
theorem pwrite_r {lo : Nat} {w : World} {d S M r A C E : Nat} {s s1 : St} (h : Pr lo w d S M r A C E s1 s) (i : Int) (v : Value) (l : List UInt8) (hv : SlB w.heap.size w v l) :
    Calls Tryd.prog 21 #[.pointer (some ⟨r, 0, none⟩), .int .i64 i, v] w fun e w' => e = .returned (.int .i64 (wcode s i l)) ∧ Pr lo w' d S M r A C E s1 (wnext s i l) ∧ Step d S M r A C E w w' := by
  unfold wcode wnext
  cases hd : s.dead with
  | true =>
    rw [if_pos rfl, if_neg (fun e => by have := e.1; rw [hd] at this; cases this)]
    refine (rwrite_dead w h.ref hd i v).mono ?_
    rintro e w' ⟨rfl, rfl⟩
    exact ⟨rfl, h, Step.refl _ _ _ _ _ _ _ _⟩
  | false =>
    rw [if_neg (by simp)]
    by_cases hok : wOk s i l
    · rw [if_pos hok, if_pos hok]
      obtain ⟨_, ⟨i1, i2⟩, hl⟩ := hok
      obtain ⟨k, rfl⟩ := Int.eq_ofNat_of_zero_le i1
      refine (rwrite_yes w h.ref hd k v l (by omega) hv (Nat.le_refl _) hl).mono ?_
      rintro e w' ⟨rfl, h1, h2⟩
      exact ⟨rfl, h.stepR h1 h2 (Or.inl rfl) (Or.inl rfl)⟩
    · rw [if_neg hok, if_neg hok]
      obtain ⟨a, cap, rfl, _⟩ := hv.len
      refine (rwrite_no w h.ref hd i a l.length cap (fun e => hok ⟨hd, ⟨e.1, e.2.1⟩, e.2.2⟩)).mono ?_
      rintro e w' ⟨rfl, rfl⟩
      exact ⟨rfl, h, Step.refl _ _ _ _ _ _ _ _⟩
def fcode (s : St) : Int := if s.dead = true then 5 else 0
def fnext (s : St) : St := if s.dead = true then s else s.flush
theorem pflush_d {lo : Nat} {w : World} {d S M r A C E : Nat} {s s2 : St} (h : Pr lo w d S M r A C E s s2) :
    Calls Tryd.prog 23 #[.pointer (some ⟨d, 0, none⟩)] w fun e w' => e = .returned (evs opFlush (fcode s) 0) ∧ Pr lo w' d S M r A C E (fnext s) s2 ∧ Step d S M r A C E w w' := by
  unfold fcode fnext
  cases hd : s.dead with
  | true =>
    rw [if_pos rfl, if_pos rfl]
    refine (flush_dead w h.disk hd).mono ?_
    rintro e w' ⟨rfl, rfl⟩
    exact ⟨rfl, h, Step.refl _ _ _ _ _ _ _ _⟩
  | false =>
    rw [if_neg (by simp), if_neg (by simp)]
    refine (flush_yes w h.disk hd).mono ?_
    rintro e w' ⟨rfl, h1, h2⟩
    exact ⟨rfl, h.stepD h1 h2⟩
/-- The reference's maps may be new. -/
def PNew (lo d S M r A C E : Nat) (s1 s' : St) (v : Value) (w : World) (e : Ending) (w' : World) : Prop := e = .returned v ∧ ∃ C' E', Pr lo w' d S M r A C' E' s1 s' ∧ Step d S M r A C E w w'
theorem pnew {lo : Nat} {w : World} {d S M r A C E : Nat} {s1 s s' : St} {v : Value} {f : Nat} {args : Array Value} (h : Pr lo w d S M r A C E s1 s) (hc : Calls Tryd.prog f args w (RNew r A C E s' v w)) : Calls Tryd.prog f args w (PNew lo d S M r A C E s1 s' v w) := by
  refine hc.mono ?_
  rintro e w' ⟨rfl, C', E', h1, h2, h3, h4⟩
  exact ⟨rfl, C', E', h.stepR h1 h2 h3 h4⟩
theorem pflush_r {lo : Nat} {w : World} {d S M r A C E : Nat} {s s1 : St} (h : Pr lo w d S M r A C E s1 s) :
    Calls Tryd.prog 24 #[.pointer (some ⟨r, 0, none⟩)] w (PNew lo d S M r A C E s1 (fnext s) (.int .i64 (fcode s)) w) := by
  unfold fcode fnext
  cases hd : s.dead with
  | true =>
    rw [if_pos rfl, if_pos rfl]
    refine (rflush_dead w h.ref hd).mono ?_
    rintro e w' ⟨rfl, rfl⟩
    exact ⟨rfl, C, E, h, Step.refl _ _ _ _ _ _ _ _⟩
  | false =>
    rw [if_neg (by simp), if_neg (by simp)]
    exact pnew h (rflush_yes w h.ref hd)
theorem pcrash_d {lo : Nat} {w : World} {d S M r A C E : Nat} {s s2 : St} (h : Pr lo w d S M r A C E s s2) (bits : Nat) (hb : bits < 18446744073709551616) :
    Calls Tryd.prog 13 #[.pointer (some ⟨d, 0, none⟩), .int .u64 (bits : Int)] w fun e w' => e = .returned (.tuple #[]) ∧ Pr lo w' d S M r A C E (s.crash bits) s2 ∧ Step d S M r A C E w w' := by
  refine (crash_any w h.disk bits hb).mono ?_
  rintro e w' ⟨rfl, h1, h2⟩
  exact ⟨rfl, h.stepD h1 h2⟩
theorem pcrash_r {lo : Nat} {w : World} {d S M r A C E : Nat} {s s1 : St} (h : Pr lo w d S M r A C E s1 s) (bits : Nat) (hb : bits < 18446744073709551616) :
    Calls Tryd.prog 25 #[.pointer (some ⟨r, 0, none⟩), .int .u64 (bits : Int)] w (PNew lo d S M r A C E s1 (s.crash bits) (.tuple #[]) w) := pnew h (rcrash_any w h.ref bits hb)
theorem pdie_d {lo : Nat} {w : World} {d S M r A C E : Nat} {s s2 : St} (h : Pr lo w d S M r A C E s s2) :
    Calls Tryd.prog 16 #[.pointer (some ⟨d, 0, none⟩)] w fun e w' => e = .returned (.tuple #[]) ∧ Pr lo w' d S M r A C E (s.wipe true) s2 ∧ Step d S M r A C E w w' := by
  refine (die_any w h.disk).mono ?_
  rintro e w' ⟨rfl, h1, h2⟩
  exact ⟨rfl, h.stepD h1 h2⟩
theorem pdie_r {lo : Nat} {w : World} {d S M r A C E : Nat} {s s1 : St} (h : Pr lo w d S M r A C E s1 s) :
    Calls Tryd.prog 27 #[.pointer (some ⟨r, 0, none⟩)] w (PNew lo d S M r A C E s1 (s.wipe true) (.tuple #[]) w) := pnew h (rdie_any w h.ref)
theorem preplace_d {lo : Nat} {w : World} {d S M r A C E : Nat} {s s2 : St} (h : Pr lo w d S M r A C E s s2) :
    Calls Tryd.prog 28 #[.pointer (some ⟨d, 0, none⟩)] w fun e w' => e = .returned (.tuple #[]) ∧ Pr lo w' d S M r A C E (s.wipe false) s2 ∧ Step d S M r A C E w w' := by
  refine (replace_any w h.disk).mono ?_
  rintro e w' ⟨rfl, h1, h2⟩
  exact ⟨rfl, h.stepD h1 h2⟩
theorem preplace_r {lo : Nat} {w : World} {d S M r A C E : Nat} {s s1 : St} (h : Pr lo w d S M r A C E s1 s) :
    Calls Tryd.prog 29 #[.pointer (some ⟨r, 0, none⟩)] w (PNew lo d S M r A C E s1 (s.wipe false) (.tuple #[]) w) := pnew h (rreplace_any w h.ref)
instance (s : St) (i a : Int) (x : Nat) : Decidable (mayRot s i a x) := by unfold mayRot; infer_instance
def rotnext (s : St) (i a : Int) (x : Nat) : St := if mayRot s i a x then rotD s i.toNat a.toNat x else s
theorem prot_d {lo : Nat} {w : World} {d S M r A C E : Nat} {s s2 : St} (h : Pr lo w d S M r A C E s s2) (i a : Int) (x : Nat) :
    Calls Tryd.prog 15 #[.pointer (some ⟨d, 0, none⟩), .int .i64 i, .int .i64 a, .int .u32 (x : Int)] w fun e w' => e = .returned (.bool (decide (mayRot s i a x))) ∧ Pr lo w' d S M r A C E (rotnext s i a x) s2 ∧ Step d S M r A C E w w' := by
  unfold rotnext
  by_cases hok : mayRot s i a x
  · rw [if_pos hok, decide_eq_true hok]
    obtain ⟨k, rfl⟩ := Int.eq_ofNat_of_zero_le hok.2.1
    obtain ⟨b, rfl⟩ := Int.eq_ofNat_of_zero_le hok.2.2.2.1
    refine (rot_yes w h.disk k b x hok).mono ?_
    rintro e w' ⟨rfl, h1, h2⟩
    exact ⟨rfl, h.stepD h1 h2⟩
  · rw [if_neg hok, decide_eq_false hok]
    refine (rot_no w h.disk i a x hok).mono ?_
    rintro e w' ⟨rfl, rfl⟩
    exact ⟨rfl, h, Step.refl _ _ _ _ _ _ _ _⟩
theorem prot_r {lo : Nat} {w : World} {d S M r A C E : Nat} {s s1 : St} (h : Pr lo w d S M r A C E s1 s) (i a : Int) (x : Nat) :
    Calls Tryd.prog 26 #[.pointer (some ⟨r, 0, none⟩), .int .i64 i, .int .i64 a, .int .u32 (x : Int)] w fun e w' => e = .returned (.bool (decide (mayRot s i a x))) ∧ Pr lo w' d S M r A C E s1 (rotnext s i a x) ∧ Step d S M r A C E w w' := by
  unfold rotnext
  by_cases hok : mayRot s i a x
  · rw [if_pos hok, decide_eq_true hok]
    obtain ⟨k, rfl⟩ := Int.eq_ofNat_of_zero_le hok.2.1
    obtain ⟨b, rfl⟩ := Int.eq_ofNat_of_zero_le hok.2.2.2.1
    refine (rrot_yes w h.ref k b x hok).mono ?_
    rintro e w' ⟨rfl, h1, h2⟩
    exact ⟨rfl, h.stepR h1 h2 (Or.inl rfl) (Or.inl rfl)⟩
  · rw [if_neg hok, decide_eq_false hok]
    refine (rrot_no w h.ref i a x hok).mono ?_
    rintro e w' ⟨rfl, rfl⟩
    exact ⟨rfl, h, Step.refl _ _ _ _ _ _ _ _⟩
def rcode (s : St) (i : Int) : Int := if s.dead = true then 5 else if inN s i then 0 else 1
def rval (s : St) (i : Int) : List UInt8 := if s.dead = false ∧ inN s i then s.read i.toNat else []
theorem slb_nil {B : Nat} {w : World} : SlB B w (.slice none 0 0) [] := Or.inl ⟨rfl, none, 0, rfl⟩
theorem pread_d {d S M : Nat} {s : St} (w : World) (h : DiskIn w d S M s) (i : Int) :
    Calls Tryd.prog 14 #[.pointer (some ⟨d, 0, none⟩), .int .i64 i] w fun e w' => ∃ v, e = .returned (.tuple #[v, evs opRead (rcode s i) i]) ∧ SlB w'.heap.size w' v (rval s i) ∧ Below w.heap.size w w' := by
  unfold rcode rval
  cases hd : s.dead with
  | true =>
    rw [if_pos rfl, if_neg (fun e => by cases e.1)]
    refine (read_dead w h hd i).mono ?_
    rintro e w' ⟨rfl, rfl⟩
    exact ⟨_, rfl, slb_nil, Below.refl _ _⟩
  | false =>
    rw [if_neg (by simp)]
    by_cases hi : inN s i
    · rw [if_pos hi, if_pos ⟨rfl, hi⟩]
      obtain ⟨k, rfl⟩ := Int.eq_ofNat_of_zero_le hi.1
      refine (read_yes w h hd k (by have := hi.2; omega)).mono ?_
      rintro e w' ⟨v, rfl, h1, h2⟩
      exact ⟨v, rfl, h1.slb, h2⟩
    · rw [if_neg hi, if_neg (fun e => hi e.2)]
      refine (read_no w h hd i hi).mono ?_
      rintro e w' ⟨rfl, rfl⟩
      exact ⟨_, rfl, slb_nil, Below.refl _ _⟩
theorem pread_r {r A C E : Nat} {s : St} (w : World) (h : RefIn w r A C E s) (i : Int) :
    Calls Tryd.prog 30 #[.pointer (some ⟨r, 0, none⟩), .int .i64 i] w fun e w' => ∃ v, e = .returned (.tuple #[v, .int .i64 (rcode s i)]) ∧ SlB w'.heap.size w' v (rval s i) ∧ Below w.heap.size w w' := by
  unfold rcode rval
  cases hd : s.dead with
  | true =>
    rw [if_pos rfl, if_neg (fun e => by cases e.1)]
    refine (rread_dead w h hd i).mono ?_
    rintro e w' ⟨rfl, rfl⟩
    exact ⟨_, rfl, slb_nil, Below.refl _ _⟩
  | false =>
    rw [if_neg (by simp)]
    by_cases hi : inN s i
    · rw [if_pos hi, if_pos ⟨rfl, hi⟩]
      obtain ⟨k, rfl⟩ := Int.eq_ofNat_of_zero_le hi.1
      refine (rread_yes w h hd k (by have := hi.2; omega)).mono ?_
      rintro e w' ⟨v, rfl, h1, h2⟩
      exact ⟨v, rfl, h1, h2⟩
    · rw [if_neg hi, if_neg (fun e => hi e.2)]
      refine (rread_no w h hd i hi).mono ?_
      rintro e w' ⟨rfl, rfl⟩
      exact ⟨_, rfl, slb_nil, Below.refl _ _⟩
theorem rval_length {s : St} (h : s.Ok) (i : Int) : (rval s i).length ≤ 128 := by
  unfold rval
  split
  · rw [h.read]; exact Nat.le_refl _
  · simp
set_option maxRecDepth 100000 in
theorem sectors_any {d S M : Nat} {s : St} (w : World) (h : DiskIn w d S M s) : Calls Tryd.prog 34 #[.pointer (some ⟨d, 0, none⟩)] w fun e w' => e = .returned (.int .i64 (s.n : Int)) ∧ w = w' := by
  have c0 := h.c0
  clear h
  go_enter Tryd.func34, Tryd.ntmps34
  go_wp2
  go_ret
  exact ⟨rfl, rfl⟩
set_option maxRecDepth 100000 in
theorem rnew_no (n : Int) (w : World) (h : n < 1) : Calls Tryd.prog 19 #[.int .i64 n] w fun e w' => e = .returned (.tuple #[.pointer none, .int .i64 1]) ∧ w = w' := by
  go_enter Tryd.func19, Tryd.ntmps19
  go_wp2
  exact bodyPost_ret (v := .tuple #[.pointer none, .int .i64 1]) (by simp [results, Tryd.results19, go_sem]) rfl ⟨rfl, rfl⟩
end Go.Proofs.YtfhkccldgbgelaaDoor
