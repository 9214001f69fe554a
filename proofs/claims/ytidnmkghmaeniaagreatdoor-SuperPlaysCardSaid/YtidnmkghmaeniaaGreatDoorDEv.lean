/-
  What the program's disk answers, by its state: codes, and the errors that they are told as.
-/
import Derived.Test.YtidnmkghmaeniaaGreatDoorDCrash
namespace Go.Proofs.YtidnmkghmaeniaaGreatDoor
open Go.RowKit Go.Deep Dk Go.Maps
theorem write_out {d S M B : Nat} {s : St} {w : World} {v : Value} {l : List UInt8} (h : DiskIn w d S M s) (hd : s.dead = false) (i : Int) (hv : SlB B w v l) (hno : ¬ (0 ≤ i ∧ i < s.n ∧ l.length = 128)) :
    Calls Tryz.prog 112 #[.pointer (some ⟨d, 0, none⟩), .int .i64 i, v] w (Err1 opWrite 1 i w) := by
  obtain ⟨a, cap, rfl, _⟩ := hv.len
  exact write_no w h hd i a _ cap hno
theorem flushed_n (s : St) : s.flush.n = s.n := St.stores_n _ _
theorem flushed_dead (s : St) : s.flush.dead = s.dead := St.stores_dead _ _
theorem crashed_n (s : St) (bits : Nat) : (s.crash bits).n = s.n := St.stores_n _ _
theorem crashed_dead (s : St) (bits : Nat) : (s.crash bits).dead = s.dead := St.stores_dead _ _
def evs (op : ByteArray) (c at_ : Int) : Value := if c = 0 then .nilIface else wrapV op at_ (errV c)
theorem kind_ev (op : ByteArray) (c at_ : Int) (w : World) (hT : Typ w) : Calls Tryz.prog 11 #[evs op c at_] w (Num c w) := by
  unfold evs
  by_cases h : c = 0
  · rw [if_pos h, h]; exact kind_nil w
  · rw [if_neg h]; exact kind_err [(op, at_)] c w _ rfl hT
def inN (s : St) (i : Int) : Prop := 0 ≤ i ∧ i < s.n
instance (s : St) (i : Int) : Decidable (inN s i) := by unfold inN; infer_instance
def wOk (s : St) (i : Int) (l : List UInt8) : Prop := s.dead = false ∧ inN s i ∧ l.length = 128
instance (s : St) (i : Int) (l : List UInt8) : Decidable (wOk s i l) := by unfold wOk; infer_instance
def wcode (s : St) (i : Int) (l : List UInt8) : Int := if s.dead = true then 5 else if wOk s i l then 0 else 1
def wnext (s : St) (i : Int) (l : List UInt8) : St := if wOk s i l then s.write i.toNat l else s
def fcode (s : St) : Int := if s.dead = true then 5 else 0
def fnext (s : St) : St := if s.dead = true then s else s.flush
def rcode (s : St) (i : Int) : Int := if s.dead = true then 5 else if inN s i then 0 else 1
def rval (s : St) (i : Int) : List UInt8 := if s.dead = false ∧ inN s i then s.read i.toNat else []
theorem slb_nil {B : Nat} {w : World} : SlB B w (.slice none 0 0) [] := Or.inl ⟨rfl, none, 0, rfl⟩
theorem pread_d {d S M : Nat} {s : St} (w : World) (h : DiskIn w d S M s) (i : Int) :
    Calls Tryz.prog 140 #[.pointer (some ⟨d, 0, none⟩), .int .i64 i] w fun e w' => ∃ v, e = .returned (.tuple #[v, evs opRead (rcode s i) i]) ∧ SlB w'.heap.size w' v (rval s i) ∧ Below w.heap.size w w' := by
  unfold rcode rval
  cases hd : s.dead with
  | true =>
    rw [if_pos rfl, if_neg (fun e => by cases e.1)]
    refine (read_dead w h hd i).mono ?_
    rintro e w' ⟨rfl, rfl⟩
    exact ⟨_, rfl, slb_nil, Below.refl _ _⟩
  | false =>
    rw [if_neg (by simp)]
    by_cases hi : inN s i
    · rw [if_pos hi, if_pos ⟨rfl, hi⟩]
      obtain ⟨k, rfl⟩ := Int.eq_ofNat_of_zero_le hi.1
      refine (read_yes w h hd k (by have := hi.2; omega)).mono ?_
      rintro e w' ⟨v, rfl, h1, h2⟩
      exact ⟨v, rfl, h1.slb, h2⟩
    · rw [if_neg hi, if_neg (fun e => hi e.2)]
      refine (read_no w h hd i hi).mono ?_
      rintro e w' ⟨rfl, rfl⟩
      exact ⟨_, rfl, slb_nil, Below.refl _ _⟩
theorem rval_length {s : St} (h : s.Ok) (i : Int) : (rval s i).length ≤ 128 := by
  unfold rval
  split
  · rw [h.read]; exact Nat.le_refl _
  · simp
set_option maxRecDepth 100000 in
theorem sectors_any {d S M : Nat} {s : St} (w : World) (h : DiskIn w d S M s) : Calls Tryz.prog 160 #[.pointer (some ⟨d, 0, none⟩)] w fun e w' => e = .returned (.int .i64 (s.n : Int)) ∧ w = w' := by
  have c0 := h.c0
  clear h
  go_enter Tryz.func160, Tryz.ntmps160
  go_wp2
  go_ret
  exact ⟨rfl, rfl⟩
/-- What a call of the program's disk leaves. -/
def EvD (d S M : Nat) (s' : St) (v : Value) (w : World) (e : Ending) (w' : World) : Prop := e = .returned v ∧ DiskIn w' d S M s' ∧ Chg d S M w w'
theorem write_ev {d S M : Nat} {s : St} (w : World) (h : DiskIn w d S M s) (i : Int) (v : Value) (l : List UInt8) (hv : SlB w.heap.size w v l) :
    Calls Tryz.prog 112 #[.pointer (some ⟨d, 0, none⟩), .int .i64 i, v] w (EvD d S M (wnext s i l) (evs opWrite (wcode s i l) i) w) := by
  unfold wcode wnext
  cases hd : s.dead with
  | true =>
    rw [if_pos rfl, if_neg (fun e => by have := e.1; rw [hd] at this; cases this)]
    refine (write_dead w h hd i v).mono ?_
    rintro e w' ⟨rfl, rfl⟩
    exact ⟨rfl, h, Chg.refl _ _ _ _⟩
  | false =>
    rw [if_neg (show ¬ false = true by decide)]
    by_cases hok : wOk s i l
    · rw [if_pos hok, if_pos hok]
      obtain ⟨_, ⟨i1, i2⟩, hl⟩ := hok
      obtain ⟨k, rfl⟩ := Int.eq_ofNat_of_zero_le i1
      exact write_yes w h hd k v l (by omega) hv hl
    · rw [if_neg hok, if_neg hok]
      refine (write_out h hd i hv (fun e => hok ⟨hd, ⟨e.1, e.2.1⟩, e.2.2⟩)).mono ?_
      rintro e w' ⟨rfl, rfl⟩
      exact ⟨rfl, h, Chg.refl _ _ _ _⟩
end Go.Proofs.YtidnmkghmaeniaaGreatDoor
