import Derived.Test.YtilljaneegbhlaaGreatDoorZDCrash
namespace Go.Proofs.YtilljaneegbhlaaGreatDoor
open Go.RowKit Go.Deep Dk Go.Maps
theorem flushed_n (s : St) : s.flush.n = s.n := St.stores_n _ _
theorem flushed_dead (s : St) : s.flush.dead = s.dead := St.stores_dead _ _
def evs (op : ByteArray) (c at_ : Int) : Value := if c = 0 then .nilIface else wrapV op at_ (errV c)
def inN (s : St) (i : Int) : Prop := 0 ≤ i ∧ i < s.n
instance (s : St) (i : Int) : Decidable (inN s i) := by unfold inN; infer_instance
def wOk (s : St) (i : Int) (l : List UInt8) : Prop := s.dead = false ∧ inN s i ∧ l.length = 128
instance (s : St) (i : Int) (l : List UInt8) : Decidable (wOk s i l) := by unfold wOk; infer_instance
def fcode (s : St) : Int := if s.dead = true then 5 else 0
def rcode (s : St) (i : Int) : Int := if s.dead = true then 5 else if inN s i then 0 else 1
def rval (s : St) (i : Int) : List UInt8 := if s.dead = false ∧ inN s i then s.read i.toNat else []
theorem slb_nil {B : Nat} {w : World} : SlB B w (.slice none 0 0) [] := Or.inl ⟨rfl, none, 0, rfl⟩
variable {d M : Nat} {s : St}
theorem pread_d {S : Nat} (w : World) (h : DiskIn w d S M s) (i : Int) :
  Calls Tryz.prog 54 #[.pointer (some ⟨d, 0, none⟩), .int .i64 i] w fun e w' => ∃ v, e = .returned (.tuple #[v, evs opRead (rcode s i) i]) ∧ SlB w'.heap.size w' v (rval s i) ∧ Below w.heap.size w w' := by
 unfold rcode rval
 cases hd : s.dead with
 | true =>
  rw [if_pos rfl, if_neg (fun e => by cases e.1)]; refine (read_dead w h hd i).mono ?_; rintro e w' ⟨rfl, rfl⟩; exact ⟨_, rfl, slb_nil, Below.refl _ _⟩
 | false =>
  rw [if_neg (by simp)]
  by_cases hi : inN s i
  ·rw [if_pos hi, if_pos ⟨rfl, hi⟩]
   obtain ⟨k, rfl⟩ := Int.eq_ofNat_of_zero_le hi.1; refine (read_yes w h hd k (by have := hi.2; omega)).mono ?_; rintro e w' ⟨v, rfl, h1, h2⟩; exact ⟨v, rfl, h1.slb, h2⟩
  ·rw [if_neg hi, if_neg (fun e => hi e.2)]
   refine (read_no w h hd i hi).mono ?_; rintro e w' ⟨rfl, rfl⟩; exact ⟨_, rfl, slb_nil, Below.refl _ _⟩
set_option maxRecDepth 100000 in
theorem sectors_any {S : Nat} (w : World) (h : DiskIn w d S M s) : Calls Tryz.prog 53 #[.pointer (some ⟨d, 0, none⟩)] w fun e w' => e = .returned (.int .i64 (s.n : Int)) ∧ w = w' := by
 have c0 := h.c0
 clear h
 go_enter Tryz.func53, Tryz.ntmps53
 go_wp2
 go_ret
 exact ⟨rfl, rfl⟩
def EvD (d S M : Nat) (s' : St) (v : Value) (w : World) (e : Ending) (w' : World) : Prop := e = .returned v ∧ DiskIn w' d S M s' ∧ Chg d S M w w'
end Go.Proofs.YtilljaneegbhlaaGreatDoor
