/-
  What gram.Get answers, plainly.
-/
import Derived.Test.YtoflfbcjlddjaaaDoorGPutM
namespace Go.Proofs.YtoflfbcjlddjaaaDoor

/-- The number that bytes tell, the lowest first. -/
def leN : List UInt8 → Nat
  | [] => 0
  | b :: l => b.toNat + 256 * leN l
theorem leN_append (a b : List UInt8) : leN (a ++ b) = leN a + 256 ^ a.length * leN b := by
  induction a with
  | nil => simp [leN]
  | cons x a ih =>
    simp only [List.cons_append, leN, ih, List.length_cons, Nat.pow_succ, Nat.mul_add]
    rw [← Nat.mul_assoc, Nat.mul_comm 256 (256 ^ _), Nat.add_assoc]
theorem leN_lt (a : List UInt8) : leN a < 256 ^ a.length := by
  induction a with
  | nil => simp [leN]
  | cons x a ih =>
    have := x.toNat_lt
    simp [leN, Nat.pow_succ]
    omega
/-- n bytes from a place on. -/
def cut (bs : List UInt8) (at_ n : Nat) : List UInt8 := (bs.drop at_).take n
theorem cut_length (bs : List UInt8) (at_ n : Nat) (h : at_ + n ≤ bs.length) : (cut bs at_ n).length = n := by
  unfold cut; rw [List.length_take, List.length_drop]; omega
/-- An error's kind; or what was read, and where it ends. -/
inductive Got (α : Type) where
  | bad (k : Int)
  | good (a : α) (at_ : Nat)
def numG (size : Nat) (lo hi : Int) (bs : List UInt8) (at_ : Nat) : Got Int :=
  if bs.length < at_ + size then .bad 3
  else if (leN (cut bs at_ size) : Int) < lo ∨ hi < (leN (cut bs at_ size) : Int) then .bad 2
  else .good (leN (cut bs at_ size)) (at_ + size)
def textG (lo hi : Int) (bs : List UInt8) (at_ : Nat) : Got ByteArray :=
  match numG 2 lo hi bs at_ with
  | .bad k => .bad k
  | .good n a => if bs.length < a + n.toNat then .bad 3 else .good ⟨(cut bs a n.toNat).toArray⟩ (a + n.toNat)
def textsLoop (mo : Int) (bs : List UInt8) : Nat → Nat → Got (List ByteArray)
  | 0, a => .good [] a
  | k + 1, a => match textG 0 mo bs a with
    | .bad e => .bad e
    | .good s a' => match textsLoop mo bs k a' with
      | .bad e => .bad e
      | .good l a'' => .good (s :: l) a''
def textsG (lo hi mo : Int) (bs : List UInt8) (at_ : Nat) : Got (List ByteArray) :=
  match numG 1 lo hi bs at_ with
  | .bad k => .bad k
  | .good n a => textsLoop mo bs n.toNat a
def valG (f : Fl) (bs : List UInt8) (at_ : Nat) : Got Vl :=
  if f.k = 1 then match numG f.sz.toNat f.lo f.hi bs at_ with
    | .bad k => .bad k
    | .good n a => .good ⟨n, ByteArray.empty, []⟩ a
  else if f.k = 2 then match textG f.lo f.hi bs at_ with
    | .bad k => .bad k
    | .good s a => .good ⟨0, s, []⟩ a
  else match textsG f.lo f.hi f.mo bs at_ with
    | .bad k => .bad k
    | .good l a => .good ⟨0, ByteArray.empty, l⟩ a
/-- The values; or the error's kind and its place. -/
inductive Ans where
  | no (k : Int) (at_ : Int)
  | yes (xs : List Vl) (at_ : Nat)
def getL (bs : List UInt8) : List Fl → Nat → Ans
  | [], a => .yes [] a
  | f :: fs, a => match valG f bs a with
    | .bad k => .no k a
    | .good x a' => match getL bs fs a' with
      | .no k p => .no k p
      | .yes xs e => .yes (x :: xs) e
def ended (bs : List UInt8) : Ans → Ans
  | .no k p => .no k p
  | .yes xs e => if e < bs.length then .no 4 e else .yes xs e
/-- P2.3, of right fields. -/
def getM (fs : List Fl) (bs : List UInt8) : Ans := ended bs (getL bs fs 0)
def onV (pre : List Vl) : Ans → Ans
  | .no k p => .no k p
  | .yes xs e => .yes (pre ++ xs) e
theorem onV_bad {pre : List Vl} {bs : List UInt8} {f : Fl} {fs : List Fl} {a : Nat} {k : Int} (h : valG f bs a = .bad k) : onV pre (getL bs (f :: fs) a) = .no k a := by
  unfold getL; rw [h]; rfl
theorem onV_good {pre : List Vl} {bs : List UInt8} {f : Fl} {fs : List Fl} {a a' : Nat} {x : Vl} (h : valG f bs a = .good x a') : onV pre (getL bs (f :: fs) a) = onV (pre ++ [x]) (getL bs fs a') := by
  rw [getL, h]
  simp only
  generalize getL bs fs a' = L
  cases L <;> simp [onV]
theorem onV_nil (A : Ans) : onV [] A = A := by cases A <;> rfl
end Go.Proofs.YtoflfbcjlddjaaaDoor
