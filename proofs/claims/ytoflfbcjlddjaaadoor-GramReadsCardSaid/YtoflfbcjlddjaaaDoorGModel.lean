/-
  Fields and values of a grammar, plainly: which are right, which fit; their bytes.
-/
import Derived.KernelRfl
namespace Go.Proofs.YtoflfbcjlddjaaaDoor

structure Fl where
  k : Int
  sz : Int
  lo : Int
  hi : Int
  mo : Int
structure Vl where
  n : Int
  s : ByteArray
  l : List ByteArray

def holdsN (sz n : Int) : Bool := decide (sz = 8 ∨ (sz = 1 ∧ n < 256) ∨ (sz = 2 ∧ n < 65536) ∨ (sz = 4 ∧ n < 4294967296))
/-- P2.1. -/
def rightF (f : Fl) : Bool := decide (0 ≤ f.lo ∧ f.lo ≤ f.hi ∧
  ((f.k = 1 ∧ f.mo = 0 ∧ holdsN f.sz f.hi = true) ∨ (f.k = 2 ∧ f.sz = 0 ∧ f.mo = 0 ∧ f.hi ≤ 65535) ∨ (f.k = 3 ∧ f.sz = 0 ∧ f.hi ≤ 255 ∧ 0 ≤ f.mo ∧ f.mo ≤ 65535)))

/-- A number's bytes, the lowest first. -/
def byteAt (n : Int) (i : Nat) : UInt8 := UInt8.ofNat ((n / 2 ^ (8 * i)) % 256).toNat
def numB (k : Nat) (n : Int) : List UInt8 := (List.range k).map (byteAt n)
theorem numB_succ (k : Nat) (n : Int) : numB (k + 1) n = numB k n ++ [byteAt n k] := by simp [numB, List.range_succ]
theorem numB_length (k : Nat) (n : Int) : (numB k n).length = k := by simp [numB]
theorem byteAt_toNat (n : Int) (i : Nat) : ((byteAt n i).toNat : Int) = (n / 2 ^ (8 * i)) % 256 := by
  have h1 := Int.emod_nonneg (n / 2 ^ (8 * i)) (show (256 : Int) ≠ 0 by decide)
  have h2 := Int.emod_lt_of_pos (n / 2 ^ (8 * i)) (show (0 : Int) < 256 by decide)
  unfold byteAt
  rw [UInt8.toNat_ofNat']
  omega
def textB (s : ByteArray) : List UInt8 := numB 2 s.size ++ s.data.toList
def textsB (l : List ByteArray) : List UInt8 := numB 1 l.length ++ l.flatMap textB
/-- P2.2: the bytes of a value. -/
def encF (f : Fl) (x : Vl) : List UInt8 := if f.k = 1 then numB f.sz.toNat x.n else if f.k = 2 then textB x.s else textsB x.l
def fitsF (f : Fl) (x : Vl) : Bool :=
  if f.k = 1 then decide (f.lo ≤ x.n ∧ x.n ≤ f.hi ∧ x.s.size = 0 ∧ x.l.length = 0)
  else if f.k = 2 then decide (f.lo ≤ (x.s.size : Int) ∧ (x.s.size : Int) ≤ f.hi ∧ x.n = 0 ∧ x.l.length = 0)
  else decide (f.lo ≤ (x.l.length : Int) ∧ (x.l.length : Int) ≤ f.hi ∧ x.n = 0 ∧ x.s.size = 0 ∧ ∀ s ∈ x.l, (s.size : Int) ≤ f.mo)
end Go.Proofs.YtoflfbcjlddjaaaDoor
