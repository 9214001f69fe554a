/-
  stavelaw2.GramReads: what it wants beside the contracts.
-/
import Derived.Test.YtoflfbcjlddjaaaDoorGRefGF
import Derived.Test.YtoflfbcjlddjaaaDoorGRefPut
import Derived.Test.YtoflfbcjlddjaaaDoorGGet
import Derived.Test.YtoflfbcjlddjaaaDoorGFew
import Derived.Test.YtoflfbcjlddjaaaDoorGSame
import Derived.Test.YtoflfbcjlddjaaaDoorGLen
import Derived.Test.YtoflfbcjlddjaaaDoorIntact
import Derived.Test.YtoflfbcjlddjaaaDoorWithinI
import Derived.Test.YtoflfbcjlddjaaaDoorWhere
import Derived.Test.YtoflfbcjlddjaaaDoorKind
import Derived.Laws.BitsAllLaws
namespace Go.Proofs.YtoflfbcjlddjaaaDoor
open Go.RowKit
theorem textsLoop_len {mo : Int} {bs : List UInt8} : ∀ {k a b : Nat} {l : List ByteArray}, textsLoop mo bs k a = .good l b → l.length = k
  | 0, a, b, l, h => by unfold textsLoop at h; injection h with h _; subst h; rfl
  | k + 1, a, b, l, h => by
    unfold textsLoop at h
    split at h
    · cases h
    · split at h
      · cases h
      · rename_i h2
        injection h with h _
        subst h
        rw [List.length_cons, textsLoop_len h2]
theorem numG_val {size : Nat} {lo hi : Int} {bs : List UInt8} {a b : Nat} {n : Int} (h : numG size lo hi bs a = .good n b) : n = (leN (cut bs a size) : Int) := by
  unfold numG at h
  split at h
  · cases h
  · split at h
    · cases h
    · injection h with h _; exact h.symm
theorem textsG_len {lo hi mo : Int} {bs : List UInt8} {a b : Nat} {l : List ByteArray} (h : textsG lo hi mo bs a = .good l b) : l.length ≤ 255 := by
  unfold textsG at h
  split at h
  · cases h
  · rename_i n a' hn
    have e := textsLoop_len h
    have e2 := numG_val hn
    clear hn h
    have hlt := leN_lt (cut bs a 1)
    have h1 : (cut bs a 1).length ≤ 1 := by unfold cut; rw [List.length_take]; omega
    have h2 : 256 ^ (cut bs a 1).length ≤ 256 ^ 1 := Nat.pow_le_pow_right (by decide) h1
    omega
theorem valG_len {f : Fl} {bs : List UInt8} {a b : Nat} {x : Vl} (h : valG f bs a = .good x b) : x.l.length ≤ 1000 := by
  unfold valG at h
  split at h
  · split at h
    · cases h
    · injection h with h _; subst h; simp
  · split at h
    · split at h
      · cases h
      · injection h with h _; subst h; simp
    · split at h
      · cases h
      · rename_i h2
        injection h with h _; subst h
        have := textsG_len h2
        show List.length _ ≤ 1000
        exact Nat.le_trans this (by decide)
theorem getL_len {bs : List UInt8} : ∀ {fs : List Fl} {a e : Nat} {xs : List Vl}, getL bs fs a = .yes xs e → xs.length = fs.length ∧ ∀ x ∈ xs, x.l.length ≤ 1000
  | [], a, e, xs, h => by unfold getL at h; injection h with h _; subst h; exact ⟨rfl, fun _ h => by cases h⟩
  | f :: fs, a, e, xs, h => by
    unfold getL at h
    split at h
    · cases h
    · rename_i x a' hv
      split at h
      · cases h
      · rename_i ys e' hg
        injection h with h _
        subst h
        obtain ⟨h1, h2⟩ := getL_len hg
        refine ⟨by rw [List.length_cons, List.length_cons, h1], fun y hy => ?_⟩
        rcases List.mem_cons.1 hy with rfl | hy
        · exact valG_len hv
        · exact h2 y hy
theorem getM_len {bs : List UInt8} {fs : List Fl} {e : Nat} {xs : List Vl} (h : getM fs bs = .yes xs e) : xs.length = fs.length ∧ ∀ x ∈ xs, x.l.length ≤ 1000 := by
  unfold getM ended at h
  split at h
  · cases h
  · rename_i ys e' hg
    split at h
    · cases h
    · injection h with h _
      subst h
      exact getL_len hg
theorem numG_ne {size : Nat} {lo hi : Int} {bs : List UInt8} {a : Nat} {k : Int} (h : numG size lo hi bs a = .bad k) : k ≠ 0 := by
  unfold numG at h
  split at h
  · injection h with h; omega
  · split at h
    · injection h with h; omega
    · cases h
theorem textsLoop_ne {mo : Int} {bs : List UInt8} : ∀ {k a : Nat} {e : Int}, textsLoop mo bs k a = .bad e → e ≠ 0
  | 0, a, e, h => by unfold textsLoop at h; cases h
  | k + 1, a, e, h => by
    unfold textsLoop at h
    split at h
    · rename_i h1; injection h with h; subst h; exact textG_ne h1
    · split at h
      · rename_i h2; injection h with h; subst h; exact textsLoop_ne h2
      · cases h
theorem valG_ne {f : Fl} {bs : List UInt8} {a : Nat} {k : Int} (h : valG f bs a = .bad k) : k ≠ 0 := by
  unfold valG at h
  split at h
  · split at h
    · rename_i h1; injection h with h; subst h; exact numG_ne h1
    · cases h
  · split at h
    · split at h
      · rename_i h1; injection h with h; subst h; exact textG_ne h1
      · cases h
    · split at h
      · rename_i h1
        injection h with h; subst h
        unfold textsG at h1
        split at h1
        · rename_i h2; injection h1 with h1; subst h1; exact numG_ne h2
        · exact textsLoop_ne h1
      · cases h
theorem getL_ne {bs : List UInt8} : ∀ {fs : List Fl} {a : Nat} {k p : Int}, getL bs fs a = .no k p → k ≠ 0
  | [], a, k, p, h => by unfold getL at h; cases h
  | f :: fs, a, k, p, h => by
    unfold getL at h
    split at h
    · rename_i h1; injection h with h _; subst h; exact valG_ne h1
    · split at h
      · rename_i h2; injection h with h _; subst h; exact getL_ne h2
      · cases h
theorem getM_ne {bs : List UInt8} {fs : List Fl} {k p : Int} (h : getM fs bs = .no k p) : k ≠ 0 := by
  unfold getM ended at h
  split at h
  · rename_i hg; injection h with h _; subst h; exact getL_ne hg
  · split at h
    · injection h with h _; omega
    · cases h
/-- A row of the call's own of which one byte is turned. -/
theorem own_turn {B g n c : Nat} {w : World} {l : List UInt8} (h : w.ownsRow B 5 1 (.slice (some ⟨g, 0, none⟩) n c) n (bytesV l)) (k : Nat) (y : UInt8) :
    (w.setCell ⟨g, k, none⟩ (.int .u8 (y.toNat : Int))).ownsRow B 5 1 (.slice (some ⟨g, 0, none⟩) n c) n (bytesV (l.set k y)) := by
  have := own_set h k (.int .u8 (y.toNat : Int))
  rwa [show (bytesV l).set k (.int .u8 (y.toNat : Int)) = bytesV (l.set k y) by simp [bytesV, List.map_set]] at this
theorem turn_valR (y : UInt8) (z : Nat) (hz : z < 256) : bits .xor .u8 (y.toNat : Int) (z : Int) = ((y ^^^ UInt8.ofNat z).toNat : Nat) := by
  rw [u8_xor_nat _ _ (UInt8.toNat_lt y) hz, UInt8.toNat_xor, UInt8.toNat_ofNat', Nat.mod_eq_of_lt (show z < 2 ^ 8 from hz)]
theorem app_below1 {w1 w2 : World} {o : Obj} {r : Option Nat} (hg : Grew (w1.alloc o) (some w1.heap.size) w2 r) : Below w1.heap.size w1 w2 :=
  Below.trans (b := w1.alloc o) (one_below w1 o) (hg.below (by simp) (fun k hk => by injection hk with hk; omega))
theorem putErr_kind {fs : List Fl} {xs : List Vl} {k a : Int} (h : putErr fs xs = some (k, a)) : k ≠ 0 := by
  unfold putErr at h
  split at h
  · injection h with h; injection h with h _; omega
  · split at h
    · injection h with h; injection h with h _; omega
    · split at h
      · injection h with h; injection h with h _; omega
      · cases h
end Go.Proofs.YtoflfbcjlddjaaaDoor
