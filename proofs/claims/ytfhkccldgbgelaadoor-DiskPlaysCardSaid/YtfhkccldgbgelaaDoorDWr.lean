/-
  One call of a list is written: the contracts as a region that draws its order wants them.
-/
import Derived.Test.YtfhkccldgbgelaaDoorDAny
import Derived.Test.YtfhkccldgbgelaaDoorAsk
import Derived.Deep.RegionHeld3
namespace Go.Proofs.YtfhkccldgbgelaaDoor
open Go.RowKit Go.Deep Dk Go.Maps
/-- A disk may have been written since. -/
def KC (d S M : Nat) (w w' : World) : Prop := Chg d S M w w'
theorem KC.refl (d S M : Nat) (w : World) : KC d S M w w := Chg.refl d S M w
theorem KC.drew {d S M : Nat} {w w' : World} (h : KC d S M w w') : KC d S M w w'.drew := ⟨h.os, h.tape, h.output, h.size, h.block⟩
theorem DiskIn.drew {w : World} {d S M : Nat} {s : St} (h : DiskIn w d S M s) : DiskIn w.drew d S M s := h.keep rfl rfl rfl
/-- A new sector, a disk beside it. -/
def SecBy (d S M : Nat) (s : St) (x : Nat) (w0 : World) (e : Ending) (w' : World) : Prop := ∃ v, e = .returned v ∧ SlB w'.heap.size w' v (secL x) ∧ DiskIn w' d S M s ∧ KC d S M w0 w'
theorem sector_by {d S M : Nat} {s : St} {x : Nat} (hx : x < 256) {w0 W : World} (hk : KC d S M w0 W) (hd : DiskIn W d S M s) : Calls Tryd.prog 12 #[.int .u8 (x : Int)] W (SecBy d S M s x w0) :=
  (sector_any x hx W).mono fun _ _ ⟨v, h1, h2, h3⟩ => ⟨v, h1, h2.slb, hd.below h3, Chg.trans hk (Chg.of_below h3)⟩
def WriteBy (d S M : Nat) (s : St) (w0 : World) (e : Ending) (w' : World) : Prop := e = .returned .nilIface ∧ DiskIn w' d S M s ∧ KC d S M w0 w'
theorem write_by {d S M : Nat} {s : St} {x : Nat} {w0 W : World} {v : Value} {k : Int} (h0 : 0 ≤ k) (hn : k < s.n) (hdead : s.dead = false) (hv : SlB W.heap.size W v (secL x)) (hd : DiskIn W d S M s) (hk : KC d S M w0 W) :
    Calls Tryd.prog 11 #[.pointer (some ⟨d, 0, none⟩), .int .i64 k, v] W (WriteBy d S M (s.write k.toNat (secL x)) w0) := by
  obtain ⟨i, rfl⟩ := Int.eq_ofNat_of_zero_le h0
  exact (write_yes W hd hdead i v (secL x) (by omega) hv (secL_length x)).mono fun _ _ ⟨h1, h2, h3⟩ => ⟨h1, h2, Chg.trans hk h3⟩
theorem KC.cell {d S M : Nat} {w w' : World} (h : KC d S M w w') {b o : Nat} (hl : b < w.heap.size) (hd : b < d) (hS : b < S) (hM : b < M) : w'.cell? ⟨b, o, none⟩ = w.cell? ⟨b, o, none⟩ :=
  World.cell?_of_block (a := ⟨b, o, none⟩) (h.block b hl (by omega) (by omega) (by omega))
end Go.Proofs.YtfhkccldgbgelaaDoor
