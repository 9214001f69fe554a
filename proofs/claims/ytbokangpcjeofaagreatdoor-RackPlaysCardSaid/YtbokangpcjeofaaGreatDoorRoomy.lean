/-
  stavebook.Roomy of bytes.
-/
import Derived.Test.YtbokangpcjeofaaGreatDoorBytes
import Derived.Deep.OwnRows
import Derived.Laws.CopyOwn
namespace Go.Proofs.YtbokangpcjeofaaGreatDoor
open Go.RowKit Go.Deep
/-- The bytes, j marks, noughts up to 80. -/
def roomL (l : List UInt8) (m j : Nat) : List UInt8 := l ++ (List.replicate j (UInt8.ofNat m) ++ List.replicate (80 - j) 0)
theorem roomL_length (l : List UInt8) (m j : Nat) (h : j ≤ 80) : (roomL l m j).length = l.length + 80 := by simp [roomL]; omega
theorem roomL_set (l : List UInt8) (m j : Nat) (hm : m < 256) (h : j < 80) : (bytesV (roomL l m j)).set (l.length + j) (.int .u8 m) = bytesV (roomL l m (j + 1)) := by
  obtain ⟨k, hk⟩ : ∃ k, 80 - j = k + 1 := ⟨79 - j, by omega⟩
  have hk' : 80 - (j + 1) = k := by omega
  have hmm : (UInt8.ofNat m).toNat = m := by rw [UInt8.toNat_ofNat']; omega
  have e1 : roomL l m j = (l ++ List.replicate j (UInt8.ofNat m)) ++ 0 :: List.replicate k 0 := by unfold roomL; rw [hk, List.replicate_succ, List.append_assoc]
  have e2 : roomL l m (j + 1) = (l ++ List.replicate j (UInt8.ofNat m)) ++ UInt8.ofNat m :: List.replicate k 0 := by
    unfold roomL; rw [hk', List.replicate_succ', List.append_assoc, List.append_assoc]; rfl
  have e3 : (bytesV (l ++ List.replicate j (UInt8.ofNat m))).length = l.length + j := by simp [bytesV]
  rw [e1, e2, ← e3, bytesV_append (l ++ _), bytesV_append (l ++ _), List.set_append_right _ _ (Nat.le_refl _), Nat.sub_self]
  show _ ++ (Value.int .u8 m) :: _ = _ ++ (Value.int .u8 (UInt8.ofNat m).toNat) :: _
  rw [hmm]
theorem made_u8 (n : Nat) : (madeCells #[.int .u8 0] n).toList = bytesV (List.replicate n 0) := by
  refine List.ext_getElem (by simp [madeCells, bytesV]) fun i h1 h2 => ?_
  simp [madeCells, bytesV, Nat.mod_one]
/-- A new row: the bytes, 80 marks behind them. -/
def Roomed (l : List UInt8) (m : Nat) (w : World) (e : Ending) (w' : World) : Prop :=
  e = .returned (.slice (some ⟨w.heap.size, 0, none⟩) (l.length + 80) (l.length + 80)) ∧ w'.ownsRow w.heap.size 5 1 (.slice (some ⟨w.heap.size, 0, none⟩) (l.length + 80) (l.length + 80)) (l.length + 80) (bytesV (roomL l m 80)) ∧ Below w.heap.size w w'
theorem room_src {B : Nat} {w : World} {a : Option Addr} {cap : Nat} {l : List UInt8} (h : SlB B w (.slice a l.length cap) l) (hB : B ≤ w.heap.size) (o : Obj) (p : Addr) :
    0 < (bytesV l).length → some p = some p ∧ ∃ ad, a = some ad ∧ ∀ (j : Nat) (v : Value), (bytesV l)[j]? = some v → (w.alloc o).cell? (ad.add j) = some v := by
  intro h0
  rcases h with ⟨rfl, _⟩ | ⟨b, off, cap', h1, h2, h3, _⟩
  · simp [bytesV] at h0
  · injection h1 with h1 _ _
    refine ⟨rfl, ⟨b, off, none⟩, h1, fun j v hv => ?_⟩
    have hj : j < l.length := by
      have := (List.getElem?_eq_some_iff.1 hv).1
      simpa [bytesV] using this
    have h4 := h3 j hj
    rw [show (⟨b, off, none⟩ : Addr).add j = ⟨b, off + j, none⟩ by unfold Addr.add; split <;> simp_all, (one_below w o).cell (p := ⟨b, off + j, none⟩) (by show b < _; omega), h4, ← hv, bytesV_at hj]
theorem room_start {w w' : World} {l : List UInt8} {m : Nat} (h : w'.heap[w.heap.size]? = some (.cells (splice (madeCells #[.int .u8 0] (l.length + 80)).toList 0 (bytesV l)).toArray 5 (0, 0))) (hl : l.length ≤ 100000) :
    w'.ownsRow w.heap.size 5 1 (.slice (some ⟨w.heap.size, 0, none⟩) (l.length + 80) (l.length + 80)) (l.length + 80) (bytesV (roomL l m 0)) := by
  have e : splice (madeCells #[.int .u8 0] (l.length + 80)).toList 0 (bytesV l) = bytesV (roomL l m 0) := by
    rw [made_u8]
    unfold splice roomL
    have : (bytesV l).length = l.length := by simp [bytesV]
    rw [List.take_zero, this, Nat.zero_add, List.nil_append, bytesV_append]
    congr 1
    simp [bytesV]
  rw [e] at h
  have hn : (bytesV (roomL l m 0)).length = l.length + 80 := by rw [bytesV_length, roomL_length _ _ _ (by omega)]
  refine ⟨by rw [hn, Nat.mul_one], Or.inr ⟨_, _, _, rfl, Nat.le_refl _, h, Nat.le_refl _, by unfold maxLen; omega, by simpa using hn, ?_⟩⟩
  rw [Nat.mul_one, ← hn]; simp
def RelRo (l : List UInt8) (m : Nat) (w : World) (i : Value) (wr : World) : Prop :=
  ∃ j : Nat, j ≤ 80 ∧ i = .int .i64 ((l.length : Int) + j) ∧ wr.ownsRow w.heap.size 5 1 (.slice (some ⟨w.heap.size, 0, none⟩) (l.length + 80) (l.length + 80)) (l.length + 80) (bytesV (roomL l m j)) ∧ Below w.heap.size w wr
/-- The beginning of such a row. -/
theorem room_head {w : World} {B g m : Nat} {l : List UInt8} (h : w.ownsRow B 5 1 (.slice (some ⟨g, 0, none⟩) (l.length + 80) (l.length + 80)) (l.length + 80) (bytesV (roomL l m 80))) : SlB w.heap.size w (.slice (some ⟨g, 0, none⟩) l.length (l.length + 80)) l := by
  have hlr : (roomL l m 80).length = l.length + 80 := roomL_length _ _ _ (by omega)
  have h1 : SlB w.heap.size w (.slice (some ⟨g, 0, none⟩) (l.length + 80) (l.length + 80)) (roomL l m 80) := slb_own (B := B) (by rw [hlr]; exact h)
  have h2 := slb_take (l := roomL l m 80) (m := l.length) (cap := l.length + 80) (a := some ⟨g, 0, none⟩) (B := w.heap.size) (w := w) (by rw [hlr]; exact h1) (by omega)
  rwa [show (roomL l m 80).take l.length = l by simp [roomL]] at h2
theorem room_whole {w : World} {B g m : Nat} {l : List UInt8} (h : w.ownsRow B 5 1 (.slice (some ⟨g, 0, none⟩) (l.length + 80) (l.length + 80)) (l.length + 80) (bytesV (roomL l m 80))) : SlB w.heap.size w (.slice (some ⟨g, 0, none⟩) (l.length + 80) (l.length + 80)) (roomL l m 80) := by
  have hlr : (roomL l m 80).length = l.length + 80 := roomL_length _ _ _ (by omega)
  exact slb_own (B := B) (by rw [hlr]; exact h)
end Go.Proofs.YtbokangpcjeofaaGreatDoor
