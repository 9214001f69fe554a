/-
  staveref1.Crc: it answers the sum too.
-/
import Derived.Test.YtidnmkghmaeniaaGreatKTurnL
import Derived.Test.YtidnmkghmaeniaaGreatHGet
import Derived.IntWalk
import Derived.Test.YtidnmkghmaeniaaGreatHBuild
import Derived.Deep.CutBlock
import Derived.Deep.DeepCutAuto
namespace Go.Proofs.YtidnmkghmaeniaaGreat
open Go.RowKit Crc
def RelR1 (l : List UInt8) (v i : Value) : Prop := ∃ k : Nat, k ≤ l.length ∧ i = .int .i64 k ∧ v = .int .u32 (run ones (l.take k))
def RelR2 (g : Nat) (v i : Value) : Prop := ∃ k x : Nat, k ≤ 8 ∧ x < 4294967296 ∧ sts (8 - k) x = g ∧ v = .int .u32 x ∧ i = .int .i64 k
theorem relR2_next {g k x : Nat} {v : Int} (hx : x < 4294967296) (hlt : k < 8) (h : sts (8 - k) x = g) (e : v = (st x : Nat)) : RelR2 g (.int .u32 v) (.int .i64 (k + 1)) := by
  refine ⟨k + 1, st x, by omega, st_lt hx, ?_, by rw [e], by go_num⟩
  rw [← h, show 8 - k = (8 - (k + 1)) + 1 by omega]
  rfl
end Go.Proofs.YtidnmkghmaeniaaGreat
/-
  staveref1.GetFrame.
-/
namespace Go.Proofs.YtidnmkghmaeniaaGreat
open Go.RowKit Crc Hf
theorem magic_iff {l : List UInt8} (h : 2 ≤ l.length) : leV (l.take 2) = 21587 ↔ l.take 2 = [83, 84] := by
  have hl : (l.take 2).length = 2 := by simp; omega
  have e := le_leV (l.take 2)
  rw [hl] at e
  exact ⟨fun h => by rw [← e, h]; rfl, fun h => by rw [h]; rfl⟩
/-- Bytes that fill a sector lie somewhere. -/
theorem slb_128 {B : Nat} {w : World} {v : Value} {l : List UInt8} (h : SlB B w v l) (hl : l.length = 128) : ∃ b o cap, v = .slice (some ⟨b, o, none⟩) 128 cap ∧ b < B ∧ BytesAt w b o l ∧ 128 ≤ cap := by
  rcases h with ⟨rfl, _⟩ | ⟨b, o, cap, h1, h2, h3, h4, h5⟩
  · simp at hl
  · exact ⟨b, o, cap, by rw [h1, hl], h2, h3, by omega⟩
theorem slb_head {B b o : Nat} {w : World} {l : List UInt8} (h : BytesAt w b o l) (hb : b < B) (n c : Nat) (hi : n ≤ l.length) (h0 : 0 < n) (hc : n ≤ c) : SlB B w (.slice (some ⟨b, o, none⟩) n c) (l.take n) := by
  have := slb_piece (B := B) h hb 0 n c (by omega) h0 hc
  simpa using this
theorem slb_tail {B b o : Nat} {w : World} {l : List UInt8} (h : BytesAt w b o l) (hb : b < B) (hl : l.length = 128) (c : Nat) (hc : 4 ≤ c) : SlB B w (.slice (some ⟨b, o + 124, none⟩) 4 c) (l.drop 124) := by
  have := slb_piece (B := B) h hb 124 4 c (by omega) (by omega) hc
  rwa [List.take_of_length_le (by rw [List.length_drop, hl]; decide)] at this
end Go.Proofs.YtidnmkghmaeniaaGreat
/-
  Two frames compared.
-/
namespace Go.Proofs.YtidnmkghmaeniaaGreat
open Go.RowKit Crc Hf
theorem guard_frame : Tryz.prog.eqGuardType Tryz.prog.depth 81 = false := by kernel_rfl
theorem eql_yes {f g : Fr} (hf : f.is) (hg : g.is) (h : f = g) (w : World) : (binOp .eql 81 (.agg (frA f)) (.agg (frA g))).run Tryz.prog w = .ok (.bool true) w := by
  rw [eql_frames f g hf hg, (frEq_iff f g).2 h]
theorem eql_no {f g : Fr} (hf : f.is) (hg : g.is) (h : ¬ f = g) (w : World) : (binOp .eql 81 (.agg (frA f)) (.agg (frA g))).run Tryz.prog w = .ok (.bool false) w := by
  rw [eql_frames f g hf hg, show frEq f g = false by rw [← Bool.not_eq_true, frEq_iff]; exact h]
theorem neql_frames (f g : Fr) (hf : f.is) (hg : g.is) (w : World) : (binOp .neq 81 (.agg (frA f)) (.agg (frA g))).run Tryz.prog w = .ok (.bool (!frEq f g)) w := by
  rw [run_neq_struct, eq_frames w f g hf hg]
  rfl
theorem neql_yes {f g : Fr} (hf : f.is) (hg : g.is) (h : f = g) (w : World) : (binOp .neq 81 (.agg (frA f)) (.agg (frA g))).run Tryz.prog w = .ok (.bool false) w := by
  rw [neql_frames f g hf hg, (frEq_iff f g).2 h]; rfl
end Go.Proofs.YtidnmkghmaeniaaGreat
/-
  staveref1.GetFrame: behind its sum.
-/
namespace Go.Proofs.YtidnmkghmaeniaaGreat
open Go.RowKit Crc Hf
/-- A frame lies in block b, and may be written. -/
def FIn (f : Fr) (b : Nat) (w : World) : Prop := f.is ∧ w.heap[b]? = some (.cells (frA f) 81 (0, 0))
theorem FIn.fr {f : Fr} {b : Nat} {w : World} (h : FIn f b w) : FrIn f b w := ⟨h.1, fun j v hv => by rw [cell_of_row _ b j (frA f) _ (0, 0) h.2]; simpa using hv⟩
theorem FIn.free {f : Fr} {b : Nat} {w : World} (h : FIn f b w) (i : Nat) : w.frozen? ⟨b, i, none⟩ = false := by
  unfold World.frozen?
  rw [h.2]
  simp
theorem FIn.set {f : Fr} {b : Nat} {w : World} (h : FIn f b w) (i : Nat) (x : UInt8) : FIn { f with d := f.d.set i x } b (w.setCell ⟨b, 4 + i, none⟩ (.int .u8 (x.toNat : Int))) := by
  refine ⟨by have := h.1; unfold Fr.is at *; simpa using this, ?_⟩
  show (w.heap.modify b _)[b]? = _
  rw [Array.getElem?_modify, if_pos rfl, h.2]
  show some (Obj.cells ((frA f).setIfInBounds (4 + i) (.int .u8 (x.toNat : Int))) _ _) = _
  congr 2
  simp only [List.setIfInBounds_toArray]
  congr 1
  show (_ :: _ :: _ :: _ :: bytesV f.d).set (4 + i) _ = _ :: _ :: _ :: _ :: bytesV (f.d.set i x)
  rw [show 4 + i = i + 1 + 1 + 1 + 1 by omega]
  simp only [List.set_cons_succ]
  congr 4
  simp [bytesV, List.map_set]
/-- The frame in the making: k of its bytes are there. -/
def partF (l : List UInt8) (k : Nat) : Fr := ⟨((l.getD 2 0).toNat : Int), ((l.getD 3 0).toNat : Int), (leV ((l.drop 4).take 4) : Int), int64 (leV ((l.drop 8).take 8)), (l.drop 16).take k ++ List.replicate (108 - k) 0⟩
theorem partF_all {l : List UInt8} : partF l 108 = Hf.read l := by simp [partF, Hf.read]
theorem partF_is {l : List UInt8} (hl : l.length = 128) {k : Nat} (hk : k ≤ 108) : (partF l k).is := by simp [partF, Fr.is]; omega
theorem partF_next {l : List UInt8} (hl : l.length = 128) {k : Nat} (hk : k < 108) : ({ partF l k with d := (partF l k).d.set k (l.getD (16 + k) 0) } : Fr) = partF l (k + 1) := by
  refine Fr.same rfl rfl rfl rfl ?_
  show ((l.drop 16).take k ++ List.replicate (108 - k) 0).set k _ = (l.drop 16).take (k + 1) ++ List.replicate (108 - (k + 1)) 0
  have hlen : ((l.drop 16).take k).length = k := by simp; omega
  rw [List.set_append_right _ _ (by omega), hlen, Nat.sub_self, show 108 - k = (108 - (k + 1)) + 1 by omega, List.replicate_succ, List.set_cons_zero, List.take_succ_eq_append_getElem (by simp; omega), List.append_assoc]
  congr 1
  simp [List.getD, show 16 + k < l.length by omega]
def SG (w2 w' : World) : Prop := Below w2.heap.size w2 w'
theorem SG.drew {w2 w' : World} (h : SG w2 w') : SG w2 w'.drew := Below.drew h
theorem SG.alloc {w2 w' : World} (h : SG w2 w') (o : Obj) : SG w2 (w'.alloc o) := balloc h o
def RelG (l : List UInt8) (w : World) (i : Value) (wr : World) : Prop := ∃ k : Nat, k ≤ 108 ∧ i = .int .i64 k ∧ FIn (partF l k) (w.heap.size + 1) wr ∧ ZIn w.heap.size wr ∧ Below w.heap.size w wr
def CutG (l : List UInt8) (w : World) (v : Value) (wx : World) : Prop := v = .pointer (some ⟨w.heap.size + 1, 0, none⟩) ∧ FIn (partF l 0) (w.heap.size + 1) wx ∧ ZIn w.heap.size wx ∧ Below w.heap.size w wx
end Go.Proofs.YtidnmkghmaeniaaGreat
