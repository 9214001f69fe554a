/-
  stavebook.Roomy of bytes.
-/
import Derived.Test.YtoflfbcjlddjaaaDoorBytes
import Derived.Deep.OwnRows
import Derived.Laws.CopyOwn
namespace Go.Proofs.YtoflfbcjlddjaaaDoor
open Go.RowKit Go.Deep
/-- The bytes, j marks, noughts up to 80. -/
def roomL (l : List UInt8) (m j : Nat) : List UInt8 := l ++ (List.replicate j (UInt8.ofNat m) ++ List.replicate (80 - j) 0)
theorem roomL_length (l : List UInt8) (m j : Nat) (h : j ≤ 80) : (roomL l m j).length = l.length + 80 := by simp [roomL]; omega
theorem roomL_set (l : List UInt8) (m j : Nat) (hm : m < 256) (h : j < 80) : (bytesV (roomL l m j)).set (l.length + j) (.int .u8 m) = bytesV (roomL l m (j + 1)) := by
  obtain ⟨k, hk⟩ : ∃ k, 80 - j = k + 1 := ⟨79 - j, by omega⟩
  have hk' : 80 - (j + 1) = k := by omega
  have hmm : (UInt8.ofNat m).toNat = m := by rw [UInt8.toNat_ofNat']; omega
  have e1 : roomL l m j = (l ++ List.replicate j (UInt8.ofNat m)) ++ 0 :: List.replicate k 0 := by unfold roomL; rw [hk, List.replicate_succ, List.append_assoc]
  have e2 : roomL l m (j + 1) = (l ++ List.replicate j (UInt8.ofNat m)) ++ UInt8.ofNat m :: List.replicate k 0 := by
    unfold roomL; rw [hk', List.replicate_succ', List.append_assoc, List.append_assoc]; rfl
  have e3 : (bytesV (l ++ List.replicate j (UInt8.ofNat m))).length = l.length + j := by simp [bytesV]
  rw [e1, e2, ← e3, bytesV_append (l ++ _), bytesV_append (l ++ _), List.set_append_right _ _ (Nat.le_refl _), Nat.sub_self]
  show _ ++ (Value.int .u8 m) :: _ = _ ++ (Value.int .u8 (UInt8.ofNat m).toNat) :: _
  rw [hmm]
theorem made_u8 (n : Nat) : (madeCells #[.int .u8 0] n).toList = bytesV (List.replicate n 0) := by
  refine List.ext_getElem (by simp [madeCells, bytesV]) fun i h1 h2 => ?_
  simp [madeCells, bytesV, Nat.mod_one]
/-- A new row: the bytes, 80 marks behind them. -/
def Roomed (l : List UInt8) (m : Nat) (w : World) (e : Ending) (w' : World) : Prop :=
  e = .returned (.slice (some ⟨w.heap.size, 0, none⟩) (l.length + 80) (l.length + 80)) ∧ w'.ownsRow w.heap.size 5 1 (.slice (some ⟨w.heap.size, 0, none⟩) (l.length + 80) (l.length + 80)) (l.length + 80) (bytesV (roomL l m 80)) ∧ Below w.heap.size w w'
theorem room_src {B : Nat} {w : World} {a : Option Addr} {cap : Nat} {l : List UInt8} (h : SlB B w (.slice a l.length cap) l) (hB : B ≤ w.heap.size) (o : Obj) (p : Addr) :
    0 < (bytesV l).length → some p = some p ∧ ∃ ad, a = some ad ∧ ∀ (j : Nat) (v : Value), (bytesV l)[j]? = some v → (w.alloc o).cell? (ad.add j) = some v := by
  intro h0
  rcases h with ⟨rfl, _⟩ | ⟨b, off, cap', h1, h2, h3, _⟩
  · simp [bytesV] at h0
  · injection h1 with h1 _ _
    refine ⟨rfl, ⟨b, off, none⟩, h1, fun j v hv => ?_⟩
    have hj : j < l.length := by
      have := (List.getElem?_eq_some_iff.1 hv).1
      simpa [bytesV] using this
    have h4 := h3 j hj
    rw [show (⟨b, off, none⟩ : Addr).add j = ⟨b, off + j, none⟩ by unfold Addr.add; split <;> simp_all, (one_below w o).cell (p := ⟨b, off + j, none⟩) (by show b < _; omega), h4, ← hv, bytesV_at hj]
theorem room_start {w w' : World} {l : List UInt8} {m : Nat} (h : w'.heap[w.heap.size]? = some (.cells (splice (madeCells #[.int .u8 0] (l.length + 80)).toList 0 (bytesV l)).toArray 5 (0, 0))) (hl : l.length ≤ 100000) :
    w'.ownsRow w.heap.size 5 1 (.slice (some ⟨w.heap.size, 0, none⟩) (l.length + 80) (l.length + 80)) (l.length + 80) (bytesV (roomL l m 0)) := by
  have e : splice (madeCells #[.int .u8 0] (l.length + 80)).toList 0 (bytesV l) = bytesV (roomL l m 0) := by
    rw [made_u8]
    unfold splice roomL
    have : (bytesV l).length = l.length := by simp [bytesV]
    rw [List.take_zero, this, Nat.zero_add, List.nil_append, bytesV_append]
    congr 1
    simp [bytesV]
  rw [e] at h
  have hn : (bytesV (roomL l m 0)).length = l.length + 80 := by rw [bytesV_length, roomL_length _ _ _ (by omega)]
  refine ⟨by rw [hn, Nat.mul_one], Or.inr ⟨_, _, _, rfl, Nat.le_refl _, h, Nat.le_refl _, by unfold maxLen; omega, by simpa using hn, ?_⟩⟩
  rw [Nat.mul_one, ← hn]; simp
def RelRo (l : List UInt8) (m : Nat) (w : World) (i : Value) (wr : World) : Prop :=
  ∃ j : Nat, j ≤ 80 ∧ i = .int .i64 ((l.length : Int) + j) ∧ wr.ownsRow w.heap.size 5 1 (.slice (some ⟨w.heap.size, 0, none⟩) (l.length + 80) (l.length + 80)) (l.length + 80) (bytesV (roomL l m j)) ∧ Below w.heap.size w wr
set_option maxHeartbeats 1000000 in
set_option maxRecDepth 100000 in
theorem roomy_bytes (B : Nat) (v : Value) (l : List UInt8) (m : Nat) (w : World) (h : SlB B w v l) (hB : B ≤ w.heap.size) (hm : m < 256) (hl : l.length ≤ 100000) :
    Calls Tryd.prog 9 #[v, .int .u8 m] w (Roomed l m w) := by
  obtain ⟨a, cap, rfl, hc⟩ := h.len
  have H := Lib.hid h
  clear h
  obtain ⟨i0, hi0, hz0, hz1, hz2⟩ := info_u8
  have hbig : i0.bytes * (l.length + 80) ≤ 281474976710656 := by rw [hz2]; omega
  have hmk := run_make_row (P := Tryd.prog) 24 5 i0 (.int .u8 0) Tryd.underlying24 hi0 hz0 hz1 rfl .i64 .i64 (l.length + 80) hbig (by omega) w
  rw [show ((l.length + 80 : Nat) : Int) = (l.length : Int) + 80 by omega] at hmk
  clear hi0 hz0 hz1 hz2 hbig
  have hu8 : (Tryd.prog.info? 5).map (·.size) = some 1 := by kernel_rfl
  have HU8 := Lib.hid hu8
  clear hu8
  have HN := Lib.hid (show (bytesV l).length = Nat.min l.length (l.length + 80) by rw [bytesV_length]; show _ = min _ _; omega)
  have HFIT := Lib.hid (show 0 + (bytesV l).length ≤ (madeCells #[.int .u8 0] (l.length + 80)).toList.length by rw [bytesV_length, made_u8, bytesV_length, List.length_replicate]; omega)
  have HONE := Lib.hid (show ∀ v ∈ bytesV l, v.oneCell' = true from fun v hv => by obtain ⟨c, _, rfl⟩ := List.mem_map.1 hv; rfl)
  go_enter Tryd.func9, Tryd.ntmps9
  go_wp2_with (with_reducible refine wpList_copy_splice rfl (.tmp 11) (.tmp 12) 24 24 rfl 5 Tryd.underlying24 HU8.out _ _ _ _ _ _ rfl rfl w.heap.size 0 (madeCells #[.int .u8 0] (l.length + 80)).toList 5 (heap_alloc_new w _) (bytesV l) HN.out (room_src H.out hB _ _) HFIT.out HONE.out w.heap.size w (one_below w _) (Nat.le_refl _) ?_; intro w2 hg2 hb2; have Hrow := Lib.hid (room_start (m := m) hg2.out hl); have Hb2 := Lib.hid hb2; clear hg2 hb2)
  go_loopw [6] (fun i wr => RelRo l m w i wr) (fun i _ => l.length + 80 - (intOf i).toNat)
  case atStart => exact ⟨0, by omega, by simp, Hrow.out, Hb2.out⟩
  case round =>
    obtain ⟨j, hj, rfl, hown, hb⟩ := hrel
    have HO := Lib.hid hown
    have HB := Lib.hid hb
    clear hown hb
    by_cases hlt : j < 80
    · have c1 : ∃ u, wr.cell? ⟨w.heap.size, l.length + j, none⟩ = some u := by
        have hlen : l.length + j < (bytesV (roomL l m j)).length := by rw [bytesV_length, roomL_length _ _ _ hj]; omega
        exact ⟨_, own_cell HO.out (List.getElem?_eq_getElem hlen)⟩
      obtain ⟨u, c1⟩ := c1
      have c2 := own_frozen HO.out (l.length + j)
      have HS := Lib.hid (roomL_set l m j hm hlt)
      go_wp2_with fail
      go_roundw
      case rel => exact ⟨j + 1, by omega, by go_num, by have := own_set HO.out (l.length + j) (.int .u8 m); rwa [HS.out] at this, HB.out.setCell (Nat.le_refl _) _⟩
      case measure => simp [intOf]; omega
    · obtain rfl : j = 80 := by omega
      go_wp2_with fail
      go_ret
      exact ⟨rfl, HO.out, HB.out⟩
/-- The beginning of such a row. -/
theorem room_head {w : World} {B g m : Nat} {l : List UInt8} (h : w.ownsRow B 5 1 (.slice (some ⟨g, 0, none⟩) (l.length + 80) (l.length + 80)) (l.length + 80) (bytesV (roomL l m 80))) : SlB w.heap.size w (.slice (some ⟨g, 0, none⟩) l.length (l.length + 80)) l := by
  have hlr : (roomL l m 80).length = l.length + 80 := roomL_length _ _ _ (by omega)
  have h1 : SlB w.heap.size w (.slice (some ⟨g, 0, none⟩) (l.length + 80) (l.length + 80)) (roomL l m 80) := slb_own (B := B) (by rw [hlr]; exact h)
  have h2 := slb_take (l := roomL l m 80) (m := l.length) (cap := l.length + 80) (a := some ⟨g, 0, none⟩) (B := w.heap.size) (w := w) (by rw [hlr]; exact h1) (by omega)
  rwa [show (roomL l m 80).take l.length = l by simp [roomL]] at h2
theorem room_whole {w : World} {B g m : Nat} {l : List UInt8} (h : w.ownsRow B 5 1 (.slice (some ⟨g, 0, none⟩) (l.length + 80) (l.length + 80)) (l.length + 80) (bytesV (roomL l m 80))) : SlB w.heap.size w (.slice (some ⟨g, 0, none⟩) (l.length + 80) (l.length + 80)) (roomL l m 80) := by
  have hlr : (roomL l m 80).length = l.length + 80 := roomL_length _ _ _ (by omega)
  exact slb_own (B := B) (by rw [hlr]; exact h)
end Go.Proofs.YtoflfbcjlddjaaaDoor
