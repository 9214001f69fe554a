/-
  stavelaw5.CrcRuns: the chapter's runs.
-/
import Derived.Test.YtmhklgknlgkclaaKOn
import Derived.Lib.SlBytesConst
namespace Go.Proofs.Ytmhklgknlgkclaa
open Go.RowKit Crc
def digits : List UInt8 := [49, 50, 51, 52, 53, 54, 55, 56, 57]
theorem sum_digits : sum digits = 3808858755 := by decide +kernel
theorem sum_nil_any (tb : Nat) (w : World) (hT : TableIn w tb) : Calls Try.prog 10 #[.pointer (some ⟨tb, 0, none⟩), .slice none 0 0] w (U32Same 0 w) :=
  sum_any 0 tb _ [] w hT (Or.inl ⟨rfl, _, _, rfl⟩) (by simp)
theorem lit_slb {w : World} {cs : Array Value} {T : TypeId} {n : Nat} {m : Nat × Nat} (l : List UInt8) (hn : l.length = n) (h : cs.toList = bytesV l) : SlB (w.heap.size + 1) (w.alloc (.cells cs T m)) (.slice (some ⟨w.heap.size, 0, none⟩) n n) l := by
  subst hn
  refine slb_lit (fun i v hv => ?_) (by omega) (Nat.le_refl _)
  rw [cell_of_row _ w.heap.size i cs T m (heap_alloc_new w _), ← h] at *
  simpa using hv
theorem run_digits (tb : Nat) (w : World) (hT : TableIn (w.alloc (.cells #[.int .u8 49, .int .u8 50, .int .u8 51, .int .u8 52, .int .u8 53, .int .u8 54, .int .u8 55, .int .u8 56, .int .u8 57] 5 (9, 10))) tb) :
    Calls Try.prog 10 #[.pointer (some ⟨tb, 0, none⟩), .slice (some ⟨w.heap.size, 0, none⟩) 9 9] (w.alloc (.cells #[.int .u8 49, .int .u8 50, .int .u8 51, .int .u8 52, .int .u8 53, .int .u8 54, .int .u8 55, .int .u8 56, .int .u8 57] 5 (9, 10))) (U32Same 3808858755 (w.alloc (.cells #[.int .u8 49, .int .u8 50, .int .u8 51, .int .u8 52, .int .u8 53, .int .u8 54, .int .u8 55, .int .u8 56, .int .u8 57] 5 (9, 10)))) := by
  have := sum_any (w.heap.size + 1) _ _ digits _ hT (lit_slb digits rfl rfl) (by decide)
  rwa [sum_digits] at this
set_option maxHeartbeats 1000000 in
theorem runs_any (w : World) : Calls Try.prog 3 #[] w (Bit true w) := by
  have kc := fun (w : World) (C : Array Value) (n c : Nat) => Lib.run_convert_bytes_const (P := Try.prog) w 26 5 C n c Try.underlying26 Try.underlying5
  go_enter Try.func3, Try.ntmps3
  go_wp2_with fail
  go_at_call 9
  refine (make_any _).mono ?_
  rintro e w1 ⟨rfl, hT, hz, hb⟩
  have HT := Lib.hid hT
  have HB := Lib.hid hb
  have HZ := Lib.hid hz
  clear hT hz hb
  have hlt : w.heap.size < w1.heap.size := by have := HZ.out; omega
  have C1 := Lib.hid (run_digits _ _ (HT.out.below hlt (one_below _ _)))
  have C2 := Lib.hid (sum_nil_any _ _ (HT.out.below hlt (one_below w1 (.cells #[.int .u8 49, .int .u8 50, .int .u8 51, .int .u8 52, .int .u8 53, .int .u8 54, .int .u8 55, .int .u8 56, .int .u8 57] 5 (9, 10)))))
  go_wp2_with (first | ((with_reducible refine C1.out.mono ?_); rintro e w' ⟨rfl, rfl⟩) | ((with_reducible refine C2.out.mono ?_); rintro e w' ⟨rfl, rfl⟩))
  go_ret
  exact bit rfl (bthen HB.out (one_below _ _))
end Go.Proofs.Ytmhklgknlgkclaa
