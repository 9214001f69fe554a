import Derived.Test.YtilljaneegbhlaaGreatDoorZBytes
import Derived.Deep.OwnRows
namespace Go.Proofs.YtilljaneegbhlaaGreatDoor
open Go.RowKit Go.Deep
def tab (n : Nat) (f : Nat → Nat) : List UInt8 := (List.range n).map fun i => UInt8.ofNat (f i)
theorem tab_length (n : Nat) (f : Nat → Nat) : (tab n f).length = n := by simp [tab]
variable {n i : Nat}
theorem tab_getD (f : Nat → Nat) (h : i < n) : (tab n f).getD i 0 = UInt8.ofNat (f i) := by simp [tab, List.getD, h]
theorem tab_nat (f : Nat → Nat) (h : i < n) (hf : f i < 256) : ((tab n f).getD i 0).toNat = f i := by rw [tab_getD f h, UInt8.toNat_ofNat']; omega
theorem tab_congr {f g : Nat → Nat} (h : ∀ i, i < n → f i = g i) : tab n f = tab n g := List.map_congr_left fun i hi => by rw [h i (List.mem_range.1 hi)]
theorem tab_set {f g : Nat → Nat} {x : Nat} (hx : x < 256) (h : ∀ j, j < n → j ≠ i → g j = f j) (hi : g i = x) : (bytesV (tab n f)).set i (.int .u8 x) = bytesV (tab n g) := by
 refine List.ext_getElem (by simp [bytesV, tab]) fun j h1 h2 => ?_
 have hj : j < n := by simpa [bytesV, tab] using h2
 rw [List.getElem_set]
 by_cases e : i = j
 ·subst e; rw [if_pos rfl]; simp [bytesV, tab, hi]; omega
 ·rw [if_neg e]; simp [bytesV, tab, h j hj (fun q => e q.symm)]
theorem tab_of (l : List UInt8) : l = tab l.length fun i => (l.getD i 0).toNat := by
 refine list_eq_getD (by rw [tab_length]) fun i hi => ?_
 rw [tab_getD _ hi]; simp
theorem tab_eq {l : List UInt8} {f : Nat → Nat} (hl : l.length = n) (h : ∀ i, i < n → (l.getD i 0).toNat = f i) : l = tab n f := by
 subst hl; rw [tab_of l]; rw [tab_length]; exact tab_congr h
def zeros (n : Nat) : List UInt8 := List.replicate n 0
theorem zeros_length (n : Nat) : (zeros n).length = n := by simp [zeros]
theorem zeros_tab (n : Nat) : zeros n = tab n fun _ => 0 := List.ext_getElem (by simp [zeros, tab]) fun i h1 h2 => by simp [zeros, tab]
theorem zeros_getD (n i : Nat) : ((zeros n).getD i 0).toNat = 0 := by
 by_cases h : i < n
 ·simp [zeros, List.getD, h]
 ·simp [zeros, List.getD, h]
theorem made_zeros (n : Nat) : (madeCells #[.int .u8 0] n).toList = bytesV (zeros n) := by
 refine List.ext_getElem (by simp [madeCells, bytesV, zeros]) fun i h1 h2 => ?_
 simp [madeCells, bytesV, zeros, Nat.mod_one]
theorem make_u8 (n : Nat) (hn : n ≤ 100000) (w : World) : (Instr.makeSlice 37 (.int .i64 (n : Int)) (.int .i64 (n : Int))).run Tryz.prog w = .ok (.slice (some ⟨w.heap.size, 0, none⟩) n n) (w.alloc (.cells (madeCells #[.int .u8 0] n) 5)) :=
 run_make_row' (P := Tryz.prog) 37 5 (.int .u8 0) 1 Tryz.underlying37 Tryz.info5 rfl .i64 .i64 n (by omega) (by omega) w
theorem made_own (w : World) (B n : Nat) (hB : B ≤ w.heap.size) (hn : n ≤ 100000) : (w.alloc (.cells (madeCells #[.int .u8 0] n) 5)).ownsRow B 5 1 (.slice (some ⟨w.heap.size, 0, none⟩) n n) n (bytesV (zeros n)) := by
 have := own_new w B (madeCells #[.int .u8 0] n) 5 1 n hB (by rw [size_madeCells]; simp) (by unfold maxLen; omega)
 rwa [made_zeros] at this
end Go.Proofs.YtilljaneegbhlaaGreatDoor
