import Derived.Test.YtilljaneegbhlaaGreatDoorZDKit
import Derived.Test.YtilljaneegbhlaaGreatDoorZKind
namespace Go.Proofs.YtilljaneegbhlaaGreatDoor
open Go.RowKit Go.Deep Dk Go.Maps
set_option maxHeartbeats 1000000
set_option maxRecDepth 100000
variable {d M : Nat} {s : St}
theorem has_any {S : Nat} (w : World) (h : DiskIn w d S M s) (i : Int) : Calls Tryz.prog 75 #[.pointer (some ⟨d, 0, none⟩), .int .i64 i] w (BitSame (decide (0 ≤ i ∧ i < s.n)) w) := by
 have c0 := h.c0
 clear h
 by_cases h0 : 0 ≤ i
 ·by_cases h1 : i < s.n
  ·have hd : decide (0 ≤ i ∧ i < s.n) = true := by simp; omega
   have HD := hI hd; clear hd
   go_enter Tryz.func75, Tryz.ntmps75
   go_wp2
   go_ret; exact bitSame HD.out.symm
  ·go_enter Tryz.func75, Tryz.ntmps75
   go_wp2
   go_ret; exact bitSame (by simp; omega)
 ·go_enter Tryz.func75, Tryz.ntmps75
  go_wp2
  go_ret; exact bitSame (by simp; omega)
theorem dead_any {S : Nat} (w : World) (h : DiskIn w d S M s) : Calls Tryz.prog 82 #[.pointer (some ⟨d, 0, none⟩)] w (BitSame s.dead w) := by
 have c2 := h.c2
 clear h
 go_enter Tryz.func82, Tryz.ntmps82
 go_wp2
 go_ret
 exact bitSame rfl
theorem made_flat {zs : List Value} {k : Nat} (hk : zs.length = k) (n : Nat) : (madeCells zs.toArray (n * k)).toList = flat n fun _ => zs := by
 refine flat_ext (fun _ => hk) (by simp [madeCells, Nat.mul_comm]) fun i j hi hj => ?_
 have h1 : k * i + j < n * k := by have := apart_of (k := k) hi; rw [Nat.mul_comm n k]; omega
 have h2 : (k * i + j) % k = j := by rw [Nat.mul_add_mod]; exact Nat.mod_eq_of_lt hj
 have h3 : j < zs.length := by omega
 simp [madeCells, h1, hk, h2]
 simp [h3]
theorem secsV_new (n : Nat) : secsV n (fun _ => zer) (fun _ => false) = flat n fun _ => secV zer false := rfl
theorem Tryz.info131 : (Tryz.prog.info? 131).map (fun i => (i.zero, i.size, i.bytes)) = some (some (.agg (secV zer false).toArray), 129, 129) := by kernel_rfl
theorem make_secs (n : Nat) (h : n ≤ 128) (w : World) : (Instr.makeSlice 104 (.int .i64 (n : Int)) (.int .i64 (n : Int))).run Tryz.prog w =
  .ok (.slice (some ⟨w.heap.size, 0, none⟩) n n) (w.alloc (.cells (secsV n (fun _ => zer) (fun _ => false)).toArray 131)) := by
 obtain ⟨i, hi, hz⟩ := Option.map_eq_some_iff.1 Tryz.info131
 simp only [Prod.mk.injEq] at hz
 obtain ⟨h1, h2, h3⟩ := hz
 have hr := run_make (P := Tryz.prog) w 104 131 i _ Tryz.underlying104 hi h1 .i64 .i64 n n (by omega) (Int.le_refl _) (by rw [h3]; omega) (by omega)
 simp only [Int.toNat_natCast, h2] at hr
 rw [hr, secsV_new, ← made_flat (secV_length zer_length false)]
 rfl
def NewDisk (n : Nat) (w : World) (e : Ending) (w' : World) : Prop :=
 ∃ d S M, e = .returned (.tuple #[.pointer (some ⟨d, 0, none⟩), .nilIface]) ∧ DiskIn w' d S M (new n) ∧ w.heap.size ≤ d ∧ w.heap.size ≤ S ∧ w.heap.size ≤ M ∧ Below w.heap.size w w'
theorem newDisk_new (n : Nat) (w : World) (h0 : 1 ≤ n) (h : n ≤ 128) :
  DiskIn (((w.alloc (.cells (secsV n (fun _ => zer) (fun _ => false)).toArray 131)).alloc (.map #[] 0)).alloc (.cells #[.slice (some ⟨w.heap.size, 0, none⟩) n n, .map (some (w.heap.size + 1)), .bool false] 107)) (w.heap.size + 1 + 1) w.heap.size (w.heap.size + 1) (new n) := by
 have hs : (w.alloc (.cells (secsV n (fun _ => zer) (fun _ => false)).toArray 131)).heap.size = w.heap.size + 1 := by simp
 have hm := MapIn.made (w.alloc (.cells (secsV n (fun _ => zer) (fun _ => false)).toArray 131)) n
 rw [hs] at hm
 refine ⟨new_ok h, h0, ?_, ?_, .map [], hm.keep (heap_alloc_old _ _ (by simp))⟩
 ·have := heap_alloc_new ((w.alloc (.cells (secsV n (fun _ => zer) (fun _ => false)).toArray 131)).alloc (.map #[] 0)) (.cells #[.slice (some ⟨w.heap.size, 0, none⟩) n n, .map (some (w.heap.size + 1)), .bool false] 107)
  rw [show ((w.alloc (.cells (secsV n (fun _ => zer) (fun _ => false)).toArray 131)).alloc (.map #[] 0)).heap.size = w.heap.size + 1 + 1 by simp] at this; exact this
 ·rw [heap_alloc_old (r := w.heap.size) _ _ (by simp; omega), heap_alloc_old (r := w.heap.size) _ _ (by simp)]
  exact heap_alloc_new w _
theorem new_yes (n : Nat) (w : World) (h0 : 1 ≤ n) (h : n ≤ 128) : Calls Tryz.prog 33 #[.int .i64 (n : Int)] w (NewDisk n w) := by
 have hk := make_secs n h
 have hm := @run_makeMap Tryz.prog
 have HI := hI (newDisk_new n w h0 h)
 generalize (secsV n (fun _ => zer) (fun _ => false)).toArray = cs at hk HI
 go_enter Tryz.func33, Tryz.ntmps33
 go_wp2
 refine bodyPost_ret (v := .tuple #[.pointer (some ⟨w.heap.size + 1 + 1, 0, none⟩), .nilIface]) (by simp [results, Tryz.results33, go_sem]) rfl ⟨_, _, _, rfl, HI.out, by omega, by omega, by omega, ?_⟩
 exact balloc (balloc (one_below _ _) _) _
def opRead : ByteArray := ⟨#[100, 105, 115, 107, 46, 82, 101, 97, 100]⟩
def Err2 (z : Value) (op : ByteArray) (k at_ : Int) (w : World) (e : Ending) (w' : World) : Prop := e = .returned (.tuple #[z, wrapV op at_ (errV k)]) ∧ w = w'
end Go.Proofs.YtilljaneegbhlaaGreatDoor
