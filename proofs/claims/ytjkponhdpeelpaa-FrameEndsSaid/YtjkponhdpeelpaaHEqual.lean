/-
  bytes.Equal.
-/
import Derived.Test.YtjkponhdpeelpaaBytes
import Derived.Laws.BytesArg
namespace Go.Proofs.Ytjkponhdpeelpaa
open Go.RowKit
theorem conv_bytesH {B : Nat} {w : World} {v : Value} {l : List UInt8} (h : SlB B w v l) : (convert 25 9 v).run Try.prog w = .ok (.string ⟨l.toArray⟩) w := by
  rcases h with ⟨rfl, a, cap, rfl⟩ | ⟨b, o, cap, rfl, _, h3, _⟩
  · cases a with
    | none => exact run_convert_bytes_nil w _ _ Try.underlying25 Try.underlying5 0 cap _ Try.underlying9
    | some a =>
      rw [run_convert_bytes_string w _ _ _ _ 0 cap Try.underlying25 Try.underlying5 Try.underlying9, run_bytesToString w a 0 cap [] (by simp [loadCells, loadCellsFrom])]
      rfl
  · have h := run_convert_bytes_arg w (P := Try.prog) 25 5 Try.underlying25 Try.underlying5 b o l.length cap (l.map fun c => (c.toNat : Int)) (by simp) (fun i hi => by
      rw [h3 i hi]
      simp [List.getD, hi]) 9 Try.underlying9
    rw [h]
    have hm : (l.map fun c => (c.toNat : Int)).map (fun n => UInt8.ofNat n.toNat) = l := by
      rw [List.map_map]
      conv => rhs; rw [← List.map_id l]
      exact List.map_congr_left fun c _ => by simp
    unfold strOfNums
    rw [hm]
def StrV (_ : World) (s : ByteArray) (v : Value) : Prop := v = .string s

theorem toList_eq (l m : List UInt8) : ((⟨l.toArray⟩ : ByteArray).toList == (⟨m.toArray⟩ : ByteArray).toList) = decide (l = m) := by
  rw [ByteArray.toList_eq, ByteArray.toList_eq, Bool.eq_iff_iff]
  simp
set_option maxHeartbeats 1000000 in
theorem equal_any (B : Nat) (va vb : Value) (l m : List UInt8) (w : World) (ha : SlB B w va l) (hb : SlB B w vb m) : Calls Try.prog 23 #[va, vb] w (BitSame (decide (l = m)) w) := by
  have c1 := conv_bytesH ha
  have c2 := conv_bytesH hb
  have HE := Lib.hid (toList_eq l m)
  generalize (⟨l.toArray⟩ : ByteArray) = s1 at *
  generalize (⟨m.toArray⟩ : ByteArray) = s2 at *
  obtain ⟨a1, cap1, rfl, _⟩ := ha.len
  obtain ⟨a2, cap2, rfl, _⟩ := hb.len
  clear ha hb
  go_enter Try.func23, Try.ntmps23
  go_wp2_with fail
  go_ret
  exact bitSame HE.out
end Go.Proofs.Ytjkponhdpeelpaa
