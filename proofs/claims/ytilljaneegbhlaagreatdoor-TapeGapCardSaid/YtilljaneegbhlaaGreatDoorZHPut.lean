import Derived.Test.YtilljaneegbhlaaGreatDoorZBytes
import Derived.Laws.BytesArg
import Derived.Test.YtilljaneegbhlaaGreatDoorZHWrite
import Derived.Test.YtilljaneegbhlaaGreatDoorZHRight
import Derived.Deep.RegionHeld3
namespace Go.Proofs.YtilljaneegbhlaaGreatDoor
open Go.RowKit
theorem conv_bytesH {B : Nat} {w : World} {v : Value} {l : List UInt8} (h : SlB B w v l) : (convert 37 9 v).run Tryz.prog w = .ok (.string ⟨l.toArray⟩) w := by
 rcases h with ⟨rfl, a, cap, rfl⟩ | ⟨b, o, cap, rfl, _, h3, _⟩
 ·cases a with
  | none => exact run_convert_bytes_nil w _ _ Tryz.underlying37 Tryz.underlying5 0 cap _ Tryz.underlying9
  | some a =>
   rw [run_convert_bytes_string w _ _ _ _ 0 cap Tryz.underlying37 Tryz.underlying5 Tryz.underlying9, run_bytesToString w a 0 cap [] (by simp [loadCells, loadCellsFrom])]
   rfl
 ·have h := run_convert_bytes_arg w (P := Tryz.prog) 37 5 Tryz.underlying37 Tryz.underlying5 b o l.length cap (l.map fun c => (c.toNat : Int)) (by simp) (fun i hi => by
   rw [h3 i hi]
   simp [List.getD, hi]) 9 Tryz.underlying9
  rw [h]
  have hm : (l.map fun c => (c.toNat : Int)).map (fun n => UInt8.ofNat n.toNat) = l := by
   rw [List.map_map]
   conv => rhs; rw [← List.map_id l]
   exact List.map_congr_left fun c _ => by simp
  unfold strOfNums; rw [hm]
theorem toList_eq (l m : List UInt8) : ((⟨l.toArray⟩ : ByteArray).toList == (⟨m.toArray⟩ : ByteArray).toList) = decide (l = m) := by
 rw [ByteArray.toList_eq, ByteArray.toList_eq, Bool.eq_iff_iff]
 simp
set_option maxHeartbeats 1000000 in
theorem equal_any (B : Nat) (va vb : Value) (l m : List UInt8) (w : World) (ha : SlB B w va l) (hb : SlB B w vb m) : Calls Tryz.prog 164 #[va, vb] w (BitSame (decide (l = m)) w) := by
 have c1 := conv_bytesH ha
 have c2 := conv_bytesH hb
 have HE := hI (toList_eq l m)
 generalize (⟨l.toArray⟩ : ByteArray) = s1 at *
 generalize (⟨m.toArray⟩ : ByteArray) = s2 at *
 obtain ⟨a1, cap1, rfl, _⟩ := ha.len
 obtain ⟨a2, cap2, rfl, _⟩ := hb.len
 clear ha hb
 go_enter Tryz.func164, Tryz.ntmps164
 go_wp2_with fail
 go_ret
 exact bitSame HE.out
end Go.Proofs.YtilljaneegbhlaaGreatDoor
namespace Go.Proofs.YtilljaneegbhlaaGreatDoor
open Go.RowKit Crc Hf
theorem madeB_nil (w w' : World) (hb : Below w.heap.size w w') : MadeB [] w (.returned (.slice none 0 0)) w' := ⟨_, rfl, World.ownsRow_nil w' _ _ _, hb⟩
variable {w2 : World}
theorem made_lt {n : Nat} (h : w2.heap.size = n + 1) : n < w2.heap.size := by omega
def FrS (f : Fr) (b : Nat) (W w' : World) : Prop := FrIn f b w' ∧ Below W.heap.size W w' ∧ b < w'.heap.size
variable {f : Fr} {b : Nat} {W : World}
theorem FrS.drew {w' : World} (h : FrS f b W w') : FrS f b W w'.drew := ⟨h.1, h.2.1.drew, h.2.2⟩
theorem FrS.then {w1 : World} (h : FrS f b W w1) (hb : Below w1.heap.size w1 w2) : FrS f b W w2 := ⟨h.1.below h.2.2 hb, bthen h.2.1 hb, Nat.lt_of_lt_of_le h.2.2 hb.size⟩
theorem wpList_load_fr {ops : Array Oper} {rest : List Oper} {op : Oper} {a : Act} {w : World} {Q : Exit → Act → World → Prop} (hgd : op.guard = none) (x : Operand) (ho : op.op = .load 151 x)
  (hx : a.eval x = .pointer (some ⟨b, 0, none⟩)) (hf : FrIn f b w) (h : wpList Tryz.prog ops Q rest (a.put op.dst (.agg (frA f))) w) : wpList Tryz.prog ops Q (op :: rest) a w :=
 wpList_load_mid hgd _ x ho b 0 hx (frC f) _ hf.range Tryz.underlying151 rfl (by rw [frC_length hf.1]; exact size_frame) h
theorem frS_new (w : World) (f : Fr) (h : f.is) : FrS f w.heap.size w (w.alloc (.cells (frA f) 151)) := ⟨frIn_new w f h, one_below _ _, by simp⟩
set_option maxHeartbeats 2000000 in
set_option maxRecDepth 100000 in
theorem put_any (f : Fr) (w : World) (hi : f.is) : Calls Tryz.prog 91 #[.agg (frA f)] w (MadeB (Hf.put f) w) := by
 have hc : (Value.agg (frA f)).cells = frA f := rfl
 have F0 := hI (frS_new w f hi)
 by_cases hr : rightB f = true
 ·have C1 := hI (fun w => show Calls Tryz.prog 112 #[.agg (frA f)] w (Bit true w) from hr ▸ right_any f w)
  have C2 := hI (fun (w' : World) (tb : Nat) (hT : TableIn w' tb) (ht : tb < w'.heap.size) => write_any tb f w' hT ht hi (of_decide_eq_true hr)); have HP := hI (put_yes hr); clear hr
  go_enter Tryz.func91, Tryz.ntmps91
  go_wp2_with (first
   | (refine wpList_load_fr (op := ⟨some 3, _, _, _, _, _⟩) rfl (.tmp 1) rfl rfl F0.out.1 ?_)
   | ((with_reducible refine (C1.out _).mono ?_); rintro e w1 ⟨rfl, hb⟩))
  have F1 := hI (F0.out.then hb); clear hb; have hf1 := F1.out
  have hl : ∀ w', FrS f w.heap.size w w' → (loadCellsFrom ⟨w.heap.size, 0, none⟩ 0 szFr #[]).run Tryz.prog w' = .ok (frA f) w' := fun w' h => h.1.load
  have hz := szFr_run
  go_region_held3 (fun w' => FrS f w.heap.size w w') (repeat (first | assumption | refine FrS.drew ?_)) (first
   | (go_at_call 114; (with_reducible refine (make_any _).mono ?_); rintro e w2 ⟨rfl, hT, hz', hb⟩; have HT := hI (show TableIn w2 w1.heap.size from hT); have HZ := hI (show w1.heap.size < w2.heap.size from made_lt hz'); have hfn := FrS.then ‹_› hb; clear hT hz' hb)
   | (go_at_call 113; (with_reducible refine (C2.out _ _ HT.out HZ.out).mono ?_); rintro e w3 ⟨v3, rfl, ho, hb⟩; have HO := hI ho; have HB := hI (FrS.then hfn hb).2.1; have hfn' := FrS.then hfn hb; have HS := hI hfn.2.1.size; clear ho hb))
  go_wp2_with fail; go_ret; refine ⟨_, rfl, ?_, ?_⟩
  ·rw [HP.out]; exact own_base HO.out HS.out
  ·exact HB.out
 ·replace hr : rightB f = false := by simpa using hr
  have C1 := hI (fun w => show Calls Tryz.prog 112 #[.agg (frA f)] w (Bit false w) from hr ▸ right_any f w); have HP := hI (put_no hr); clear hr
  go_enter Tryz.func91, Tryz.ntmps91
  go_wp2_with (first
   | (refine wpList_load_fr (op := ⟨some 3, _, _, _, _, _⟩) rfl (.tmp 1) rfl rfl F0.out.1 ?_)
   | ((with_reducible refine (C1.out _).mono ?_); rintro e w1 ⟨rfl, hb⟩))
  go_ret; rw [HP.out]; exact madeB_nil _ _ (bthen (one_below _ _) hb)
end Go.Proofs.YtilljaneegbhlaaGreatDoor
