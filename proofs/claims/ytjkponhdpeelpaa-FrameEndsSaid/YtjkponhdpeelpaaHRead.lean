/-
  frame.read.
-/
import Derived.Test.YtjkponhdpeelpaaHBuild
import Derived.Test.YtjkponhdpeelpaaDStill
import Derived.Test.YtjkponhdpeelpaaHNum
import Derived.IntWalk
namespace Go.Proofs.Ytjkponhdpeelpaa
open Go.RowKit Crc Hf
/-- A frame is answered. -/
def FrameB (f : Fr) (w : World) (e : Ending) (w' : World) : Prop := e = .returned (.agg (frA f)) ∧ Below w.heap.size w w'
/-- A piece of bytes that lie in block b from o on. -/
theorem slb_piece {B b o : Nat} {w : World} {l : List UInt8} (h : BytesAt w b o l) (hb : b < B) (i n c : Nat) (hi : i + n ≤ l.length) (h0 : 0 < n) (hc : n ≤ c) : SlB B w (.slice (some ⟨b, o + i, none⟩) n c) ((l.drop i).take n) := by
  have hn : ((l.drop i).take n).length = n := by simp; omega
  refine Or.inr ⟨b, o + i, c, by rw [hn], hb, fun x hx => ?_, by omega, by omega⟩
  rw [Nat.add_assoc, h (i + x) (by omega)]
  rw [hn] at hx
  simp [List.getD, hx]
theorem bytesAt_alloc {w : World} {b o : Nat} {l : List UInt8} (h : BytesAt w b o l) (hb : b < w.heap.size) (ob : Obj) : BytesAt (w.alloc ob) b o l := fun x hx => by
  rw [(one_below w ob).cell (p := ⟨b, o + x, none⟩) hb]; exact h x hx
theorem run_build_op {P : Program} {w : World} {a : Act} {o : Oper} {t : TypeId} {ps : Array (Nat × Operand)} {vs : Array (Nat × Value)} {v : Value} (ho : o.op = .build t ps) (hv : ps.map (fun q => (q.1, a.eval q.2)) = vs)
    (hr : (Instr.build t vs).run P w = .ok v w) : (execOp a.eval o).run P w = .ok (.value v) w := by
  unfold execOp
  subst hv
  simp [ho, hr]
theorem number_flip {args : Array Value} {n : Int} {w : World} (h : Calls Try.prog 32 args w (fun e w' => e = .returned (.int .i64 n) ∧ w = w')) : Calls Try.prog 32 args w (fun e w' => e = .returned (.int .i64 n) ∧ w' = w) :=
  h.mono fun _ _ ⟨h1, h2⟩ => ⟨h1, h2.symm⟩
theorem number_four {args : Array Value} {l : List UInt8} {w : World} (hl : l.length ≤ 4) (h : Calls Try.prog 32 args w (fun e w' => e = .returned (.int .i64 (int64 (leV l))) ∧ w = w')) : Calls Try.prog 32 args w (fun e w' => e = .returned (.int .i64 (leV l : Int)) ∧ w' = w) := by
  have h4 := leV_lt l
  have h5 : leV l < 9223372036854775808 := Nat.lt_of_lt_of_le h4 (Nat.le_trans (Nat.pow_le_pow_right (by decide) (show 8 * l.length ≤ 32 by omega)) (by decide))
  have e : int64 (leV l) = (leV l : Int) := if_pos h5
  rw [e] at h
  exact number_flip h
theorem range_piece {w : World} {b o : Nat} {l : List UInt8} (h : BytesAt w b o l) (i n : Nat) (hi : i + n ≤ l.length) : w.rangeAt b (o + i) (bytesV ((l.drop i).take n)) := fun j v hv => by
  have hj : j < ((l.drop i).take n).length := by have := (List.getElem?_eq_some_iff.1 hv).1; rwa [bytesV_length] at this
  have hj' : j < n := by simp at hj; omega
  rw [Nat.add_assoc, h (i + j) (by omega), ← hv, bytesV_at hj]
  simp [List.getD, hj']
set_option maxHeartbeats 2000000 in
set_option maxRecDepth 100000 in
theorem read_any (B : Nat) (v : Value) (l : List UInt8) (w : World) (h : SlB B w v l) (hB : B ≤ w.heap.size) (hl : l.length = 128) : Calls Try.prog 22 #[v] w (FrameB (Hf.read l) w) := by
  have hc : (Value.agg (frA zeroF)).cells = frA zeroF := rfl
  have hz := szFr_run
  have hz0 := zero_frame
  obtain ⟨b, o, cap, rfl, hb, hat, -, hcap⟩ : ∃ b o cap, v = .slice (some ⟨b, o, none⟩) 128 cap ∧ b < B ∧ BytesAt w b o l ∧ 0 < l.length ∧ 128 ≤ cap := by
    rcases h with ⟨rfl, _⟩ | ⟨b, o, cap, h1, h2, h3, h4, h5⟩
    · simp at hl
    · exact ⟨b, o, cap, by rw [h1, hl], h2, h3, h4, by omega⟩
  clear h
  go_enter Try.func22, Try.ntmps22
  go_wp2_with fail
  generalize hW : w.alloc (.cells (frA zeroF) 24) = w1
  have HW := Lib.hid hW
  have hat1 : BytesAt w1 b o l := by rw [← hW]; exact bytesAt_alloc hat (by omega) _
  clear hW hz0
  obtain ⟨x2, hx2⟩ : ∃ x, (l.getD 2 0).toNat = x := ⟨_, rfl⟩
  obtain ⟨x3, hx3⟩ : ∃ x, (l.getD 3 0).toNat = x := ⟨_, rfl⟩
  have c2 : w1.cell? ⟨b, o + 2, none⟩ = some (.int .u8 x2) := by rw [← hx2]; exact hat1 2 (by omega)
  have c3 : w1.cell? ⟨b, o + 3, none⟩ = some (.int .u8 x3) := by rw [← hx3]; exact hat1 3 (by omega)
  have b2 : x2 < 256 := by rw [← hx2]; exact u8_lt _
  have b3 : x3 < 256 := by rw [← hx3]; exact u8_lt _
  have hsl := fun W => slice_data ⟨b, o + 16, none⟩ (cap - 16) W
  have h108 : (bytesV ((l.drop 16).take 108)).length = 108 := by rw [bytesV_length]; simp; omega
  have HBD := Lib.hid (show (Instr.build 24 #[(0, .int .i64 (x2 : Int)), (1, .int .i64 (x3 : Int)), (2, .int .i64 (leV ((l.drop 4).take 4) : Int)), (3, .int .i64 (int64 (leV ((l.drop 8).take 8)))), (4, .agg (bytesV ((l.drop 16).take 108)).toArray)]).run Try.prog w1.drew = .ok (.agg (frA (Hf.read l))) w1.drew by
    rw [← hx2, ← hx3]; exact run_build_frame _ _ _ _ _ (by rw [← bytesV_length]; exact h108) w1.drew)
  have N1 := number_four (by simp; omega) (number_any B _ _ w1.drew (slb_piece (w := w1.drew) (n := 4) (c := cap - 4) hat1 hb 4 (by omega) (by omega) (by omega)) (by simp; omega))
  have N2 := number_flip (number_any B _ _ w1.drew (slb_piece (w := w1.drew) (n := 8) (c := cap - 8) hat1 hb 8 (by omega) (by omega) (by omega)) (by simp; omega))
  clear hx2 hx3
  have e2 : IntKind.i64.wrap (x2 : Int) = x2 := IntWalk.i64_in _ (by omega)
  have e3 : IntKind.i64.wrap (x3 : Int) = x3 := IntWalk.i64_in _ (by omega)
  have HR := Lib.hid (range_piece hat1 16 108 (by omega))
  have i8 : (8 : Int) ≤ cap := by omega
  have i16 : (16 : Int) ≤ cap := by omega
  have i124 : (124 : Int) ≤ cap := by omega
  have n4 : ¬ cap = 4 := by omega
  have n8 : ¬ cap = 8 := by omega
  have n16 : ¬ cap = 16 := by omega
  have HST := Lib.hid (show (storeVar 24 ⟨w.heap.size, 0, none⟩ (.agg (frA (Hf.read l)))).run Try.prog w1.drew = .ok () (w.alloc (.cells (frA (Hf.read l)) 24)).drew by
    rw [← HW.out]; exact store_frame zeroF_is (read_is hl) w.drew)
  refine wp_region_still_tail 19 (by kernel_rfl) (by kernel_rfl) ?_
  simp only [List.take_succ_cons, List.take_zero, List.drop_succ_cons, List.drop_zero]
  iterate 10 still_step
  still_call N1
  iterate 2 still_step
  still_call N2
  iterate 3 still_step
  refine wpStill_load_mid rfl _ _ rfl b (o + 16) rfl (bytesV ((l.drop 16).take 108)) _ HR.out Try.underlying22 rfl (by rw [h108]; exact size_data) ?_
  refine wpStill_val rfl (.agg (frA (Hf.read l))) (run_build_op rfl ?_ HBD.out) ?_
  · go_simp
  refine wpStill_nil ?_
  refine wpList_store_run rfl _ _ _ rfl ⟨w.heap.size, 0, none⟩ (.agg (frA (Hf.read l))) rfl rfl HST.out ?_
  have HL := Lib.hid (frIn_new w.drew (Hf.read l) (read_is hl)).load
  have hld : (loadCellsFrom ⟨w.heap.size, 0, none⟩ 0 szFr #[]).run Try.prog (w.alloc (.cells (frA (Hf.read l)) 24)).drew = .ok (frA (Hf.read l)) (w.alloc (.cells (frA (Hf.read l)) 24)).drew := HL.out
  go_wp2_with fail
  exact bodyPost_ret (v := .agg (frA (Hf.read l))) (by simp [results, Try.results22, go_sem, hz, hld]) rfl ⟨rfl, (Below.refl _ _).drew.alloc (Nat.le_refl _) _⟩
end Go.Proofs.Ytjkponhdpeelpaa
