/-
  staveref1.Crc: it answers the sum too.
-/
import Derived.Test.YtidnmkghmaeniaaGreatDoorKTurnL
import Derived.Test.YtidnmkghmaeniaaGreatDoorHGet
import Derived.IntWalk
import Derived.Test.YtidnmkghmaeniaaGreatDoorHBuild
import Derived.Deep.CutBlock
import Derived.Deep.DeepCutAuto
namespace Go.Proofs.YtidnmkghmaeniaaGreatDoor
open Go.RowKit Crc
def RelR1 (l : List UInt8) (v i : Value) : Prop := ∃ k : Nat, k ≤ l.length ∧ i = .int .i64 k ∧ v = .int .u32 (run ones (l.take k))
def RelR2 (g : Nat) (v i : Value) : Prop := ∃ k x : Nat, k ≤ 8 ∧ x < 4294967296 ∧ sts (8 - k) x = g ∧ v = .int .u32 x ∧ i = .int .i64 k
theorem relR2_next {g k x : Nat} {v : Int} (hx : x < 4294967296) (hlt : k < 8) (h : sts (8 - k) x = g) (e : v = (st x : Nat)) : RelR2 g (.int .u32 v) (.int .i64 (k + 1)) := by
  refine ⟨k + 1, st x, by omega, st_lt hx, ?_, by rw [e], by go_num⟩
  rw [← h, show 8 - k = (8 - (k + 1)) + 1 by omega]
  rfl
set_option maxHeartbeats 1000000 in
theorem ref_any (B : Nat) (v : Value) (l : List UInt8) (w : World) (h : SlB B w v l) (hl : l.length ≤ 1000000) :
    Calls Tryz.prog 130 #[v] w (U32Same (sum l) w) := by
  obtain ⟨a, cap, rfl, _⟩ := h.len
  have H := Lib.hid h
  clear h
  go_enter Tryz.func130, Tryz.ntmps130
  go_wp2_with fail
  go_loop [3, 9] (fun v i => RelR1 l v i) (fun _ i => l.length - (intOf i).toNat)
  case atStart => exact ⟨0, Nat.zero_le _, rfl, rfl⟩
  case round =>
    obtain ⟨k, hk, rfl, rfl⟩ := hrel
    have hv := run_lt (l.take k) ones_lt
    by_cases hlt : k < l.length
    · have HR := Lib.hid (run_take (c := ones) hlt)
      obtain ⟨b, o, cap', h1, h2⟩ := slb_now H.out hlt
      injection h1 with h1 _ h1'
      subst h1 h1'
      have hb := u8_lt (l.getD k 0)
      generalize run ones (l.take k) = v at *
      generalize (l.getD k 0) = y at *
      have h4 := u32_xor_nat v y.toNat hv (by omega)
      have hz' : v ^^^ y.toNat < 2 ^ 32 := Nat.xor_lt_two_pow hv (by omega)
      have hu : sts 8 (v ^^^ y.toNat) = upd v y := rfl
      generalize v ^^^ y.toNat = z at *
      generalize upd v y = g at *
      have HU := Lib.hid hu
      clear hu
      go_wp2_with fail
      go_loop [3, 6] (fun v i => RelR2 g v i) (fun _ i => 8 - (intOf i).toNat)
      case atStart => exact ⟨0, z, by omega, hz', HU.out, rfl, rfl⟩
      case round =>
        obtain ⟨j, x, hj, hx, hs, rfl, rfl⟩ := hrel
        have HS := Lib.hid hs; clear hs
        by_cases hlt2 : j < 8
        · by_cases ho : x % 2 = 1
          · have hb1 := and_odd hx ho
            have HX := Lib.hid (st_odd hx ho)
            clear ho
            go_wp2_with fail
            go_round
            case rel => exact relR2_next hx hlt2 HS.out HX.out
            case measure => simp [intOf]; omega
          · have hb1 := and_even hx ho
            have HX := Lib.hid (st_ev ho)
            clear ho
            go_wp2_with fail
            go_round
            case rel => exact relR2_next hx hlt2 HS.out HX.out
            case measure => simp [intOf]; omega
        · obtain rfl : j = 8 := by omega
          go_wp2_with fail
          go_round
          case rel => exact ⟨k + 1, by omega, by go_num, by rw [HR.out, ← HS.out]; rfl⟩
          case measure => simp [intOf]; omega
    · obtain rfl : k = l.length := by omega
      have HN2 := Lib.hid (not_nat hv)
      rw [List.take_length] at *
      generalize hr : run ones l = r at *
      have HR := Lib.hid hr
      clear hr
      go_wp2_with fail
      go_ret
      exact u32Same (by rw [HN2.out, ← HR.out]; unfold sum on; rw [Nat.zero_xor])
end Go.Proofs.YtidnmkghmaeniaaGreatDoor
/-
  staveref1.GetFrame.
-/
namespace Go.Proofs.YtidnmkghmaeniaaGreatDoor
open Go.RowKit Crc Hf
theorem big_flip {B : Nat} {v : Value} {bs : List UInt8} {w : World} (h : SlB B w v bs) (hB : B ≤ w.heap.size) (hl : bs.length ≤ 8) : Calls Tryz.prog 73 #[v] w (fun e w' => e = .returned (.int .u64 (leV bs)) ∧ w' = w) :=
  (bigN_any B v bs w h hB hl).mono fun _ _ ⟨h1, h2⟩ => ⟨h1, h2.symm⟩
theorem crc_flip {B : Nat} {v : Value} {bs : List UInt8} {w : World} (h : SlB B w v bs) (hl : bs.length ≤ 1000000) : Calls Tryz.prog 130 #[v] w (fun e w' => e = .returned (.int .u32 (sum bs)) ∧ w' = w) :=
  (ref_any B v bs w h hl).mono fun _ _ ⟨h1, h2⟩ => ⟨h1, h2.symm⟩
theorem magic_iff {l : List UInt8} (h : 2 ≤ l.length) : leV (l.take 2) = 21587 ↔ l.take 2 = [83, 84] := by
  have hl : (l.take 2).length = 2 := by simp; omega
  have e := le_leV (l.take 2)
  rw [hl] at e
  exact ⟨fun h => by rw [← e, h]; rfl, fun h => by rw [h]; rfl⟩
/-- Bytes that fill a sector lie somewhere. -/
theorem slb_128 {B : Nat} {w : World} {v : Value} {l : List UInt8} (h : SlB B w v l) (hl : l.length = 128) : ∃ b o cap, v = .slice (some ⟨b, o, none⟩) 128 cap ∧ b < B ∧ BytesAt w b o l ∧ 128 ≤ cap := by
  rcases h with ⟨rfl, _⟩ | ⟨b, o, cap, h1, h2, h3, h4, h5⟩
  · simp at hl
  · exact ⟨b, o, cap, by rw [h1, hl], h2, h3, by omega⟩
theorem slb_head {B b o : Nat} {w : World} {l : List UInt8} (h : BytesAt w b o l) (hb : b < B) (n c : Nat) (hi : n ≤ l.length) (h0 : 0 < n) (hc : n ≤ c) : SlB B w (.slice (some ⟨b, o, none⟩) n c) (l.take n) := by
  have := slb_piece (B := B) h hb 0 n c (by omega) h0 hc
  simpa using this
theorem slb_tail {B b o : Nat} {w : World} {l : List UInt8} (h : BytesAt w b o l) (hb : b < B) (hl : l.length = 128) (c : Nat) (hc : 4 ≤ c) : SlB B w (.slice (some ⟨b, o + 124, none⟩) 4 c) (l.drop 124) := by
  have := slb_piece (B := B) h hb 124 4 c (by omega) (by omega) hc
  rwa [List.take_of_length_le (by rw [List.length_drop, hl]; decide)] at this
set_option maxHeartbeats 2000000 in
set_option maxRecDepth 100000 in
theorem refGet_short (v : Value) (l : List UInt8) (w : World) (h : SlB w.heap.size w v l) (hl : ¬ l.length = 128) : Calls Tryz.prog 137 #[v] w (FrameBit (got l) (goodB l) w) := by
  obtain ⟨a, cap, rfl, _⟩ := h.len
  have hc : (Value.agg (frA zeroF)).cells = frA zeroF := rfl
  have hz := szFr_run
  have hz0 := zero_frame
  have hsz : (frC zeroF).length = szFr := frC_length zeroF_is
  have hl1 : ((l.length : Int) != 128) = true := by simp only [bne_iff_ne]; omega
  have hl2 : ¬ (l.length : Int) = 128 := by omega
  have HG := Lib.hid (good_len hl)
  have hst := (zin_new w).store zeroF zeroF_is
  have hld := (zin_new w).load zeroF zeroF_is
  clear h hl
  go_enter Tryz.func137, Tryz.ntmps137
  go_wp2_with fail
  rw [HG.out, got_no HG.out]
  exact bodyPost_ret (v := .tuple #[.agg (frA zeroF), .bool false]) (by simp [results, Tryz.results137, go_sem, hz, hld]) rfl ⟨rfl, setRow_below (one_below _ _) (Nat.le_refl _) _⟩
set_option maxHeartbeats 2000000 in
set_option maxRecDepth 100000 in
theorem refGet_magic (v : Value) (l : List UInt8) (w : World) (h : SlB w.heap.size w v l) (hl : l.length = 128) (hm : ¬ l.take 2 = [83, 84]) : Calls Tryz.prog 137 #[v] w (FrameBit (got l) (goodB l) w) := by
  have HG := Lib.hid (show goodB l = false by rw [goodB_eq hl, decide_eq_false hm]; rfl)
  have hc : (Value.agg (frA zeroF)).cells = frA zeroF := rfl
  have hz := szFr_run
  have hz0 := zero_frame
  have hsz : (frC zeroF).length = szFr := frC_length zeroF_is
  obtain ⟨a, cap, rfl, hcap⟩ := h.len
  have ht := slb_take (m := 2) h (by omega)
  have hne : ¬ leV (l.take 2) = 21587 := fun e => hm ((magic_iff (by omega)).1 e)
  rw [hl] at *
  have i2 : (2 : Int) ≤ cap := by omega
  have e1 : (((leV (l.take 2) : Nat) : Int) != 21587) = true := by simp only [bne_iff_ne]; omega
  have e2 : ¬ ((leV (l.take 2) : Nat) : Int) = 21587 := by omega
  have C1 := Lib.hid (fun (w' : World) (hb : Below w.heap.size w w') => big_flip (ht.below hb) hb.size (by simp; omega))
  clear h ht hm hne hl
  generalize leV (l.take 2) = q at *
  go_enter Tryz.func137, Tryz.ntmps137
  go_wp2_with fail
  have hzi : ZIn w.heap.size (w.alloc (.cells (frA zeroF) 103)) := zin_new w
  have hbl : Below w.heap.size w (w.alloc (.cells (frA zeroF) 103)) := one_below _ _
  generalize w.alloc (.cells (frA zeroF) 103) = w1 at *
  have CQ := Lib.hid (fun n => C1.out _ (below_drewN hbl n))
  go_quiet ((exact Calls.quiet_of_same (CQ.out _)))
  have hst := ZIn.store (w := w1.drewN nq) hzi zeroF zeroF_is
  have hld := ZIn.load (w := w1.drewN nq) hzi zeroF zeroF_is
  have HB := Lib.hid (below_drewN hbl nq)
  go_wp2_with fail
  rw [HG.out, got_no HG.out]
  exact bodyPost_ret (v := .tuple #[.agg (frA zeroF), .bool false]) (by simp [results, Tryz.results137, go_sem, hz, hld]) rfl ⟨rfl, setRow_below HB.out (Nat.le_refl _) _⟩
set_option maxHeartbeats 2000000 in
set_option maxRecDepth 100000 in
theorem refGet_sum (v : Value) (l : List UInt8) (w : World) (h : SlB w.heap.size w v l) (hl : l.length = 128) (hm : l.take 2 = [83, 84]) (hs : ¬ sum (l.take 124) = leV (l.drop 124)) : Calls Tryz.prog 137 #[v] w (FrameBit (got l) (goodB l) w) := by
  have HG := Lib.hid (show goodB l = false by rw [goodB_eq hl, decide_eq_true hm, decide_eq_false hs]; rfl)
  have hc : (Value.agg (frA zeroF)).cells = frA zeroF := rfl
  have hz := szFr_run
  have hz0 := zero_frame
  have hsz : (frC zeroF).length = szFr := frC_length zeroF_is
  obtain ⟨b, o, cap, rfl, hb, hat, hcap⟩ := slb_128 h hl
  have ht := slb_head hat hb 2 cap (by omega) (by omega) (by omega)
  have ht2 := slb_head hat hb 124 cap (by omega) (by omega) (by omega)
  have ht3 := slb_tail hat hb hl (cap - 124) (by omega)
  have hne : leV (l.take 2) = 21587 := (magic_iff (by omega)).2 hm
  have hs1 := sum_lt (l.take 124)
  have hs2 : leV (l.drop 124) < 4294967296 := by
    have := leV_lt (l.drop 124)
    rwa [List.length_drop, hl] at this
  have n8 : (l.drop 124).length ≤ 8 := by rw [List.length_drop, hl]; decide
  clear hl
  have i2 : (2 : Int) ≤ cap := by omega
  have i3 : (124 : Int) ≤ cap := by omega
  have C1 := Lib.hid (fun (w' : World) (hb : Below w.heap.size w w') => show Calls Tryz.prog 73 #[.slice (some ⟨b, o, none⟩) 2 cap] w' (fun e w'' => e = .returned (.int .u64 21587) ∧ w'' = w') from by have := big_flip (ht.below hb) hb.size (by simp; omega); rwa [hne] at this)
  have C2 := Lib.hid (fun (w' : World) (hb : Below w.heap.size w w') => crc_flip (ht2.below hb) (by simp; omega))
  have C3 := Lib.hid (fun (w' : World) (hb : Below w.heap.size w w') => big_flip (ht3.below hb) hb.size n8)
  have n124 : ¬ cap = 124 := by omega
  clear h ht ht2 ht3 hm hne hat
  generalize sum (l.take 124) = q1 at *
  generalize leV (l.drop 124) = q2 at *
  have e1 : ((q1 : Int) != q2) = true := by simp only [bne_iff_ne]; omega
  have e2 : ¬ (q1 : Int) = q2 := by omega
  have e3 : IntKind.u64.wrap (q1 : Int) = q1 := by rw [IntKind.wrap_u64]; omega
  clear hs n8
  go_enter Tryz.func137, Tryz.ntmps137
  go_wp2_with fail
  have hzi : ZIn w.heap.size (w.alloc (.cells (frA zeroF) 103)) := zin_new w
  have hbl : Below w.heap.size w (w.alloc (.cells (frA zeroF) 103)) := one_below _ _
  generalize w.alloc (.cells (frA zeroF) 103) = w1 at *
  have CQ := Lib.hid (fun n => C1.out _ (below_drewN hbl n))
  have CQ2 := Lib.hid (fun n => C2.out _ (below_drewN hbl n))
  have CQ3 := Lib.hid (fun n => C3.out _ (below_drewN hbl n))
  go_quiet ((first | (go_at_call 130; exact Calls.quiet_of_same (CQ2.out _)) | (go_at_call 73; with_reducible exact Calls.quiet_of_same (CQ.out _)) | (go_at_call 73; with_reducible exact Calls.quiet_of_same (CQ3.out _))))
  have hst := ZIn.store (w := w1.drewN nq) hzi zeroF zeroF_is
  have hld := ZIn.load (w := w1.drewN nq) hzi zeroF zeroF_is
  have HB := Lib.hid (below_drewN hbl nq)
  go_wp2_with fail
  rw [HG.out, got_no HG.out]
  exact bodyPost_ret (v := .tuple #[.agg (frA zeroF), .bool false]) (by simp [results, Tryz.results137, go_sem, hz, hld]) rfl ⟨rfl, setRow_below HB.out (Nat.le_refl _) _⟩
end Go.Proofs.YtidnmkghmaeniaaGreatDoor
/-
  Two frames compared.
-/
namespace Go.Proofs.YtidnmkghmaeniaaGreatDoor
open Go.RowKit Crc Hf
theorem guard_frame : Tryz.prog.eqGuardType Tryz.prog.depth 103 = false := by kernel_rfl
theorem eql_yes {f g : Fr} (hf : f.is) (hg : g.is) (h : f = g) (w : World) : (binOp .eql 103 (.agg (frA f)) (.agg (frA g))).run Tryz.prog w = .ok (.bool true) w := by
  rw [eql_frames f g hf hg, (frEq_iff f g).2 h]
theorem eql_no {f g : Fr} (hf : f.is) (hg : g.is) (h : ¬ f = g) (w : World) : (binOp .eql 103 (.agg (frA f)) (.agg (frA g))).run Tryz.prog w = .ok (.bool false) w := by
  rw [eql_frames f g hf hg, show frEq f g = false by rw [← Bool.not_eq_true, frEq_iff]; exact h]
theorem neql_frames (f g : Fr) (hf : f.is) (hg : g.is) (w : World) : (binOp .neq 103 (.agg (frA f)) (.agg (frA g))).run Tryz.prog w = .ok (.bool (!frEq f g)) w := by
  rw [run_neq_struct, eq_frames w f g hf hg]
  rfl
theorem neql_yes {f g : Fr} (hf : f.is) (hg : g.is) (h : f = g) (w : World) : (binOp .neq 103 (.agg (frA f)) (.agg (frA g))).run Tryz.prog w = .ok (.bool false) w := by
  rw [neql_frames f g hf hg, (frEq_iff f g).2 h]; rfl
end Go.Proofs.YtidnmkghmaeniaaGreatDoor
/-
  staveref1.GetFrame: behind its sum.
-/
namespace Go.Proofs.YtidnmkghmaeniaaGreatDoor
open Go.RowKit Crc Hf
/-- A frame lies in block b, and may be written. -/
def FIn (f : Fr) (b : Nat) (w : World) : Prop := f.is ∧ w.heap[b]? = some (.cells (frA f) 103 (0, 0))
theorem FIn.fr {f : Fr} {b : Nat} {w : World} (h : FIn f b w) : FrIn f b w := ⟨h.1, fun j v hv => by rw [cell_of_row _ b j (frA f) _ (0, 0) h.2]; simpa using hv⟩
theorem FIn.free {f : Fr} {b : Nat} {w : World} (h : FIn f b w) (i : Nat) : w.frozen? ⟨b, i, none⟩ = false := by
  unfold World.frozen?
  rw [h.2]
  simp
theorem FIn.set {f : Fr} {b : Nat} {w : World} (h : FIn f b w) (i : Nat) (x : UInt8) : FIn { f with d := f.d.set i x } b (w.setCell ⟨b, 4 + i, none⟩ (.int .u8 (x.toNat : Int))) := by
  refine ⟨by have := h.1; unfold Fr.is at *; simpa using this, ?_⟩
  show (w.heap.modify b _)[b]? = _
  rw [Array.getElem?_modify, if_pos rfl, h.2]
  show some (Obj.cells ((frA f).setIfInBounds (4 + i) (.int .u8 (x.toNat : Int))) _ _) = _
  congr 2
  simp only [List.setIfInBounds_toArray]
  congr 1
  show (_ :: _ :: _ :: _ :: bytesV f.d).set (4 + i) _ = _ :: _ :: _ :: _ :: bytesV (f.d.set i x)
  rw [show 4 + i = i + 1 + 1 + 1 + 1 by omega]
  simp only [List.set_cons_succ]
  congr 4
  simp [bytesV, List.map_set]
/-- The frame in the making: k of its bytes are there. -/
def partF (l : List UInt8) (k : Nat) : Fr := ⟨((l.getD 2 0).toNat : Int), ((l.getD 3 0).toNat : Int), (leV ((l.drop 4).take 4) : Int), int64 (leV ((l.drop 8).take 8)), (l.drop 16).take k ++ List.replicate (108 - k) 0⟩
theorem partF_all {l : List UInt8} : partF l 108 = Hf.read l := by simp [partF, Hf.read]
theorem partF_is {l : List UInt8} (hl : l.length = 128) {k : Nat} (hk : k ≤ 108) : (partF l k).is := by simp [partF, Fr.is]; omega
theorem partF_next {l : List UInt8} (hl : l.length = 128) {k : Nat} (hk : k < 108) : ({ partF l k with d := (partF l k).d.set k (l.getD (16 + k) 0) } : Fr) = partF l (k + 1) := by
  refine Fr.same rfl rfl rfl rfl ?_
  show ((l.drop 16).take k ++ List.replicate (108 - k) 0).set k _ = (l.drop 16).take (k + 1) ++ List.replicate (108 - (k + 1)) 0
  have hlen : ((l.drop 16).take k).length = k := by simp; omega
  rw [List.set_append_right _ _ (by omega), hlen, Nat.sub_self, show 108 - k = (108 - (k + 1)) + 1 by omega, List.replicate_succ, List.set_cons_zero, List.take_succ_eq_append_getElem (by simp; omega), List.append_assoc]
  congr 1
  simp [List.getD, show 16 + k < l.length by omega]
def SG (w2 w' : World) : Prop := Below w2.heap.size w2 w'
theorem SG.drew {w2 w' : World} (h : SG w2 w') : SG w2 w'.drew := Below.drew h
theorem SG.alloc {w2 w' : World} (h : SG w2 w') (o : Obj) : SG w2 (w'.alloc o) := balloc h o
theorem big_keeps {B : Nat} {w w2 w' : World} {v : Value} {bs : List UInt8} (h : SG w2 w') (hs : SlB B w v bs) (hb : Below B w w') (hB : B ≤ w'.heap.size) (hl : bs.length ≤ 8) : Calls Tryz.prog 73 #[v] w' (fun e w'' => e = .returned (.int .u64 (leV bs)) ∧ SG w2 w'' ∧ w' = w'') :=
  (bigN_any B v bs w' (hs.below hb) hB hl).mono fun _ _ ⟨h1, h2⟩ => ⟨h1, by rw [← h2]; exact h, h2⟩
def RelG (l : List UInt8) (w : World) (i : Value) (wr : World) : Prop := ∃ k : Nat, k ≤ 108 ∧ i = .int .i64 k ∧ FIn (partF l k) (w.heap.size + 1) wr ∧ ZIn w.heap.size wr ∧ Below w.heap.size w wr
def CutG (l : List UInt8) (w : World) (v : Value) (wx : World) : Prop := v = .pointer (some ⟨w.heap.size + 1, 0, none⟩) ∧ FIn (partF l 0) (w.heap.size + 1) wx ∧ ZIn w.heap.size wx ∧ Below w.heap.size w wx
set_option maxHeartbeats 2000000 in
set_option maxRecDepth 100000 in
theorem refGet_rest (v : Value) (l : List UInt8) (w : World) (h : SlB w.heap.size w v l) (hl : l.length = 128) (hm : l.take 2 = [83, 84]) (hs : sum (l.take 124) = leV (l.drop 124)) : Calls Tryz.prog 137 #[v] w (FrameBit (got l) (goodB l) w) := by
  have HG := Lib.hid (show goodB l = rightB (Hf.read l) by rw [goodB_eq hl, decide_eq_true hm, decide_eq_true hs]; rfl)
  have hc : (Value.agg (frA zeroF)).cells = frA zeroF := rfl
  have hz := szFr_run
  have hz0 := zero_frame
  have hsz : (frC zeroF).length = szFr := frC_length zeroF_is
  obtain ⟨b, o, cap, rfl, hb, hat, hcap⟩ := slb_128 h hl
  have ht := slb_head hat hb 2 cap (by omega) (by omega) (by omega)
  have ht2 := slb_head hat hb 124 cap (by omega) (by omega) (by omega)
  have ht3 := slb_tail hat hb hl (cap - 124) (by omega)
  have hne : leV (l.take 2) = 21587 := (magic_iff (by omega)).2 hm
  have hs1 := sum_lt (l.take 124)
  have n8 : (l.drop 124).length ≤ 8 := by rw [List.length_drop, hl]; decide
  have i2 : (2 : Int) ≤ cap := by omega
  have i3 : (124 : Int) ≤ cap := by omega
  have C1 := Lib.hid (fun (w' : World) (hb : Below w.heap.size w w') => show Calls Tryz.prog 73 #[.slice (some ⟨b, o, none⟩) 2 cap] w' (fun e w'' => e = .returned (.int .u64 21587) ∧ w'' = w') from by have := big_flip (ht.below hb) hb.size (by simp; omega); rwa [hne] at this)
  have C2 := Lib.hid (fun (w' : World) (hb : Below w.heap.size w w') => crc_flip (ht2.below hb) (by simp; omega))
  have C3 := Lib.hid (fun (w' : World) (hb : Below w.heap.size w w') => big_flip (ht3.below hb) hb.size n8)
  have n124 : ¬ cap = 124 := by omega
  have HAT := Lib.hid hat
  have HL := Lib.hid hl
  rw [← hs] at C3
  clear h ht ht2 ht3 hm hne hl hat
  generalize sum (l.take 124) = q1 at *
  have e3 : IntKind.u64.wrap (q1 : Int) = q1 := by rw [IntKind.wrap_u64]; omega
  clear hs n8
  go_enter Tryz.func137, Tryz.ntmps137
  go_wp2_with fail
  have hzi : ZIn w.heap.size (w.alloc (.cells (frA zeroF) 103)) := zin_new w
  have hbl : Below w.heap.size w (w.alloc (.cells (frA zeroF) 103)) := one_below _ _
  have hsz1 : (w.alloc (.cells (frA zeroF) 103)).heap.size = w.heap.size + 1 := by simp
  generalize w.alloc (.cells (frA zeroF) 103) = w1 at *
  have CQ := Lib.hid (fun n => C1.out _ (below_drewN hbl n))
  have CQ2 := Lib.hid (fun n => C2.out _ (below_drewN hbl n))
  have CQ3 := Lib.hid (fun n => C3.out _ (below_drewN hbl n))
  go_quiet ((first | (go_at_call 130; exact Calls.quiet_of_same (CQ2.out _)) | (go_at_call 73; with_reducible exact Calls.quiet_of_same (CQ.out _)) | (go_at_call 73; with_reducible exact Calls.quiet_of_same (CQ3.out _))))
  have hzi2 : ZIn w.heap.size (w1.drewN nq) := hzi
  have hbl2 : Below w.heap.size w (w1.drewN nq) := below_drewN hbl nq
  have hsz2 : (w1.drewN nq).heap.size = w.heap.size + 1 := hsz1
  generalize w1.drewN nq = w2 at *
  have HZ2 := Lib.hid hsz2
  clear hzi hbl hsz1 CQ CQ2 CQ3 C1 C2 C3 e3 i2 i3 hs1
  clear w1
  go_upto_region 5 with fail
  go_cut [4] (fun v wx => CutG l w v wx)
  case first =>
    have hat1 := HAT.out
    obtain ⟨x2, hx2⟩ : ∃ x, (l.getD 2 0).toNat = x := ⟨_, rfl⟩
    obtain ⟨x3, hx3⟩ : ∃ x, (l.getD 3 0).toNat = x := ⟨_, rfl⟩
    have b2 : x2 < 256 := by rw [← hx2]; exact u8_lt _
    have b3 : x3 < 256 := by rw [← hx3]; exact u8_lt _
    have c2 : ∀ w', SG w2 w' → w'.cell? ⟨b, o + 2, none⟩ = some (.int .u8 x2) := fun w' h => by rw [← hx2, h.cell (p := ⟨b, o + 2, none⟩) (show b < _ by omega), hbl2.cell (p := ⟨b, o + 2, none⟩) hb]; exact hat1 2 (by have := HL.out; omega)
    have c3 : ∀ w', SG w2 w' → w'.cell? ⟨b, o + 3, none⟩ = some (.int .u8 x3) := fun w' h => by rw [← hx3, h.cell (p := ⟨b, o + 3, none⟩) (show b < _ by omega), hbl2.cell (p := ⟨b, o + 3, none⟩) hb]; exact hat1 3 (by have := HL.out; omega)
    have B1 := Lib.hid (fun w' (h : SG w2 w') => big_keeps h (slb_piece (n := 4) (c := cap - 4) hat1 hb 4 (by have := HL.out; omega) (by omega) (by omega)) (hbl2.trans (h.mono (by omega))) (by have := h.size; omega) (by simp; omega))
    have B2 := Lib.hid (fun w' (h : SG w2 w') => big_keeps h (slb_piece (n := 8) (c := cap - 8) hat1 hb 8 (by have := HL.out; omega) (by omega) (by omega)) (hbl2.trans (h.mono (by omega))) (by have := h.size; omega) (by simp; omega))
    have HB := Lib.hid hbl2
    have HZI := Lib.hid hzi2
    have v4 : leV ((l.drop 4).take 4) < 4294967296 := by
      have := leV_lt ((l.drop 4).take 4)
      rwa [show ((l.drop 4).take 4).length = 4 by simp; have := HL.out; omega] at this
    have v8 : leV ((l.drop 8).take 8) < 18446744073709551616 := by
      have := leV_lt ((l.drop 8).take 8)
      rwa [show ((l.drop 8).take 8).length = 8 by simp; have := HL.out; omega] at this
    have e8 : IntKind.i64.wrap ((leV ((l.drop 8).take 8) : Nat) : Int) = int64 (leV ((l.drop 8).take 8)) := by
      have e := wrap64_int64 v8
      unfold wrap64 at e
      rw [IntKind.wrap_i64, e]
    have e4 : IntKind.i64.wrap ((leV ((l.drop 4).take 4) : Nat) : Int) = leV ((l.drop 4).take 4) := IntWalk.i64_in _ (by omega)
    have e2 : IntKind.i64.wrap (x2 : Int) = x2 := IntWalk.i64_in _ (by omega)
    have e3 : IntKind.i64.wrap (x3 : Int) = x3 := IntWalk.i64_in _ (by omega)
    have hf0 : ((((frC zeroF).set 0 (.int .i64 (x2 : Int))).set 1 (.int .i64 (x3 : Int))).set 2 (.int .i64 ((leV ((l.drop 4).take 4) : Nat) : Int))).set 3 (.int .i64 (int64 (leV ((l.drop 8).take 8)))) = frC (partF l 0) := by rw [← hx2, ← hx3]; rfl
    have his := partF_is HL.out (Nat.zero_le 108)
    have hfz : (frC (partF l 0)).length = szFr := frC_length his
    have hst : (storeCells ⟨w2.heap.size, 0, none⟩ (frC (partF l 0)) 0).run Tryz.prog (w2.alloc (.cells (frA zeroF) 103)).drew = .ok () (w2.alloc (.cells (frA (partF l 0)) 103)).drew := storeCells_frame zeroF_is his w2.drew
    have y1 : ¬ frC zeroF = [] := by simp [frC]
    have y2 : ¬ szFr < 2 := by decide
    have y3 : ¬ szFr < 3 := by decide
    have y4 : ¬ szFr < 4 := by decide
    have hsg : SG w2 w2 := Below.refl _ _
    have i8 : (8 : Int) ≤ cap := by omega
    have i16 : (16 : Int) ≤ cap := by omega
    have n4 : ¬ cap = 4 := by omega
    have n8 : ¬ cap = 8 := by omega
    clear hx2 hx3 hat1 hbl2 hzi2 hsz2 n124 v8
    generalize leV ((l.drop 4).take 4) = q4 at *
    generalize leV ((l.drop 8).take 8) = q8 at *
    generalize int64 q8 = z8 at *
    go_region_held3 (fun w' => SG w2 w') (repeat (first | assumption | refine SG.drew ?_ | refine SG.alloc ?_ _)) (first
      | (go_at_call 73; (with_reducible refine (B1.out _ ‹_›).mono ?_); rintro e w' ⟨rfl, hk1, rfl⟩)
      | (go_at_call 73; (with_reducible refine (B2.out _ ‹_›).mono ?_); rintro e w' ⟨rfl, hk2, rfl⟩))
    all_goals
      go_wp2_with fail
      go_meet
      exact ⟨by rw [← HZ2.out], ⟨his, by rw [← HZ2.out]; exact heap_alloc_new w2 _⟩, HZI.out.below (B := w2.heap.size) (by rw [HZ2.out]; omega) (one_below w2 _).drew, (balloc HB.out _).drew⟩
  case rest =>
    obtain ⟨rfl, hf, hzi, hbl⟩ := hcut
    have HF := Lib.hid hf
    have HZI := Lib.hid hzi
    have HBL := Lib.hid hbl
    clear hf hzi hbl hbl2 hzi2 hsz2 HZ2 n124
    go_wp2_with fail
    go_loopw [42] (fun i wr => RelG l w i wr) (fun i _ => 108 - (intOf i).toNat)
    case atStart => exact ⟨0, Nat.zero_le _, rfl, HF.out, HZI.out, HBL.out⟩
    case round =>
      obtain ⟨k, hk, rfl, hf, hzi, hbl⟩ := hrel
      by_cases hlt : k < 108
      · have h1 := HL.out
        have c0 : wr.cell? ⟨b, o + (16 + k), none⟩ = some (.int .u8 ((l.getD (16 + k) 0).toNat : Int)) := by rw [hbl.cell (p := ⟨b, o + (16 + k), none⟩) hb]; exact HAT.out (16 + k) (by omega)
        have c1 : ∃ u, wr.cell? ⟨w.heap.size + 1, 4 + k, none⟩ = some u := by
          have hlen : 4 + k < (frC (partF l k)).length := by rw [frC_length hf.1]; omega
          exact ⟨_, hf.fr.2 (4 + k) _ (List.getElem?_eq_getElem hlen)⟩
        obtain ⟨u, c1⟩ := c1
        have c2 := hf.free (4 + k)
        have HN := Lib.hid (show RelG l w (.int .i64 ((k : Int) + 1)) (wr.setCell ⟨w.heap.size + 1, 4 + k, none⟩ (.int .u8 ((l.getD (16 + k) 0).toNat : Int))) from
          ⟨k + 1, by omega, by go_num, by have := hf.set k (l.getD (16 + k) 0); rwa [partF_next h1 hlt] at this, hzi.below (Nat.lt_succ_self _) ((Below.refl (w.heap.size + 1) wr).setCell (Nat.le_refl _) _), hbl.setCell (Nat.le_succ _) _⟩)
        have i1 : (16 : Int) + k < 128 := by omega
        have i2 : (0 : Int) ≤ 16 + k := by omega
        generalize (l.getD (16 + k) 0).toNat = x at *
        clear h1 hf hzi hbl
        go_wp2_with fail
        go_roundw
        case rel => exact HN.out
        case measure => simp [intOf]; omega
      · obtain rfl : k = 108 := by omega
        rw [partF_all] at hf
        have hi := read_is HL.out
        have HG2 := Lib.hid (fun h => got_yes (b := l) h)
        have HG3 := Lib.hid (fun h => got_no (b := l) h)
        generalize Hf.read l = f at *
        have FR := Lib.hid hf.fr
        have HZI2 := Lib.hid hzi
        have HBL2 := Lib.hid hbl
        have hfz : (frC f).length = szFr := frC_length hi
        have hsz5 : w.heap.size + 1 < wr.heap.size := (Array.getElem?_eq_some_iff.1 hf.2).1
        have hsz4 : w.heap.size + 1 ≤ wr.heap.size := Nat.le_of_lt hsz5
        have hl4 : ∀ w', FrIn f (w.heap.size + 1) w' → (loadCellsFrom ⟨w.heap.size + 1, 0, none⟩ 0 szFr #[]).run Tryz.prog w' = .ok (frA f) w' := fun w' h => h.load
        have hf0 := FR.out
        clear hf hzi hbl hk hlt HF HZI HBL
        by_cases hr : rightB f = true
        · have C1 := Lib.hid (fun w => show Calls Tryz.prog 128 #[.agg (frA f)] w (Bit true w) from hr ▸ refRight_any f w)
          rw [hr] at HG
          clear hr
          go_wp2_with ((with_reducible refine (C1.out _).mono ?_); rintro e w4 ⟨rfl, hb4⟩; have hst := ZIn.store (HZI2.out.below (Nat.lt_of_lt_of_le (Nat.lt_succ_self _) hsz4) hb4) f hi; have HLD := Lib.hid (ZIn.load (HZI2.out.below (Nat.lt_of_lt_of_le (Nat.lt_succ_self _) hsz4) hb4) f hi); have hfr4 := FR.out.below hsz5 hb4; have HB := Lib.hid (bthen HBL2.out hb4); clear hb4)
          have hld2 := HLD.out
          rw [HG.out, HG2.out HG.out]
          exact bodyPost_ret (v := .tuple #[.agg (frA f), .bool true]) (by simp [results, Tryz.results137, go_sem, hz, hld2]) rfl ⟨rfl, setRow_below HB.out (Nat.le_refl _) _⟩
        · replace hr : rightB f = false := by simpa using hr
          have C1 := Lib.hid (fun w => show Calls Tryz.prog 128 #[.agg (frA f)] w (Bit false w) from hr ▸ refRight_any f w)
          rw [hr] at HG
          clear hr
          go_wp2_with ((with_reducible refine (C1.out _).mono ?_); rintro e w4 ⟨rfl, hb4⟩; have hst := ZIn.store (HZI2.out.below (Nat.lt_of_lt_of_le (Nat.lt_succ_self _) hsz4) hb4) zeroF zeroF_is; have HLD := Lib.hid (ZIn.load (HZI2.out.below (Nat.lt_of_lt_of_le (Nat.lt_succ_self _) hsz4) hb4) zeroF zeroF_is); have hfr4 := FR.out.below hsz5 hb4; have HB := Lib.hid (bthen HBL2.out hb4); clear hb4)
          have hld2 := HLD.out
          rw [HG.out, HG3.out HG.out]
          exact bodyPost_ret (v := .tuple #[.agg (frA zeroF), .bool false]) (by simp [results, Tryz.results137, go_sem, hz, hld2]) rfl ⟨rfl, setRow_below HB.out (Nat.le_refl _) _⟩
/-- What the document's way to read a frame answers. -/
theorem refGet_any (B : Nat) (v : Value) (l : List UInt8) (w : World) (h : SlB B w v l) (hB : B ≤ w.heap.size) : Calls Tryz.prog 137 #[v] w (FrameBit (got l) (goodB l) w) := by
  by_cases hl : l.length = 128
  · by_cases hm : l.take 2 = [83, 84]
    · by_cases hs : sum (l.take 124) = leV (l.drop 124)
      · exact refGet_rest v l w (h.wider hB) hl hm hs
      · exact refGet_sum v l w (h.wider hB) hl hm hs
    · exact refGet_magic v l w (h.wider hB) hl hm
  · exact refGet_short v l w (h.wider hB) hl
end Go.Proofs.YtidnmkghmaeniaaGreatDoor
