/-
  staveref1.GetFrame.
-/
import Derived.Test.YtjkponhdpeelpaaHGet
import Derived.Test.YtjkponhdpeelpaaKRef
import Derived.IntWalk
namespace Go.Proofs.Ytjkponhdpeelpaa
open Go.RowKit Crc Hf
theorem big_flip {B : Nat} {v : Value} {bs : List UInt8} {w : World} (h : SlB B w v bs) (hB : B ≤ w.heap.size) (hl : bs.length ≤ 8) : Calls Try.prog 27 #[v] w (fun e w' => e = .returned (.int .u64 (leV bs)) ∧ w' = w) :=
  (bigN_any B v bs w h hB hl).mono fun _ _ ⟨h1, h2⟩ => ⟨h1, h2.symm⟩
theorem crc_flip {B : Nat} {v : Value} {bs : List UInt8} {w : World} (h : SlB B w v bs) (hl : bs.length ≤ 1000000) : Calls Try.prog 26 #[v] w (fun e w' => e = .returned (.int .u32 (sum bs)) ∧ w' = w) :=
  (ref_any B v bs w h hl).mono fun _ _ ⟨h1, h2⟩ => ⟨h1, h2.symm⟩
theorem magic_iff {l : List UInt8} (h : 2 ≤ l.length) : leV (l.take 2) = 21587 ↔ l.take 2 = [83, 84] := by
  have hl : (l.take 2).length = 2 := by simp; omega
  have e := le_leV (l.take 2)
  rw [hl] at e
  exact ⟨fun h => by rw [← e, h]; rfl, fun h => by rw [h]; rfl⟩
/-- Bytes that fill a sector lie somewhere. -/
theorem slb_128 {B : Nat} {w : World} {v : Value} {l : List UInt8} (h : SlB B w v l) (hl : l.length = 128) : ∃ b o cap, v = .slice (some ⟨b, o, none⟩) 128 cap ∧ b < B ∧ BytesAt w b o l ∧ 128 ≤ cap := by
  rcases h with ⟨rfl, _⟩ | ⟨b, o, cap, h1, h2, h3, h4, h5⟩
  · simp at hl
  · exact ⟨b, o, cap, by rw [h1, hl], h2, h3, by omega⟩
theorem slb_head {B b o : Nat} {w : World} {l : List UInt8} (h : BytesAt w b o l) (hb : b < B) (n c : Nat) (hi : n ≤ l.length) (h0 : 0 < n) (hc : n ≤ c) : SlB B w (.slice (some ⟨b, o, none⟩) n c) (l.take n) := by
  have := slb_piece (B := B) h hb 0 n c (by omega) h0 hc
  simpa using this
theorem slb_tail {B b o : Nat} {w : World} {l : List UInt8} (h : BytesAt w b o l) (hb : b < B) (hl : l.length = 128) (c : Nat) (hc : 4 ≤ c) : SlB B w (.slice (some ⟨b, o + 124, none⟩) 4 c) (l.drop 124) := by
  have := slb_piece (B := B) h hb 124 4 c (by omega) (by omega) hc
  rwa [List.take_of_length_le (by rw [List.length_drop, hl]; decide)] at this
set_option maxHeartbeats 2000000 in
set_option maxRecDepth 100000 in
theorem refGet_short (v : Value) (l : List UInt8) (w : World) (h : SlB w.heap.size w v l) (hl : ¬ l.length = 128) : Calls Try.prog 17 #[v] w (FrameBit (got l) (goodB l) w) := by
  obtain ⟨a, cap, rfl, _⟩ := h.len
  have hc : (Value.agg (frA zeroF)).cells = frA zeroF := rfl
  have hz := szFr_run
  have hz0 := zero_frame
  have hsz : (frC zeroF).length = szFr := frC_length zeroF_is
  have hl1 : ((l.length : Int) != 128) = true := by simp only [bne_iff_ne]; omega
  have hl2 : ¬ (l.length : Int) = 128 := by omega
  have HG := Lib.hid (good_len hl)
  have hst := (zin_new w).store zeroF zeroF_is
  have hld := (zin_new w).load zeroF zeroF_is
  clear h hl
  go_enter Try.func17, Try.ntmps17
  go_wp2_with fail
  rw [HG.out, got_no HG.out]
  exact bodyPost_ret (v := .tuple #[.agg (frA zeroF), .bool false]) (by simp [results, Try.results17, go_sem, hz, hld]) rfl ⟨rfl, setRow_below (one_below _ _) (Nat.le_refl _) _⟩
set_option maxHeartbeats 2000000 in
set_option maxRecDepth 100000 in
theorem refGet_magic (v : Value) (l : List UInt8) (w : World) (h : SlB w.heap.size w v l) (hl : l.length = 128) (hm : ¬ l.take 2 = [83, 84]) : Calls Try.prog 17 #[v] w (FrameBit (got l) (goodB l) w) := by
  have HG := Lib.hid (show goodB l = false by rw [goodB_eq hl, decide_eq_false hm]; rfl)
  have hc : (Value.agg (frA zeroF)).cells = frA zeroF := rfl
  have hz := szFr_run
  have hz0 := zero_frame
  have hsz : (frC zeroF).length = szFr := frC_length zeroF_is
  obtain ⟨a, cap, rfl, hcap⟩ := h.len
  have ht := slb_take (m := 2) h (by omega)
  have hne : ¬ leV (l.take 2) = 21587 := fun e => hm ((magic_iff (by omega)).1 e)
  rw [hl] at *
  have i2 : (2 : Int) ≤ cap := by omega
  have e1 : (((leV (l.take 2) : Nat) : Int) != 21587) = true := by simp only [bne_iff_ne]; omega
  have e2 : ¬ ((leV (l.take 2) : Nat) : Int) = 21587 := by omega
  have C1 := Lib.hid (fun (w' : World) (hb : Below w.heap.size w w') => big_flip (ht.below hb) hb.size (by simp; omega))
  clear h ht hm hne hl
  generalize leV (l.take 2) = q at *
  go_enter Try.func17, Try.ntmps17
  go_wp2_with fail
  have hzi : ZIn w.heap.size (w.alloc (.cells (frA zeroF) 24)) := zin_new w
  have hbl : Below w.heap.size w (w.alloc (.cells (frA zeroF) 24)) := one_below _ _
  generalize w.alloc (.cells (frA zeroF) 24) = w1 at *
  have CQ := Lib.hid (fun n => C1.out _ (below_drewN hbl n))
  go_quiet ((exact Calls.quiet_of_same (CQ.out _)))
  have hst := ZIn.store (w := w1.drewN nq) hzi zeroF zeroF_is
  have hld := ZIn.load (w := w1.drewN nq) hzi zeroF zeroF_is
  have HB := Lib.hid (below_drewN hbl nq)
  go_wp2_with fail
  rw [HG.out, got_no HG.out]
  exact bodyPost_ret (v := .tuple #[.agg (frA zeroF), .bool false]) (by simp [results, Try.results17, go_sem, hz, hld]) rfl ⟨rfl, setRow_below HB.out (Nat.le_refl _) _⟩
set_option maxHeartbeats 2000000 in
set_option maxRecDepth 100000 in
theorem refGet_sum (v : Value) (l : List UInt8) (w : World) (h : SlB w.heap.size w v l) (hl : l.length = 128) (hm : l.take 2 = [83, 84]) (hs : ¬ sum (l.take 124) = leV (l.drop 124)) : Calls Try.prog 17 #[v] w (FrameBit (got l) (goodB l) w) := by
  have HG := Lib.hid (show goodB l = false by rw [goodB_eq hl, decide_eq_true hm, decide_eq_false hs]; rfl)
  have hc : (Value.agg (frA zeroF)).cells = frA zeroF := rfl
  have hz := szFr_run
  have hz0 := zero_frame
  have hsz : (frC zeroF).length = szFr := frC_length zeroF_is
  obtain ⟨b, o, cap, rfl, hb, hat, hcap⟩ := slb_128 h hl
  have ht := slb_head hat hb 2 cap (by omega) (by omega) (by omega)
  have ht2 := slb_head hat hb 124 cap (by omega) (by omega) (by omega)
  have ht3 := slb_tail hat hb hl (cap - 124) (by omega)
  have hne : leV (l.take 2) = 21587 := (magic_iff (by omega)).2 hm
  have hs1 := sum_lt (l.take 124)
  have hs2 : leV (l.drop 124) < 4294967296 := by
    have := leV_lt (l.drop 124)
    rwa [List.length_drop, hl] at this
  have n8 : (l.drop 124).length ≤ 8 := by rw [List.length_drop, hl]; decide
  clear hl
  have i2 : (2 : Int) ≤ cap := by omega
  have i3 : (124 : Int) ≤ cap := by omega
  have C1 := Lib.hid (fun (w' : World) (hb : Below w.heap.size w w') => show Calls Try.prog 27 #[.slice (some ⟨b, o, none⟩) 2 cap] w' (fun e w'' => e = .returned (.int .u64 21587) ∧ w'' = w') from by have := big_flip (ht.below hb) hb.size (by simp; omega); rwa [hne] at this)
  have C2 := Lib.hid (fun (w' : World) (hb : Below w.heap.size w w') => crc_flip (ht2.below hb) (by simp; omega))
  have C3 := Lib.hid (fun (w' : World) (hb : Below w.heap.size w w') => big_flip (ht3.below hb) hb.size n8)
  have n124 : ¬ cap = 124 := by omega
  clear h ht ht2 ht3 hm hne hat
  generalize sum (l.take 124) = q1 at *
  generalize leV (l.drop 124) = q2 at *
  have e1 : ((q1 : Int) != q2) = true := by simp only [bne_iff_ne]; omega
  have e2 : ¬ (q1 : Int) = q2 := by omega
  have e3 : IntKind.u64.wrap (q1 : Int) = q1 := by rw [IntKind.wrap_u64]; omega
  clear hs n8
  go_enter Try.func17, Try.ntmps17
  go_wp2_with fail
  have hzi : ZIn w.heap.size (w.alloc (.cells (frA zeroF) 24)) := zin_new w
  have hbl : Below w.heap.size w (w.alloc (.cells (frA zeroF) 24)) := one_below _ _
  generalize w.alloc (.cells (frA zeroF) 24) = w1 at *
  have CQ := Lib.hid (fun n => C1.out _ (below_drewN hbl n))
  have CQ2 := Lib.hid (fun n => C2.out _ (below_drewN hbl n))
  have CQ3 := Lib.hid (fun n => C3.out _ (below_drewN hbl n))
  go_quiet ((first | (go_at_call 26; exact Calls.quiet_of_same (CQ2.out _)) | (go_at_call 27; with_reducible exact Calls.quiet_of_same (CQ.out _)) | (go_at_call 27; with_reducible exact Calls.quiet_of_same (CQ3.out _))))
  have hst := ZIn.store (w := w1.drewN nq) hzi zeroF zeroF_is
  have hld := ZIn.load (w := w1.drewN nq) hzi zeroF zeroF_is
  have HB := Lib.hid (below_drewN hbl nq)
  go_wp2_with fail
  rw [HG.out, got_no HG.out]
  exact bodyPost_ret (v := .tuple #[.agg (frA zeroF), .bool false]) (by simp [results, Try.results17, go_sem, hz, hld]) rfl ⟨rfl, setRow_below HB.out (Nat.le_refl _) _⟩
end Go.Proofs.Ytjkponhdpeelpaa
