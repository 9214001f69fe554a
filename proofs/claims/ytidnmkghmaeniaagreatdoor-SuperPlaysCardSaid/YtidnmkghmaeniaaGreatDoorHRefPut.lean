/-
  staveref1.PutFrame.
-/
import Derived.Test.YtidnmkghmaeniaaGreatDoorHPut
import Derived.Test.YtidnmkghmaeniaaGreatDoorHRef
import Derived.IntWalk
namespace Go.Proofs.YtidnmkghmaeniaaGreatDoor
open Go.RowKit Crc Hf
/-- Bytes in a row of the call's own, made behind W. -/
def Row (l : List UInt8) (v : Value) (W w' : World) : Prop := w'.ownsRow W.heap.size 5 1 v l.length (bytesV l) ∧ Below W.heap.size W w'
theorem num_int {B : Nat} {v : Value} {l : List UInt8} {n : Int} {w : World} (size : Nat) {m : Int} (hm : m = (size : Int)) (h : SlB B w v l) (hB : B ≤ w.heap.size) (hl : l.length ≤ 10000) (hs : size ≤ 8) (hn : 0 ≤ n) :
    Calls Tryz.prog 129 #[v, .int .u64 n, .int .i64 m] w (MadeB (l ++ le size n.toNat) w) := by
  subst hm
  obtain ⟨k, rfl⟩ := Int.eq_ofNat_of_zero_le hn
  exact refNum_any B v l k size w h hB hl hs
theorem num_magic (w : World) : Calls Tryz.prog 129 #[.slice none 0 0, .int .u64 21587, .int .i64 2] w (MadeB [83, 84] w) :=
  refNum_any 0 _ [] 21587 2 w (Or.inl ⟨rfl, _, _, rfl⟩) (Nat.zero_le _) (by simp) (by omega)
theorem slb_drew {w : World} {v : Value} {l : List UInt8} (h : SlB w.heap.size w v l) : SlB w.drew.heap.size w.drew v l := h
set_option maxHeartbeats 2000000 in
set_option maxRecDepth 100000 in
theorem refPut_any (f : Fr) (w : World) (hi : f.is) : Calls Tryz.prog 61 #[.agg (frA f)] w (MadeB (Hf.put f) w) := by
  have hc : (Value.agg (frA f)).cells = frA f := rfl
  have F0 := Lib.hid (frS_new w f hi)
  by_cases hr : rightB f = true
  · have C1 := Lib.hid (fun w => show Calls Tryz.prog 128 #[.agg (frA f)] w (Bit true w) from hr ▸ refRight_any f w)
    have HP := Lib.hid (put_yes hr)
    obtain ⟨k1, k2, s1, s2, t1, t2, g1, g2⟩ : Hf.Right f := of_decide_eq_true hr
    clear hr
    go_enter Tryz.func61, Tryz.ntmps61
    go_wp2_with (first
      | (refine wpList_load_fr (op := ⟨some 4, _, _, _, _, _⟩) rfl (.tmp 1) rfl rfl F0.out.1 ?_)
      | ((with_reducible refine (C1.out _).mono ?_); rintro e w1 ⟨rfl, hb⟩))
    have hf1 := F0.out.then hb
    clear hb
    have c0 : ∀ w', FrS f w.heap.size w w' → w'.cell? ⟨w.heap.size, 0, none⟩ = some (.int .i64 f.k) := fun w' h => h.1.c0
    have c1 : ∀ w', FrS f w.heap.size w w' → w'.cell? ⟨w.heap.size, 1, none⟩ = some (.int .i64 f.s) := fun w' h => h.1.c1
    have c2 : ∀ w', FrS f w.heap.size w w' → w'.cell? ⟨w.heap.size, 2, none⟩ = some (.int .i64 f.t) := fun w' h => h.1.c2
    have c3 : ∀ w', FrS f w.heap.size w w' → w'.cell? ⟨w.heap.size, 3, none⟩ = some (.int .i64 f.g) := fun w' h => h.1.c3
    have e0 : IntKind.u64.wrap f.k = f.k := by rw [IntKind.wrap_u64]; omega
    have e1 : IntKind.u64.wrap f.s = f.s := by rw [IntKind.wrap_u64]; omega
    have e2 : IntKind.u64.wrap f.t = f.t := by rw [IntKind.wrap_u64]; omega
    have e3 : IntKind.u64.wrap f.g = f.g := by rw [IntKind.wrap_u64]; omega
    have p0 : 0 ≤ f.k := by omega
    have o1 : 1 ≤ 8 := by decide
    have n2 : ([83, 84] : List UInt8).length ≤ 10000 := by decide
    have n3 : ([83, 84] ++ le 1 f.k.toNat).length ≤ 10000 := by simp [Hf.le_length]
    have N2 := Lib.hid (fun (B : Nat) (v : Value) (w : World) (h : SlB B w v [83, 84]) (hB : B ≤ w.heap.size) => num_int (n := f.k) (m := 1) 1 rfl h hB n2 o1 p0)
    have N3 := Lib.hid (fun (B : Nat) (v : Value) (w : World) (h : SlB B w v ([83, 84] ++ le 1 f.k.toNat)) (hB : B ≤ w.heap.size) => num_int (n := f.s) (m := 1) 1 rfl h hB n3 o1 s1)
    clear n2 n3 o1
    go_region_held3 (fun w' => FrS f w.heap.size w w') (repeat (first | assumption | refine FrS.drew ?_)) (first
      | (go_at_call 129; (with_reducible refine (num_magic _).mono ?_); rintro e w2 ⟨v2, rfl, ho, hb⟩; have hf2 := FrS.then ‹_› hb; have H2 := Lib.hid (slb_own ho); clear ho hb)
      | (go_at_call 129; (with_reducible refine (N2.out _ _ _ H2.out (Nat.le_refl _)).mono ?_); rintro e w3 ⟨v3, rfl, ho, hb⟩; have hf3 := FrS.then ‹_› hb; have H3 := Lib.hid (slb_own ho); clear ho hb)
      | (go_at_call 129; (with_reducible refine (N3.out _ _ _ H3.out (Nat.le_refl _)).mono ?_); rintro e w4 ⟨v4, rfl, ho, hb⟩; have hf4 := FrS.then ‹_› hb; have H4 := Lib.hid (slb_own ho); clear ho hb))
    clear N2 N3 H2 H3 e0 e1
    have HF4 := Lib.hid hf4
    have n4 : ([83, 84] ++ le 1 f.k.toNat ++ le 1 f.s.toNat).length ≤ 10000 := by simp [Hf.le_length]
    have n5 : ([83, 84] ++ le 1 f.k.toNat ++ le 1 f.s.toNat ++ le 4 f.t.toNat).length ≤ 10000 := by simp [Hf.le_length]
    have o4 : 4 ≤ 8 := by decide
    have o8 : 8 ≤ 8 := by decide
    have N4 := Lib.hid (fun (B : Nat) (v : Value) (w : World) (h : SlB B w v ([83, 84] ++ le 1 f.k.toNat ++ le 1 f.s.toNat)) (hB : B ≤ w.heap.size) => num_int (n := f.t) (m := 4) 4 rfl h hB n4 o4 t1)
    have N5 := Lib.hid (fun (B : Nat) (v : Value) (w : World) (h : SlB B w v ([83, 84] ++ le 1 f.k.toNat ++ le 1 f.s.toNat ++ le 4 f.t.toNat)) (hB : B ≤ w.heap.size) => num_int (n := f.g) (m := 8) 8 rfl h hB n5 o8 g1)
    clear n4 n5 o4 o8 hf4 hf1
    have hf4 := HF4.out
    go_wp2_with fail
    go_region_held3 (fun w' => FrS f w.heap.size w w') (repeat (first | assumption | refine FrS.drew ?_)) (first
      | (go_at_call 129; (with_reducible refine (N4.out _ _ _ (slb_drew H4.out) (Nat.le_refl _)).mono ?_); rintro e w5 ⟨v5, rfl, ho, hb⟩; have hf5 := FrS.then ‹_› hb; have H5 := Lib.hid (slb_own ho); clear ho hb)
      | (go_at_call 129; (with_reducible refine (N5.out _ _ _ H5.out (Nat.le_refl _)).mono ?_); rintro e w6 ⟨v6, rfl, ho, hb⟩; have hf6 := FrS.then ‹_› hb; have H6 := Lib.hid (show Row _ v6 _ w6 from ⟨ho, hb⟩); have H5b := Lib.hid hf5.2.1; clear ho hb))
    clear N4 N5 H4 H5 e2 e3 c0 c1 c2 c3
    have hi' : f.d.length = 108 := hi
    have D6 := Lib.hid hf6.1.data
    have z6 : w5.heap.size ≤ w6.heap.size := H6.out.2.size
    have n6 : ([83, 84] ++ le 1 f.k.toNat ++ le 1 f.s.toNat ++ le 4 f.t.toNat ++ le 8 f.g.toNat).length + f.d.length ≤ 10000000 := by simp [Hf.le_length]; omega
    have N6 := Lib.hid n6
    clear n6 hf4 HF4
    go_wp2_with (at_builtin; (refine wpList_append_bytes (o := ⟨some 28, _, _, _, _, _⟩) _ rfl (.tmp 25) (.tmp 27) rfl w5.heap.size _ _ _ rfl H6.out.1 (w.heap.size + 1) _ f.d rfl D6.out N6.out z6 ?_; intro v7 w7 hown hg; have H7 := Lib.hid (laid_lit (B := w5.heap.size) (w0 := w5) ⟨H6.out.1, H6.out.2, z6⟩ (Below.refl _ _) hown hg); clear hown hg))
    have HS := Lib.hid (show Laid w5.heap.size w5 v7 (head f) w7 from H7.out)
    have hl := head_length hi
    have HL := Lib.hid hl
    clear H7 D6 H6 N6 hf6 hl
    refine (ref_any _ _ (head f) _ (slb_own HS.out.1) (by have := HL.out; omega)).mono ?_
    rintro e w' ⟨rfl, rfl⟩
    have hq := sum_lt (head f)
    have HE := Lib.hid (show head f ++ le 4 ((sum (head f) : Nat) : Int).toNat = body f from rfl)
    generalize sum (head f) = q at *
    have e7 : IntKind.u64.wrap (q : Int) = q := by rw [IntKind.wrap_u64]; omega
    go_wp2_with fail
    refine (num_int (n := (q : Int)) (m := 4) 4 rfl (slb_own HS.out.1) (Nat.le_refl _) (by have := HL.out; omega) (by omega) (by omega)).mono ?_
    rw [HE.out]
    rintro e w8 ⟨v8, rfl, ho, hb⟩
    have HO := Lib.hid ho
    have HB := Lib.hid (bthen (bthen H5b.out HS.out.2.1) hb)
    have hz7 : w.heap.size ≤ w7.heap.size := (bthen H5b.out HS.out.2.1).size
    clear ho hb
    go_wp2_with fail
    go_ret
    rw [HP.out]
    exact ⟨_, rfl, own_base HO.out hz7, HB.out⟩
  · replace hr : rightB f = false := by simpa using hr
    have C1 := Lib.hid (fun w => show Calls Tryz.prog 128 #[.agg (frA f)] w (Bit false w) from hr ▸ refRight_any f w)
    have HP := Lib.hid (put_no hr)
    clear hr
    go_enter Tryz.func61, Tryz.ntmps61
    go_wp2_with (first
      | (refine wpList_load_fr (op := ⟨some 4, _, _, _, _, _⟩) rfl (.tmp 1) rfl rfl F0.out.1 ?_)
      | ((with_reducible refine (C1.out _).mono ?_); rintro e w1 ⟨rfl, hb⟩))
    go_ret
    rw [HP.out]
    exact madeB_nil _ _ (bthen (one_below _ _) hb)
end Go.Proofs.YtidnmkghmaeniaaGreatDoor
