import Derived.Test.YtilljaneegbhlaaGreatDoorZHBuild
import Derived.Test.YtilljaneegbhlaaGreatDoorZKTurnL
import Derived.Laws.BitsAllLaws
import Derived.Test.YtilljaneegbhlaaGreatDoorZDStill
import Derived.IntWalk
namespace Go.Proofs.YtilljaneegbhlaaGreatDoor
open Go.RowKit Crc Hf
set_option maxHeartbeats 2000000
set_option maxRecDepth 100000
def Added (B : Nat) (v : Value) (l : List UInt8) (w : World) (e : Ending) (w' : World) : Prop := ∃ v', e = .returned v' ∧ w'.ownsRow B 5 1 v' l.length (bytesV l) ∧ Grew w v.ownBlock w' v'.ownBlock
theorem le_succ : ∀ (k n : Nat), le (k + 1) n = le k n ++ [UInt8.ofNat (n / 2 ^ (8 * k))]
 | 0, n => by simp [le]
 | k + 1, n => by
  show UInt8.ofNat n :: le (k + 1) (n / 256) = _
  rw [le_succ k]
  show _ = UInt8.ofNat n :: (le k (n / 256) ++ _)
  rw [show (n / 256 / 2 ^ (8 * k)) = n / 2 ^ (8 * (k + 1)) by rw [Nat.div_div_eq_div_mul, show 8 * (k + 1) = 8 + 8 * k by omega, Nat.pow_add]]
variable {w : World} {n : Nat}
theorem new_slb {cs : Array Value} {T : TypeId} {m : Nat × Nat} (l : List UInt8) (hn : l.length = n) (h : cs.toList = bytesV l) : SlB (w.heap.size + 1) (w.alloc (.cells cs T m)) (.slice (some ⟨w.heap.size, 0, none⟩) n n) l := by
 subst hn
 refine slb_lit (fun i v hv => ?_) (by omega) (Nat.le_refl _)
 rw [cell_of_row _ w.heap.size i cs T m (heap_alloc_new w _), ← h] at *
 simpa using hv
theorem byte_lit (n k : Nat) : (#[.int .u8 ((n : Int) / 2 ^ (8 * k) % 256)] : Array Value).toList = bytesV [UInt8.ofNat (n / 2 ^ (8 * k))] := by
 show [_] = [Value.int .u8 ((UInt8.ofNat (n / 2 ^ (8 * k))).toNat : Nat)]
 rw [ofNat_toNat]
 have e : ((n : Int) / 2 ^ (8 * k)) = ((n / 2 ^ (8 * k) : Nat) : Int) := by
  rw [Int.natCast_ediv, Int.natCast_pow]; rfl
 rw [e]
 rfl
def RelAN (B : Nat) (v0 : Value) (l : List UInt8) (n size : Nat) (w : World) (v i : Value) (wr : World) : Prop :=
 ∃ k : Nat, k ≤ size ∧ i = .int .i64 k ∧ wr.ownsRow B 5 1 v (l ++ le k n).length (bytesV (l ++ le k n)) ∧ Grew w v0.ownBlock wr v.ownBlock
variable {B k : Nat} {v : Value} {l : List UInt8}
theorem relAN_next {v0 v2 : Value} {size : Nat} {wr w2 : World} {o : Obj} (hk : k < size)
  (ho : w2.ownsRow B 5 1 v2 ((l ++ le k n).length + [UInt8.ofNat (n / 2 ^ (8 * k))].length) (bytesV (l ++ le k n) ++ bytesV [UInt8.ofNat (n / 2 ^ (8 * k))])) (hg : Grew w v0.ownBlock wr v.ownBlock) (h2 : Grew (wr.alloc o) v.ownBlock w2 v2.ownBlock) :
  RelAN B v0 l n size w v2 (.int .i64 ((k : Int) + 1)) w2 := by
 refine ⟨k + 1, by omega, by go_num, ?_, (hg.alloc o).trans h2⟩
 rw [le_succ, ← List.append_assoc, @List.length_append _ (l ++ le k n), bytesV_append (l ++ le k n)]
 exact ho
theorem appNum_any (B : Nat) (v : Value) (l : List UInt8) (n size : Nat) (w : World) (h : w.ownsRow B 5 1 v l.length (bytesV l)) (hB : B ≤ w.heap.size) (hl : l.length ≤ 10000) (hs : size ≤ 8) :
  Calls Tryz.prog 128 #[v, .int .i64 n, .int .i64 size] w (Added B v (l ++ le size n) w) := by
 have H := hI h
 clear h
 go_enter Tryz.func128, Tryz.ntmps128
 go_wp2_with fail
 go_loopw [0, 9] (fun v' i wr => RelAN B v l n size w v' i wr) (fun _ i _ => size - (intOf i).toNat)
 case atStart => exact ⟨0, Nat.zero_le _, rfl, by show w.ownsRow B _ 1 v (l ++ []).length (bytesV (l ++ [])); rw [List.append_nil]; exact H.out, Grew.refl _ _⟩
 case round =>
  obtain ⟨k, hk, rfl, hown, hg⟩ := hrel; have HO := hI hown; have HG := hI hg; have hgs := hg.size; clear hown hg
  by_cases hlt : k < size
  ·have HL := hI (byte_lit n k)
   have hlen : (l ++ le k n).length ≤ 10008 := by rw [List.length_append, Hf.le_length]; omega
   have HLEN := hI hlen; clear hlen; go_wp2_with (at_builtin; refine wpList_append_bytes _ rfl (.tmp 12) (.tmp 18) rfl B _ _ _ rfl (own_below HO.out (one_below _ _)) (wr.heap.size + 1) _ [UInt8.ofNat (n / 2 ^ (8 * k))] rfl (new_slb _ rfl HL.out) (by have := HLEN.out; simp at *; omega) (by simp; omega) ?_; intro v2 w2 hown hg; have HN := hI (relAN_next hlt hown HG.out hg); clear hown hg)
   go_roundw
   case rel => exact HN.out
   case measure => simp [intOf]; omega
  ·obtain rfl : k = size := by omega
   go_wp2_with fail; go_ret; exact ⟨_, rfl, HO.out, HG.out⟩
theorem wrap64_int64 {v : Nat} (h : v < 18446744073709551616) : wrap64 (v : Int) = int64 v := by
 unfold int64 wrap64
 split <;> omega
theorem ofInt_int64 {v : Nat} (h : v < 18446744073709551616) : (BitVec.ofInt 64 (int64 v)).toNat = v := by
 rw [BitVec.toNat_ofInt]
 unfold int64
 split <;> omega
variable {b : Nat}
theorem or_int64 {a : Nat} (ha : a < 18446744073709551616) (hb : b < 18446744073709551616) : bits .or .i64 (int64 a) (int64 b) = int64 (a ||| b) := by
 have hx : a ||| b < 2 ^ 64 := Nat.or_lt_two_pow (by omega) (by omega)
 show IntKind.i64.wrap ((BitVec.ofInt 64 (int64 a) ||| BitVec.ofInt 64 (int64 b)).toNat : Int) = _
 rw [BitVec.toNat_or, ofInt_int64 ha, ofInt_int64 hb]
 have e := wrap64_int64 (v := a ||| b) (by omega)
 unfold wrap64 at e
 rw [IntKind.wrap_i64, e]
theorem leV_snoc (hk : k < l.length) : leV (l.take (k + 1)) = leV (l.take k) + 2 ^ (8 * k) * (l.getD k 0).toNat := by
 have e : l.take (k + 1) = l.take k ++ [l.getD k 0] := by
  rw [List.take_succ_eq_append_getElem hk]; simp [List.getD, hk]
 rw [e, leV_append, List.length_take, Nat.min_eq_left (by omega)]
 rfl
theorem or_next (hk : k < l.length) (hl : l.length ≤ 8) : bits .or .i64 (int64 (leV (l.take k))) (wrap64 (((l.getD k 0).toNat : Int) * 2 ^ (8 * k))) = int64 (leV (l.take (k + 1))) := by
 have h1 := leV_lt (l.take k)
 rw [List.length_take, Nat.min_eq_left (by omega)] at h1
 have hc := u8_lt (l.getD k 0)
 have hs := leV_snoc hk
 have h2 : leV (l.take (k + 1)) < 18446744073709551616 := by
  have := leV_lt (l.take (k + 1)); rw [List.length_take, Nat.min_eq_left (by omega)] at this; exact Nat.lt_of_lt_of_le this (Nat.le_trans (Nat.pow_le_pow_right (by decide) (show 8 * (k + 1) ≤ 64 by omega)) (by decide))
 rw [hs] at h2 ⊢
 generalize leV (l.take k) = a at *
 generalize (l.getD k 0).toNat = c at *
 have e : ((c : Int) * 2 ^ (8 * k)) = ((2 ^ (8 * k) * c : Nat) : Int) := by
  rw [Int.natCast_mul, Int.natCast_pow, Int.mul_comm]; rfl
 rw [e, wrap64_int64 (by omega), or_int64 (by omega) (by omega), Nat.or_comm, ← Nat.two_pow_add_eq_or_of_lt h1, Nat.add_comm]
def RelNu (l : List UInt8) (v i : Value) : Prop := ∃ k : Nat, k ≤ l.length ∧ i = .int .i64 k ∧ v = .int .i64 (int64 (leV (l.take k)))
theorem number_any (B : Nat) (v : Value) (l : List UInt8) (w : World) (h : SlB B w v l) (hl : l.length ≤ 8) :
  Calls Tryz.prog 183 #[v] w (fun e w' => e = .returned (.int .i64 (int64 (leV l))) ∧ w = w') := by
 obtain ⟨a, cap, rfl, _⟩ := h.len
 have H := hI h
 clear h
 go_enter Tryz.func183, Tryz.ntmps183
 go_wp2_with fail
 go_loop [3, 8] (fun v i => RelNu l v i) (fun _ i => l.length - (intOf i).toNat)
 case atStart => exact ⟨0, Nat.zero_le _, rfl, rfl⟩
 case round =>
  obtain ⟨k, hk, rfl, rfl⟩ := hrel
  by_cases hlt : k < l.length
  ·obtain ⟨b, o, cap', h1, h2⟩ := slb_now H.out hlt
   injection h1 with h1 _ h1'; subst h1 h1'; have hb := u8_lt (l.getD k 0); have HS := hI (or_next hlt hl); generalize (l.getD k 0).toNat = c at *; generalize hx : int64 (leV (l.take k)) = x at *; clear hx; go_wp2_with fail
   go_round
   case rel => exact ⟨k + 1, by omega, by go_num, by rw [HS.out]⟩
   case measure => simp [intOf]; omega
  ·obtain rfl : k = l.length := by omega
   rw [List.take_length]; go_wp2_with fail; go_ret; exact ⟨rfl, rfl⟩
def MadeB (l : List UInt8) (w : World) (e : Ending) (w' : World) : Prop := ∃ v, e = .returned v ∧ w'.ownsRow w.heap.size 5 1 v l.length (bytesV l) ∧ Below w.heap.size w w'
def FrameB (f : Fr) (w : World) (e : Ending) (w' : World) : Prop := e = .returned (.agg (frA f)) ∧ Below w.heap.size w w'
variable {o : Nat}
theorem slb_piece (h : BytesAt w b o l) (hb : b < B) (i n c : Nat) (hi : i + n ≤ l.length) (h0 : 0 < n) (hc : n ≤ c) : SlB B w (.slice (some ⟨b, o + i, none⟩) n c) ((l.drop i).take n) := by
 have hn : ((l.drop i).take n).length = n := by simp; omega
 refine Or.inr ⟨b, o + i, c, by rw [hn], hb, fun x hx => ?_, by omega, by omega⟩
 rw [Nat.add_assoc, h (i + x) (by omega)]
 rw [hn] at hx
 simp [List.getD, hx]
theorem bytesAt_alloc (h : BytesAt w b o l) (hb : b < w.heap.size) (ob : Obj) : BytesAt (w.alloc ob) b o l := fun x hx => by
 rw [(one_below w ob).cell (p := ⟨b, o + x, none⟩) hb]; exact h x hx
theorem run_build_op {P : Program} {a : Act} {o : Oper} {t : TypeId} {ps : Array (Nat × Operand)} {vs : Array (Nat × Value)} (ho : o.op = .build t ps) (hv : ps.map (fun q => (q.1, a.eval q.2)) = vs)
  (hr : (Instr.build t vs).run P w = .ok v w) : (execOp a.eval o).run P w = .ok (.value v) w := by
 unfold execOp
 subst hv
 simp [ho, hr]
variable {args : Array Value}
theorem number_flip {n : Int} (h : Calls Tryz.prog 183 args w (fun e w' => e = .returned (.int .i64 n) ∧ w = w')) : Calls Tryz.prog 183 args w (fun e w' => e = .returned (.int .i64 n) ∧ w' = w) :=
 h.mono fun _ _ ⟨h1, h2⟩ => ⟨h1, h2.symm⟩
theorem number_four (hl : l.length ≤ 4) (h : Calls Tryz.prog 183 args w (fun e w' => e = .returned (.int .i64 (int64 (leV l))) ∧ w = w')) : Calls Tryz.prog 183 args w (fun e w' => e = .returned (.int .i64 (leV l : Int)) ∧ w' = w) := by
 have h4 := leV_lt l
 have h5 : leV l < 9223372036854775808 := Nat.lt_of_lt_of_le h4 (Nat.le_trans (Nat.pow_le_pow_right (by decide) (show 8 * l.length ≤ 32 by omega)) (by decide))
 have e : int64 (leV l) = (leV l : Int) := if_pos h5
 rw [e] at h
 exact number_flip h
theorem range_piece (h : BytesAt w b o l) (i n : Nat) (hi : i + n ≤ l.length) : w.rangeAt b (o + i) (bytesV ((l.drop i).take n)) := fun j v hv => by
 have hj : j < ((l.drop i).take n).length := by have := (List.getElem?_eq_some_iff.1 hv).1; rwa [bytesV_length] at this
 have hj' : j < n := by simp at hj; omega
 rw [Nat.add_assoc, h (i + j) (by omega), ← hv, bytesV_at hj]
 simp [List.getD, hj']
theorem read_any (B : Nat) (v : Value) (l : List UInt8) (w : World) (h : SlB B w v l) (hB : B ≤ w.heap.size) (hl : l.length = 128) : Calls Tryz.prog 163 #[v] w (FrameB (Hf.read l) w) := by
 have hc : (Value.agg (frA zeroF)).cells = frA zeroF := rfl
 have hz := szFr_run
 have hz0 := zero_frame
 obtain ⟨b, o, cap, rfl, hb, hat, -, hcap⟩ : ∃ b o cap, v = .slice (some ⟨b, o, none⟩) 128 cap ∧ b < B ∧ BytesAt w b o l ∧ 0 < l.length ∧ 128 ≤ cap := by
  rcases h with ⟨rfl, _⟩ | ⟨b, o, cap, h1, h2, h3, h4, h5⟩
  ·simp at hl
  ·exact ⟨b, o, cap, by rw [h1, hl], h2, h3, h4, by omega⟩
 clear h
 go_enter Tryz.func163, Tryz.ntmps163
 go_wp2_with fail
 generalize hW : w.alloc (.cells (frA zeroF) 151) = w1
 have HW := hI hW
 have hat1 : BytesAt w1 b o l := by rw [← hW]; exact bytesAt_alloc hat (by omega) _
 clear hW hz0
 obtain ⟨x2, hx2⟩ : ∃ x, (l.getD 2 0).toNat = x := ⟨_, rfl⟩
 obtain ⟨x3, hx3⟩ : ∃ x, (l.getD 3 0).toNat = x := ⟨_, rfl⟩
 have c2 : w1.cell? ⟨b, o + 2, none⟩ = some (.int .u8 x2) := by rw [← hx2]; exact hat1 2 (by omega)
 have c3 : w1.cell? ⟨b, o + 3, none⟩ = some (.int .u8 x3) := by rw [← hx3]; exact hat1 3 (by omega)
 have b2 : x2 < 256 := by rw [← hx2]; exact u8_lt _
 have b3 : x3 < 256 := by rw [← hx3]; exact u8_lt _
 have hsl := fun W => slice_data ⟨b, o + 16, none⟩ (cap - 16) W
 have h108 : (bytesV ((l.drop 16).take 108)).length = 108 := by rw [bytesV_length]; simp; omega
 have HBD := hI (show (Instr.build 151 #[(0, .int .i64 (x2 : Int)), (1, .int .i64 (x3 : Int)), (2, .int .i64 (leV ((l.drop 4).take 4) : Int)), (3, .int .i64 (int64 (leV ((l.drop 8).take 8)))), (4, .agg (bytesV ((l.drop 16).take 108)).toArray)]).run Tryz.prog w1.drew = .ok (.agg (frA (Hf.read l))) w1.drew by
  rw [← hx2, ← hx3]; exact run_build_frame _ _ _ _ _ (by rw [← bytesV_length]; exact h108) w1.drew)
 have N1 := number_four (by simp; omega) (number_any B _ _ w1.drew (slb_piece (w := w1.drew) (n := 4) (c := cap - 4) hat1 hb 4 (by omega) (by omega) (by omega)) (by simp; omega))
 have N2 := number_flip (number_any B _ _ w1.drew (slb_piece (w := w1.drew) (n := 8) (c := cap - 8) hat1 hb 8 (by omega) (by omega) (by omega)) (by simp; omega))
 clear hx2 hx3
 have e2 : IntKind.i64.wrap (x2 : Int) = x2 := IntWalk.i64_in _ (by omega)
 have e3 : IntKind.i64.wrap (x3 : Int) = x3 := IntWalk.i64_in _ (by omega)
 have HR := hI (range_piece hat1 16 108 (by omega))
 have i8 : (8 : Int) ≤ cap := by omega
 have i16 : (16 : Int) ≤ cap := by omega
 have i124 : (124 : Int) ≤ cap := by omega
 have n4 : ¬ cap = 4 := by omega
 have n8 : ¬ cap = 8 := by omega
 have n16 : ¬ cap = 16 := by omega
 have HST := hI (show (storeVar 151 ⟨w.heap.size, 0, none⟩ (.agg (frA (Hf.read l)))).run Tryz.prog w1.drew = .ok () (w.alloc (.cells (frA (Hf.read l)) 151)).drew by
  rw [← HW.out]; exact store_frame zeroF_is (read_is hl) w.drew)
 refine wp_region_still_tail 19 (by kernel_rfl) (by kernel_rfl) ?_
 simp only [List.take_succ_cons, List.take_zero, List.drop_succ_cons, List.drop_zero]
 iterate 10 still_step
 still_call N1
 iterate 2 still_step
 still_call N2
 iterate 3 still_step
 refine wpStill_load_mid rfl _ _ rfl b (o + 16) rfl (bytesV ((l.drop 16).take 108)) _ HR.out Tryz.underlying86 rfl (by rw [h108]; exact size_data) ?_
 refine wpStill_val rfl (.agg (frA (Hf.read l))) (run_build_op rfl ?_ HBD.out) ?_
 ·go_simp
 refine wpStill_nil ?_
 refine wpList_store_run rfl _ _ _ rfl ⟨w.heap.size, 0, none⟩ (.agg (frA (Hf.read l))) rfl rfl HST.out ?_
 have HL := hI (frIn_new w.drew (Hf.read l) (read_is hl)).load
 have hld : (loadCellsFrom ⟨w.heap.size, 0, none⟩ 0 szFr #[]).run Tryz.prog (w.alloc (.cells (frA (Hf.read l)) 151)).drew = .ok (frA (Hf.read l)) (w.alloc (.cells (frA (Hf.read l)) 151)).drew := HL.out
 go_wp2_with fail
 exact bodyPost_ret (v := .agg (frA (Hf.read l))) (by simp [results, Tryz.results163, go_sem, hz, hld]) rfl ⟨rfl, (Below.refl _ _).drew.alloc (Nat.le_refl _) _⟩
theorem two_lit {a b : Int} (ha : 0 ≤ a) (hb : 0 ≤ b) (ha' : a < 256) (hb' : b < 256) : (#[.int .u8 a, .int .u8 b] : Array Value).toList = bytesV [UInt8.ofNat a.toNat, UInt8.ofNat b.toNat] := by
 show [_, _] = [Value.int .u8 ((UInt8.ofNat a.toNat).toNat : Nat), Value.int .u8 ((UInt8.ofNat b.toNat).toNat : Nat)]
 rw [ofNat_toNat, ofNat_toNat, show ((a.toNat % 256 : Nat) : Int) = a by omega, show ((b.toNat % 256 : Nat) : Int) = b by omega]
theorem own_base {B' e size : Nat} {xs : List Value} (h : w.ownsRow B e size v n xs) (hB : B' ≤ B) : w.ownsRow B' e size v n xs := by
 obtain ⟨h1, h2⟩ := h
 refine ⟨h1, ?_⟩
 rcases h2 with h2 | ⟨g, cap, cur, hv, hg, r⟩
 ·exact Or.inl h2
 ·exact Or.inr ⟨g, cap, cur, hv, Nat.le_trans hB hg, r⟩
theorem appNum_int {w0 : World} {n : Int} (size : Nat) {m : Int} {w : World} (hm : m = (size : Int)) (h : Laid B w0 v l w) (hl : l.length ≤ 10000) (hs : size ≤ 8) (hn : 0 ≤ n) :
  Calls Tryz.prog 128 #[v, .int .i64 n, .int .i64 m] w (fun e w' => ∃ v', e = .returned v' ∧ Laid B w0 v' (l ++ le size n.toNat) w') := by
 subst hm
 obtain ⟨k, rfl⟩ := Int.eq_ofNat_of_zero_le hn
 refine (appNum_any B v l k size w h.1 h.2.2 hl hs).mono ?_
 rintro e w' ⟨v', rfl, ho, hg⟩
 exact ⟨v', rfl, laid_num h ho hg⟩
theorem write_any (tb : Nat) (f : Fr) (w : World) (hT : TableIn w tb) (ht : tb < w.heap.size) (hi : f.is) (hr : Hf.Right f) :
  Calls Tryz.prog 113 #[.pointer (some ⟨tb, 0, none⟩), .agg (frA f)] w (MadeB (body f) w) := by
 have hmk := make_room
 have hc : (Value.agg (frA f)).cells = frA f := rfl
 obtain ⟨k1, k2, s1, s2, t1, t2, g1, g2⟩ := hr
 have HF := hI (frIn_new w f hi)
 have HM := hI (show Laid (w.heap.size + 1) (w.alloc (.cells (frA f) 151)) (.slice (some ⟨w.heap.size + 1, 0, none⟩) 0 128) [] ((w.alloc (.cells (frA f) 151)).alloc (.cells (madeCells #[.int .u8 0] 128) 5)) from ⟨hmade_own (by simp), Below.alloc (Below.refl _ _) (by simp) _, by simp⟩)
 have HT := hI (hT.below ht (one_below w (.cells (frA f) 151)))
 have HLIT := hI (two_lit (a := f.k) (b := f.s) (by omega) (by omega) (by omega) (by omega))
 clear hT
 go_enter Tryz.func113, Tryz.ntmps113
 go_wp2_with (first
  | (at_builtin; refine wpList_append_str (o := ⟨some 8, _, _, _, _, _⟩) _ rfl (.tmp 7) (.const _) rfl (w.heap.size + 1) _ _ _ rfl HM.out.1 _ rfl (by decide) (by simp) ?_; intro v2 w2 hown hg; have H2 := hI (laid_str (m := [83, 84]) HM.out rfl rfl hown hg); have F2 := hI (HF.out.below (by omega) H2.out.2.1); have c0 := F2.out.c0; have c1 := F2.out.c1; have z2 := H2.out.2.2; clear hown hg)
  | (at_builtin; (refine wpList_append_bytes (o := ⟨some 17, _, _, _, _, _⟩) _ rfl (.tmp 9) (.tmp 16) rfl (w.heap.size + 1) _ _ _ rfl (own_below H2.out.1 (one_below _ _)) (w2.heap.size + 1) _ [UInt8.ofNat f.k.toNat, UInt8.ofNat f.s.toNat] rfl (new_slb _ rfl HLIT.out) (by simp) (by simp; omega) ?_; intro v3 w3 hown hg; have H3 := hI (laid_lit H2.out (one_below _ _) hown hg); clear c0 c1; have F3 := hI (HF.out.below (by omega) H3.out.2.1); have c2 := F3.out.c2; have z3 := H3.out.2.2; clear hown hg)))
 refine (appNum_int 4 rfl H3.out (by simp) (by omega) t1).mono ?_
 rintro e w4 ⟨v4, rfl, h4⟩
 have H4 := hI h4
 clear c2 h4
 have F4 := hI (HF.out.below (by omega) H4.out.2.1)
 have c3 := F4.out.c3
 have z4 := H4.out.2.2
 go_wp2_with fail
 refine (appNum_int 8 rfl H4.out (by simp [Hf.le_length]) (by omega) g1).mono ?_
 rintro e w5 ⟨v5, rfl, h5⟩
 have H5 := hI h5
 clear c3 h5
 have F5 := hI (HF.out.below (by omega) H5.out.2.1)
 have z5 := H5.out.2.2
 have D5 := hI F5.out.data
 have L5 := hI hi
 clear hi
 go_wp2_with (at_builtin; (refine wpList_append_bytes (o := ⟨some 29, _, _, _, _, _⟩) _ rfl (.tmp 26) (.tmp 28) rfl (w.heap.size + 1) _ _ _ rfl H5.out.1 (w.heap.size + 1) _ f.d rfl D5.out (by have := L5.out; unfold Fr.is at this; simp [Hf.le_length]; omega) z5 ?_; intro v6 w6 hown hg; have H6 := hI (laid_lit H5.out (Below.refl _ _) hown hg); clear hown hg))
 have HS := hI (show Laid (w.heap.size + 1) (w.alloc (.cells (frA f) 151)) v6 (head f) w6 from H6.out)
 have HL := hI (head_length L5.out)
 have HT6 := hI (HT.out.below (by simp; omega) (HS.out.2.1.mono (by simp)))
 refine (sum_any _ tb _ (head f) _ HT6.out (slb_own HS.out.1) (by have := HL.out; omega)).mono ?_
 rintro e w' ⟨rfl, rfl⟩
 have hq := sum_lt (head f)
 have HE := hI (show head f ++ le 4 ((sum (head f) : Nat) : Int).toNat = body f from rfl)
 generalize sum (head f) = q at *
 clear H6 D5 F5 H5 H4 H3 H2 F4 F3 F2 HM
 go_wp2_with fail
 refine (appNum_int 4 rfl HS.out (by have := HL.out; omega) (by omega) (by omega)).mono ?_
 rintro e w7 ⟨v7, rfl, h7⟩
 rw [HE.out] at h7
 have H7 := hI h7
 clear h7
 go_wp2_with fail
 go_ret
 refine ⟨_, rfl, own_base (B' := w.heap.size) H7.out.1 (Nat.le_succ _), (one_below _ _).trans (H7.out.2.1.mono (Nat.le_succ _))⟩
end Go.Proofs.YtilljaneegbhlaaGreatDoor
