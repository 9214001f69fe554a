/-
  frame.appendNumber, frame.number; staveref1.Num, staveref1.Big.
-/
import Derived.Test.YtjkponhdpeelpaaHKit
import Derived.Test.YtjkponhdpeelpaaKOn
import Derived.Laws.BitsAllLaws
namespace Go.Proofs.Ytjkponhdpeelpaa
open Go.RowKit Crc Hf
/-- Onto a row of the call's own bytes are appended. -/
def Added (B : Nat) (v : Value) (l : List UInt8) (w : World) (e : Ending) (w' : World) : Prop := ∃ v', e = .returned v' ∧ w'.ownsRow B 5 1 v' l.length (bytesV l) ∧ Grew w v.ownBlock w' v'.ownBlock
theorem le_succ : ∀ (k n : Nat), le (k + 1) n = le k n ++ [UInt8.ofNat (n / 2 ^ (8 * k))]
  | 0, n => by simp [le]
  | k + 1, n => by
    show UInt8.ofNat n :: le (k + 1) (n / 256) = _
    rw [le_succ k]
    show _ = UInt8.ofNat n :: (le k (n / 256) ++ _)
    rw [show (n / 256 / 2 ^ (8 * k)) = n / 2 ^ (8 * (k + 1)) by rw [Nat.div_div_eq_div_mul, show 8 * (k + 1) = 8 + 8 * k by omega, Nat.pow_add]]
theorem new_slb {w : World} {cs : Array Value} {T : TypeId} {n : Nat} {m : Nat × Nat} (l : List UInt8) (hn : l.length = n) (h : cs.toList = bytesV l) : SlB (w.heap.size + 1) (w.alloc (.cells cs T m)) (.slice (some ⟨w.heap.size, 0, none⟩) n n) l := by
  subst hn
  refine slb_lit (fun i v hv => ?_) (by omega) (Nat.le_refl _)
  rw [cell_of_row _ w.heap.size i cs T m (heap_alloc_new w _), ← h] at *
  simpa using hv
theorem byte_lit (n k : Nat) : (#[.int .u8 ((n : Int) / 2 ^ (8 * k) % 256)] : Array Value).toList = bytesV [UInt8.ofNat (n / 2 ^ (8 * k))] := by
  show [_] = [Value.int .u8 ((UInt8.ofNat (n / 2 ^ (8 * k))).toNat : Nat)]
  rw [ofNat_toNat]
  have e : ((n : Int) / 2 ^ (8 * k)) = ((n / 2 ^ (8 * k) : Nat) : Int) := by
    rw [Int.natCast_ediv, Int.natCast_pow]; rfl
  rw [e]
  rfl
def RelAN (B : Nat) (v0 : Value) (l : List UInt8) (n size : Nat) (w : World) (v i : Value) (wr : World) : Prop :=
  ∃ k : Nat, k ≤ size ∧ i = .int .i64 k ∧ wr.ownsRow B 5 1 v (l ++ le k n).length (bytesV (l ++ le k n)) ∧ Grew w v0.ownBlock wr v.ownBlock
theorem relAN_next {B : Nat} {v0 v v2 : Value} {l : List UInt8} {n size k : Nat} {w wr w2 : World} {o : Obj} (hk : k < size)
    (ho : w2.ownsRow B 5 1 v2 ((l ++ le k n).length + [UInt8.ofNat (n / 2 ^ (8 * k))].length) (bytesV (l ++ le k n) ++ bytesV [UInt8.ofNat (n / 2 ^ (8 * k))])) (hg : Grew w v0.ownBlock wr v.ownBlock) (h2 : Grew (wr.alloc o) v.ownBlock w2 v2.ownBlock) :
    RelAN B v0 l n size w v2 (.int .i64 ((k : Int) + 1)) w2 := by
  refine ⟨k + 1, by omega, by go_num, ?_, (hg.alloc o).trans h2⟩
  rw [le_succ, ← List.append_assoc, @List.length_append _ (l ++ le k n), bytesV_append (l ++ le k n)]
  exact ho
set_option maxHeartbeats 1000000 in
set_option maxRecDepth 100000 in
theorem appNum_any (B : Nat) (v : Value) (l : List UInt8) (n size : Nat) (w : World) (h : w.ownsRow B 5 1 v l.length (bytesV l)) (hB : B ≤ w.heap.size) (hl : l.length ≤ 10000) (hs : size ≤ 8) :
    Calls Try.prog 29 #[v, .int .i64 n, .int .i64 size] w (Added B v (l ++ le size n) w) := by
  have H := Lib.hid h
  clear h
  go_enter Try.func29, Try.ntmps29
  go_wp2_with fail
  go_loopw [0, 9] (fun v' i wr => RelAN B v l n size w v' i wr) (fun _ i _ => size - (intOf i).toNat)
  case atStart => exact ⟨0, Nat.zero_le _, rfl, by show w.ownsRow B _ 1 v (l ++ []).length (bytesV (l ++ [])); rw [List.append_nil]; exact H.out, Grew.refl _ _⟩
  case round =>
    obtain ⟨k, hk, rfl, hown, hg⟩ := hrel
    have HO := Lib.hid hown
    have HG := Lib.hid hg
    have hgs := hg.size
    clear hown hg
    by_cases hlt : k < size
    · have HL := Lib.hid (byte_lit n k)
      have hlen : (l ++ le k n).length ≤ 10008 := by rw [List.length_append, Hf.le_length]; omega
      have HLEN := Lib.hid hlen
      clear hlen
      go_wp2_with (at_builtin; refine wpList_append_bytes _ rfl (.tmp 12) (.tmp 18) rfl B _ _ _ rfl (own_below HO.out (one_below _ _)) (wr.heap.size + 1) _ [UInt8.ofNat (n / 2 ^ (8 * k))] rfl (new_slb _ rfl HL.out) (by have := HLEN.out; simp at *; omega) (by simp; omega) ?_; intro v2 w2 hown hg; have HN := Lib.hid (relAN_next hlt hown HG.out hg); clear hown hg)
      go_roundw
      case rel => exact HN.out
      case measure => simp [intOf]; omega
    · obtain rfl : k = size := by omega
      go_wp2_with fail
      go_ret
      exact ⟨_, rfl, HO.out, HG.out⟩
theorem wrap64_int64 {v : Nat} (h : v < 18446744073709551616) : wrap64 (v : Int) = int64 v := by
  unfold int64 wrap64
  split <;> omega
theorem ofInt_int64 {v : Nat} (h : v < 18446744073709551616) : (BitVec.ofInt 64 (int64 v)).toNat = v := by
  rw [BitVec.toNat_ofInt]
  unfold int64
  split <;> omega
theorem or_int64 {a b : Nat} (ha : a < 18446744073709551616) (hb : b < 18446744073709551616) : bits .or .i64 (int64 a) (int64 b) = int64 (a ||| b) := by
  have hx : a ||| b < 2 ^ 64 := Nat.or_lt_two_pow (by omega) (by omega)
  show IntKind.i64.wrap ((BitVec.ofInt 64 (int64 a) ||| BitVec.ofInt 64 (int64 b)).toNat : Int) = _
  rw [BitVec.toNat_or, ofInt_int64 ha, ofInt_int64 hb]
  have e := wrap64_int64 (v := a ||| b) (by omega)
  unfold wrap64 at e
  rw [IntKind.wrap_i64, e]
theorem leV_snoc {l : List UInt8} {k : Nat} (hk : k < l.length) : leV (l.take (k + 1)) = leV (l.take k) + 2 ^ (8 * k) * (l.getD k 0).toNat := by
  have e : l.take (k + 1) = l.take k ++ [l.getD k 0] := by
    rw [List.take_succ_eq_append_getElem hk]; simp [List.getD, hk]
  rw [e, leV_append, List.length_take, Nat.min_eq_left (by omega)]
  rfl
theorem or_next {l : List UInt8} {k : Nat} (hk : k < l.length) (hl : l.length ≤ 8) : bits .or .i64 (int64 (leV (l.take k))) (wrap64 (((l.getD k 0).toNat : Int) * 2 ^ (8 * k))) = int64 (leV (l.take (k + 1))) := by
  have h1 := leV_lt (l.take k)
  rw [List.length_take, Nat.min_eq_left (by omega)] at h1
  have hc := u8_lt (l.getD k 0)
  have hs := leV_snoc hk
  have h2 : leV (l.take (k + 1)) < 18446744073709551616 := by
    have := leV_lt (l.take (k + 1))
    rw [List.length_take, Nat.min_eq_left (by omega)] at this
    exact Nat.lt_of_lt_of_le this (Nat.le_trans (Nat.pow_le_pow_right (by decide) (show 8 * (k + 1) ≤ 64 by omega)) (by decide))
  rw [hs] at h2 ⊢
  generalize leV (l.take k) = a at *
  generalize (l.getD k 0).toNat = c at *
  have e : ((c : Int) * 2 ^ (8 * k)) = ((2 ^ (8 * k) * c : Nat) : Int) := by
    rw [Int.natCast_mul, Int.natCast_pow, Int.mul_comm]; rfl
  rw [e, wrap64_int64 (by omega), or_int64 (by omega) (by omega), Nat.or_comm, ← Nat.two_pow_add_eq_or_of_lt h1, Nat.add_comm]
def RelNu (l : List UInt8) (v i : Value) : Prop := ∃ k : Nat, k ≤ l.length ∧ i = .int .i64 k ∧ v = .int .i64 (int64 (leV (l.take k)))
set_option maxHeartbeats 1000000 in
set_option maxRecDepth 100000 in
theorem number_any (B : Nat) (v : Value) (l : List UInt8) (w : World) (h : SlB B w v l) (hl : l.length ≤ 8) :
    Calls Try.prog 32 #[v] w (fun e w' => e = .returned (.int .i64 (int64 (leV l))) ∧ w = w') := by
  obtain ⟨a, cap, rfl, _⟩ := h.len
  have H := Lib.hid h
  clear h
  go_enter Try.func32, Try.ntmps32
  go_wp2_with fail
  go_loop [3, 8] (fun v i => RelNu l v i) (fun _ i => l.length - (intOf i).toNat)
  case atStart => exact ⟨0, Nat.zero_le _, rfl, rfl⟩
  case round =>
    obtain ⟨k, hk, rfl, rfl⟩ := hrel
    by_cases hlt : k < l.length
    · obtain ⟨b, o, cap', h1, h2⟩ := slb_now H.out hlt
      injection h1 with h1 _ h1'
      subst h1 h1'
      have hb := u8_lt (l.getD k 0)
      have HS := Lib.hid (or_next hlt hl)
      generalize (l.getD k 0).toNat = c at *
      generalize hx : int64 (leV (l.take k)) = x at *
      clear hx
      go_wp2_with fail
      go_round
      case rel => exact ⟨k + 1, by omega, by go_num, by rw [HS.out]⟩
      case measure => simp [intOf]; omega
    · obtain rfl : k = l.length := by omega
      rw [List.take_length]
      go_wp2_with fail
      go_ret
      exact ⟨rfl, rfl⟩
/-! ### the document's way -/
/-- Bytes in a row of the call's own. -/
def MadeB (l : List UInt8) (w : World) (e : Ending) (w' : World) : Prop := ∃ v, e = .returned v ∧ w'.ownsRow w.heap.size 5 1 v l.length (bytesV l) ∧ Below w.heap.size w w'
def RelRNu (l : List UInt8) (n size : Nat) (w : World) (v i : Value) (wr : World) : Prop :=
  ∃ k : Nat, k ≤ size ∧ i = .int .i64 k ∧ wr.ownsRow w.heap.size 5 1 v (l ++ le k n).length (bytesV (l ++ le k n)) ∧ Below w.heap.size w wr
theorem relRNu_next {v v2 : Value} {l : List UInt8} {n size k : Nat} {w wr w2 : World} {o : Obj} (hk : k < size) (hw : wr.ownsRow w.heap.size 5 1 v (l ++ le k n).length (bytesV (l ++ le k n)))
    (ho : w2.ownsRow w.heap.size 5 1 v2 ((l ++ le k n).length + [UInt8.ofNat (n / 2 ^ (8 * k))].length) (bytesV (l ++ le k n) ++ bytesV [UInt8.ofNat (n / 2 ^ (8 * k))])) (hb : Below w.heap.size w wr) (h2 : Grew (wr.alloc o) v.ownBlock w2 v2.ownBlock) :
    RelRNu l n size w v2 (.int .i64 ((k : Int) + 1)) w2 := by
  refine ⟨k + 1, by omega, by go_num, ?_, (balloc hb o).trans (h2.below (balloc hb o).size fun q hq => (own_block hw hq).1)⟩
  rw [le_succ, ← List.append_assoc, @List.length_append _ (l ++ le k n), bytesV_append (l ++ le k n)]
  exact ho
theorem app_belowN {w1 w2 : World} {o : Obj} {r : Option Nat} (hg : Grew (w1.alloc o) (some w1.heap.size) w2 r) : Below w1.heap.size w1 w2 :=
  Below.trans (b := w1.alloc o) (one_below w1 o) (hg.below (by simp) (fun k hk => by injection hk with hk; omega))
set_option maxHeartbeats 1000000 in
set_option maxRecDepth 100000 in
theorem refNum_any (B : Nat) (v : Value) (l : List UInt8) (n size : Nat) (w : World) (h : SlB B w v l) (hB : B ≤ w.heap.size) (hl : l.length ≤ 10000) (hs : size ≤ 8) :
    Calls Try.prog 25 #[v, .int .u64 n, .int .i64 size] w (MadeB (l ++ le size n) w) := by
  have H := Lib.hid h
  clear h
  go_enter Try.func25, Try.ntmps25
  go_wp2_with (at_builtin; refine wpList_append_bytes _ rfl (.tmp 9) (.tmp 10) rfl w.heap.size _ _ _ rfl (own_new w w.heap.size #[] 5 1 0 (Nat.le_refl _) rfl (by decide)) B _ l rfl (H.out.below ((Below.refl _ _).alloc hB _)) (by omega) (by simp) ?_; intro v2 w2 hown hg; have HO := Lib.hid hown; have HB := Lib.hid (app_belowN hg); clear hown hg)
  go_loopw [7, 8] (fun v' i wr => RelRNu l n size w v' i wr) (fun _ i _ => size - (intOf i).toNat)
  case atStart => exact ⟨0, Nat.zero_le _, rfl, by have := HO.out; rw [Nat.zero_add, List.nil_append] at this; show w2.ownsRow _ _ 1 v2 (l ++ []).length (bytesV (l ++ [])); rw [List.append_nil]; exact this, HB.out⟩
  case round =>
    obtain ⟨k, hk, rfl, hown, hb⟩ := hrel
    have HW := Lib.hid hown
    have HBR := Lib.hid hb
    have hbs := hb.size
    clear hown hb
    by_cases hlt : k < size
    · have HL := Lib.hid (byte_lit n k)
      have hlen : (l ++ le k n).length ≤ 10008 := by rw [List.length_append, Hf.le_length]; omega
      have HLEN := Lib.hid hlen
      clear hlen
      go_wp2_with (at_builtin; refine wpList_append_bytes _ rfl (.tmp 17) (.tmp 23) rfl w.heap.size _ _ _ rfl (own_below HW.out (one_below _ _)) (wr.heap.size + 1) _ [UInt8.ofNat (n / 2 ^ (8 * k))] rfl (new_slb _ rfl HL.out) (by have := HLEN.out; simp at *; omega) (by simp; omega) ?_; intro v2 w2 hown hg; have HN := Lib.hid (relRNu_next hlt HW.out hown HBR.out hg); clear hown hg)
      go_roundw
      case rel => exact HN.out
      case measure => simp [intOf]; omega
    · obtain rfl : k = size := by omega
      go_wp2_with fail
      go_ret
      exact ⟨_, rfl, HW.out, HBR.out⟩
theorem or_lowN (m b : Nat) (hb : b < 256) (hm : 256 * m + b < 18446744073709551616) : bits .or .u64 (IntKind.u64.wrap ((m : Int) * 256)) (b : Int) = ((b + 256 * m : Nat) : Int) := by
  have e1 : IntKind.u64.wrap ((m : Int) * 256) = ((256 * m : Nat) : Int) := by
    rw [IntKind.wrap_u64]; omega
  rw [e1, u64_or_nat _ _ (by omega) (by omega)]
  have h := Nat.two_pow_add_eq_or_of_lt (i := 8) (b := b) (by omega) m
  rw [show (2 : Nat) ^ 8 = 256 from rfl] at h
  rw [← h, Nat.add_comm]
theorem leV_drop {bs : List UInt8} {j : Nat} (h : j < bs.length) : leV (bs.drop j) = (bs.getD j 0).toNat + 256 * leV (bs.drop (j + 1)) := by
  rw [List.drop_eq_getElem_cons h]
  simp [leV, List.getD, h]
theorem leV_small {bs : List UInt8} {j : Nat} (hl : bs.length ≤ 8) : leV (bs.drop j) < 18446744073709551616 := by
  have h1 := leV_lt (bs.drop j)
  have h2 : (bs.drop j).length ≤ 8 := by rw [List.length_drop]; omega
  exact Nat.lt_of_lt_of_le h1 (Nat.le_trans (Nat.pow_le_pow_right (by decide) (show 8 * (bs.drop j).length ≤ 64 by omega)) (by decide))
def U64SameN (n : Nat) (w : World) (e : Ending) (w' : World) : Prop := e = .returned (.int .u64 n) ∧ w = w'
def RelBigN (bs : List UInt8) (n i : Value) : Prop := ∃ k : Nat, k ≤ bs.length ∧ n = .int .u64 (leV (bs.drop k)) ∧ i = .int .i64 ((k : Int) - 1)
set_option maxHeartbeats 1000000 in
set_option maxRecDepth 100000 in
theorem bigN_any (B : Nat) (v : Value) (bs : List UInt8) (w : World) (h : SlB B w v bs) (hB : B ≤ w.heap.size) (hl : bs.length ≤ 8) : Calls Try.prog 27 #[v] w (U64SameN (leV bs) w) := by
  have H := Lib.hid h
  obtain ⟨a, cap, rfl, _⟩ := h.len
  clear h
  go_enter Try.func27, Try.ntmps27
  go_wp2_with fail
  go_loop [3, 4] (fun n i => RelBigN bs n i) (fun _ i => (intOf i + 1).toNat)
  case atStart => exact ⟨bs.length, Nat.le_refl _, by rw [List.drop_length]; rfl, rfl⟩
  case round =>
    obtain ⟨k, hk, rfl, rfl⟩ := hrel
    cases k with
    | zero =>
      rw [show (((0 : Nat) : Int) - 1) = (-1 : Int) by rfl]
      go_wp2_with fail
      go_ret
      exact ⟨rfl, rfl⟩
    | succ j =>
      rw [show (((j + 1 : Nat) : Int) - 1) = (j : Int) by omega]
      obtain ⟨b, o, cap', h1, h2⟩ := H.out.byte hB (Below.refl _ _) (k := j) (by omega)
      injection h1 with h1 _ h1'
      subst h1 h1'
      have hd := leV_drop (bs := bs) (j := j) (by omega)
      have hs := leV_small (bs := bs) (j := j) hl
      have hb : (bs.getD j 0).toNat < 256 := UInt8.toNat_lt _
      have hor := or_lowN (leV (bs.drop (j + 1))) (bs.getD j 0).toNat hb (by omega)
      generalize (bs.getD j 0).toNat = c at *
      generalize leV (bs.drop (j + 1)) = m at *
      have HD := Lib.hid hd
      have hjl : (j : Int) < bs.length := by omega
      clear hd hs
      go_wp2_with fail
      go_round
      case rel => exact ⟨j, by omega, by rw [HD.out, Int.natCast_add, Int.natCast_mul]; rfl, rfl⟩
      case measure => simp [intOf]
end Go.Proofs.Ytjkponhdpeelpaa
