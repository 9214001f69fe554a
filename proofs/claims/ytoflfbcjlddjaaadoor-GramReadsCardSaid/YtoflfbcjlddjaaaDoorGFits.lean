/-
  gram.within, gram.fits: does a value fit a field?
-/
import Derived.Test.YtoflfbcjlddjaaaDoorGApp
import Derived.Test.YtoflfbcjlddjaaaDoorGRight
import Derived.Test.YtoflfbcjlddjaaaDoorFind
namespace Go.Proofs.YtoflfbcjlddjaaaDoor
open Go.RowKit

def withinB (lo hi n : Int) : Bool := decide (lo ≤ n ∧ n ≤ hi)
set_option maxHeartbeats 1000000 in
theorem within_any (k sz lo hi mo n : Int) (w : World) : Calls Tryd.prog 67 #[.agg #[.int .i64 k, .int .i64 sz, .int .i64 lo, .int .i64 hi, .int .i64 mo], .int .i64 n] w (BitSame (withinB lo hi n) (w.alloc (.cells #[.int .i64 k, .int .i64 sz, .int .i64 lo, .int .i64 hi, .int .i64 mo] 46))) := by
  generalize hr : withinB lo hi n = r
  have Hr := Lib.hid hr; clear hr
  go_enter Tryd.func67, Tryd.ntmps67
  go_wp2_with fail
  all_goals
    go_ret
    refine bitSame ?_
    rw [← Hr.out, Bool.eq_iff_iff]
    simp only [withinB, decide_eq_true_eq, Bool.false_eq_true, false_iff] at *
    omega

/-- slices.IndexFunc over texts, with the closure of gram.fits: the first text that is longer than most. -/
theorem tooLong (s : ByteArray) (mo : Int) (b : Nat) (w : World) (hc : w.cell? ⟨b, 4, none⟩ = some (.int .i64 mo)) :
    Calls Tryd.prog 68 #[.string s, .pointer (some ⟨b, 0, none⟩)] w (BitSame (decide (mo < s.size)) w) := by
  go_enter Tryd.func68, Tryd.ntmps68
  go_wp2_with fail
  go_ret
  exact bitSame rfl
def RelI (p : ByteArray → Bool) (l : List ByteArray) (w : World) (c : Value) (wr : World) : Prop :=
  ∃ k : Nat, k ≤ l.length ∧ c = .int .i64 k ∧ (∀ x, x < k → p (l.getD x ByteArray.empty) = false) ∧ w = wr
def NumSame (n : Int) (w : World) (e : Ending) (w' : World) : Prop := e = .returned (.int .i64 n) ∧ w = w'
set_option maxHeartbeats 1000000 in
theorem indexLong (mo : Int) (fb b o cap : Nat) (l : List ByteArray) (w : World) (hc : w.cell? ⟨fb, 4, none⟩ = some (.int .i64 mo)) (ht : Texts w b o l) (hl : l.length ≤ 100) :
    Calls Tryd.prog 85 #[.slice (some ⟨b, o, none⟩) l.length cap, .func (.func 68) #[] #[.pointer (some ⟨fb, 0, none⟩)]] w (NumSame (firstAt (fun s => decide (mo < s.size)) l 0) w) := by
  have Ht := Lib.hid ht; clear ht
  have Hf := Lib.hid (fun s => tooLong s mo fb w hc); clear hc
  go_enter Tryd.func85, Tryd.ntmps85
  go_wp2
  go_loopw [8] (fun c wr => RelI (fun s => decide (mo < s.size)) l w c wr) (fun c _ => l.length - (intOf c).toNat)
  case atStart => exact ⟨0, Nat.zero_le _, rfl, fun x hx => absurd hx (by omega), rfl⟩
  case round =>
    obtain ⟨k, hk, rfl, hno, rfl⟩ := hrel
    have Hno := Lib.hid hno; clear hno
    by_cases hlt : k < l.length
    · have hcell := Ht.out k hlt
      generalize hj : l.getD k ByteArray.empty = t at hcell
      have Hj := Lib.hid hj; clear hj
      go_wp2_with fail
      refine (Hf.out t).mono ?_
      rintro e w' ⟨rfl, rfl⟩
      cases hd : decide (mo < (t.size : Int))
      · have Hd := Lib.hid hd; clear hd
        go_wp2
        go_roundw
        case rel =>
          refine ⟨k + 1, by omega, by go_num, fun x hx => ?_, rfl⟩
          rcases Nat.lt_or_ge x k with h | h
          · exact Hno.out x h
          · obtain rfl : x = k := by omega
            rw [Hj.out]; exact Hd.out
        case measure => simp [intOf]; omega
      · have Hd := Lib.hid hd; clear hd
        go_wp2
        go_ret
        exact ⟨ret_int (firstAt_here _ ByteArray.empty l k hlt Hno.out (by rw [Hj.out]; exact Hd.out)).symm, rfl⟩
    · have hkl : k = l.length := by omega
      subst hkl
      go_wp2
      go_ret
      exact ⟨ret_int (firstAt_none _ ByteArray.empty l Hno.out).symm, rfl⟩
theorem indexNone (f : Value) (a : Option Addr) (cap : Nat) (w : World) :
    Calls Tryd.prog 85 #[.slice a 0 cap, f] w (NumSame (-1) w) := by
  go_enter Tryd.func85, Tryd.ntmps85
  go_wp2
  refine wp_loop_rounds 1 ?_
  rw [rounds_succ]
  go_wp2
  go_ret
  exact ⟨rfl, rfl⟩
theorem containsLong (B : Nat) (mo : Int) (fb : Nat) (lv : Value) (l : List ByteArray) (w : World) (hc : w.cell? ⟨fb, 4, none⟩ = some (.int .i64 mo)) (ht : SlT B w lv l) (hl : l.length ≤ 100) :
    Calls Tryd.prog 69 #[lv, .func (.func 68) #[] #[.pointer (some ⟨fb, 0, none⟩)]] w (BitSame (l.any fun s => decide (mo < s.size)) w) := by
  have hi : Calls Tryd.prog 85 #[lv, .func (.func 68) #[] #[.pointer (some ⟨fb, 0, none⟩)]] w (NumSame (firstAt (fun s => decide (mo < s.size)) l 0) w) := by
    rcases ht with ⟨rfl, a, cap, rfl⟩ | ⟨b, o, cap, rfl, _, h3, _⟩
    · exact indexNone _ _ _ _
    · exact indexLong mo fb b o cap l w hc h3 hl
  have ha := firstAt_any (fun s : ByteArray => decide (mo < s.size)) l 0
  generalize firstAt (fun s : ByteArray => decide (mo < s.size)) l 0 = n at *
  have Hi := Lib.hid hi
  have Ha := Lib.hid ha
  clear hi ha hc ht
  go_enter Tryd.func69, Tryd.ntmps69
  go_wp2_with fail
  refine Hi.out.mono ?_
  rintro e w' ⟨rfl, rfl⟩
  go_wp2
  go_ret
  exact bitSame Ha.out
theorem empty_iff (s : ByteArray) : s.toList.isEmpty = decide (s.size = 0) := by
  rw [ByteArray.toList_eq]
  obtain ⟨⟨l⟩⟩ := s
  cases l with
  | nil => rfl
  | cons a l =>
    have h : ¬ ((⟨⟨a :: l⟩⟩ : ByteArray).size = 0) := Nat.succ_ne_zero l.length
    rw [decide_eq_false h]; rfl
theorem hfit1 (sz lo hi mo num : Int) (s : ByteArray) (l : List ByteArray) : (fitsF ⟨1, sz, lo, hi, mo⟩ ⟨num, s, l⟩ = true) ↔ (lo ≤ num ∧ num ≤ hi ∧ s.size = 0 ∧ l.length = 0) := by simp [fitsF]
theorem hfit2 (sz lo hi mo num : Int) (s : ByteArray) (l : List ByteArray) : (fitsF ⟨2, sz, lo, hi, mo⟩ ⟨num, s, l⟩ = true) ↔ (lo ≤ (s.size : Int) ∧ (s.size : Int) ≤ hi ∧ num = 0 ∧ l.length = 0) := by simp [fitsF]
theorem hfit3 (sz lo hi mo num : Int) (s : ByteArray) (l : List ByteArray) : (fitsF ⟨3, sz, lo, hi, mo⟩ ⟨num, s, l⟩ = true) ↔ (lo ≤ (l.length : Int) ∧ (l.length : Int) ≤ hi ∧ num = 0 ∧ s.size = 0 ∧ ∀ t ∈ l, (t.size : Int) ≤ mo) := by simp [fitsF]
set_option maxHeartbeats 1000000 in
theorem fits1 (B : Nat) (k sz lo hi mo num : Int) (s : ByteArray) (lv : Value) (l : List ByteArray) (w : World) (hk : k = 1) (hlv : SlT B w lv l) (hB : B ≤ w.heap.size) (hl : l.length ≤ 100) :
    Calls Tryd.prog 39 #[.agg #[.int .i64 k, .int .i64 sz, .int .i64 lo, .int .i64 hi, .int .i64 mo], .agg #[.int .i64 num, .string s, lv]] w (Bit (fitsF ⟨k, sz, lo, hi, mo⟩ ⟨num, s, l⟩) w) := by
  subst hk
  generalize hr : fitsF _ _ = r
  have Hr := Lib.hid hr
  have Hc := Lib.hid (fun (o2 o3 : Obj) => containsLong B mo w.heap.size lv l (((w.alloc (.cells #[.int .i64 1, .int .i64 sz, .int .i64 lo, .int .i64 hi, .int .i64 mo] 46)).alloc o2).alloc o3) (by rw [World.cell?_alloc_lt _ _ ⟨w.heap.size, 4, none⟩ (by simp; omega), World.cell?_alloc_lt _ _ ⟨w.heap.size, 4, none⟩ (by simp)]; simp)
    (hlv.below ((balloc (balloc (one_below w _) _) _).mono hB)) hl)
  obtain ⟨a, cap, rfl⟩ := hlv.len
  clear hr hlv
  go_enter Tryd.func39, Tryd.ntmps39
  go_wp2_with (first | (go_at_call 67; refine (within_any _ _ _ _ _ _ _).mono ?_; rintro e w' ⟨rfl, rfl⟩) | (go_at_call 69; refine (Hc.out _ _).mono ?_; rintro e w' ⟨rfl, rfl⟩))
  all_goals
    go_ret
    refine bit ?_ (by repeat (first | exact Below.refl _ _ | refine balloc ?_ _))
    rw [← Hr.out, Bool.eq_iff_iff]
    have hh := hfit1 sz lo hi mo num s l
    simp only [withinB, empty_iff, decide_eq_true_eq, decide_eq_false_iff_not, Bool.false_eq_true, false_iff, hh] at *
    first | omega | (simp_all; done) | (simp_all; omega)
set_option maxHeartbeats 1000000 in
theorem fits2 (B : Nat) (k sz lo hi mo num : Int) (s : ByteArray) (lv : Value) (l : List ByteArray) (w : World) (hk : k = 2) (hlv : SlT B w lv l) (hB : B ≤ w.heap.size) (hl : l.length ≤ 100) :
    Calls Tryd.prog 39 #[.agg #[.int .i64 k, .int .i64 sz, .int .i64 lo, .int .i64 hi, .int .i64 mo], .agg #[.int .i64 num, .string s, lv]] w (Bit (fitsF ⟨k, sz, lo, hi, mo⟩ ⟨num, s, l⟩) w) := by
  subst hk
  generalize hr : fitsF _ _ = r
  have Hr := Lib.hid hr
  have Hc := Lib.hid (fun (o2 o3 : Obj) => containsLong B mo w.heap.size lv l (((w.alloc (.cells #[.int .i64 2, .int .i64 sz, .int .i64 lo, .int .i64 hi, .int .i64 mo] 46)).alloc o2).alloc o3) (by rw [World.cell?_alloc_lt _ _ ⟨w.heap.size, 4, none⟩ (by simp; omega), World.cell?_alloc_lt _ _ ⟨w.heap.size, 4, none⟩ (by simp)]; simp)
    (hlv.below ((balloc (balloc (one_below w _) _) _).mono hB)) hl)
  obtain ⟨a, cap, rfl⟩ := hlv.len
  clear hr hlv
  go_enter Tryd.func39, Tryd.ntmps39
  go_wp2_with (first | (go_at_call 67; refine (within_any _ _ _ _ _ _ _).mono ?_; rintro e w' ⟨rfl, rfl⟩) | (go_at_call 69; refine (Hc.out _ _).mono ?_; rintro e w' ⟨rfl, rfl⟩))
  all_goals
    go_ret
    refine bit ?_ (by repeat (first | exact Below.refl _ _ | refine balloc ?_ _))
    rw [← Hr.out, Bool.eq_iff_iff]
    have hh := hfit2 sz lo hi mo num s l
    simp only [withinB, decide_eq_true_eq, Bool.false_eq_true, false_iff, hh] at *
    first | omega | (simp_all; done) | (simp_all; omega)
set_option maxHeartbeats 1000000 in
theorem fits3 (B : Nat) (k sz lo hi mo num : Int) (s : ByteArray) (lv : Value) (l : List ByteArray) (w : World) (hk : k = 3) (hlv : SlT B w lv l) (hB : B ≤ w.heap.size) (hl : l.length ≤ 100) :
    Calls Tryd.prog 39 #[.agg #[.int .i64 k, .int .i64 sz, .int .i64 lo, .int .i64 hi, .int .i64 mo], .agg #[.int .i64 num, .string s, lv]] w (Bit (fitsF ⟨k, sz, lo, hi, mo⟩ ⟨num, s, l⟩) w) := by
  subst hk
  generalize hr : fitsF _ _ = r
  have Hr := Lib.hid hr
  have Hc := Lib.hid (fun (o2 o3 : Obj) => containsLong B mo w.heap.size lv l (((w.alloc (.cells #[.int .i64 3, .int .i64 sz, .int .i64 lo, .int .i64 hi, .int .i64 mo] 46)).alloc o2).alloc o3) (by rw [World.cell?_alloc_lt _ _ ⟨w.heap.size, 4, none⟩ (by simp; omega), World.cell?_alloc_lt _ _ ⟨w.heap.size, 4, none⟩ (by simp)]; simp)
    (hlv.below ((balloc (balloc (one_below w _) _) _).mono hB)) hl)
  obtain ⟨a, cap, rfl⟩ := hlv.len
  clear hr hlv
  go_enter Tryd.func39, Tryd.ntmps39
  go_wp2_with (first | (go_at_call 67; refine (within_any _ _ _ _ _ _ _).mono ?_; rintro e w' ⟨rfl, rfl⟩) | (go_at_call 69; refine (Hc.out _ _).mono ?_; rintro e w' ⟨rfl, rfl⟩))
  all_goals
    go_ret
    refine bit ?_ (by repeat (first | exact Below.refl _ _ | refine balloc ?_ _))
    rw [← Hr.out, Bool.eq_iff_iff]
    have hh := hfit3 sz lo hi mo num s l
    simp only [withinB, empty_iff, decide_eq_true_eq, decide_eq_false_iff_not, Bool.false_eq_true, false_iff, hh] at *
    first | omega | (simp_all; done) | (simp_all; omega)
end Go.Proofs.YtoflfbcjlddjaaaDoor
