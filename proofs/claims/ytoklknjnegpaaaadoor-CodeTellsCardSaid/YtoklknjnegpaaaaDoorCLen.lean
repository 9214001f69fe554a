/-
  code.sameLength: are all as long as the first?
-/
import Derived.Test.YtoklknjnegpaaaaDoorCErrs
import Derived.Test.YtoklknjnegpaaaaDoorFind
namespace Go.Proofs.YtoklknjnegpaaaaDoor
open Go.RowKit
def unlike (n : Nat) (l : List UInt8) : Bool := decide (l.length ≠ n)
theorem unlike_one (a a0 : Option Addr) (lx c n0 c0 p b o m cap : Nat) (w : World) (hp : w.cell? ⟨p, 0, none⟩ = some (.slice (some ⟨b, o, none⟩) m cap)) (hm : 0 < m) (h0 : w.cell? ⟨b, o + 0, none⟩ = some (.slice a0 n0 c0)) :
    Calls Tryd.prog 83 #[.slice a lx c, .pointer (some ⟨p, 0, none⟩)] w (BitSame (decide (lx ≠ n0)) w) := by
  have h0' : w.cell? ⟨b, o, none⟩ = some (.slice a0 n0 c0) := h0
  clear h0
  have hm' : (0 : Int) < m := by omega
  by_cases e : lx = n0
  · subst e
    rw [decide_eq_false (by omega)]
    go_enter Tryd.func83, Tryd.ntmps83
    go_wp2
    go_ret
    exact bitSame (by simp)
  · have e1 : ((lx : Int) != n0) = true := by simpa using (by omega : ¬ (lx : Int) = n0)
    rw [decide_eq_true e]
    go_enter Tryd.func83, Tryd.ntmps83
    go_wp2
    go_ret
    exact bitSame (by simp)
def RelUn (n : Nat) (ls : List (List UInt8)) (c : Value) : Prop := ∃ k : Nat, k ≤ ls.length ∧ c = .int .i64 k ∧ ∀ x, x < k → unlike n (ls.getD x []) = false
def NumS (n : Int) (w : World) (e : Ending) (w' : World) : Prop := e = .returned (.int .i64 n) ∧ w = w'
theorem numS {a b : Int} {w : World} (h : a = b) : NumS b w (.returned (.int .i64 a)) w := ⟨by rw [h], rfl⟩
set_option maxHeartbeats 1000000 in
set_option maxRecDepth 100000 in
theorem index_unlike (B p b o cap : Nat) (ls : List (List UInt8)) (w : World) (h : SlBs B w (.slice (some ⟨b, o, none⟩) ls.length cap) ls) (hp : w.cell? ⟨p, 0, none⟩ = some (.slice (some ⟨b, o, none⟩) ls.length cap)) (hl : ls.length ≤ 100000) :
    Calls Tryd.prog 97 #[.slice (some ⟨b, o, none⟩) ls.length cap, .func (.func 83) #[] #[.pointer (some ⟨p, 0, none⟩)]] w (NumS (firstAt (unlike (ls.getD 0 []).length) ls 0) w) := by
  have H := Lib.hid h
  obtain ⟨_, _, _, hcl⟩ := h.len
  clear h
  have HP := Lib.hid hp
  clear hp
  go_enter Tryd.func97, Tryd.ntmps97
  go_wp2
  go_loop [8] (fun c => RelUn (ls.getD 0 []).length ls c) (fun c => ls.length - (intOf c).toNat)
  case atStart => exact ⟨0, Nat.zero_le _, rfl, fun x hx => by omega⟩
  case round =>
    obtain ⟨k, hk, rfl, hno⟩ := hrel
    have HN := Lib.hid hno
    clear hno
    by_cases hlt : k < ls.length
    · obtain ⟨u, hc, hu⟩ := H.out.row' hlt
      obtain ⟨u0, hc0, hu0⟩ := H.out.row' (i := 0) (by omega)
      obtain ⟨a1, c1, rfl, _⟩ := hu.len
      obtain ⟨a2, c2, rfl, _⟩ := hu0.len
      have HC := Lib.hid (unlike_one a1 a2 (ls.getD k []).length c1 (ls.getD 0 []).length c2 p b o ls.length cap w HP.out (by omega) hc0)
      clear hu hu0 hc0
      have HE := Lib.hid (show unlike (ls.getD 0 []).length (ls.getD k []) = decide ((ls.getD k []).length ≠ (ls.getD 0 []).length) from rfl)
      generalize (ls.getD k []).length = m1 at *
      generalize (ls.getD 0 []).length = m0 at *
      cases hd : decide (m1 ≠ m0)
      · rw [hd] at HC HE
        clear hd
        go_wp2_with fail
        refine HC.out.mono ?_
        rintro e w' ⟨rfl, rfl⟩
        go_wp2_with fail
        go_round
        case rel =>
          refine ⟨k + 1, by omega, by go_num, fun x hx => ?_⟩
          rcases Nat.lt_or_ge x k with h | h
          · exact HN.out x h
          · obtain rfl : x = k := by omega
            exact HE.out
        case measure => simp [intOf]; omega
      · rw [hd] at HC HE
        clear hd
        go_wp2_with fail
        refine HC.out.mono ?_
        rintro e w' ⟨rfl, rfl⟩
        go_wp2_with fail
        go_ret
        exact numS (firstAt_here _ [] ls k hlt HN.out HE.out).symm
    · obtain rfl : k = ls.length := by omega
      go_wp2_with fail
      go_ret
      exact numS (firstAt_none _ [] ls HN.out).symm
theorem index_unlike_none (f : Value) (a : Option Addr) (cap : Nat) (w : World) :
    Calls Tryd.prog 97 #[.slice a 0 cap, f] w (NumS (-1) w) := by
  go_enter Tryd.func97, Tryd.ntmps97
  go_wp2
  refine wp_loop_rounds 1 ?_
  rw [rounds_succ]
  go_wp2
  go_ret
  exact ⟨rfl, rfl⟩
def sameLen (ls : List (List UInt8)) : Bool := !(ls.any (unlike (ls.getD 0 []).length))
theorem contains_unlike (B p : Nat) (v : Value) (ls : List (List UInt8)) (w : World) (h : SlBs B w v ls) (hp : w.cell? ⟨p, 0, none⟩ = some v) (hl : ls.length ≤ 100000) :
    Calls Tryd.prog 84 #[v, .func (.func 83) #[] #[.pointer (some ⟨p, 0, none⟩)]] w (BitSame (ls.any (unlike (ls.getD 0 []).length)) w) := by
  have hi : Calls Tryd.prog 97 #[v, .func (.func 83) #[] #[.pointer (some ⟨p, 0, none⟩)]] w (NumS (firstAt (unlike (ls.getD 0 []).length) ls 0) w) := by
    rcases h with ⟨rfl, a, cap, rfl⟩ | ⟨b, o, cap, rfl, h2⟩
    · exact index_unlike_none _ _ _ _
    · exact index_unlike B p b o cap ls w (Or.inr ⟨b, o, cap, rfl, h2⟩) hp hl
  have ha := firstAt_any (unlike (ls.getD 0 []).length) ls 0
  rw [← ha]
  generalize firstAt (unlike (ls.getD 0 []).length) ls 0 = n at *
  have HI := Lib.hid hi
  clear hi h hp ha
  go_enter Tryd.func84, Tryd.ntmps84
  go_wp2_with fail
  refine HI.out.mono ?_
  rintro e w' ⟨rfl, rfl⟩
  go_wp2
  go_ret
  exact bitSame rfl
set_option maxHeartbeats 1000000 in
set_option maxRecDepth 100000 in
theorem sameLength_any (B : Nat) (v : Value) (ls : List (List UInt8)) (w : World) (h : SlBs B w v ls) (hB : B ≤ w.heap.size) (hl : ls.length ≤ 100000) :
    Calls Tryd.prog 52 #[v] w (Bit (sameLen ls) w) := by
  have H := Lib.hid h
  obtain ⟨a, c, rfl, _⟩ := h.len
  clear h
  have hmf : ∀ (fn : Fn) (first cap : Array Value) (w : World), (Instr.makeFunc fn first cap).run Tryd.prog w = .ok (.func fn first cap) w := fun _ _ _ _ => rfl
  have hs : sameLen ls = !(ls.any (unlike (ls.getD 0 []).length)) := rfl
  have HC := Lib.hid (fun o (hc : (w.alloc o).cell? ⟨w.heap.size, 0, none⟩ = some (.slice a ls.length c)) => contains_unlike w.heap.size w.heap.size (.slice a ls.length c) ls (w.alloc o) ((H.out.below (Below.mono (one_below w o) hB)).wider hB) hc hl)
  rw [hs]
  clear hs
  generalize ls.any (unlike (ls.getD 0 []).length) = r at *
  go_enter Tryd.func52, Tryd.ntmps52
  go_wp2_with fail
  refine (HC.out _ (by simp)).mono ?_
  rintro e w' ⟨rfl, rfl⟩
  go_wp2
  go_ret
  exact bit rfl (one_below _ _)
end Go.Proofs.YtoklknjnegpaaaaDoor
