/-
  gram.firstWrong: the first field that is not right.
-/
import Derived.Test.YtoflfbcjlddjaaaDoorGFits
namespace Go.Proofs.YtoflfbcjlddjaaaDoor
open Go.RowKit

instance : Inhabited Fl := ⟨⟨0, 0, 0, 0, 0⟩⟩
instance : Inhabited Vl := ⟨⟨0, ByteArray.empty, []⟩⟩
def f0 : Fl := ⟨0, 0, 0, 0, 0⟩
def v0 : Vl := ⟨0, ByteArray.empty, []⟩
structure FieldAt (w : World) (b o : Nat) (f : Fl) : Prop where
  c0 : w.cell? ⟨b, o, none⟩ = some (.int .i64 f.k)
  c1 : w.cell? ⟨b, o + 1, none⟩ = some (.int .i64 f.sz)
  c2 : w.cell? ⟨b, o + 2, none⟩ = some (.int .i64 f.lo)
  c3 : w.cell? ⟨b, o + 3, none⟩ = some (.int .i64 f.hi)
  c4 : w.cell? ⟨b, o + 4, none⟩ = some (.int .i64 f.mo)
def FieldsAt (w : World) (b o : Nat) (fs : List Fl) : Prop := ∀ x, x < fs.length → FieldAt w b (o + x * 5) (fs.getD x f0)
/-- v is a slice of the fields fs, in blocks ahead of B. -/
def SlF (B : Nat) (w : World) (v : Value) (fs : List Fl) : Prop :=
  (fs = [] ∧ ∃ a cap, v = .slice a 0 cap) ∨ ∃ b o cap, v = .slice (some ⟨b, o, none⟩) fs.length cap ∧ b < B ∧ FieldsAt w b o fs ∧ 0 < fs.length ∧ fs.length ≤ cap
theorem FieldAt.mono {w w' : World} {b o : Nat} {f : Fl} (h : FieldAt w b o f) (hc : ∀ o, w'.cell? ⟨b, o, none⟩ = w.cell? ⟨b, o, none⟩) : FieldAt w' b o f :=
  ⟨by rw [hc]; exact h.c0, by rw [hc]; exact h.c1, by rw [hc]; exact h.c2, by rw [hc]; exact h.c3, by rw [hc]; exact h.c4⟩
theorem SlF.mono {B : Nat} {w w' : World} {v : Value} {l : List Fl} (h : SlF B w v l) (hc : ∀ b o, b < B → w'.cell? ⟨b, o, none⟩ = w.cell? ⟨b, o, none⟩) : SlF B w' v l := by
  rcases h with h | ⟨b, o, cap, h1, h2, h3, h4⟩
  · exact Or.inl h
  · exact Or.inr ⟨b, o, cap, h1, h2, fun x hx => (h3 x hx).mono fun o => hc _ _ h2, h4⟩
theorem SlF.below {B : Nat} {w w' : World} {v : Value} {l : List Fl} (h : SlF B w v l) (hb : Below B w w') : SlF B w' v l := h.mono fun b o hl => hb.cell (p := ⟨b, o, none⟩) hl
theorem SlF.wider {B B' : Nat} {w : World} {v : Value} {l : List Fl} (h : SlF B w v l) (hB : B ≤ B') : SlF B' w v l := by
  rcases h with h | ⟨b, o, cap, h1, h2, h3, h4⟩
  · exact Or.inl h
  · exact Or.inr ⟨b, o, cap, h1, by omega, h3, h4⟩
theorem SlF.len {B : Nat} {w : World} {v : Value} {l : List Fl} (h : SlF B w v l) : ∃ a cap, v = .slice a l.length cap := by
  rcases h with ⟨rfl, a, cap, h⟩ | ⟨b, o, cap, h1, _⟩
  · exact ⟨a, cap, h⟩
  · exact ⟨_, cap, h1⟩

def wrongF (f : Fl) : Bool := !rightF f
theorem wrong_one (f : Fl) (w : World) (h1 : f.hi ≤ 9223372036854775807) :
    Calls Tryd.prog 55 #[.agg #[.int .i64 f.k, .int .i64 f.sz, .int .i64 f.lo, .int .i64 f.hi, .int .i64 f.mo]] w (Bit (wrongF f) w) := by
  have hr := fun w => right_any f.k f.sz f.lo f.hi f.mo w h1
  have Hr := Lib.hid hr; clear hr
  unfold wrongF
  go_enter Tryd.func55, Tryd.ntmps55
  go_wp2_with fail
  refine (Hr.out _).mono ?_
  rintro e w' ⟨rfl, hb⟩
  have Hb := Lib.hid hb; clear hb
  go_wp2
  go_ret
  exact bit rfl (bthen (one_below _ _) Hb.out)

def RelG (p : Fl → Bool) (l : List Fl) (w : World) (c : Value) (wr : World) : Prop :=
  ∃ k : Nat, k ≤ l.length ∧ c = .int .i64 k ∧ (∀ x, x < k → p (l.getD x f0) = false) ∧ Below w.heap.size w wr
set_option maxHeartbeats 1000000 in
theorem indexWrong (b o cap : Nat) (l : List Fl) (w : World) (hb : b < w.heap.size) (ht : FieldsAt w b o l) (hl : l.length ≤ 100) (hh : ∀ f ∈ l, f.hi ≤ 9223372036854775807) :
    Calls Tryd.prog 54 #[.slice (some ⟨b, o, none⟩) l.length cap, .func (.func 55) #[] #[]] w (Num (firstAt wrongF l 0) w) := by
  have Ht := Lib.hid ht; clear ht
  have Hh := Lib.hid hh; clear hh
  go_enter Tryd.func54, Tryd.ntmps54
  go_wp2
  go_loopw [8] (fun c wr => RelG wrongF l w c wr) (fun c _ => l.length - (intOf c).toNat)
  case atStart => exact ⟨0, Nat.zero_le _, rfl, fun x hx => absurd hx (by omega), Below.refl _ _⟩
  case round =>
    obtain ⟨k, hk, rfl, hno, hB⟩ := hrel
    have Hno := Lib.hid hno; clear hno
    by_cases hlt : k < l.length
    · have hf := (Ht.out k hlt).mono (w' := wr) fun o => hB.cell (p := ⟨b, o, none⟩) hb
      have HB := Lib.hid hB; clear hB
      have hhi := Hh.out _ (getD_mem l k f0 hlt)
      generalize hj : l.getD k f0 = f at hf hhi
      obtain ⟨d0, d1, d2, d3, d4⟩ := hf
      have Hj := Lib.hid hj; clear hj
      have Hf := Lib.hid (fun w => wrong_one f w hhi); clear hhi
      go_wp2_with fail
      refine (Hf.out _).mono ?_
      rintro e w' ⟨rfl, hb'⟩
      have Hb' := Lib.hid hb'; clear hb' d0 d1 d2 d3 d4
      cases hd : wrongF f
      · have Hd := Lib.hid hd; clear hd
        go_wp2
        go_roundw
        case rel =>
          refine ⟨k + 1, by omega, by go_num, fun x hx => ?_, bthen HB.out Hb'.out⟩
          rcases Nat.lt_or_ge x k with h | h
          · exact Hno.out x h
          · obtain rfl : x = k := by omega
            rw [Hj.out]; exact Hd.out
        case measure => simp [intOf]; omega
      · have Hd := Lib.hid hd; clear hd
        go_wp2
        go_ret
        exact num (firstAt_here _ f0 l k hlt Hno.out (by rw [Hj.out]; exact Hd.out)).symm (bthen HB.out Hb'.out)
    · have hkl : k = l.length := by omega
      subst hkl
      have HB := Lib.hid hB; clear hB
      go_wp2
      go_ret
      exact num (firstAt_none _ f0 l Hno.out).symm HB.out
theorem indexWrongNone (f : Value) (a : Option Addr) (cap : Nat) (w : World) :
    Calls Tryd.prog 54 #[.slice a 0 cap, f] w (Num (-1) w) := by
  go_enter Tryd.func54, Tryd.ntmps54
  go_wp2
  refine wp_loop_rounds 1 ?_
  rw [rounds_succ]
  go_wp2
  go_ret
  exact ⟨rfl, Below.refl _ _⟩
theorem firstWrong_any (B : Nat) (v : Value) (l : List Fl) (w : World) (hv : SlF B w v l) (hB : B ≤ w.heap.size) (hl : l.length ≤ 100) (hh : ∀ f ∈ l, f.hi ≤ 9223372036854775807) :
    Calls Tryd.prog 30 #[v] w (Num (firstAt wrongF l 0) w) := by
  have hi : Calls Tryd.prog 54 #[v, .func (.func 55) #[] #[]] w (Num (firstAt wrongF l 0) w) := by
    rcases hv with ⟨rfl, a, cap, rfl⟩ | ⟨b, o, cap, rfl, h2, h3, _⟩
    · exact indexWrongNone _ _ _ _
    · exact indexWrong b o cap l w (by omega) h3 hl hh
  generalize firstAt wrongF l 0 = n at *
  have Hi := Lib.hid hi
  clear hi hv hh
  go_enter Tryd.func30, Tryd.ntmps30
  go_wp2_with fail
  refine Hi.out.mono ?_
  rintro e w' ⟨rfl, hb⟩
  have Hb := Lib.hid hb; clear hb
  go_wp2
  go_ret
  exact num rfl Hb.out
end Go.Proofs.YtoflfbcjlddjaaaDoor
