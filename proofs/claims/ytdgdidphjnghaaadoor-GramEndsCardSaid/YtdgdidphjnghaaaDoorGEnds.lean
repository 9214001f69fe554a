/-
  stavelaw2.GramEnds: the walk.
-/
import Derived.Test.YtdgdidphjnghaaaDoorGRuns
import Derived.Test.YtdgdidphjnghaaaDoorWithin
namespace Go.Proofs.YtdgdidphjnghaaaDoor
open Go.RowKit

/-- What the loop's rounds find: the field, the four numbers. -/
structure EndsAt (fb nb : Nat) (s a b : Int) (w : World) : Prop where
  f : Holds w fb (cellsF ⟨1, s, a, b, 0⟩)
  n : Holds w nb [.int .i64 (a - 1), .int .i64 a, .int .i64 b, .int .i64 (b + 1)]
theorem EndsAt.below {fb nb : Nat} {s a b : Int} {w w' : World} (h : EndsAt fb nb s a b w) (h1 : fb < w.heap.size) (h2 : nb < w.heap.size) (hb : Below w.heap.size w w') : EndsAt fb nb s a b w' :=
  ⟨h.f.below h1 hb, h.n.below h2 hb⟩
def RelE (w0 : World) (c : Value) (wr : World) : Prop := ∃ k : Nat, k ≤ 4 ∧ c = .int .i64 k ∧ Below w0.heap.size w0 wr

theorem slf_new (W : World) (f : Fl) (o : Obj) : SlF ((W.alloc (.cells #[.int .i64 f.k, .int .i64 f.sz, .int .i64 f.lo, .int .i64 f.hi, .int .i64 f.mo] 23)).alloc o).heap.size
    ((W.alloc (.cells #[.int .i64 f.k, .int .i64 f.sz, .int .i64 f.lo, .int .i64 f.hi, .int .i64 f.mo] 23)).alloc o) (.slice (some ⟨W.heap.size, 0, none⟩) 1 1) [f] :=
  slf_lit (fs := [f]) ((holds_new W _ _ _ rfl).below (by simp) (one_below _ _)) (by simp; omega) (Nat.succ_pos _)
theorem slv_new (W : World) (n : Int) (s : ByteArray) : SlV (W.alloc (.cells #[.int .i64 n, .string s, .slice none 0 0] 32)).heap.size (W.alloc (.cells #[.int .i64 n, .string s, .slice none 0 0] 32)) (.slice (some ⟨W.heap.size, 0, none⟩) 1 1) [⟨n, s, []⟩] :=
  slv_lit (ps := [(⟨n, s, []⟩, .slice none 0 0)]) (holds_new W _ _ _ rfl) (by simp) (Nat.succ_pos _) (fun p hp => by obtain rfl := List.mem_singleton.1 hp; exact Or.inl ⟨rfl, _, _, rfl⟩)
theorem ends_right {s a b : Nat} (hs : s = 1 ∨ s = 2 ∨ s = 4 ∨ s = 8) (hab : a ≤ b) (hb : b ≤ 200) : rightF ⟨1, s, a, b, 0⟩ = true := by
  unfold rightF holdsN
  rw [decide_eq_true_eq, decide_eq_true_eq]
  refine ⟨by show (0 : Int) ≤ a; omega, by show (a : Int) ≤ b; omega, Or.inl ⟨rfl, rfl, ?_⟩⟩
  show (s : Int) = 8 ∨ ((s : Int) = 1 ∧ (b : Int) < 256) ∨ ((s : Int) = 2 ∧ (b : Int) < 65536) ∨ ((s : Int) = 4 ∧ (b : Int) < 4294967296)
  omega
theorem wrong_none {f : Fl} (hf : rightF f = true) : firstAt wrongF [f] 0 < 0 := by simp [firstAt, wrongF, hf]
theorem num_fits {f : Fl} (hk : f.k = 1) (n : Int) : fitsF f ⟨n, ⟨#[]⟩, []⟩ = decide (f.lo ≤ n ∧ n ≤ f.hi) := by
  unfold fitsF
  rw [if_pos hk]
  have : (ByteArray.mk #[]).size = 0 := rfl
  simp [this]
/-- gram.Put of one number. -/
theorem put_num (W : World) (fv xv : Value) (s : Nat) (a b n : Int) (hF : SlF W.heap.size W fv [⟨1, s, a, b, 0⟩]) (hV : SlV W.heap.size W xv [⟨n, ⟨#[]⟩, []⟩]) (hf : rightF ⟨1, s, a, b, 0⟩ = true) (hb : b ≤ 9223372036854775807) (h : a ≤ n ∧ n ≤ b) (hs : s ≤ 8) :
    Calls Tryd.prog 11 #[fv, xv] W (PutOk (numB s n) W) := by
  have he : putB [⟨1, s, a, b, 0⟩] [⟨n, ⟨#[]⟩, []⟩] = numB s n := by simp [putB, encP, encF]
  have hp := put_ok _ _ [⟨1, s, a, b, 0⟩] [⟨n, ⟨#[]⟩, []⟩] W hF hV (by simp) (by simpa using hb) (wrong_none hf) rfl (ok_all (by rfl)) (by simp [firstAt, misfit, num_fits, h]) (by rw [he, numB_length]; omega)
  rwa [he] at hp
theorem put_off (W : World) (fv xv : Value) (s : Nat) (a b n : Int) (hF : SlF W.heap.size W fv [⟨1, s, a, b, 0⟩]) (hV : SlV W.heap.size W xv [⟨n, ⟨#[]⟩, []⟩]) (hf : rightF ⟨1, s, a, b, 0⟩ = true) (hb : b ≤ 9223372036854775807) (h : ¬ (a ≤ n ∧ n ≤ b)) :
    Calls Tryd.prog 11 #[fv, xv] W (Wrong gramPut 2 0 W) :=
  put_misfit _ _ [⟨1, s, a, b, 0⟩] [⟨n, ⟨#[]⟩, []⟩] W hF hV (by simp) (by simpa using hb) (wrong_none hf) rfl (ok_all (by rfl)) 0 (by simp only [List.zip_cons_cons, List.zip_nil_right, firstAt, misfit, num_fits]; rw [decide_eq_false h]; rfl)

theorem put_num_at (W : World) (s : Nat) (a b n : Int) (hf : rightF ⟨1, s, a, b, 0⟩ = true) (hb : b ≤ 9223372036854775807) (h : a ≤ n ∧ n ≤ b) (hs : s ≤ 8) :
    Calls Tryd.prog 11 #[.slice (some ⟨W.heap.size, 0, none⟩) 1 1, .slice (some ⟨W.heap.size + 1, 0, none⟩) 1 1]
      ((W.alloc (.cells #[.int .i64 1, .int .i64 s, .int .i64 a, .int .i64 b, .int .i64 0] 23)).alloc (.cells #[.int .i64 n, .string ⟨#[]⟩, .slice none 0 0] 32))
      (PutOk (numB s n) ((W.alloc (.cells #[.int .i64 1, .int .i64 s, .int .i64 a, .int .i64 b, .int .i64 0] 23)).alloc (.cells #[.int .i64 n, .string ⟨#[]⟩, .slice none 0 0] 32))) :=
  put_num _ _ _ s a b n (slf_new W ⟨1, s, a, b, 0⟩ _) (by simpa using slv_new (W.alloc (.cells #[.int .i64 1, .int .i64 s, .int .i64 a, .int .i64 b, .int .i64 0] 23)) n ⟨#[]⟩) hf hb h hs
theorem put_off_at (W : World) (s : Nat) (a b n : Int) (hf : rightF ⟨1, s, a, b, 0⟩ = true) (hb : b ≤ 9223372036854775807) (h : ¬ (a ≤ n ∧ n ≤ b)) :
    Calls Tryd.prog 11 #[.slice (some ⟨W.heap.size, 0, none⟩) 1 1, .slice (some ⟨W.heap.size + 1, 0, none⟩) 1 1]
      ((W.alloc (.cells #[.int .i64 1, .int .i64 s, .int .i64 a, .int .i64 b, .int .i64 0] 23)).alloc (.cells #[.int .i64 n, .string ⟨#[]⟩, .slice none 0 0] 32))
      (Wrong gramPut 2 0 ((W.alloc (.cells #[.int .i64 1, .int .i64 s, .int .i64 a, .int .i64 b, .int .i64 0] 23)).alloc (.cells #[.int .i64 n, .string ⟨#[]⟩, .slice none 0 0] 32))) :=
  put_off _ _ _ s a b n (slf_new W ⟨1, s, a, b, 0⟩ _) (by simpa using slv_new (W.alloc (.cells #[.int .i64 1, .int .i64 s, .int .i64 a, .int .i64 b, .int .i64 0] 23)) n ⟨#[]⟩) hf hb h
theorem byte0 (n : Int) (h0 : 0 ≤ n) (h1 : n < 256) (s : Nat) (hs : 1 ≤ s) : (bytesV (numB s n))[0]? = some (.int .u8 n) := by
  obtain ⟨m, rfl⟩ : ∃ m, s = m + 1 := ⟨s - 1, by omega⟩
  have : (numB (m + 1) n)[0]? = some (byteAt n 0) := by simp [numB, List.range_succ_eq_map]
  simp [bytesV, this, byteAt_toNat]
  omega

theorem slf_two (W : World) (f g : Fl) (o : Obj) : SlF ((W.alloc (.cells #[.int .i64 f.k, .int .i64 f.sz, .int .i64 f.lo, .int .i64 f.hi, .int .i64 f.mo, .int .i64 g.k, .int .i64 g.sz, .int .i64 g.lo, .int .i64 g.hi, .int .i64 g.mo] 23)).alloc o).heap.size
    ((W.alloc (.cells #[.int .i64 f.k, .int .i64 f.sz, .int .i64 f.lo, .int .i64 f.hi, .int .i64 f.mo, .int .i64 g.k, .int .i64 g.sz, .int .i64 g.lo, .int .i64 g.hi, .int .i64 g.mo] 23)).alloc o) (.slice (some ⟨W.heap.size, 0, none⟩) 2 2) [f, g] :=
  slf_lit (fs := [f, g]) ((holds_new W _ _ _ rfl).below (by simp) (one_below _ _)) (by simp; omega) (Nat.succ_pos _)
theorem put_second (W : World) (n : Nat) (hn : n = W.heap.size) (xv : Value) (f g : Fl) (o : Obj) (hf : rightF f = true) (hg : rightF g = false) (h1 : f.hi ≤ 9223372036854775807) (h2 : g.hi ≤ 9223372036854775807) :
    Calls Tryd.prog 11 #[.slice (some ⟨n, 0, none⟩) 2 2, xv] ((W.alloc (.cells #[.int .i64 f.k, .int .i64 f.sz, .int .i64 f.lo, .int .i64 f.hi, .int .i64 f.mo, .int .i64 g.k, .int .i64 g.sz, .int .i64 g.lo, .int .i64 g.hi, .int .i64 g.mo] 23)).alloc o)
      (Wrong gramPut 1 1 ((W.alloc (.cells #[.int .i64 f.k, .int .i64 f.sz, .int .i64 f.lo, .int .i64 f.hi, .int .i64 f.mo, .int .i64 g.k, .int .i64 g.sz, .int .i64 g.lo, .int .i64 g.hi, .int .i64 g.mo] 23)).alloc o)) := by
  subst hn
  have h1' : firstAt wrongF [f, g] 0 = 1 := by simp [firstAt, wrongF, hf, hg]
  have := put_wrong1 _ _ xv [f, g] _ (slf_two W f g o) (Nat.le_refl _) (by simp) (by simp [h1, h2]) (by omega)
  rwa [h1'] at this

set_option maxHeartbeats 20000000 in
set_option maxRecDepth 100000 in
theorem ends (size lo hi how : Int) (w : World) (hg : Typ w) : Calls Tryd.prog 8 #[.int .i64 size, .int .i64 lo, .int .i64 hi, .int .i64 how] w (Bit true w) := by
  have hp := hg.pos
  have Hg := Lib.hid hg; clear hg
  go_enter Tryd.func8, Tryd.ntmps8
  go_wp2_with fail
  refine (within_num _ _ _ _ (by omega) (by omega) (by omega)).mono ?_
  rintro e w' ⟨i, ⟨_, hi3⟩, rfl, rfl⟩
  obtain ⟨s, hs, hcell⟩ : ∃ s : Nat, (s = 1 ∨ s = 2 ∨ s = 4 ∨ s = 8) ∧ (w.alloc (.cells #[.int .i64 1, .int .i64 2, .int .i64 4, .int .i64 8] 3)).cell? ⟨w.heap.size, i, none⟩ = some (.int .i64 s) := by
    have hi4 : i ≤ 3 := by omega
    match i, hi4 with
    | 0, _ => exact ⟨1, by simp, by simp⟩
    | 1, _ => exact ⟨2, by simp, by simp⟩
    | 2, _ => exact ⟨4, by simp, by simp⟩
    | 3, _ => exact ⟨8, by simp, by simp⟩
  have hi4 : (i : Int) < 4 := by omega
  have hi5 : i < 4 := by omega
  go_wp2_with fail
  clear hcell
  refine (within_num _ _ _ _ (by omega) (by omega) (by omega)).mono ?_
  rintro e w' ⟨a, ⟨_, ha⟩, rfl, rfl⟩
  go_wp2_with fail
  refine (within_num _ _ _ _ (by omega) (by omega) (by omega)).mono ?_
  rintro e w' ⟨d, ⟨_, hd⟩, rfl, rfl⟩
  go_wp2_with fail
  obtain ⟨b, hb⟩ : ∃ b : Nat, (a : Int) + d = b := ⟨a + d, by simp⟩
  rw [hb]
  have hab : a ≤ b ∧ b ≤ 200 := by omega
  obtain ⟨hab1, hab2⟩ := hab
  have hb2 : (b : Int) ≤ 200 := by omega
  have hrf : rightF ⟨1, s, a, b, 0⟩ = true := ends_right hs hab1 hab2
  have Hrf := Lib.hid hrf
  have hho : Holds ((w.alloc (.cells #[.int .i64 1, .int .i64 2, .int .i64 4, .int .i64 8] 3)).alloc (.cells #[.int .i64 1, .int .i64 s, .int .i64 a, .int .i64 b, .int .i64 0] 23)) (w.heap.size + 1) (cellsF ⟨1, s, a, b, 0⟩) := by
    have := holds_new (w.alloc (.cells #[.int .i64 1, .int .i64 2, .int .i64 4, .int .i64 8] 3)) #[.int .i64 1, .int .i64 s, .int .i64 a, .int .i64 b, .int .i64 0] 23 (cellsF ⟨1, s, a, b, 0⟩) rfl
    simpa using this
  have hb0 : Below w.heap.size w ((w.alloc (.cells #[.int .i64 1, .int .i64 2, .int .i64 4, .int .i64 8] 3)).alloc (.cells #[.int .i64 1, .int .i64 s, .int .i64 a, .int .i64 b, .int .i64 0] 23)) := balloc (one_below _ _) _
  have hz0 : w.heap.size + 1 < ((w.alloc (.cells #[.int .i64 1, .int .i64 2, .int .i64 4, .int .i64 8] 3)).alloc (.cells #[.int .i64 1, .int .i64 s, .int .i64 a, .int .i64 b, .int .i64 0] 23)).heap.size := by simp
  have H0 := Lib.hid (And.intro hho (And.intro hb0 hz0))
  clear hho hb0 hz0 hrf hb ha hd
  generalize (w.alloc (.cells #[.int .i64 1, .int .i64 2, .int .i64 4, .int .i64 8] 3)).alloc (.cells #[.int .i64 1, .int .i64 s, .int .i64 a, .int .i64 b, .int .i64 0] 23) = W at *
  have HR := Lib.hid (right_any 1 s a b 0 W (show (b : Int) ≤ 9223372036854775807 by omega))
  rw [Hrf.out] at HR
  refine HR.out.mono ?_
  rintro e w1 ⟨rfl, hb⟩
  have Hb1 := Lib.hid hb; clear hb HR
  go_wp2_with fail
  have he : EndsAt (w.heap.size + 1) w1.heap.size s a b (w1.alloc (.cells #[.int .i64 ((a : Int) - 1), .int .i64 a, .int .i64 b, .int .i64 ((b : Int) + 1)] 3)) :=
    ⟨(H0.out.1.below H0.out.2.2 Hb1.out).below (Nat.lt_of_lt_of_le H0.out.2.2 Hb1.out.size) (one_below _ _), holds_new _ _ _ _ rfl⟩
  have hb2 : Below w.heap.size w (w1.alloc (.cells #[.int .i64 ((a : Int) - 1), .int .i64 a, .int .i64 b, .int .i64 ((b : Int) + 1)] 3)) := balloc (bthen H0.out.2.1 Hb1.out) _
  have hz1 : w1.heap.size < (w1.alloc (.cells #[.int .i64 ((a : Int) - 1), .int .i64 a, .int .i64 b, .int .i64 ((b : Int) + 1)] 3)).heap.size := by simp
  have hz2 : w.heap.size + 1 < w1.heap.size := Nat.lt_of_lt_of_le H0.out.2.2 Hb1.out.size
  have H2 := Lib.hid (And.intro he (And.intro hb2 (And.intro hz1 hz2)))
  clear he hb2 hz1 hz2
  generalize w1.alloc (.cells #[.int .i64 ((a : Int) - 1), .int .i64 a, .int .i64 b, .int .i64 ((b : Int) + 1)] 3) = W2 at *
  generalize w1.heap.size = nb at *
  go_loopw [50] (fun c wr => RelE W2 c wr) (fun c _ => 4 - (intOf c).toNat)
  case atStart => exact ⟨0, by omega, rfl, Below.refl _ _⟩
  case round =>
    obtain ⟨k, hk, rfl, hB⟩ := hrel
    have HB := Lib.hid hB
    have hE := H2.out.1.below (by have := H2.out.2.2; omega) H2.out.2.2.1 hB
    have d0 := hE.f 0 _ rfl
    have d1 := hE.f 1 _ rfl
    have d2 := hE.f 2 _ rfl
    have d3 := hE.f 3 _ rfl
    have d4 := hE.f 4 _ rfl
    simp only at d0 d1 d2 d3 d4
    by_cases hlt : k < 4
    · obtain ⟨n, hn, hn1, hn2⟩ : ∃ n : Int, wr.cell? ⟨nb, k, none⟩ = some (.int .i64 n) ∧ -1 ≤ n ∧ n ≤ 201 := by
        match k, hlt with
        | 0, _ => exact ⟨_, hE.n 0 _ rfl, by omega, by omega⟩
        | 1, _ => exact ⟨_, hE.n 1 _ rfl, by omega, by omega⟩
        | 2, _ => exact ⟨_, hE.n 2 _ rfl, by omega, by omega⟩
        | 3, _ => exact ⟨_, hE.n 3 _ rfl, by omega, by omega⟩
      have hlt2 : (k : Int) < 4 := by omega
      clear hE hB
      by_cases hf : (a : Int) ≤ n ∧ n ≤ b
      · obtain ⟨hf1, hf2⟩ := hf
        have Hput := Lib.hid (put_num_at wr s a b n Hrf.out (by omega) ⟨hf1, hf2⟩ (by omega))
        go_wp2_with fail
        refine Hput.out.mono ?_
        rintro e w3 ⟨v, rfl, hown, hb3⟩
        rw [numB_length] at hown
        obtain ⟨g, cap, rfl, _, hg3, hcap, _, hho⟩ := own_some hown (by omega)
        have hc0 := hho 0 _ (byte0 n (by omega) (by omega) s (by omega))
        have Hb3 := Lib.hid (bthen HB.out (bthen (balloc (one_below _ _) _) hb3))
        have hs0 : 0 < s := by omega
        clear hown hho hb3 d0 d1 d2 d3 d4 hn Hput
        go_wp2_with fail
        go_roundw
        case rel => exact ⟨k + 1, by omega, by go_num, Hb3.out⟩
        case measure => simp [intOf]; omega
      · have Hput := Lib.hid (put_off_at wr s a b n Hrf.out (by omega) hf)
        have hfb : n < a ∨ ((a : Int) ≤ n ∧ (b : Int) < n) := by omega
        clear hf
        rcases hfb with hfb | ⟨hfa, hfb⟩
        all_goals
          go_wp2_with fail
          refine Hput.out.mono ?_
          rintro e w3 ⟨rfl, hb3⟩
          have Hb3 := Lib.hid (bthen HB.out (bthen (balloc (one_below _ _) _) hb3))
          have Ht3 := Lib.hid (Hg.out.below (bthen H2.out.2.1 Hb3.out))
          clear hb3 d0 d1 d2 d3 d4 hn Hput
          unfold wrapV errV
          go_wp2_with fail
          refine (kind_err [(gramPut, 0)] 2 w3 _ rfl Ht3.out).mono ?_
          rintro e w4 ⟨rfl, hb⟩
          have Hb4 := Lib.hid (bthen Hb3.out hb); clear hb
          go_wp2_with fail
          go_roundw
          case rel => exact ⟨k + 1, by omega, by go_num, Hb4.out⟩
          case measure => simp [intOf]; omega
    · obtain rfl : k = 4 := by omega
      clear hE hB hlt
      go_wp2_with fail
      have hzr : w.heap.size + 1 < wr.heap.size := by have := H2.out.2.2; have := HB.out.size; omega
      refine (within_num _ _ _ _ (by omega) (by omega) (by omega)).mono ?_
      rintro e w' ⟨h, ⟨_, hh⟩, rfl, rfl⟩
      have h5 : h = 0 ∨ h = 1 ∨ h = 2 ∨ h = 3 ∨ h = 4 := by omega
      clear hh
      rcases h5 with rfl | rfl | rfl | rfl | rfl
      · have hng : rightF ⟨1, 3, a, b, 0⟩ = false := by simp [rightF, holdsN]
        have Hput : Hid (∀ xv o, Calls Tryd.prog 11 #[.slice (some ⟨wr.heap.size + 1, 0, none⟩) 2 2, xv] (((wr.alloc (.cells #[.int .i64 1, .int .i64 3, .int .i64 a, .int .i64 b, .int .i64 0] 23)).alloc (.cells #[.int .i64 1, .int .i64 s, .int .i64 a, .int .i64 b, .int .i64 0, .int .i64 1, .int .i64 3, .int .i64 a, .int .i64 b, .int .i64 0] 23)).alloc o) (Wrong gramPut 1 1 (((wr.alloc (.cells #[.int .i64 1, .int .i64 3, .int .i64 a, .int .i64 b, .int .i64 0] 23)).alloc (.cells #[.int .i64 1, .int .i64 s, .int .i64 a, .int .i64 b, .int .i64 0, .int .i64 1, .int .i64 3, .int .i64 a, .int .i64 b, .int .i64 0] 23)).alloc o))) := Lib.hid (fun xv o => put_second (wr.alloc (.cells #[.int .i64 1, .int .i64 3, .int .i64 a, .int .i64 b, .int .i64 0] 23)) (wr.heap.size + 1) (by simp) xv ⟨1, s, a, b, 0⟩ ⟨1, 3, a, b, 0⟩ o Hrf.out hng (by show (b : Int) ≤ _; omega) (by show (b : Int) ≤ _; omega))
        have Hng := Lib.hid hng; clear hng
        go_wp2_with fail
        refine (Hput.out _ _).mono ?_
        rintro e w5 ⟨rfl, hb⟩
        have hbg : Below wr.heap.size wr (wr.alloc (.cells #[.int .i64 1, .int .i64 3, .int .i64 a, .int .i64 b, .int .i64 0] 23)) := one_below _ _
        have hcg := (holds_new wr #[.int .i64 1, .int .i64 3, .int .i64 a, .int .i64 b, .int .i64 0] 23 _ rfl).below (by simp) (bthen (balloc (one_below _ _) _) hb)
        have Hb5 := Lib.hid (bthen hbg (bthen (balloc (one_below _ _) _) hb))
        have hz5 : wr.heap.size < w5.heap.size := by have := hb.size; simp at this; omega
        have Hcg := Lib.hid hcg
        have Ht5 := Lib.hid (Hg.out.below (bthen H2.out.2.1 (bthen HB.out Hb5.out)))
        clear hb hcg hbg d0 d1 d2 d3 d4 Hput
        unfold wrapV errV
        go_wp2_with fail
        refine (where_err [(gramPut, 1)] 1 w5 _ rfl Ht5.out).mono ?_
        rintro e w6 ⟨rfl, hb⟩
        simp only [show lastS [(gramPut, 1)] = gramPut from rfl, show lastN [(gramPut, 1)] = 1 from rfl, List.isEmpty_cons, Bool.not_false]
        have hcg := Hcg.out.below hz5 hb
        have q0 := hcg 0 _ rfl
        have q1 := hcg 1 _ rfl
        have q2 := hcg 2 _ rfl
        have q3 := hcg 3 _ rfl
        have q4 := hcg 4 _ rfl
        have Hb6 := Lib.hid (bthen Hb5.out hb)
        have Ht6 := Lib.hid (Ht5.out.below hb)
        have HR := Lib.hid (right_any 1 3 a b 0 w6 (by show (b : Int) ≤ _; omega))
        rw [Hng.out] at HR
        clear hb hcg
        go_wp2_with fail
        refine HR.out.mono ?_
        rintro e w7 ⟨rfl, hb⟩
        have Hb7 := Lib.hid (bthen Hb6.out hb)
        have Ht7 := Lib.hid (Ht6.out.below hb)
        clear hb HR q0 q1 q2 q3 q4
        go_wp2_with fail
        refine (kind_err [(gramPut, 1)] 1 w7 _ rfl Ht7.out).mono ?_
        rintro e w8 ⟨rfl, hb⟩
        have Hb8 := Lib.hid (bthen Hb7.out hb)
        have Ht8 := Lib.hid (Ht7.out.below hb)
        clear hb
        go_wp2_with fail
        refine (runs w8 Ht8.out).mono ?_
        rintro e w9 ⟨rfl, hb⟩
        have Hb9 := Lib.hid (bthen Hb8.out hb)
        clear hb
        go_wp2_with fail
        go_ret
        exact ⟨rfl, bthen H2.out.2.1 (bthen HB.out Hb9.out)⟩
      · have hng : rightF ⟨1, s, ((b : Int) + 1), b, 0⟩ = false := by simp only [rightF, decide_eq_false_iff_not]; omega
        have Hput : Hid (∀ xv o, Calls Tryd.prog 11 #[.slice (some ⟨wr.heap.size + 1, 0, none⟩) 2 2, xv] (((wr.alloc (.cells #[.int .i64 1, .int .i64 s, .int .i64 ((b : Int) + 1), .int .i64 b, .int .i64 0] 23)).alloc (.cells #[.int .i64 1, .int .i64 s, .int .i64 a, .int .i64 b, .int .i64 0, .int .i64 1, .int .i64 s, .int .i64 ((b : Int) + 1), .int .i64 b, .int .i64 0] 23)).alloc o) (Wrong gramPut 1 1 (((wr.alloc (.cells #[.int .i64 1, .int .i64 s, .int .i64 ((b : Int) + 1), .int .i64 b, .int .i64 0] 23)).alloc (.cells #[.int .i64 1, .int .i64 s, .int .i64 a, .int .i64 b, .int .i64 0, .int .i64 1, .int .i64 s, .int .i64 ((b : Int) + 1), .int .i64 b, .int .i64 0] 23)).alloc o))) := Lib.hid (fun xv o => put_second (wr.alloc (.cells #[.int .i64 1, .int .i64 s, .int .i64 ((b : Int) + 1), .int .i64 b, .int .i64 0] 23)) (wr.heap.size + 1) (by simp) xv ⟨1, s, a, b, 0⟩ ⟨1, s, ((b : Int) + 1), b, 0⟩ o Hrf.out hng (by show (b : Int) ≤ _; omega) (by show (b : Int) ≤ _; omega))
        have Hng := Lib.hid hng; clear hng
        go_wp2_with fail
        refine (Hput.out _ _).mono ?_
        rintro e w5 ⟨rfl, hb⟩
        have hbg : Below wr.heap.size wr (wr.alloc (.cells #[.int .i64 1, .int .i64 s, .int .i64 ((b : Int) + 1), .int .i64 b, .int .i64 0] 23)) := one_below _ _
        have hcg := (holds_new wr #[.int .i64 1, .int .i64 s, .int .i64 ((b : Int) + 1), .int .i64 b, .int .i64 0] 23 _ rfl).below (by simp) (bthen (balloc (one_below _ _) _) hb)
        have Hb5 := Lib.hid (bthen hbg (bthen (balloc (one_below _ _) _) hb))
        have hz5 : wr.heap.size < w5.heap.size := by have := hb.size; simp at this; omega
        have Hcg := Lib.hid hcg
        have Ht5 := Lib.hid (Hg.out.below (bthen H2.out.2.1 (bthen HB.out Hb5.out)))
        clear hb hcg hbg d0 d1 d2 d3 d4 Hput
        unfold wrapV errV
        go_wp2_with fail
        refine (where_err [(gramPut, 1)] 1 w5 _ rfl Ht5.out).mono ?_
        rintro e w6 ⟨rfl, hb⟩
        simp only [show lastS [(gramPut, 1)] = gramPut from rfl, show lastN [(gramPut, 1)] = 1 from rfl, List.isEmpty_cons, Bool.not_false]
        have hcg := Hcg.out.below hz5 hb
        have q0 := hcg 0 _ rfl
        have q1 := hcg 1 _ rfl
        have q2 := hcg 2 _ rfl
        have q3 := hcg 3 _ rfl
        have q4 := hcg 4 _ rfl
        have Hb6 := Lib.hid (bthen Hb5.out hb)
        have Ht6 := Lib.hid (Ht5.out.below hb)
        have HR := Lib.hid (right_any 1 s ((b : Int) + 1) b 0 w6 (by show (b : Int) ≤ _; omega))
        rw [Hng.out] at HR
        clear hb hcg
        go_wp2_with fail
        refine HR.out.mono ?_
        rintro e w7 ⟨rfl, hb⟩
        have Hb7 := Lib.hid (bthen Hb6.out hb)
        have Ht7 := Lib.hid (Ht6.out.below hb)
        clear hb HR q0 q1 q2 q3 q4
        go_wp2_with fail
        refine (kind_err [(gramPut, 1)] 1 w7 _ rfl Ht7.out).mono ?_
        rintro e w8 ⟨rfl, hb⟩
        have Hb8 := Lib.hid (bthen Hb7.out hb)
        have Ht8 := Lib.hid (Ht7.out.below hb)
        clear hb
        go_wp2_with fail
        refine (runs w8 Ht8.out).mono ?_
        rintro e w9 ⟨rfl, hb⟩
        have Hb9 := Lib.hid (bthen Hb8.out hb)
        clear hb
        go_wp2_with fail
        go_ret
        exact ⟨rfl, bthen H2.out.2.1 (bthen HB.out Hb9.out)⟩
      · have hng : rightF ⟨0, s, a, b, 0⟩ = false := by simp [rightF]
        have Hput : Hid (∀ xv o, Calls Tryd.prog 11 #[.slice (some ⟨wr.heap.size + 1, 0, none⟩) 2 2, xv] (((wr.alloc (.cells #[.int .i64 0, .int .i64 s, .int .i64 a, .int .i64 b, .int .i64 0] 23)).alloc (.cells #[.int .i64 1, .int .i64 s, .int .i64 a, .int .i64 b, .int .i64 0, .int .i64 0, .int .i64 s, .int .i64 a, .int .i64 b, .int .i64 0] 23)).alloc o) (Wrong gramPut 1 1 (((wr.alloc (.cells #[.int .i64 0, .int .i64 s, .int .i64 a, .int .i64 b, .int .i64 0] 23)).alloc (.cells #[.int .i64 1, .int .i64 s, .int .i64 a, .int .i64 b, .int .i64 0, .int .i64 0, .int .i64 s, .int .i64 a, .int .i64 b, .int .i64 0] 23)).alloc o))) := Lib.hid (fun xv o => put_second (wr.alloc (.cells #[.int .i64 0, .int .i64 s, .int .i64 a, .int .i64 b, .int .i64 0] 23)) (wr.heap.size + 1) (by simp) xv ⟨1, s, a, b, 0⟩ ⟨0, s, a, b, 0⟩ o Hrf.out hng (by show (b : Int) ≤ _; omega) (by show (b : Int) ≤ _; omega))
        have Hng := Lib.hid hng; clear hng
        go_wp2_with fail
        refine (Hput.out _ _).mono ?_
        rintro e w5 ⟨rfl, hb⟩
        have hbg : Below wr.heap.size wr (wr.alloc (.cells #[.int .i64 0, .int .i64 s, .int .i64 a, .int .i64 b, .int .i64 0] 23)) := one_below _ _
        have hcg := (holds_new wr #[.int .i64 0, .int .i64 s, .int .i64 a, .int .i64 b, .int .i64 0] 23 _ rfl).below (by simp) (bthen (balloc (one_below _ _) _) hb)
        have Hb5 := Lib.hid (bthen hbg (bthen (balloc (one_below _ _) _) hb))
        have hz5 : wr.heap.size < w5.heap.size := by have := hb.size; simp at this; omega
        have Hcg := Lib.hid hcg
        have Ht5 := Lib.hid (Hg.out.below (bthen H2.out.2.1 (bthen HB.out Hb5.out)))
        clear hb hcg hbg d0 d1 d2 d3 d4 Hput
        unfold wrapV errV
        go_wp2_with fail
        refine (where_err [(gramPut, 1)] 1 w5 _ rfl Ht5.out).mono ?_
        rintro e w6 ⟨rfl, hb⟩
        simp only [show lastS [(gramPut, 1)] = gramPut from rfl, show lastN [(gramPut, 1)] = 1 from rfl, List.isEmpty_cons, Bool.not_false]
        have hcg := Hcg.out.below hz5 hb
        have q0 := hcg 0 _ rfl
        have q1 := hcg 1 _ rfl
        have q2 := hcg 2 _ rfl
        have q3 := hcg 3 _ rfl
        have q4 := hcg 4 _ rfl
        have Hb6 := Lib.hid (bthen Hb5.out hb)
        have Ht6 := Lib.hid (Ht5.out.below hb)
        have HR := Lib.hid (right_any 0 s a b 0 w6 (by show (b : Int) ≤ _; omega))
        rw [Hng.out] at HR
        clear hb hcg
        go_wp2_with fail
        refine HR.out.mono ?_
        rintro e w7 ⟨rfl, hb⟩
        have Hb7 := Lib.hid (bthen Hb6.out hb)
        have Ht7 := Lib.hid (Ht6.out.below hb)
        clear hb HR q0 q1 q2 q3 q4
        go_wp2_with fail
        refine (kind_err [(gramPut, 1)] 1 w7 _ rfl Ht7.out).mono ?_
        rintro e w8 ⟨rfl, hb⟩
        have Hb8 := Lib.hid (bthen Hb7.out hb)
        have Ht8 := Lib.hid (Ht7.out.below hb)
        clear hb
        go_wp2_with fail
        refine (runs w8 Ht8.out).mono ?_
        rintro e w9 ⟨rfl, hb⟩
        have Hb9 := Lib.hid (bthen Hb8.out hb)
        clear hb
        go_wp2_with fail
        go_ret
        exact ⟨rfl, bthen H2.out.2.1 (bthen HB.out Hb9.out)⟩
      · have hng : rightF ⟨1, s, a, b, 1⟩ = false := by simp [rightF]
        have Hput : Hid (∀ xv o, Calls Tryd.prog 11 #[.slice (some ⟨wr.heap.size + 1, 0, none⟩) 2 2, xv] (((wr.alloc (.cells #[.int .i64 1, .int .i64 s, .int .i64 a, .int .i64 b, .int .i64 1] 23)).alloc (.cells #[.int .i64 1, .int .i64 s, .int .i64 a, .int .i64 b, .int .i64 0, .int .i64 1, .int .i64 s, .int .i64 a, .int .i64 b, .int .i64 1] 23)).alloc o) (Wrong gramPut 1 1 (((wr.alloc (.cells #[.int .i64 1, .int .i64 s, .int .i64 a, .int .i64 b, .int .i64 1] 23)).alloc (.cells #[.int .i64 1, .int .i64 s, .int .i64 a, .int .i64 b, .int .i64 0, .int .i64 1, .int .i64 s, .int .i64 a, .int .i64 b, .int .i64 1] 23)).alloc o))) := Lib.hid (fun xv o => put_second (wr.alloc (.cells #[.int .i64 1, .int .i64 s, .int .i64 a, .int .i64 b, .int .i64 1] 23)) (wr.heap.size + 1) (by simp) xv ⟨1, s, a, b, 0⟩ ⟨1, s, a, b, 1⟩ o Hrf.out hng (by show (b : Int) ≤ _; omega) (by show (b : Int) ≤ _; omega))
        have Hng := Lib.hid hng; clear hng
        go_wp2_with fail
        refine (Hput.out _ _).mono ?_
        rintro e w5 ⟨rfl, hb⟩
        have hbg : Below wr.heap.size wr (wr.alloc (.cells #[.int .i64 1, .int .i64 s, .int .i64 a, .int .i64 b, .int .i64 1] 23)) := one_below _ _
        have hcg := (holds_new wr #[.int .i64 1, .int .i64 s, .int .i64 a, .int .i64 b, .int .i64 1] 23 _ rfl).below (by simp) (bthen (balloc (one_below _ _) _) hb)
        have Hb5 := Lib.hid (bthen hbg (bthen (balloc (one_below _ _) _) hb))
        have hz5 : wr.heap.size < w5.heap.size := by have := hb.size; simp at this; omega
        have Hcg := Lib.hid hcg
        have Ht5 := Lib.hid (Hg.out.below (bthen H2.out.2.1 (bthen HB.out Hb5.out)))
        clear hb hcg hbg d0 d1 d2 d3 d4 Hput
        unfold wrapV errV
        go_wp2_with fail
        refine (where_err [(gramPut, 1)] 1 w5 _ rfl Ht5.out).mono ?_
        rintro e w6 ⟨rfl, hb⟩
        simp only [show lastS [(gramPut, 1)] = gramPut from rfl, show lastN [(gramPut, 1)] = 1 from rfl, List.isEmpty_cons, Bool.not_false]
        have hcg := Hcg.out.below hz5 hb
        have q0 := hcg 0 _ rfl
        have q1 := hcg 1 _ rfl
        have q2 := hcg 2 _ rfl
        have q3 := hcg 3 _ rfl
        have q4 := hcg 4 _ rfl
        have Hb6 := Lib.hid (bthen Hb5.out hb)
        have Ht6 := Lib.hid (Ht5.out.below hb)
        have HR := Lib.hid (right_any 1 s a b 1 w6 (by show (b : Int) ≤ _; omega))
        rw [Hng.out] at HR
        clear hb hcg
        go_wp2_with fail
        refine HR.out.mono ?_
        rintro e w7 ⟨rfl, hb⟩
        have Hb7 := Lib.hid (bthen Hb6.out hb)
        have Ht7 := Lib.hid (Ht6.out.below hb)
        clear hb HR q0 q1 q2 q3 q4
        go_wp2_with fail
        refine (kind_err [(gramPut, 1)] 1 w7 _ rfl Ht7.out).mono ?_
        rintro e w8 ⟨rfl, hb⟩
        have Hb8 := Lib.hid (bthen Hb7.out hb)
        have Ht8 := Lib.hid (Ht7.out.below hb)
        clear hb
        go_wp2_with fail
        refine (runs w8 Ht8.out).mono ?_
        rintro e w9 ⟨rfl, hb⟩
        have Hb9 := Lib.hid (bthen Hb8.out hb)
        clear hb
        go_wp2_with fail
        go_ret
        exact ⟨rfl, bthen H2.out.2.1 (bthen HB.out Hb9.out)⟩
      · have hng : rightF ⟨1, 1, a, 256, 0⟩ = false := by simp [rightF, holdsN]
        have Hput : Hid (∀ xv o, Calls Tryd.prog 11 #[.slice (some ⟨wr.heap.size + 1, 0, none⟩) 2 2, xv] (((wr.alloc (.cells #[.int .i64 1, .int .i64 1, .int .i64 a, .int .i64 256, .int .i64 0] 23)).alloc (.cells #[.int .i64 1, .int .i64 s, .int .i64 a, .int .i64 b, .int .i64 0, .int .i64 1, .int .i64 1, .int .i64 a, .int .i64 256, .int .i64 0] 23)).alloc o) (Wrong gramPut 1 1 (((wr.alloc (.cells #[.int .i64 1, .int .i64 1, .int .i64 a, .int .i64 256, .int .i64 0] 23)).alloc (.cells #[.int .i64 1, .int .i64 s, .int .i64 a, .int .i64 b, .int .i64 0, .int .i64 1, .int .i64 1, .int .i64 a, .int .i64 256, .int .i64 0] 23)).alloc o))) := Lib.hid (fun xv o => put_second (wr.alloc (.cells #[.int .i64 1, .int .i64 1, .int .i64 a, .int .i64 256, .int .i64 0] 23)) (wr.heap.size + 1) (by simp) xv ⟨1, s, a, b, 0⟩ ⟨1, 1, a, 256, 0⟩ o Hrf.out hng (by show (b : Int) ≤ _; omega) (by show (256 : Int) ≤ _; omega))
        have Hng := Lib.hid hng; clear hng
        go_wp2_with fail
        refine (Hput.out _ _).mono ?_
        rintro e w5 ⟨rfl, hb⟩
        have hbg : Below wr.heap.size wr (wr.alloc (.cells #[.int .i64 1, .int .i64 1, .int .i64 a, .int .i64 256, .int .i64 0] 23)) := one_below _ _
        have hcg := (holds_new wr #[.int .i64 1, .int .i64 1, .int .i64 a, .int .i64 256, .int .i64 0] 23 _ rfl).below (by simp) (bthen (balloc (one_below _ _) _) hb)
        have Hb5 := Lib.hid (bthen hbg (bthen (balloc (one_below _ _) _) hb))
        have hz5 : wr.heap.size < w5.heap.size := by have := hb.size; simp at this; omega
        have Hcg := Lib.hid hcg
        have Ht5 := Lib.hid (Hg.out.below (bthen H2.out.2.1 (bthen HB.out Hb5.out)))
        clear hb hcg hbg d0 d1 d2 d3 d4 Hput
        unfold wrapV errV
        go_wp2_with fail
        refine (where_err [(gramPut, 1)] 1 w5 _ rfl Ht5.out).mono ?_
        rintro e w6 ⟨rfl, hb⟩
        simp only [show lastS [(gramPut, 1)] = gramPut from rfl, show lastN [(gramPut, 1)] = 1 from rfl, List.isEmpty_cons, Bool.not_false]
        have hcg := Hcg.out.below hz5 hb
        have q0 := hcg 0 _ rfl
        have q1 := hcg 1 _ rfl
        have q2 := hcg 2 _ rfl
        have q3 := hcg 3 _ rfl
        have q4 := hcg 4 _ rfl
        have Hb6 := Lib.hid (bthen Hb5.out hb)
        have Ht6 := Lib.hid (Ht5.out.below hb)
        have HR := Lib.hid (right_any 1 1 a 256 0 w6 (by show (256 : Int) ≤ _; omega))
        rw [Hng.out] at HR
        clear hb hcg
        go_wp2_with fail
        refine HR.out.mono ?_
        rintro e w7 ⟨rfl, hb⟩
        have Hb7 := Lib.hid (bthen Hb6.out hb)
        have Ht7 := Lib.hid (Ht6.out.below hb)
        clear hb HR q0 q1 q2 q3 q4
        go_wp2_with fail
        refine (kind_err [(gramPut, 1)] 1 w7 _ rfl Ht7.out).mono ?_
        rintro e w8 ⟨rfl, hb⟩
        have Hb8 := Lib.hid (bthen Hb7.out hb)
        have Ht8 := Lib.hid (Ht7.out.below hb)
        clear hb
        go_wp2_with fail
        refine (runs w8 Ht8.out).mono ?_
        rintro e w9 ⟨rfl, hb⟩
        have Hb9 := Lib.hid (bthen Hb8.out hb)
        clear hb
        go_wp2_with fail
        go_ret
        exact ⟨rfl, bthen H2.out.2.1 (bthen HB.out Hb9.out)⟩
end Go.Proofs.YtdgdidphjnghaaaDoor
