/-
  stavelaw1.FaultRuns: the call returns true, and nothing that was there turns.
-/
import Derived.Test.YtnehangdkjalbaaDoorPath
namespace Go.Proofs.YtnehangdkjalbaaDoor
open Go.RowKit Go.Extern.Stop Go.Stop Go.Extern

/-- What a row of the call's own is to one who reads it. -/
theorem ops_texts {l : List (ByteArray × Int)} {B : Nat} {v : Value} {w : World} (h : w.ownsRow B 9 1 v l.length (ops l)) (hne : 0 < l.length) :
    ∃ g cap, v = .slice (some ⟨g, 0, none⟩) l.length cap ∧ l.length ≤ cap ∧ cap ≤ maxLen ∧ g < w.heap.size ∧ Texts w g 0 (l.map (·.1)) := by
  rcases h.2 with ⟨_, h0⟩ | ⟨g, cap, cur, rfl, hg, hgg, hcap, hm, hcur, htake⟩
  · omega
  · refine ⟨g, cap, rfl, hcap, hm, (Array.getElem?_eq_some_iff.1 hgg).1, fun x hx => ?_⟩
    have hx' : x < l.length := by simpa using hx
    have := h.cells (g := g) rfl x (.string (l[x]).1) (by simp [ops, hx'])
    rw [show (l.map (·.1)).getD x ByteArray.empty = (l[x]).1 from by simp [List.getD, hx']]
    rw [Nat.zero_add]
    by_cases h0 : x = 0
    · subst h0; simpa [Addr.add] using this
    · simpa [Addr.add, h0] using this

theorem Texts.below {w w' : World} {b o : Nat} {xs : List ByteArray} (h : Texts w b o xs) (hl : b < w.heap.size) (hb : Below w.heap.size w w') : Texts w' b o xs :=
  fun x hx => by rw [hb.cell hl]; exact h x hx
theorem texts_new2 (w : World) (a b : ByteArray) : Texts (w.alloc (.cells #[.string a, .string b] 9)) w.heap.size 0 [a, b] := by
  intro x hx
  match x, hx with
  | 0, _ => simp [List.getD]
  | 1, _ => simp [List.getD]
  | x + 2, hx => exact absurd hx (by simp)
theorem is_err_bit (l : List (ByteArray × Int)) (k : Int) (v : Value) (hc : v = chain l (errV k)) (j : Int) (W : World) : Calls Tryd.prog 15 #[v, errV j] W (Bit (k == j) W) := by
  by_cases h : k = j
  · rw [show (k == j) = true from by simpa using h]; exact Is_err_err_yes l k j W v hc h
  · rw [show (k == j) = false from by simpa using h]; exact Is_err_err_no l k j W v hc h
theorem is_loss_bit (l : List (ByteArray × Int)) (a b c : Int) (v : Value) (hc : v = chain l (lossV a b c)) (j : Int) (W : World) : Calls Tryd.prog 15 #[v, errV j] W (Bit (j == 6) W) := by
  by_cases h : j = 6
  · rw [show (j == 6) = true from by simpa using h]; exact Is_loss_err_yes l a b c j W v hc h
  · rw [show (j == 6) = false from by simpa using h]; exact Is_loss_err_no l a b c j W v hc h
set_option maxHeartbeats 2000000 in
theorem runs (w : World) (hg : Typ w) : Calls Tryd.prog 3 #[] w (Bit true w) := by
  have hp := hg.pos
  have Hg := Lib.hid hg; clear hg
  go_enter Tryd.func3, Tryd.ntmps3
  go_wp2_with fail
  refine (wrap_some _ _ _ _ _).mono ?_
  rintro e w' ⟨rfl, rfl⟩
  unfold wrapV
  go_wp2_with fail
  refine (wrap_some _ _ _ _ _).mono ?_
  rintro e w' ⟨rfl, rfl⟩
  unfold wrapV
  go_wp2_with fail
  refine (where_err [(⟨#[98]⟩, 2), (⟨#[97]⟩, 1)] 8 w _ rfl Hg.out).mono ?_
  rintro e w1 ⟨rfl, hb⟩
  have H1 := Lib.hid hb; clear hb
  have ht1 := Hg.out.below H1.out
  have Ht1 := Lib.hid ht1; clear ht1
  simp only [show lastS [(⟨#[98]⟩, 2), (⟨#[97]⟩, 1)] = ⟨#[97]⟩ from rfl, show lastN [(⟨#[98]⟩, 2), (⟨#[97]⟩, 1)] = 1 from rfl, List.isEmpty_cons, Bool.not_false]
  go_wp2_with fail
  refine (wrap_some _ _ _ _ _).mono ?_
  rintro e w' ⟨rfl, rfl⟩
  unfold wrapV
  go_wp2_with fail
  refine (lost_loss [(⟨#[99]⟩, 3)] 7 1 2 _ _ rfl Ht1.out).mono ?_
  rintro e w2 ⟨rfl, hb⟩
  have H2 := Lib.hid (H1.out.trans (hb.mono H1.out.size)); clear hb
  have ht2 := Lib.hid (Hg.out.below H2.out)
  have hb3 : Below w.heap.size w (w2.alloc (.cells #[.int .i64 7, .int .i64 1, .int .i64 2] 29)) := H2.out.alloc H2.out.size _
  have d0 : (w2.alloc (.cells #[.int .i64 7, .int .i64 1, .int .i64 2] 29)).cell? ⟨w2.heap.size, 0, none⟩ = some (.int .i64 7) := by simp
  have d1 : (w2.alloc (.cells #[.int .i64 7, .int .i64 1, .int .i64 2] 29)).cell? ⟨w2.heap.size, 1, none⟩ = some (.int .i64 1) := by simp
  have d2 : (w2.alloc (.cells #[.int .i64 7, .int .i64 1, .int .i64 2] 29)).cell? ⟨w2.heap.size, 2, none⟩ = some (.int .i64 2) := by simp
  have hs3 : w2.heap.size < (w2.alloc (.cells #[.int .i64 7, .int .i64 1, .int .i64 2] 29)).heap.size := by simp
  have D := Lib.hid (And.intro hb3 (And.intro hs3 (And.intro d0 (And.intro d1 d2)))); clear hb3 hs3 d0 d1 d2
  go_wp2_with fail
  generalize w2.alloc (.cells #[.int .i64 7, .int .i64 1, .int .i64 2] 29) = w3 at D
  have Ht3 := Lib.hid (Hg.out.below D.out.1)
  refine (kind_err [(⟨#[98]⟩, 2), (⟨#[97]⟩, 1)] 8 w3 _ rfl Ht3.out).mono ?_
  rintro e w4 ⟨rfl, hb⟩
  have K4 := Lib.hid hb; clear hb
  have Ht4 := Lib.hid (Ht3.out.below K4.out)
  go_wp2_with fail
  refine (path_err [(⟨#[98]⟩, 2), (⟨#[97]⟩, 1)] 8 w4 _ rfl Ht4.out (by decide)).mono ?_
  rintro e w5 ⟨v, rfl, hown, hb⟩
  have K5 := Lib.hid (K4.out.trans (hb.mono K4.out.size)); clear hb
  obtain ⟨g, cap, rfl, hcap, hmax, hgl, htx⟩ := ops_texts hown (by decide)
  simp only [List.length_cons, List.length_nil, Nat.zero_add, Nat.reduceAdd, List.map_cons, List.map_nil] at *
  have S5 := Lib.hid (And.intro hgl htx); clear hown hgl htx hcap hmax
  go_wp2_with fail
  refine (same_yes [⟨#[98]⟩, ⟨#[97]⟩] g 0 cap w5.heap.size 0 2 _ (by decide) (S5.out.2.below S5.out.1 ((Below.refl _ _).alloc (Nat.le_refl _) _)) (texts_new2 _ _ _) (by have := S5.out.1; simp; omega) (by simp)).mono ?_
  rintro e w6 ⟨rfl, hb⟩
  have K6 := Lib.hid (K5.out.trans ((((Below.refl w5.heap.size w5).alloc (Nat.le_refl _) (.cells #[.string ⟨#[98]⟩, .string ⟨#[97]⟩] 9)).trans (hb.mono (by simp))).mono K5.out.size)); clear hb
  go_wp2_with fail
  refine (first_any _ (fun j => 8 == j) [10, 8] w6.heap.size 2 _ (by decide) (is_err_bit [(⟨#[98]⟩, 2), (⟨#[97]⟩, 1)] 8 _ rfl) (by simp) (by intro x hx; match x, hx with | 0, _ => simp | 1, _ => simp | x + 2, hx => exact absurd hx (by simp))).mono ?_
  rintro e w7 ⟨rfl, hb⟩
  have K7 := Lib.hid (K6.out.trans ((((Below.refl w6.heap.size w6).alloc (Nat.le_refl _) (.cells #[.int .i64 10, .int .i64 8] 25)).trans (hb.mono (by simp))).mono K6.out.size)); clear hb
  have Ht7 := Lib.hid (Ht3.out.below K7.out)
  simp only [show firstAt (fun j => 8 == j) [10, 8] 0 = 1 from rfl]
  go_wp2_with fail
  refine (kind_loss [(⟨#[99]⟩, 3)] 7 1 2 w7 _ rfl Ht7.out).mono ?_
  rintro e w8 ⟨rfl, hb⟩
  have K8 := Lib.hid (K7.out.trans (hb.mono K7.out.size)); clear hb
  have d0 : w8.cell? ⟨w2.heap.size, 0, none⟩ = some (.int .i64 7) := by rw [K8.out.cell D.out.2.1]; exact D.out.2.2.1
  have d1 : w8.cell? ⟨w2.heap.size, 1, none⟩ = some (.int .i64 1) := by rw [K8.out.cell D.out.2.1]; exact D.out.2.2.2.1
  have d2 : w8.cell? ⟨w2.heap.size, 2, none⟩ = some (.int .i64 2) := by rw [K8.out.cell D.out.2.1]; exact D.out.2.2.2.2
  go_wp2_with fail
  refine (first_any _ (fun j => j == 6) [6] w8.heap.size 1 _ (by decide) (is_loss_bit [(⟨#[99]⟩, 3)] 7 1 2 _ rfl) (by simp) (by intro x hx; match x, hx with | 0, _ => simp | x + 1, hx => exact absurd hx (by simp))).mono ?_
  rintro e w9 ⟨rfl, hb⟩
  have K9 := Lib.hid (K8.out.trans ((((Below.refl w8.heap.size w8).alloc (Nat.le_refl _) (.cells #[.int .i64 6] 25)).trans (hb.mono (by simp))).mono K8.out.size)); clear hb
  simp only [show firstAt (fun j => j == 6) [6] 0 = 0 from rfl]
  go_wp2
  go_ret
  exact ⟨rfl, D.out.1.trans (K9.out.mono D.out.1.size)⟩
end Go.Proofs.YtnehangdkjalbaaDoor
