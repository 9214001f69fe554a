/-
  stavelaw2.few of fields alone.
-/
import Derived.Test.YtoflfbcjlddjaaaDoorGLit
namespace Go.Proofs.YtoflfbcjlddjaaaDoor
open Go.RowKit

/-- Fields in a row of the call's own. -/
def FewPost (fs : List Fl) (w : World) (e : Ending) (w' : World) : Prop :=
  ∃ v, e = .returned (.tuple #[v, .slice none 0 0]) ∧ w'.ownsRow w.heap.size 46 5 v fs.length (fs.flatMap cellsF) ∧ Below w.heap.size w w'
theorem cellsF_length (fs : List Fl) : (fs.flatMap cellsF).length = fs.length * 5 := by
  induction fs with
  | nil => rfl
  | cons p ps ih => rw [List.flatMap_cons, List.length_append, ih]; simp [cellsF]; omega
theorem Tryd.info46 : (Tryd.prog.info? 46).map (fun i => (i.zero, i.size, i.bytes)) = some (some (.agg #[.int .i64 0, .int .i64 0, .int .i64 0, .int .i64 0, .int .i64 0]), 5, 40) := by kernel_rfl
theorem slf_own {B : Nat} {w : World} {v : Value} {fs : List Fl} (h : w.ownsRow B 46 5 v fs.length (fs.flatMap cellsF)) : SlF w.heap.size w v fs := by
  have hh := h
  rcases hh.2 with ⟨rfl, h0⟩ | ⟨g, cap, cur, rfl, _, hg, hle, _⟩
  · exact Or.inl ⟨List.eq_nil_of_length_eq_zero h0, ⟨_, _, rfl⟩⟩
  · rcases Nat.eq_zero_or_pos fs.length with h0 | h0
    · obtain rfl := List.eq_nil_of_length_eq_zero h0
      exact Or.inl ⟨rfl, _, _, rfl⟩
    · exact slf_lit (holds_own h) (Array.getElem?_eq_some_iff.1 hg).1 h0 hle
/-- The source of an append: some fields of a slice. -/
theorem src_fields {w : World} {b o m c : Nat} {fs : List Fl} (h : FieldsAt w b o fs) (hm : m ≤ fs.length) :
    Src Tryd.prog 5 22 (.slice (some ⟨b, o, none⟩) m c) m ((fs.take m).flatMap cellsF) w := by
  have hl : (fs.take m).length = m := by rw [List.length_take]; omega
  refine Src.ofSlice _ Tryd.underlying22 ⟨b, o, none⟩ m c _ (by rw [cellsF_length, hl]) (fun j u hu => ?_) (fun u hu => ?_)
  · have hadd : (⟨b, o, none⟩ : Addr).add j = ⟨b, o + j, none⟩ := by unfold Addr.add; split <;> simp_all
    rw [hadd]
    have hj : j < m * 5 := by have := (List.getElem?_eq_some_iff.1 hu).1; rwa [cellsF_length, hl] at this
    have hx : j / 5 < m := by omega
    have e : j / 5 * 5 + j % 5 = j := by omega
    rw [← e, flat_get cellsF 5 (fun _ => rfl) f0 (fs.take m) (j / 5) (j % 5) (by omega) (by omega)] at hu
    have hg : (fs.take m).getD (j / 5) f0 = fs.getD (j / 5) f0 := by simp [List.getD, hx]
    rw [hg] at hu
    have hf := h (j / 5) (by omega)
    have hr : j % 5 < 5 := by omega
    rw [← e]
    generalize j % 5 = r at *
    match r, hr with
    | 0, _ => simpa [cellsF, ← Nat.add_assoc] using (show some (Value.int .i64 (fs.getD (j / 5) f0).k) = some u from hu) ▸ hf.c0
    | 1, _ => simpa [← Nat.add_assoc] using (show some (Value.int .i64 (fs.getD (j / 5) f0).sz) = some u from hu) ▸ hf.c1
    | 2, _ => simpa [← Nat.add_assoc] using (show some (Value.int .i64 (fs.getD (j / 5) f0).lo) = some u from hu) ▸ hf.c2
    | 3, _ => simpa [← Nat.add_assoc] using (show some (Value.int .i64 (fs.getD (j / 5) f0).hi) = some u from hu) ▸ hf.c3
    | 4, _ => simpa [← Nat.add_assoc] using (show some (Value.int .i64 (fs.getD (j / 5) f0).mo) = some u from hu) ▸ hf.c4
  · obtain ⟨f, _, hf⟩ := List.mem_flatMap.1 hu
    simp [cellsF] at hf
    rcases hf with rfl | rfl | rfl | rfl | rfl <;> rfl
theorem few_end {w w2 : World} {v2 : Value} {fs : List Fl} {m : Nat} {o : Obj} (hm : m ≤ fs.length) (hown : w2.ownsRow w.heap.size 46 5 v2 (0 + m) ([] ++ (fs.take m).flatMap cellsF)) (hg : Grew (w.alloc o) (some w.heap.size) w2 v2.ownBlock) :
    FewPost (fs.take m) w (.returned (.tuple #[v2, .slice none 0 0])) w2 := by
  have hl : (fs.take m).length = m := by rw [List.length_take]; omega
  refine ⟨v2, rfl, ?_, (((Grew.refl w none).alloc o).fresh hg (fun k hk => by injection hk with hk; omega)).below0⟩
  rw [hl]
  rwa [Nat.zero_add, List.nil_append] at hown

set_option maxHeartbeats 1000000 in
set_option maxRecDepth 100000 in
theorem few_nil (fv : Value) (fs : List Fl) (w : World) (hf : SlF w.heap.size w fv fs) (hl : fs.length ≤ maxLen) : Calls Tryd.prog 6 #[fv, .slice none 0 0] w (FewPost (fs.take 6) w) := by
  unfold maxLen at hl
  obtain ⟨i0, hi0, hz0, hz1, hz2⟩ := info_parts Tryd.info46
  rcases hf with ⟨rfl, a, cap, rfl⟩ | ⟨b, o, cap, rfl, h2, h3, h4, h5⟩
  · have hmm : (if (6 : Int) < 0 then (6 : Int) else 0) = 0 := rfl
    cases a with
    | none =>
      go_enter Tryd.func6, Tryd.ntmps6
      go_wp2
      refine wp_loop_rounds 1 ?_
      rw [rounds_succ]
      go_wp2_with (at_builtin; refine wpList_append_src _ rfl _ _ 22 22 rfl w.heap.size 46 i0 (.agg #[.int .i64 0, .int .i64 0, .int .i64 0, .int .i64 0, .int .i64 0]) 5 40 Tryd.underlying22 hi0 hz0 hz1 hz2 rfl _ _ _ rfl (own_new w w.heap.size #[] 46 5 0 (Nat.le_refl _) rfl (by decide)) _ 0 _ rfl (Src.ofNil _ Tryd.underlying22 _) (by unfold maxLen; omega) (by omega) (by simp) ?_; intro v2 w2 hown2 hg2 hnil; have Hown2 := Lib.hid hown2; have Hg2 := Lib.hid hg2; clear hown2 hg2 hnil)
      go_ret2
      exact few_end (fs := []) (m := 0) (by simp) Hown2.out Hg2.out
    | some a =>
      go_enter Tryd.func6, Tryd.ntmps6
      go_wp2
      refine wp_loop_rounds 1 ?_
      rw [rounds_succ]
      go_wp2_with (at_builtin; refine wpList_append_src _ rfl _ _ 22 22 rfl w.heap.size 46 i0 (.agg #[.int .i64 0, .int .i64 0, .int .i64 0, .int .i64 0, .int .i64 0]) 5 40 Tryd.underlying22 hi0 hz0 hz1 hz2 rfl _ _ _ rfl (own_new w w.heap.size #[] 46 5 0 (Nat.le_refl _) rfl (by decide)) _ 0 _ rfl (Src.ofSlice _ Tryd.underlying22 _ 0 _ [] rfl (by simp) (by simp)) (by unfold maxLen; omega) (by omega) (by simp) ?_; intro v2 w2 hown2 hg2 hnil; have Hown2 := Lib.hid hown2; have Hg2 := Lib.hid hg2; clear hown2 hg2 hnil)
      go_ret2
      exact few_end (fs := []) (m := 0) (by simp) Hown2.out Hg2.out
  · have hm : ∃ m : Nat, (if (6 : Int) < (fs.length : Int) then (6 : Int) else fs.length) = m ∧ m ≤ fs.length ∧ m ≤ cap ∧ m ≤ 6 ∧ fs.take 6 = fs.take m := by
      by_cases h : (6 : Int) < (fs.length : Int)
      · exact ⟨6, by rw [if_pos h]; rfl, by omega, by omega, by omega, rfl⟩
      · exact ⟨fs.length, by rw [if_neg h], Nat.le_refl _, h5, by omega, by rw [List.take_length, List.take_of_length_le (by omega)]⟩
    obtain ⟨m, hmm, hm1, hm2, hm3, hm4⟩ := hm
    have Hm4 := Lib.hid hm4
    have hm5 : (m : Int) ≤ cap := by omega
    have Hsrc := Lib.hid (fun ob : Obj => src_fields (w := w.alloc ob) (b := b) (o := o) (m := m) (c := cap) (fs := fs) (fun x hx => (h3 x hx).mono fun o => World.cell?_alloc_lt w ob ⟨b, o, none⟩ h2) hm1)
    clear hm4 h3
    go_enter Tryd.func6, Tryd.ntmps6
    go_wp2
    refine wp_loop_rounds 1 ?_
    rw [rounds_succ]
    go_wp2_with (at_builtin; refine wpList_append_src _ rfl _ _ 22 22 rfl w.heap.size 46 i0 (.agg #[.int .i64 0, .int .i64 0, .int .i64 0, .int .i64 0, .int .i64 0]) 5 40 Tryd.underlying22 hi0 hz0 hz1 hz2 rfl _ _ _ rfl (own_new w w.heap.size #[] 46 5 0 (Nat.le_refl _) rfl (by decide)) _ m _ rfl (Hsrc.out _) (by unfold maxLen; omega) (by omega) (by simp) ?_; intro v2 w2 hown2 hg2 hnil; have Hown2 := Lib.hid hown2; have Hg2 := Lib.hid hg2; clear hown2 hg2 hnil)
    go_ret2
    rw [Hm4.out]
    exact few_end hm1 Hown2.out Hg2.out
end Go.Proofs.YtoflfbcjlddjaaaDoor
