/-
  The laws' arguments, opened: a slice of Steps; a Loss by value.
-/
import Derived.Test.YtnehangdkjalbaaDoorNone
import Derived.Deep.SlicePairs
import Derived.Lib.SmallJoins
import Derived.OpenShut
namespace Go.Proofs.YtnehangdkjalbaaDoor
open Go.ChangeShapes Go.WideShapes Go.RowKit Go.Deep

theorem Tryd.cells40 : Tryd.prog.cellsOf 40 = 2 := by kernel_rfl
theorem Tryd.cells9 : Tryd.prog.cellsOf 9 = 1 := by kernel_rfl
theorem Tryd.cells3 : Tryd.prog.cellsOf 3 = 1 := by kernel_rfl

/-- An argument of type []Step: it has no element, or its elements lie in a row. -/
theorem open_steps {H : Type} {enc : TypeId × Value → H} {W : World} {v : Value} {d : DataW H} {p : List MemPlace} (hv : Value.okWide Tryd.prog W .any 0 38 v) (h : DataW.Trod enc Tryd.prog W 0 (fun _ => true) true 38 v d p) :
    (∃ a cap, v = .slice a 0 cap) ∨ ∃ b o cap l, v = .slice (some ⟨b, o, none⟩) l.length cap ∧ 0 < l.length ∧ l.length ≤ maxLen ∧ b < W.heap.size ∧ Steps W b o l := by
  obtain ⟨a0, len, cap, rfl⟩ := okWide_slice Tryd.underlying38 hv
  obtain ⟨fuel, hf⟩ := h
  rcases open_slice_pairs Tryd.underlying38 Tryd.underlying40 Tryd.cells40 rfl rfl Tryd.cells9 Tryd.cells3 hf with ⟨hc, _⟩ | ⟨a, len', cap', m, k, V0, V1, D0, D1, P0, P1, hc, _, hl, hm, hmm, hx, hall⟩
  · simp only [Value.cells] at hc
    left
    simp at hc
    obtain ⟨rfl, rfl, rfl⟩ := hc
    exact ⟨none, 0, rfl⟩
  · simp only [Value.cells] at hc
    simp at hc
    obtain ⟨rfl, rfl, rfl⟩ := hc
    by_cases h0 : len = 0
    · subst h0; exact Or.inl ⟨_, _, rfl⟩
    right
    simp only [if_true] at hmm
    subst hmm
    have hstr : ∀ i, i < len → ∃ s : ByteArray, V0 i = .string s := fun i hi => by
      obtain ⟨s, h1, _⟩ := DataW.trod_string Tryd.underlying9 (hall i (by omega)).2.2.1
      exact ⟨s, by simpa using h1⟩
    have hint : ∀ i, i < len → ∃ n : Int, V1 i = .int .i64 n := fun i hi => by
      obtain ⟨n, h1, _⟩ := DataW.trod_int Tryd.underlying3 (hall i (by omega)).2.2.2
      exact ⟨n, by simpa using h1⟩
    have hsp : a.spot = none := World.cell?_spot (by simpa [Addr.add] using (hall 0 (by omega)).1)
    obtain ⟨b, o, sp⟩ := a
    simp only at hsp
    subst hsp
    refine ⟨b, o, _, (List.range len).map fun i => (match V0 i with | .string s => s | _ => ⟨#[]⟩, match V1 i with | .int _ n => n | _ => 0), by simp; rfl, by simp; omega, by simp; omega, ?_, ?_⟩
    · have := (hall 0 (by omega)).1
      rcases Nat.lt_or_ge b W.heap.size with h | h
      · exact h
      · simp [World.cell?, Addr.add, Array.getElem?_eq_none h] at this
    · intro x hx
      have hx' : x < len := by simpa using hx
      obtain ⟨s, hs⟩ := hstr x hx'
      obtain ⟨m, hm'⟩ := hint x hx'
      have h1 := (hall x (by omega)).1
      have h2 := (hall x (by omega)).2.1
      rw [hs] at h1
      rw [hm'] at h2
      simp only [List.getD, List.getElem?_map, List.getElem?_range hx', Option.map_some, Option.getD_some, hs, hm']
      refine ⟨?_, by simpa [Addr.add, Nat.add_assoc] using h2⟩
      by_cases h0 : x = 0
      · subst h0; simpa [Addr.add] using h1
      · simpa [Addr.add, show ¬ (x * 2 = 0) from by omega] using h1
end Go.Proofs.YtnehangdkjalbaaDoor
