/-
  An argument that is a configuration, opened.
-/
import Derived.Test.YtfhnkjlegehaoaaGreatDoorSBase
import Derived.Test.YtfhnkjlegehaoaaGreatDoorBase
import Derived.Lib.SmallJoins
namespace Go.Proofs.YtfhnkjlegehaoaaGreatDoor
open Go.RowKit Go.ChangeShapes Go.WideShapes Go.Lib Hf
section
variable {H : Type} {enc : TypeId × Value → H} {w : World} {base : Nat} {sp : Nat → Bool} {held : Bool}
set_option maxRecDepth 100000 in
theorem open_conf {r : Reach} {b0 : Nat} {v : Value} {d : DataW H} {p : List MemPlace} (hv : Value.okWide Tryz.prog w r b0 23 v) (h : DataW.Trod enc Tryz.prog w base sp held 23 v d p) : ∃ c : Cf, v = .agg (cfA c) := by
  obtain ⟨cs, rfl, hsz⟩ := okWide_struct Tryz.underlying23 hv
  obtain ⟨fuel, hf⟩ := h
  obtain ⟨xs, n, _, hx, hl, hlen, hf⟩ := DataW.trod_struct Tryz.underlying23 hf
  simp only [Value.cells] at hf hl
  have hC : Tryz.prog.cellsOf 23 = 5 := by kernel_rfl
  have hCi : Tryz.prog.cellsOf 3 = 1 := by kernel_rfl
  have hlen' : xs.length = 5 := hlen
  rw [hC] at hl
  obtain ⟨L⟩ := cs
  simp only at hl hf
  have cell : ∀ i, i < 5 → ∀ y, DataW.trod enc Tryz.prog w base sp held n 3 ((L.drop i).take (Tryz.prog.cellsOf 3)) = some y → ∃ a : Int, L[i]? = some (.int .i64 a) := by
    intro i hi y hy
    obtain ⟨a, ea, -, -⟩ := DataW.trod_int Tryz.underlying3 hy
    rw [hCi] at ea
    refine ⟨a, ?_⟩
    have := congrArg (fun l => l[0]?) ea
    simpa using this
  obtain ⟨a, h0⟩ := cell 0 (by omega) _ ((hf 0 _ rfl).trans (List.getElem?_eq_getElem (by omega)))
  obtain ⟨k, h1⟩ := cell 1 (by omega) _ ((hf 1 _ rfl).trans (List.getElem?_eq_getElem (by omega)))
  obtain ⟨m, h2⟩ := cell 2 (by omega) _ ((hf 2 _ rfl).trans (List.getElem?_eq_getElem (by omega)))
  obtain ⟨t, h3⟩ := cell 3 (by omega) _ ((hf 3 _ rfl).trans (List.getElem?_eq_getElem (by omega)))
  obtain ⟨s, h4⟩ := cell 4 (by omega) _ ((hf 4 _ rfl).trans (List.getElem?_eq_getElem (by omega)))
  refine ⟨⟨a, k, m, t, s⟩, ?_⟩
  match L, hl, h0, h1, h2, h3, h4 with
  | [a0, a1, a2, a3, a4], _, h0, h1, h2, h3, h4 =>
    simp only [List.getElem?_cons_zero, List.getElem?_cons_succ, Option.some.injEq] at h0 h1 h2 h3 h4
    subst h0 h1 h2 h3 h4
    rfl
end
end Go.Proofs.YtfhnkjlegehaoaaGreatDoor
