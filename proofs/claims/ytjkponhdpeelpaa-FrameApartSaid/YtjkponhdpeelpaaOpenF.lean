/-
  An argument that is a frame, opened.
-/
import Derived.Test.YtjkponhdpeelpaaHKit
import Derived.Test.YtjkponhdpeelpaaPlain
import Derived.Lib.SmallJoins
import Derived.WideKeyArr2
namespace Go.Proofs.Ytjkponhdpeelpaa
open Go.RowKit Go.ChangeShapes Go.WideShapes Go.Lib Hf
section
variable {H : Type} {enc : TypeId × Value → H} {w : World} {base : Nat} {sp : Nat → Bool} {held : Bool}
theorem mapM_u8 {m : Nat} {D : List Value} : ∀ (L : List Nat) (xs : List (DataW H × List MemPlace)), L.mapM (fun i => DataW.trod enc Try.prog w base sp held m 5 ((D.drop (i * 1)).take 1)) = some xs →
    ∀ i ∈ L, ∃ b : UInt8, (D.drop i).take 1 = [.int .u8 (b.toNat : Int)]
  | [], _, _, i, hi => by simp at hi
  | j :: L, xs, h, i, hi => by
    rw [List.mapM_cons] at h
    simp only [bind, Option.bind_eq_some_iff, pure, Option.some.injEq] at h
    obtain ⟨y, hy, ys, hys, rfl⟩ := h
    rcases List.mem_cons.1 hi with rfl | hi
    · obtain ⟨a, ea, -, wa⟩ := DataW.trod_int Try.underlying5 hy
      have h1 := byte_range wa
      refine ⟨UInt8.ofNat a.toNat, ?_⟩
      rw [Nat.mul_one] at ea
      rw [ea, Crc.ofNat_toNat, show ((a.toNat % 256 : Nat) : Int) = a by omega]
    · exact mapM_u8 L ys hys i hi
theorem all_bytes {D : List Value} (h : ∀ i, i < D.length → ∃ b : UInt8, (D.drop i).take 1 = [.int .u8 (b.toNat : Int)]) : ∃ d : List UInt8, D = bytesV d := by
  induction D with
  | nil => exact ⟨[], rfl⟩
  | cons v D ih =>
    obtain ⟨d, rfl⟩ := ih fun i hi => h (i + 1) (by simp; omega)
    obtain ⟨b, hb⟩ := h 0 (by simp)
    simp only [List.drop_zero, List.take_succ_cons, List.take_zero, List.cons.injEq, and_true] at hb
    exact ⟨b :: d, by rw [hb]; rfl⟩
theorem open_frame {r : Reach} {b0 : Nat} {v : Value} {d : DataW H} {p : List MemPlace} (hv : Value.okWide Try.prog w r b0 24 v) (h : DataW.Trod enc Try.prog w base sp held 24 v d p) : ∃ f : Fr, v = .agg (frA f) ∧ f.is := by
  obtain ⟨cs, rfl, hsz⟩ := okWide_struct Try.underlying24 hv
  obtain ⟨fuel, hf⟩ := h
  obtain ⟨xs, n, _, hx, hl, hlen, hf⟩ := DataW.trod_struct Try.underlying24 hf
  simp only [Value.cells] at hf hl
  have hC : Try.prog.cellsOf 24 = 112 := by kernel_rfl
  have hCi : Try.prog.cellsOf 3 = 1 := by kernel_rfl
  have hCd : Try.prog.cellsOf 22 = 108 := by kernel_rfl
  have hlen' : xs.length = 5 := hlen
  rw [hC] at hl
  obtain ⟨L⟩ := cs
  simp only at hl hf
  have cell : ∀ i, i < 112 → ∀ y, DataW.trod enc Try.prog w base sp held n 3 ((L.drop i).take (Try.prog.cellsOf 3)) = some y → ∃ a : Int, L[i]? = some (.int .i64 a) := by
    intro i hi y hy
    obtain ⟨a, ea, -, -⟩ := DataW.trod_int Try.underlying3 hy
    rw [hCi] at ea
    refine ⟨a, ?_⟩
    have := congrArg (fun l => l[0]?) ea
    simpa using this
  obtain ⟨k, h0⟩ := cell 0 (by omega) _ ((hf 0 _ rfl).trans (List.getElem?_eq_getElem (by omega)))
  obtain ⟨s, h1⟩ := cell 1 (by omega) _ ((hf 1 _ rfl).trans (List.getElem?_eq_getElem (by omega)))
  obtain ⟨t, h2⟩ := cell 2 (by omega) _ ((hf 2 _ rfl).trans (List.getElem?_eq_getElem (by omega)))
  obtain ⟨g, h3⟩ := cell 3 (by omega) _ ((hf 3 _ rfl).trans (List.getElem?_eq_getElem (by omega)))
  have h4 := (hf 4 _ rfl).trans (List.getElem?_eq_getElem (by omega))
  change DataW.trod enc Try.prog w base sp held n 22 ((L.drop 4).take (Try.prog.cellsOf 22)) = _ at h4
  rw [hCd] at h4
  have hD : (L.drop 4).take 108 = L.drop 4 := List.take_of_length_le (by rw [List.length_drop]; omega)
  rw [hD] at h4
  obtain ⟨dd, hdd⟩ : ∃ d : List UInt8, L.drop 4 = bytesV d := by
    have hDl : (L.drop 4).length = 108 := by rw [List.length_drop]; omega
    generalize L.drop 4 = D at *
    cases n with
    | zero => simp [DataW.trod] at h4
    | succ m =>
      rw [DataW.trod_step] at h4
      unfold DataW.trodStep at h4
      simp only [Try.underlying22] at h4
      rw [if_pos (by rw [hCd]; exact hDl)] at h4
      simp only [Option.map_eq_some_iff] at h4
      obtain ⟨ys, hy, -⟩ := h4
      rw [cells_u8] at hy
      have hm := mapM_u8 _ _ hy
      exact all_bytes fun i hi => hm i (List.mem_range.2 (by omega))
  refine ⟨⟨k, s, t, g, dd⟩, ?_, ?_⟩
  · have e : L = frC ⟨k, s, t, g, dd⟩ := by
      match L, h0, h1, h2, h3, hdd with
      | a0 :: a1 :: a2 :: a3 :: R, h0, h1, h2, h3, hdd =>
        simp only [List.getElem?_cons_zero, List.getElem?_cons_succ, Option.some.injEq] at h0 h1 h2 h3
        subst h0 h1 h2 h3
        simp only [List.drop_succ_cons, List.drop_zero] at hdd
        rw [hdd]; rfl
      | [], h0, _, _, _, _ => simp at h0
      | [_], _, h1, _, _, _ => simp at h1
      | [_, _], _, _, h2, _, _ => simp at h2
      | [_, _, _], _, _, _, h3, _ => simp at h3
    rw [e]
  · show dd.length = 108
    rw [← bytesV_length, ← hdd, List.length_drop]; omega
end
end Go.Proofs.Ytjkponhdpeelpaa
