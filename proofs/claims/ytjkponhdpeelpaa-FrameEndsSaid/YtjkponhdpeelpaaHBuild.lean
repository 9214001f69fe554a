/-
  A frame put together of its fields.
-/
import Derived.Test.YtjkponhdpeelpaaHIn
import Derived.Laws.Tables
namespace Go.Proofs.Ytjkponhdpeelpaa
open Go.RowKit Crc Hf
theorem fold_size : ∀ (l : List Value) (off j : Nat) (cs : Array Value), ((l.zipIdx j).foldl (fun cs (q : Value × Nat) => cs.setIfInBounds (off + q.2) q.1) cs).size = cs.size
  | [], _, _, _ => rfl
  | v :: l, off, j, cs => by
    simp only [List.zipIdx_cons, List.foldl_cons]
    rw [fold_size l off (j + 1)]; simp
theorem fold_get : ∀ (l : List Value) (off j i : Nat) (cs : Array Value), off + j + l.length ≤ cs.size →
    ((l.zipIdx j).foldl (fun cs (q : Value × Nat) => cs.setIfInBounds (off + q.2) q.1) cs)[i]? = if off + j ≤ i ∧ i < off + j + l.length then l[i - (off + j)]? else cs[i]?
  | [], off, j, i, cs, _ => by rw [if_neg (by simp)]; rfl
  | v :: l, off, j, i, cs, h => by
    simp only [List.length_cons] at h
    simp only [List.zipIdx_cons, List.foldl_cons, List.length_cons]
    rw [fold_get l off (j + 1) i _ (by simp; omega), Array.getElem?_setIfInBounds]
    by_cases h1 : i = off + j
    · subst h1
      rw [if_neg (by omega), if_pos rfl, if_pos (by omega), if_pos (by omega), Nat.sub_self]
      rfl
    · by_cases h2 : off + (j + 1) ≤ i ∧ i < off + (j + 1) + l.length
      · rw [if_pos h2, if_pos (by omega), show i - (off + j) = (i - (off + (j + 1))) + 1 by omega]
        rfl
      · rw [if_neg h2, if_neg (by omega), if_neg (by omega)]
def places : Array (Nat × Nat) := #[(0, 1), (1, 1), (2, 1), (3, 1), (4, 108)]
theorem built_eq (parts : List (Nat × Value)) : Try.prog.built 24 parts = Instr.fill (places[·]?) (frA zeroF) parts := by kernel_rfl
theorem fill_one (i off : Nat) (v : Value) (cs : Array Value) (rest : List (Nat × Value)) (hp : places[i]? = some (off, 1)) (hv : v.cells = #[v]) (hc : off < cs.size) :
    Instr.fill (places[·]?) cs ((i, v) :: rest) = Instr.fill (places[·]?) (cs.setIfInBounds off v) rest := by
  have : ¬ (off + 1 > cs.size) := by omega
  simp [Instr.fill, hp, hv, this]
theorem fill_data (l : List Value) (cs : Array Value) (hl : l.length = 108) (hc : cs.size = 112) :
    Instr.fill (places[·]?) cs [(4, .agg l.toArray)] = some ((l.zipIdx 0).foldl (fun cs (q : Value × Nat) => cs.setIfInBounds (4 + q.2) q.1) cs) := by
  have hp : places[4]? = some (4, 108) := rfl
  simp only [Instr.fill, hp, Value.cells, List.size_toArray, hl, hc]
  simp
theorem run_build_frame (k s t g : Int) (d : List UInt8) (hd : d.length = 108) (w : World) :
    (Instr.build 24 #[(0, .int .i64 k), (1, .int .i64 s), (2, .int .i64 t), (3, .int .i64 g), (4, .agg (bytesV d).toArray)]).run Try.prog w = .ok (.agg (frA ⟨k, s, t, g, d⟩)) w := by
  refine run_build w _ _ _ ?_
  have hz : (frC zeroF).length = 112 := frC_length zeroF_is
  have hl : (bytesV d).length = 108 := by rw [bytesV_length, hd]
  rw [built_eq, fill_one 0 0 _ _ _ rfl rfl (by simp; omega), fill_one 1 1 _ _ _ rfl rfl (by simp; omega), fill_one 2 2 _ _ _ rfl rfl (by simp; omega), fill_one 3 3 _ _ _ rfl rfl (by simp; omega), fill_data _ _ hl (by simp; omega)]
  congr 1
  apply Array.ext_getElem?
  intro i
  rw [fold_get _ _ _ _ _ (by simp; omega), hl]
  have e2 : (frA ⟨k, s, t, g, d⟩)[i]? = ([.int .i64 k, .int .i64 s, .int .i64 t, .int .i64 g] ++ bytesV d)[i]? := by simp [frC]
  rw [e2]
  by_cases h : 4 ≤ i
  · rw [List.getElem?_append_right (by simpa using h)]
    by_cases h2 : i < 112
    · rw [if_pos (by omega)]; rfl
    · rw [if_neg (by omega), Array.getElem?_eq_none (by simp; omega), List.getElem?_eq_none (by simp; omega)]
  · rw [if_neg (by omega), List.getElem?_append_left (by simp; omega)]
    have h4 : i = 0 ∨ i = 1 ∨ i = 2 ∨ i = 3 := by omega
    rcases h4 with rfl | rfl | rfl | rfl <;> simp [hz]
theorem run_build_zero (w : World) : (Instr.build 24 #[]).run Try.prog w = .ok (.agg (frA zeroF)) w := by
  refine run_build w _ _ _ ?_
  rw [built_eq]; rfl
theorem slice_data (a : Addr) (cap : Nat) (W : World) : (Instr.arrayAt 22 (.slice (some a) 108 cap)).run Try.prog W = .ok (.pointer (some a)) W := by
  simp [Instr.arrayAt, run_underlying Try.underlying22]
end Go.Proofs.Ytjkponhdpeelpaa
