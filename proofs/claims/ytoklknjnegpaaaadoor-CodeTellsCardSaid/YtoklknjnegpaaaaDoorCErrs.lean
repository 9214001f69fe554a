/-
  code.New where there is no such code; words for errors.
-/
import Derived.Test.YtoklknjnegpaaaaDoorCNew
namespace Go.Proofs.YtoklknjnegpaaaaDoor
open Go.RowKit
def opNew : ByteArray := ⟨#[99, 111, 100, 101, 46, 78, 101, 119]⟩
def opEncode : ByteArray := ⟨#[99, 111, 100, 101, 46, 69, 110, 99, 111, 100, 101]⟩
def opDecode : ByteArray := ⟨#[99, 111, 100, 101, 46, 68, 101, 99, 111, 100, 101]⟩
def opRebuild : ByteArray := ⟨#[99, 111, 100, 101, 46, 82, 101, 98, 117, 105, 108, 100]⟩
def opDelta : ByteArray := ⟨#[99, 111, 100, 101, 46, 68, 101, 108, 116, 97]⟩
/-- A zero value, and an error. -/
def Err2 (z : Value) (op : ByteArray) (k at_ : Int) (w : World) (e : Ending) (w' : World) : Prop := e = .returned (.tuple #[z, wrapV op at_ (errV k)]) ∧ Below w.heap.size w w'
set_option maxHeartbeats 1000000 in
set_option maxRecDepth 100000 in
theorem new_no (k n : Int) (w : World) (h : ¬ (1 ≤ k ∧ k ≤ n ∧ n ≤ 8)) : Calls Tryd.prog 22 #[.int .i64 k, .int .i64 n] w (Err2 (.pointer none) opNew 1 0 w) := by
  unfold Err2 opNew wrapV errV
  by_cases h1 : k < 1
  · clear h
    go_enter Tryd.func22, Tryd.ntmps22
    go_wp2
    exact bodyPost_ret (v := .tuple #[.pointer none, wrapV opNew 0 (errV 1)]) (by simp [results, Tryd.results22, go_sem, wrapV, errV, opNew]) rfl ⟨rfl, Below.refl _ _⟩
  · by_cases h2 : n < k
    · clear h
      go_enter Tryd.func22, Tryd.ntmps22
      go_wp2
      exact bodyPost_ret (v := .tuple #[.pointer none, wrapV opNew 0 (errV 1)]) (by simp [results, Tryd.results22, go_sem, wrapV, errV, opNew]) rfl ⟨rfl, Below.refl _ _⟩
    · have h3 : 8 < n := by omega
      clear h
      go_enter Tryd.func22, Tryd.ntmps22
      go_wp2
      exact bodyPost_ret (v := .tuple #[.pointer none, wrapV opNew 0 (errV 1)]) (by simp [results, Tryd.results22, go_sem, wrapV, errV, opNew]) rfl ⟨rfl, Below.refl _ _⟩
end Go.Proofs.YtoklknjnegpaaaaDoor
