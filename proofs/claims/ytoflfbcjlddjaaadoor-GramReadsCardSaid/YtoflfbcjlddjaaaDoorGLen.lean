/-
  A slice of fields, of values: its length.
-/
import Derived.Test.YtoflfbcjlddjaaaDoorGOnlyM
import Derived.Test.YtoflfbcjlddjaaaDoorGFewNil
import Derived.Test.YtoflfbcjlddjaaaDoorGRuns
namespace Go.Proofs.YtoflfbcjlddjaaaDoor
open Go.RowKit
theorem slf_len {B : Nat} {w : World} {v : Value} {fs : List Fl} (h : SlF B w v fs) : ∃ a cap, v = .slice a fs.length cap := by
  rcases h with ⟨rfl, a, cap, h⟩ | ⟨b, o, cap, h, _⟩
  · exact ⟨a, cap, h⟩
  · exact ⟨_, cap, h⟩
theorem slv_len {B : Nat} {w : World} {v : Value} {xs : List Vl} (h : SlV B w v xs) : ∃ a cap, v = .slice a xs.length cap := by
  rcases h with ⟨rfl, a, cap, h⟩ | ⟨b, o, cap, h, _⟩
  · exact ⟨a, cap, h⟩
  · exact ⟨_, cap, h⟩
end Go.Proofs.YtoflfbcjlddjaaaDoor
