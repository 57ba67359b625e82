
/-
  word.OfBytes: what it returns; nothing that was there turns.
-/
import Derived.Test.YtnjicfnigfkppabWLines
namespace Go.Proofs.Ytnjicfnigfkppab
open Go.ChangeShapes Go.WideShapes Go.ChangeAt Go.RowKit Go.Joins
set_option maxRecDepth 10000
set_option linter.unusedVariables false

theorem wfs_u8 {zs : List Int} (hw : ∀ z ∈ zs, (Lit.int .u8 z).wf = true) (j : Nat) : 0 ≤ zs.getD j 0 ∧ zs.getD j 0 ≤ 255 := by
  have := range_u8 hw j
  simpa using this
theorem size8 : (Try.prog.info? 32).map (·.size) = some 8 := by kernel_rfl

end Go.Proofs.Ytnjicfnigfkppab
