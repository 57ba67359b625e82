
/-
  The document's Bytes: what it returns; nothing that was there turns.
-/
import Derived.Test.YtnjicfnigfkppabWLines
namespace Go.Proofs.Ytnjicfnigfkppab
open Go.ChangeShapes Go.WideShapes Go.ChangeAt Go.RowKit Go.Joins
set_option maxRecDepth 10000
set_option linter.unusedVariables false

end Go.Proofs.Ytnjicfnigfkppab
