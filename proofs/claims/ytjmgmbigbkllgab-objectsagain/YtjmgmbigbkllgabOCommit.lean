
/-
  Commit, Abort.
-/
import Derived.Test.YtjmgmbigbkllgabOUnmark
namespace Go.Proofs.Ytjmgmbigbkllgab
open Go.ChangeShapes Go.WideShapes Go.ChangeAt Go.RowKit Go.Joins
set_option maxRecDepth 10000
set_option linter.unusedVariables false
set_option linter.unusedSimpArgs false

end Go.Proofs.Ytjmgmbigbkllgab
