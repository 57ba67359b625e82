
/-
  What Sure tells beside blocks of the call's own; and the statements' same, on rows that are the same.
-/
import Derived.Test.YtinhnnnehhlceaaPkNvm
namespace Go.Proofs.Ytinhnnnehhlceaa
open Go.ChangeShapes Go.WideShapes Go.ChangeAt Go.RowKit Go.Joins
set_option maxRecDepth 10000
set_option linter.unusedVariables false
set_option linter.unusedSimpArgs false


end Go.Proofs.Ytinhnnnehhlceaa
