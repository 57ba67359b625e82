
/-
  Both memories side by side, as the company of the program's store.
-/
import Derived.Test.YtinhnnnehhlceaaGreatPkSto
import Derived.Test.YtinhnnnehhlceaaGreatPkNt
namespace Go.Proofs.YtinhnnnehhlceaaGreat
open Go.ChangeShapes Go.WideShapes Go.ChangeAt Go.RowKit Go.Joins
set_option linter.unusedVariables false

theorem Two.memL (W : World) (m z : Nat) (A' : Mm) : MemL W m (fun A w G => Two W w G m z A A') where
  stay := fun A => Two.stay W m z A A'
  store := fun w G A h hok l q v => (h.storeL hok l q v).mono fun e w' ha => ha
  lines := fun w G A h => h.has.linesO
  load := fun w G A h hn l => (h.loadL hn l).mono fun e w' ha => ha

end Go.Proofs.YtinhnnnehhlceaaGreat
