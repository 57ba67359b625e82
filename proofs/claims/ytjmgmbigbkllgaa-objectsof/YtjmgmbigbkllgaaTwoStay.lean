
/-
  Two memories side by side, the program's and the document's, beside blocks of the call's own; the document's Store and Load.
-/
import Derived.Test.YtjmgmbigbkllgaaHeld
import Derived.Test.YtjmgmbigbkllgaaNTwo
namespace Go.Proofs.Ytjmgmbigbkllgaa
open Go.ChangeShapes Go.WideShapes Go.ChangeAt Go.RowKit Go.Joins
set_option maxRecDepth 10000
set_option linter.unusedVariables false
set_option linter.unusedSimpArgs false

theorem Two.stay (W : World) (b y : Nat) (A A' : Mm) : Stay W (fun w G => Two W w G b y A A') where
  al := fun w G o h => h.alloc o
  ls := fun w G G' h hs => h.less hs
  bl := fun w w' G h hk => by
    obtain ⟨F', gs, cz, gl, ads, caps, hr, hh, hF, hG⟩ := h
    exact ⟨F', gs, cz, gl, ads, caps, hr.keeps hk fun _ _ => id, (Has.stay W b A).bl _ _ _ hh hk, hF, hG⟩
  ow := fun w w' G L h hL hW hk => h.own hL hW hk
  lt := fun w G h => h.lt
  sz := fun w G h => h.keeps

section
variable {W w : World} {G : Nat → Prop} {b y : Nat} {A A' : Mm}
end

end Go.Proofs.Ytjmgmbigbkllgaa
