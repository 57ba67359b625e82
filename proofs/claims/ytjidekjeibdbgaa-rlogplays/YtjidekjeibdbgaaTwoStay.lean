
/-
  Two memories side by side, the program's and the document's, beside blocks of the call's own; the document's Store and Load.
-/
import Derived.Test.YtjidekjeibdbgaaHeld
import Derived.Test.YtjidekjeibdbgaaNTwo
namespace Go.Proofs.Ytjidekjeibdbgaa
open Go.ChangeShapes Go.WideShapes Go.ChangeAt Go.RowKit Go.Joins
set_option maxRecDepth 10000
set_option linter.unusedVariables false
set_option linter.unusedSimpArgs false

theorem Two.stay (W : World) (b y : Nat) (A A' : Mm) : Stay W (fun w G => Two W w G b y A A') where
  al := fun w G o h => h.alloc o
  ls := fun w G G' h hs => h.less hs
  bl := fun w w' G h hk => by
    obtain ⟨F', gs, cz, gl, ads, caps, hr, hh, hF, hG⟩ := h
    exact ⟨F', gs, cz, gl, ads, caps, hr.keeps hk fun _ _ => id, (Has.stay W b A).bl _ _ _ hh hk, hF, hG⟩
  ow := fun w w' G L h hL hW hk => h.own hL hW hk
  lt := fun w G h => h.lt
  sz := fun w G h => h.keeps

section
variable {W w : World} {G : Nat → Prop} {b y : Nat} {A A' : Mm}
theorem Two.rstore (h : Two W w G b y A A') (hok : A'.ok 1000) (z q v : Int) (k p : Nat) (ez : z = (k : Int)) (eq : q = (p : Int)) (hk : k < A'.n) (hp : p < 8) :
    Calls Try.prog 23 #[.pointer (some ⟨y, 0, none⟩), .int .i64 z, .int .i64 q, .int .u64 v] w (TwoAfter W w G b y A (A'.store k p v) (.int .i64 A'.err)) := by
  have h1 := h.storeR hok z q v
  have hz : A'.isZ z ∧ is8 q := by subst ez eq; exact ⟨⟨by omega, by omega⟩, by omega, by omega⟩
  rw [show A'.storeZ z q v = A'.store k p v by unfold Mm.storeZ; rw [if_pos hz, ez, eq]; simp, show A'.storeE z q = A'.err by unfold Mm.storeE; rw [if_pos hz]] at h1
  exact h1
theorem Two.rload_on (h : Two W w G b y A A') (hok : A'.ok 1000) (z : Int) (k : Nat) (ez : z = (k : Int)) (hk : k < A'.n) (hon : A'.on = true) :
    Calls Try.prog 51 #[.pointer (some ⟨y, 0, none⟩), .int .i64 z] w (TwoAfter W w G b y A A' (.tuple #[.agg (lnV (A'.l k).has), .int .i64 0])) := by
  have h1 := h.loadR hok z
  have hz : A'.isZ z := by subst ez; exact ⟨by omega, by omega⟩
  rw [show A'.hasZ z = (A'.l k).has by unfold Mm.hasZ; rw [if_pos ⟨hz, hon⟩, ez]; simp, show A'.loadE z = 0 by unfold Mm.loadE; rw [if_pos hz, if_pos hon]] at h1
  exact h1
theorem Two.rload_off (h : Two W w G b y A A') (hok : A'.ok 1000) (z : Int) (k : Nat) (ez : z = (k : Int)) (hk : k < A'.n) (hon : A'.on = false) :
    Calls Try.prog 51 #[.pointer (some ⟨y, 0, none⟩), .int .i64 z] w (TwoAfter W w G b y A A' (.tuple #[.agg (lnV fun _ => 0), .int .i64 4])) := by
  have h1 := h.loadR hok z
  have hz : A'.isZ z := by subst ez; exact ⟨by omega, by omega⟩
  have ho : ¬ A'.on = true := by simp [hon]
  rw [show A'.hasZ z = (fun _ => 0) by unfold Mm.hasZ; rw [if_neg (fun h => ho h.2)], show A'.loadE z = 4 by unfold Mm.loadE; rw [if_pos hz, if_neg ho]] at h1
  exact h1
end

end Go.Proofs.Ytjidekjeibdbgaa
