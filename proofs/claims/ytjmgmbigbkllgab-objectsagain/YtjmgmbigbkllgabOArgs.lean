
/-
  What the statements' arguments are: rows of numbers; rows of calls (steadfastlaw10.Op: three numbers and a word each).
-/
import Derived.Test.YtjmgmbigbkllgabPkNvm
import Derived.Deep.Slices
namespace Go.Proofs.Ytjmgmbigbkllgab
open Go.ChangeShapes Go.WideShapes Go.ChangeAt Go.RowKit Go.Joins Go.Deep
set_option maxRecDepth 10000
set_option linter.unusedVariables false

theorem open_i64sO {H : Type} {enc : TypeId × Value → H} {W : World} {r : Reach} {b0 : Nat} {v : Value} {d : DataW H} {p : List MemPlace} (hv : Value.okWide Try.prog W r b0 36 v)
    (h : DataW.Trod enc Try.prog W 0 (fun _ => true) true 36 v d p) : ∃ (a : Option Addr) (zs : List Int) (n cap : Nat), v = .slice a n cap ∧ IsRow W .i64 a zs n cap := by
  obtain ⟨a, len, cap, rfl⟩ := okWide_slice Try.underlying36 hv
  obtain ⟨fuel, hf⟩ := h
  exact row_of_trod Try.underlying36 Try.underlying3 (by kernel_rfl) hf

/-! ### Calls -/
structure OOp where
  kind : Int
  id : Int
  word : Int
  v : Int
instance : Inhabited OOp := ⟨⟨0, 0, 0, 0⟩⟩
def OOp.cells (p : OOp) : List Value := [.int .i64 p.kind, .int .i64 p.id, .int .i64 p.word, .int .u64 p.v]
def OOp.fits (p : OOp) : Prop := In64 p.kind ∧ In64 p.id ∧ In64 p.word ∧ InU p.v
def OOpAt (W : World) (b o : Nat) (p : OOp) : Prop := W.rangeAt b o p.cells ∧ p.fits
def OOpsAt (W : World) (a : Option Addr) (n cap : Nat) (o : Nat → OOp) : Prop := n ≤ 9223372036854775807 ∧ (n = 0 ∨ ∃ b off, a = some ⟨b, off, none⟩ ∧ ∀ i, i < n → OOpAt W b (off + i * 4) (o i))

end Go.Proofs.Ytjmgmbigbkllgab
