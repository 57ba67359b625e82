
/-
  What Store, Flush and Fence do: a step that is done, or the power is off.
-/
import Derived.Test.YtnjicfnigfkppabNFence
namespace Go.Proofs.Ytnjicfnigfkppab
open Go.ChangeShapes Go.WideShapes Go.ChangeAt Go.RowKit Go.Joins
set_option linter.unusedVariables false
set_option linter.unusedSimpArgs false

theorem may_iff (A : Mm) : A.may = true ↔ A.on = true ∧ A.fuse ≠ 0 := by simp [Mm.may]

/-! ### Store, Flush, Fence -/
theorem cell_box (w : World) (v : Value) (t : TypeId) (n : Nat) (hn : n = w.heap.size) : (w.alloc (.cells #[v] t)).cell? ⟨n, 0, none⟩ = some v := by subst hn; rw [cell_of_block (heap_new w _)]; rfl
theorem cell_under {w : World} {b o : Nat} {v : Value} (h : w.cell? ⟨b, o, none⟩ = some v) (ob : Obj) : (w.alloc ob).cell? ⟨b, o, none⟩ = some v :=
  (World.cell?_alloc_some w _ _ (by rw [h]; rfl)).trans h
theorem Rep.fresh {w : World} {F : Nat → Prop} {b c : Nat} {A : Mm} {cs : Nat → Cel} (h : Rep w F b A c cs) (j : Nat) : ¬ F (w.heap.size + j) := fun hf => by have := h.lt _ hf; omega

end Go.Proofs.Ytnjicfnigfkppab
