
/-
  Blocks of a call's own, kept track of through its calls: nothing that was there turns, and these blocks hold what they held. Over any program.
-/
import Derived.Test.YtiafhcgaikapcaaGreatRows2
namespace Go.Proofs.YtiafhcgaikapcaaGreat
open Go.ChangeShapes Go.WideShapes Go.ChangeAt Go.RowKit Go.Joins

def Own (W w : World) (L : List (Nat × Obj)) : Prop := Below W.heap.size W w ∧ ∀ p ∈ L, w.heap[p.1]? = some p.2
theorem Own.start (W : World) : Own W W [] := ⟨Below.refl _ _, by simp⟩
theorem Own.below {W w : World} {L : List (Nat × Obj)} (h : Own W w L) : Below W.heap.size W w := h.1
theorem Own.at {W w : World} {L : List (Nat × Obj)} (h : Own W w L) (g : Nat) (o : Obj) (hm : (g, o) ∈ L) : w.heap[g]? = some o := h.2 _ hm
theorem Own.lt {W w : World} {L : List (Nat × Obj)} (h : Own W w L) : ∀ p ∈ L, p.1 < w.heap.size := fun p hp => by
  rcases Nat.lt_or_ge p.1 w.heap.size with h' | h'
  · exact h'
  · have := h.2 p hp; rw [Array.getElem?_eq_none h'] at this; simp at this
theorem Own.call {W w w' : World} {L : List (Nat × Obj)} (h : Own W w L) (hb : Below w.heap.size w w') : Own W w' L :=
  ⟨h.1.trans (hb.mono h.1.size), fun p hp => (hb.block p.1 (h.lt p hp)).trans (h.2 p hp)⟩
theorem Own.alloc {W w : World} {L : List (Nat × Obj)} (h : Own W w L) (o : Obj) : Own W (w.alloc o) ((w.heap.size, o) :: L) :=
  ⟨h.1.alloc h.1.size o, fun p hp => by
    rcases List.mem_cons.1 hp with rfl | hp
    · exact heap_new w o
    · exact (Below.heap_alloc w o p.1 (h.lt p hp)).trans (h.2 p hp)⟩
theorem Own.less {W w : World} {L L' : List (Nat × Obj)} (h : Own W w L) (hs : ∀ p ∈ L', p ∈ L) : Own W w L' := ⟨h.1, fun p hp => h.2 p (hs p hp)⟩
theorem Own.drew {W w : World} {L : List (Nat × Obj)} (h : Own W w L) : Own W w.drew L := ⟨h.1.drew, h.2⟩
/-- A block of its own is written, the others stay. -/
theorem Own.row {W w : World} {L : List (Nat × Obj)} (h : Own W w L) (g : Nat) (cs : Array Value) (t : TypeId) (fr : Nat × Nat) (ds : Array Value) (hg : w.heap[g]? = some (.cells ds t fr)) (hW : W.heap.size ≤ g) : Own W (w.setRow g cs) ((g, .cells cs t fr) :: L.filter fun p => p.1 != g) :=
  ⟨below_row h.1 hW cs, fun p hp => by
    rcases List.mem_cons.1 hp with rfl | hp
    · exact setRow_heap _ _ _ _ _ _ hg
    · rw [List.mem_filter] at hp
      rw [setRow_other _ _ _ _ (by simpa using hp.2)]
      exact h.2 p hp.1⟩

end Go.Proofs.YtiafhcgaikapcaaGreat
