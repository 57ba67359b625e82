
/-
  What the statements' arguments are: rows of calls (steadfastlaw04.Op: two numbers each); a row of bools that a call makes.
-/
import Derived.Test.YtjmgmbigbkllgaaFHas
import Derived.Deep.Slices
import Derived.OwnWalk
namespace Go.Proofs.Ytjmgmbigbkllgaa
open Go.ChangeShapes Go.WideShapes Go.ChangeAt Go.RowKit Go.Joins Go.Deep
set_option maxRecDepth 10000
set_option linter.unusedVariables false

theorem FKeeps.cellOf {F : Nat → Prop} {w w' : World} (h : Keeps F w w') {b o : Nat} {v : Value} (hc : w.cell? ⟨b, o, none⟩ = some v) (hF : ¬ F b) : w'.cell? ⟨b, o, none⟩ = some v := by
  have hb : b < w.heap.size := World.block_lt_of_cell? w _ hc
  rw [World.cell?_of_block (w := w) (h.block b hb hF)]; exact hc

structure FOp where
  kind : Int
  line : Int
instance : Inhabited FOp := ⟨⟨0, 0⟩⟩
def FOp.cells (p : FOp) : List Value := [.int .i64 p.kind, .int .i64 p.line]
def FOpAt (W : World) (b o : Nat) (p : FOp) : Prop := W.cell? ⟨b, o, none⟩ = some (.int .i64 p.kind) ∧ W.cell? ⟨b, o + 1, none⟩ = some (.int .i64 p.line) ∧ FIn64 p.kind ∧ FIn64 p.line
def FOpsAt (W : World) (a : Option Addr) (n cap : Nat) (o : Nat → FOp) : Prop := n ≤ 9223372036854775807 ∧ (n = 0 ∨ ∃ b off, a = some ⟨b, off, none⟩ ∧ ∀ i, i < n → FOpAt W b (off + i * 2) (o i))


theorem fmade_blk {w : World} {base g n : Nat} {e : TypeId} {z : Value} (h1 : z.cells = #[z]) (h : w.ownsRow base e 1 (.slice (some ⟨g, 0, none⟩) n n) n (madeCells z.cells (n * 1)).toList) :
    Blk w g n e (fun _ => z) := by
  rcases h.2 with ⟨h', _⟩ | ⟨g', cap, cur, h', _, hg, _, _, hcs, htake⟩
  · simp at h'
  · simp only [Value.slice.injEq, Option.some.injEq, Addr.mk.injEq, and_true, true_and] at h'
    obtain ⟨rfl, rfl⟩ := h'
    rw [Nat.mul_one] at htake hcs
    have hcur : cur = tab n (fun _ => z) := by
      rw [List.take_of_length_le (by simp [hcs])] at htake
      have h2 : cur = madeCells z.cells n := by rw [← Array.toArray_toList (xs := cur), htake, Array.toArray_toList]
      rw [h2]
      apply Array.ext_getElem?
      intro i
      by_cases hi : i < n
      · rw [tab_get _ _ _ hi]
        simp only [madeCells, Array.getElem?_map, Array.getElem?_range, hi]
        simp [h1, Nat.mod_one]
      · rw [tab_none _ _ _ (by omega), Array.getElem?_eq_none (by rw [size_madeCells]; omega)]
    refine Blk.of_tab ?_
    rw [← hcur]; exact hg

end Go.Proofs.Ytjmgmbigbkllgaa
