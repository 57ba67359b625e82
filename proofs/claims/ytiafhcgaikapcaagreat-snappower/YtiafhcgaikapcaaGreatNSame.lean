
/-
  What Sure tells beside blocks of the call's own; and the statements' same, on rows that are the same.
-/
import Derived.Test.YtiafhcgaikapcaaGreatPkNvm
namespace Go.Proofs.YtiafhcgaikapcaaGreat
open Go.ChangeShapes Go.WideShapes Go.ChangeAt Go.RowKit Go.Joins
set_option maxRecDepth 10000
set_option linter.unusedVariables false
set_option linter.unusedSimpArgs false

/-- A row of lines of the call's own. -/
def RowL (w : World) (g n : Nat) (s : Nat → Nat → Int) : Prop := Blk w g (n * 8) 83 (fun i => .int .u64 (s (i / 8) (i % 8)))
theorem RowL.at {w : World} {g n : Nat} {s : Nat → Nat → Int} (h : RowL w g n s) (i : Nat) (hi : i < n) : w.rangeAt g (i * 8) (lnV (s i)).toList :=
  Blk.range h (i * 8) 8 (by omega) (fun j => .int .u64 (s i j)) fun j hj => by
    show Value.int .u64 (s ((i * 8 + j) / 8) ((i * 8 + j) % 8)) = _
    rw [show (i * 8 + j) / 8 = i by omega, show (i * 8 + j) % 8 = j by omega]
theorem RowL.lines {w : World} {g n : Nat} {s : Nat → Nat → Int} (h : RowL w g n s) : LinesAt w (some ⟨g, 0, none⟩) n s := Or.inr ⟨g, 0, rfl, fun i hi => by rw [Nat.zero_add]; exact h.at i hi⟩
theorem RowL.same {w w' : World} {g n : Nat} {s : Nat → Nat → Int} (h : RowL w g n s) (e : w'.heap[g]? = w.heap[g]?) : RowL w' g n s := by obtain ⟨cur, h1, h2⟩ := h; exact ⟨cur, e.trans h1, h2⟩

theorem Has.sure {W w : World} {G : Nat → Prop} {b : Nat} {A : Mm} (h : Has W w G b A) (hn : A.n ≤ 1024) :
    Calls Tryz.prog 40 #[.pointer (some ⟨b, 0, none⟩)] w fun e w' => ∃ g, e = .returned (.slice (some ⟨g, 0, none⟩) A.n A.n) ∧ RowL w' g A.n (fun i => (A.l i).s) ∧ Has W w' (fun k => G k ∨ k = g) b A ∧ Same G w w' ∧ W.heap.size ≤ g := by
  obtain ⟨F, c, cs, h1, h2, h3, h4⟩ := h
  refine (sure_any h1 hn).mono ?_
  rintro e w' ⟨g, rfl, hg, hb, hr, hk⟩
  refine ⟨g, rfl, hb, ⟨F, c, cs, hr, h2.trans' hk, h3, fun k hk' => ?_⟩, fun k hk' => hk.block k (h4 k hk').2 id, Nat.le_trans h2.size hg⟩
  rcases hk' with hk' | rfl
  · exact ⟨(h4 k hk').1, Nat.lt_of_lt_of_le (h4 k hk').2 hk.size⟩
  · exact ⟨fun hf => by have := h1.lt _ hf; omega, hb.lt⟩

end Go.Proofs.YtiafhcgaikapcaaGreat
