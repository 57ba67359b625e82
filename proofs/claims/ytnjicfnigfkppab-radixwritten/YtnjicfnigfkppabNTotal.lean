
/-
  What nvm's calls do for whatever arguments; a call (Op) read into a variable.
-/
import Derived.Test.YtnjicfnigfkppabNArgs
namespace Go.Proofs.Ytnjicfnigfkppab
open Go.ChangeShapes Go.WideShapes Go.ChangeAt Go.RowKit Go.Joins
set_option maxRecDepth 10000
set_option linter.unusedVariables false

def Mm.isZ (A : Mm) (z : Int) : Prop := 0 ≤ z ∧ z < A.n
def is8 (y : Int) : Prop := 0 ≤ y ∧ y < 8
instance (A : Mm) (z : Int) : Decidable (A.isZ z) := by unfold Mm.isZ; infer_instance
instance (y : Int) : Decidable (is8 y) := by unfold is8; infer_instance
def Mm.storeE (A : Mm) (z y : Int) : Int := if A.isZ z ∧ is8 y then A.err else 1
def Mm.flushE (A : Mm) (y z : Int) : Int := if is8 y ∧ A.isZ z then A.err else 1
def Mm.fenceE (A : Mm) (y : Int) : Int := if is8 y then A.err else 1
def Mm.evictZ (A : Mm) (z y : Int) : Mm := if (A.isZ z ∧ 0 ≤ y) ∧ A.on = true then A.evict z.toNat y.toNat else A
def Mm.evictE (A : Mm) (z y : Int) : Int := if A.isZ z ∧ 0 ≤ y then if A.on = true then 0 else 4 else 1
def Mm.hasZ (A : Mm) (z : Int) : Nat → Int := if A.isZ z ∧ A.on = true then (A.l z.toNat).has else fun _ => 0
def Mm.loadE (A : Mm) (z : Int) : Int := if A.isZ z then if A.on = true then 0 else 4 else 1

theorem Has.loadZ {W w : World} {G : Nat → Prop} {b : Nat} {A : Mm} (h : Has W w G b A) (hn : A.n ≤ 1024) (z : Int) :
    Calls Try.prog 29 #[.pointer (some ⟨b, 0, none⟩), .int .i64 z] w (After W w G b A (.tuple #[.agg (lnV (A.hasZ z)), .int .i64 (A.loadE z)])) := by
  unfold Mm.hasZ Mm.loadE
  by_cases c : A.isZ z
  · rw [if_pos c]
    by_cases on : A.on = true
    · rw [if_pos ⟨c, on⟩, if_pos on]
      obtain ⟨c1, c2⟩ := c
      exact h.load z z.toNat (by omega) (by omega) on hn
    · rw [if_neg (fun h => on h.2), if_neg on]
      exact h.load_off z c (by simpa using on)
  · rw [if_neg (fun h => c h.1), if_neg c]
    exact h.load_bad z c

theorem ok_evictZ {A : Mm} {B : Nat} (h : A.ok B) (z y : Int) : (A.evictZ z y).ok B := by
  unfold Mm.evictZ
  split
  · exact ok_evict h _ _
  · exact h

/-- Every step keeps how many lines there are. -/
theorem step_n (A : Mm) (l : Nat → Ln) : (A.step l).n = A.n := by unfold Mm.step; split <;> rfl
theorem evictZ_n (A : Mm) (z y : Int) : (A.evictZ z y).n = A.n := by unfold Mm.evictZ; split <;> rfl

/-! ### A call, read into a variable -/
def opV (p : OpV) : Array Value := p.cells.toArray
theorem opV_size (p : OpV) : (opV p).size = 6 := rfl
theorem opV_one (p : OpV) : (opV p).all (·.oneCell') = true := by simp [opV, OpV.cells, Value.oneCell']
/-- The fields of a call that lies in a block of its own. -/
structure OpIn (w : World) (L : Nat) (p : OpV) : Prop where
  f0 : w.cell? ⟨L, 0, none⟩ = some (.int .i64 p.kind)
  f1 : w.cell? ⟨L, 1, none⟩ = some (.int .i64 p.core)
  f2 : w.cell? ⟨L, 2, none⟩ = some (.int .i64 p.line)
  f3 : w.cell? ⟨L, 3, none⟩ = some (.int .i64 p.word)
  f4 : w.cell? ⟨L, 4, none⟩ = some (.int .u64 p.v)
  f5 : w.cell? ⟨L, 5, none⟩ = some (.slice p.ka p.keep.length p.kcap)
theorem opIn_new (w : World) (p : OpV) (T : TypeId) : OpIn (w.alloc (.cells (opV p) T)) w.heap.size p := by
  constructor <;> (rw [cell_of_block (heap_new w _)]; rfl)
theorem opIn_block {w : World} {L : Nat} {p : OpV} {T : TypeId} (h : w.heap[L]? = some (.cells (opV p) T (0, 0))) : OpIn w L p := by
  constructor <;> (rw [cell_of_block h]; rfl)

end Go.Proofs.Ytnjicfnigfkppab
