
/-
  Records in a memory, in plain mathematics: which line of a log is free, what an Append makes of a memory, which records are scanned.
-/
import Derived.Test.YtiafhcgaikapcaaGreatPkSu
import Derived.Test.YtiafhcgaikapcaaGreatRMath
namespace Go.Proofs.YtiafhcgaikapcaaGreat
open Go.ChangeShapes Go.WideShapes Go.ChangeAt Go.RowKit Go.Joins
set_option maxRecDepth 10000
set_option linter.unusedVariables false

def Mm.rowN (A : Mm) (i : Nat) : List Int := rowOf (A.l i).has
theorem rowN_len (A : Mm) (i : Nat) : (A.rowN i).length = 8 := rowOf_len _
theorem rowN_wf {A : Mm} {B : Nat} (h : A.ok B) (i : Nat) : ∀ z ∈ A.rowN i, (Lit.int .u64 z).wf = true := rowOf_wf _ (Ln.has_inU (h.2.2.1 i))
/-- Is the n-th line of a log free? -/
def Mm.freeB (A : Mm) (c : Nat) (seq : Int) (n : Nat) : Bool := !isR (A.rowN (2 + 4 * c + n)) || decide ((readRV (A.rowN (2 + 4 * c + n))).q ≤ seq)
def Mm.freeN (A : Mm) (c : Nat) (seq : Int) (j : Nat) : Option Nat := (List.range j).find? (A.freeB c seq)
theorem freeN_succ (A : Mm) (c : Nat) (seq : Int) (j : Nat) : A.freeN c seq (j + 1) = (A.freeN c seq j).or (if A.freeB c seq j then some j else none) := by
  unfold Mm.freeN
  rw [List.range_succ, List.find?_append]
  congr 1
  simp [List.find?_cons]
  cases A.freeB c seq j <;> rfl
theorem freeN_lt {A : Mm} {c : Nat} {seq : Int} {j n : Nat} (h : A.freeN c seq j = some n) : n < j := by
  unfold Mm.freeN at h
  exact List.mem_range.1 (List.mem_of_find?_eq_some h)
def firstV (c : Nat) : Option Nat → Int
  | some n => ((2 + 4 * c + n : Nat) : Int)
  | none => 0
def Mm.freeV (A : Mm) (core seq : Int) : Int := if is8 core ∧ A.on = true then firstV core.toNat (A.freeN core.toNat seq 4) else 0
def Mm.freeE (A : Mm) (core seq : Int) : Int := if is8 core then if A.on = true then if (A.freeN core.toNat seq 4).isSome then 0 else 11 else 4 else 1

/-! ### Append -/
def Mm.wrZ (A : Mm) (core slot : Int) (l : List Int) : Mm :=
  if (A.puts slot.toNat l 8).on then
    if (A.puts slot.toNat l 8).flushE core slot = 0 then ((A.puts slot.toNat l 8).flushZ core slot).fenceZ core else (A.puts slot.toNat l 8).flushZ core slot
  else A.puts slot.toNat l 8
def Mm.wrE (A : Mm) (core slot : Int) (l : List Int) : Int :=
  if (A.puts slot.toNat l 8).on then
    if (A.puts slot.toNat l 8).flushE core slot = 0 then ((A.puts slot.toNat l 8).flushZ core slot).fenceE core else (A.puts slot.toNat l 8).flushE core slot
  else 4
def Mm.appZ (A : Mm) (core seq : Int) (r : Rc) : Mm := if A.freeE core seq = 0 then if mayR r then A.wrZ core (A.freeV core seq) (lineRV r) else A else A
def Mm.appE (A : Mm) (core seq : Int) (r : Rc) : Int := if A.freeE core seq = 0 then if mayR r then A.wrE core (A.freeV core seq) (lineRV r) else 1 else A.freeE core seq
theorem wrZ_n (A : Mm) (core slot : Int) (l : List Int) : (A.wrZ core slot l).n = A.n := by
  unfold Mm.wrZ
  split
  · split
    · rw [fenceZ_n, flushZ_n, puts_n]
    · rw [flushZ_n, puts_n]
  · exact puts_n _ _ _ _
theorem appZ_n (A : Mm) (core seq : Int) (r : Rc) : (A.appZ core seq r).n = A.n := by
  unfold Mm.appZ
  split
  · split
    · exact wrZ_n _ _ _ _
    · rfl
  · rfl
theorem ok_wrZ {A : Mm} {B : Nat} (h : A.ok B) (core slot : Int) (l : List Int) (hl : ∀ z ∈ l, (Lit.int .u64 z).wf = true) : (A.wrZ core slot l).ok (B + 11) := by
  have h8 := ok_puts h slot.toNat l (getD_inU hl) 8 (Nat.le_refl _)
  unfold Mm.wrZ
  split
  · split
    · exact ok_mono (ok_fenceZ (ok_flushZ h8 core slot) core) (by omega)
    · exact ok_mono (ok_flushZ h8 core slot) (by omega)
  · exact ok_mono h8 (by omega)
theorem ok_appZ {A : Mm} {B : Nat} (h : A.ok B) (core seq : Int) (r : Rc) (hr : r.ok) : (A.appZ core seq r).ok (B + 11) := by
  unfold Mm.appZ
  split
  · split
    · exact ok_wrZ h core _ _ (lineRV_wf r hr)
    · exact ok_mono h (by omega)
  · exact ok_mono h (by omega)
theorem freeV_some {A : Mm} {core seq : Int} (h : A.freeE core seq = 0) : is8 core ∧ A.on = true ∧ ∃ n, n < 4 ∧ A.freeN core.toNat seq 4 = some n ∧ A.freeV core seq = ((2 + 4 * core.toNat + n : Nat) : Int) := by
  unfold Mm.freeE at h
  by_cases h8 : is8 core
  · rw [if_pos h8] at h
    by_cases hon : A.on = true
    · rw [if_pos hon] at h
      cases hf : A.freeN core.toNat seq 4 with
      | none => rw [hf] at h; simp at h
      | some n =>
        refine ⟨h8, hon, n, freeN_lt hf, rfl, ?_⟩
        unfold Mm.freeV
        rw [if_pos ⟨h8, hon⟩, hf]; rfl
    · rw [if_neg hon] at h; simp at h
  · rw [if_neg h8] at h; simp at h

/-! ### Scan -/
def recAt (l : List Int) : List Rc := if isR l then [readRV l] else []
def Mm.recs (A : Mm) : Nat → List Rc
  | 0 => []
  | j + 1 => A.recs j ++ recAt (A.rowN (2 + j))
theorem recs_len (A : Mm) : ∀ j, (A.recs j).length ≤ j
  | 0 => Nat.le_refl _
  | j + 1 => by
    have := recs_len A j
    unfold Mm.recs recAt
    split <;> simp <;> omega
theorem recs_may (A : Mm) : ∀ j, ∀ r ∈ A.recs j, mayR r = true
  | 0, r, h => by simp [Mm.recs] at h
  | j + 1, r, h => by
    unfold Mm.recs recAt at h
    rcases List.mem_append.1 h with h | h
    · exact recs_may A j r h
    · split at h
      · rename_i hi
        rw [List.mem_singleton.1 h]; exact readRV_may _ hi
      · simp at h

end Go.Proofs.YtiafhcgaikapcaaGreat
