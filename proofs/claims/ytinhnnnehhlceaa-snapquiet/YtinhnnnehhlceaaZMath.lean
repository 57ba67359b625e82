
/-
  A worker of checkpoints in plain mathematics: its steps, and what Begin and Step make of it, of the store and of the memory. No program.
-/
import Derived.Test.YtinhnnnehhlceaaPkSto
import Derived.Test.YtinhnnnehhlceaaPkCr
import Derived.Test.YtinhnnnehhlceaaPkMem
namespace Go.Proofs.Ytinhnnnehhlceaa
set_option linter.unusedVariables false

/-- The superblock that counts (its four numbers) and its slot; the checkpoint's number, what is marked, the Dir that is written, the steps that are left (their kind, 1 to 5, and of what). -/
structure Wk where
  b : List Int
  sl : Int
  q : Int
  k : Nat → En
  d : Nat → Int
  l : List (Nat × Int)

def objStep (mk bt : Nat → En) (i : Nat) : List (Nat × Int) := if (mk i).k ≠ 0 ∧ hasB bt (mk i).l = false then [(1, (mk i).l)] else []
def objSteps (mk bt : Nat → En) : Nat → List (Nat × Int)
  | 0 => []
  | j + 1 => objSteps mk bt j ++ objStep mk bt j
def leafSteps (l : List Int) : List (Nat × Int) := l.map fun z => (2, z)
def lastSteps : List (Nat × Int) := [(3, 7), (4, 0), (5, 0)]
def stepsOf (mk bt : Nat → En) : List (Nat × Int) := objSteps mk bt 49 ++ leafSteps (dfTo (rowE 49 mk) (rowE 49 bt) 7) ++ lastSteps
theorem objSteps_len (mk bt : Nat → En) (j : Nat) : (objSteps mk bt j).length ≤ j := by
  induction j with
  | zero => exact Nat.le_refl _
  | succ j ih =>
    rw [objSteps, List.length_append]
    unfold objStep
    split <;> simp <;> omega
theorem stepsOf_len (mk bt : Nat → En) : (stepsOf mk bt).length ≤ 59 := by
  have h1 := objSteps_len mk bt 49
  have h2 := dfTo_len (rowE 49 mk) (rowE 49 bt) 7
  unfold stepsOf leafSteps lastSteps
  simp only [List.length_append, List.length_map, List.length_cons, List.length_nil]
  omega
theorem objSteps_mem (mk bt : Nat → En) (j : Nat) (p : Nat × Int) : p ∈ objSteps mk bt j ↔ p.1 = 1 ∧ ∃ i, i < j ∧ (mk i).k ≠ 0 ∧ (mk i).l = p.2 ∧ hasB bt p.2 = false := by
  induction j with
  | zero => simp [objSteps]
  | succ j ih =>
    rw [objSteps, List.mem_append, ih]
    constructor
    · rintro (⟨h1, i, hi, h2⟩ | h)
      · exact ⟨h1, i, by omega, h2⟩
      · unfold objStep at h
        split at h
        · rename_i c
          rw [List.mem_singleton] at h
          subst h
          exact ⟨rfl, j, by omega, c.1, rfl, c.2⟩
        · cases h
    · rintro ⟨h1, i, hi, h2, h3, h4⟩
      by_cases e : i = j
      · subst e
        right
        unfold objStep
        rw [if_pos ⟨h2, by rw [h3]; exact h4⟩, List.mem_singleton, h3]
        exact Prod.ext h1 rfl
      · exact Or.inl ⟨h1, i, by omega, h2, h3, h4⟩

/-! ### Begin -/
def two40 : Int := 1099511627776
def Wk.gen (K : Wk) : Int := K.b.getD 0 0
def Wk.argB (K : Wk) (z : Int) : Bool := decide (0 ≤ z ∧ z ≤ two40 ∧ K.gen ≠ two40)
def Wk.beginE (K : Wk) (S : Sto) (z : Int) : Int := if K.l ≠ [] then 3 else if K.argB z then S.markE else 1
def Wk.beginS (K : Wk) (S : Sto) (z : Int) : Sto := if K.l = [] ∧ K.argB z = true then S.markS else S
def Wk.beginK (K : Wk) (S : Sto) (z : Int) : Wk := if K.l = [] ∧ K.argB z = true ∧ S.is = false then ⟨K.b, K.sl, z, S.w, S.d, stepsOf S.w S.b⟩ else K

/-! ### Step -/
/-- The line of the directory that a step writes; what speaks against it. -/
def Wk.line (K : Wk) (p : Nat × Int) : List Int := if p.1 = 2 then leafKV (rowE 49 K.k) p.2 else rootV (tab7 K.d)
def Wk.lineE (K : Wk) (p : Nat × Int) : Int := if p.1 = 2 then leafKE (rowE 49 K.k) p.2 else rootE (tab7 K.d)
theorem Wk.line_len (K : Wk) (p : Nat × Int) : (K.line p).length = 8 := by
  unfold Wk.line; split
  · exact leafKV_len _ _
  · exact rootV_len _
def listF (l : List Int) : Nat → Int := fun j => l.getD j 0
def putM (S : Sto) (A : Mm) (l : List Int) : Mm := if S.F.allocE = 0 then (if (layP A S.F.allocV (listF l) 8).2 = 0 then (layP A S.F.allocV (listF l) 8).1.flushZ 0 S.F.allocV else (layP A S.F.allocV (listF l) 8).1) else A
def putE (S : Sto) (A : Mm) (l : List Int) : Int := if S.F.allocE = 0 then (if (layP A S.F.allocV (listF l) 8).2 = 0 then (layP A S.F.allocV (listF l) 8).1.flushE 0 S.F.allocV else (layP A S.F.allocV (listF l) 8).2) else S.F.allocE
/-- The superblock that the last step writes. -/
def Wk.next (K : Wk) : List Int := [K.gen + 1, K.d 7, K.q, K.b.getD 3 0]
def Wk.put (K : Wk) (S : Sto) (A : Mm) (p : Nat × Int) : Wk := if putE S A (K.line p) = 0 then ⟨K.b, K.sl, K.q, K.k, upd K.d p.2.toNat S.F.allocV, K.l⟩ else K
def isPut (p : Nat × Int) : Bool := p.1 == 2 || p.1 == 3
def Wk.doE (K : Wk) (S : Sto) (A : Mm) (p : Nat × Int) : Int :=
  if p.1 = 1 then A.flushE 0 p.2
  else if p.1 = 2 ∨ p.1 = 3 then putE S A (K.line p)
  else if p.1 = 4 then A.fenceE 0
  else if A.writeE 0 (1 - K.sl) K.next = 0 then S.doneE else A.writeE 0 (1 - K.sl) K.next
def Wk.doM (K : Wk) (S : Sto) (A : Mm) (p : Nat × Int) : Mm :=
  if p.1 = 1 then A.flushZ 0 p.2
  else if p.1 = 2 ∨ p.1 = 3 then putM S A (K.line p)
  else if p.1 = 4 then A.fenceZ 0
  else A.writeZ 0 (1 - K.sl) K.next
def Wk.doS (K : Wk) (S : Sto) (A : Mm) (p : Nat × Int) : Sto :=
  if p.1 = 1 then S
  else if p.1 = 2 ∨ p.1 = 3 then S.took
  else if p.1 = 4 then S
  else if A.writeE 0 (1 - K.sl) K.next = 0 then S.commitS K.d else S
def Wk.doK (K : Wk) (S : Sto) (A : Mm) (p : Nat × Int) : Wk :=
  if p.1 = 1 then K
  else if p.1 = 2 ∨ p.1 = 3 then K.put S A p
  else if p.1 = 4 then K
  else if A.writeE 0 (1 - K.sl) K.next = 0 ∧ S.doneE = 0 then ⟨K.next, 1 - K.sl, K.q, K.k, K.d, K.l⟩ else K
/-- What is left of a worker whose checkpoint is given up. -/
def Wk.idle (K : Wk) : Wk := ⟨K.b, K.sl, 0, fun _ => ze, fun _ => 0, []⟩
def Wk.less (K : Wk) (r : List (Nat × Int)) : Wk := ⟨K.b, K.sl, K.q, K.k, K.d, r⟩
def Wk.stepE (K : Wk) (S : Sto) (A : Mm) : Int := match K.l with | [] => 3 | p :: _ => K.doE S A p
def Wk.stepD (K : Wk) (S : Sto) (A : Mm) : Bool := match K.l with | [] => false | p :: r => decide (K.doE S A p = 0 ∧ r = [])
def Wk.stepM (K : Wk) (S : Sto) (A : Mm) : Mm := match K.l with | [] => A | p :: _ => K.doM S A p
def Wk.stepS (K : Wk) (S : Sto) (A : Mm) : Sto := match K.l with | [] => S | p :: _ => if K.doE S A p = 10 then (K.doS S A p).abortS else K.doS S A p
def Wk.stepK (K : Wk) (S : Sto) (A : Mm) : Wk := match K.l with | [] => K | p :: r => if K.doE S A p = 10 then (K.doK S A p).idle else if K.doE S A p = 0 then (K.doK S A p).less r else K.doK S A p
theorem stepE_cons {K : Wk} {p : Nat × Int} {r : List (Nat × Int)} (h : K.l = p :: r) (S : Sto) (A : Mm) : K.stepE S A = K.doE S A p := by unfold Wk.stepE; rw [h]
theorem stepM_cons {K : Wk} {p : Nat × Int} {r : List (Nat × Int)} (h : K.l = p :: r) (S : Sto) (A : Mm) : K.stepM S A = K.doM S A p := by unfold Wk.stepM; rw [h]
theorem stepS_cons {K : Wk} {p : Nat × Int} {r : List (Nat × Int)} (h : K.l = p :: r) (S : Sto) (A : Mm) : K.stepS S A = if K.doE S A p = 10 then (K.doS S A p).abortS else K.doS S A p := by unfold Wk.stepS; rw [h]
theorem stepK_cons {K : Wk} {p : Nat × Int} {r : List (Nat × Int)} (h : K.l = p :: r) (S : Sto) (A : Mm) : K.stepK S A = if K.doE S A p = 10 then (K.doK S A p).idle else if K.doE S A p = 0 then (K.doK S A p).less r else K.doK S A p := by unfold Wk.stepK; rw [h]
theorem stepD_cons {K : Wk} {p : Nat × Int} {r : List (Nat × Int)} (h : K.l = p :: r) (S : Sto) (A : Mm) : K.stepD S A = decide (K.doE S A p = 0 ∧ r = []) := by unfold Wk.stepD; rw [h]
theorem step_idle {K : Wk} (h : K.l = []) (S : Sto) (A : Mm) : K.stepE S A = 3 ∧ K.stepM S A = A ∧ K.stepS S A = S ∧ K.stepK S A = K ∧ K.stepD S A = false := by
  unfold Wk.stepE Wk.stepM Wk.stepS Wk.stepK Wk.stepD; rw [h]; exact ⟨rfl, rfl, rfl, rfl, rfl⟩

/-! ### memories stay memories -/
theorem putM_n (S : Sto) (A : Mm) (l : List Int) : (putM S A l).n = A.n := by
  unfold putM
  split
  · split
    · rw [flushZ_n]; exact layP_n _ _ _ _
    · exact layP_n _ _ _ _
  · rfl
theorem putM_ok {S : Sto} {A : Mm} {B : Nat} (h : A.ok B) (l : List Int) (hl : ∀ j, InU (listF l j)) : (putM S A l).ok (B + 9) := by
  have h8 := layP_ok h S.F.allocV (listF l) hl 8
  unfold putM
  split
  · split
    · exact ok_mono (ok_flushZ h8 _ _) (by omega)
    · exact ok_mono h8 (by omega)
  · exact ok_mono h (by omega)
theorem doM_n (K : Wk) (S : Sto) (A : Mm) (p : Nat × Int) : (K.doM S A p).n = A.n := by
  unfold Wk.doM
  split
  · exact flushZ_n _ _ _
  · split
    · exact putM_n _ _ _
    · split
      · exact fenceZ_n _ _
      · exact writeZ_n _ _ _ _
theorem listF_inU {l : List Int} (h : ∀ z ∈ l, (Lit.int .u64 z).wf = true) : ∀ j, InU (listF l j) := getD_inU h
theorem lineG_wf {g : Nat → Int} (h : ∀ i, i < 7 → 0 ≤ g i ∧ g i ≤ 18446744073709551615) : ∀ z ∈ lineG g, (Lit.int .u64 z).wf = true := sealOf_wf _ fun z hz => by
  have := wUp_bd g 7 (fun i hi _ => h i hi) z hz
  simp [Lit.wf, IntKind.min, IntKind.max, IntKind.signed, IntKind.bits]; omega
theorem leafKV_wf (t : List Int) (k : Int) : ∀ z ∈ leafKV t k, (Lit.int .u64 z).wf = true := by
  unfold leafKV
  split
  · unfold leafV
    split
    · rename_i hm
      refine lineG_wf fun i hi => ?_
      have := wordN_bd _ ((mayX_iff _).1 hm i hi)
      omega
    · exact zs8_wf
  · exact zs8_wf
theorem rootV_wf (n : List Int) : ∀ z ∈ rootV n, (Lit.int .u64 z).wf = true := by
  unfold rootV
  split
  · rename_i hm
    refine lineG_wf fun i hi => ?_
    have := (mayT_iff _).1 hm i hi
    omega
  · exact zs8_wf
theorem Wk.line_wf (K : Wk) (p : Nat × Int) : ∀ z ∈ K.line p, (Lit.int .u64 z).wf = true := by
  unfold Wk.line; split
  · exact leafKV_wf _ _
  · exact rootV_wf _
theorem doM_ok {A : Mm} {B : Nat} (h : A.ok B) (K : Wk) (S : Sto) (p : Nat × Int) : (K.doM S A p).ok (B + 11) := by
  unfold Wk.doM
  split
  · exact ok_mono (ok_flushZ h _ _) (by omega)
  · split
    · exact ok_mono (putM_ok h _ (listF_inU (K.line_wf p))) (by omega)
    · split
      · exact ok_mono (ok_fenceZ h _) (by omega)
      · exact ok_writeZ h _ _ _
theorem doS_ok {S : Sto} (h : S.ok) (K : Wk) (A : Mm) (p : Nat × Int) : (K.doS S A p).ok := by
  unfold Wk.doS
  split
  · exact h
  · split
    · exact took_ok h
    · split
      · exact h
      · split
        · exact commitS_ok h _
        · exact h
theorem wstepM_n (K : Wk) (S : Sto) (A : Mm) : (K.stepM S A).n = A.n := by
  unfold Wk.stepM; split
  · rfl
  · exact doM_n _ _ _ _
theorem wstepM_ok {A : Mm} {B : Nat} (h : A.ok B) (K : Wk) (S : Sto) : (K.stepM S A).ok (B + 11) := by
  unfold Wk.stepM; split
  · exact ok_mono h (by omega)
  · exact doM_ok h _ _ _
theorem wstepS_ok {S : Sto} (h : S.ok) (K : Wk) (A : Mm) : (K.stepS S A).ok := by
  unfold Wk.stepS; split
  · exact h
  · split
    · exact abortS_ok (doS_ok h _ _ _)
    · exact doS_ok h _ _ _

end Go.Proofs.Ytinhnnnehhlceaa
