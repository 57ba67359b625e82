import Derived.Test.YtiafhcgaikapcaaGreatPkSto
import Derived.Test.YtiafhcgaikapcaaGreatPkCr
import Derived.Test.YtiafhcgaikapcaaGreatPkMem
import Derived.Test.YtiafhcgaikapcaaGreatMSure
import Derived.Test.YtiafhcgaikapcaaGreatPkUn
import Derived.Test.YtiafhcgaikapcaaGreatPkXl
import Derived.Test.YtiafhcgaikapcaaGreatPkIv

/-
  A worker of checkpoints in plain mathematics: its steps, and what Begin and Step make of it, of the store and of the memory. No program.
-/
namespace Go.Proofs.YtiafhcgaikapcaaGreat
set_option linter.unusedVariables false

/-- The superblock that counts (its four numbers) and its slot; the checkpoint's number, what is marked, the Dir that is written, the steps that are left (their kind, 1 to 5, and of what). -/
structure Wk where
  b : List Int
  sl : Int
  q : Int
  k : Nat → En
  d : Nat → Int
  l : List (Nat × Int)

def objStep (mk bt : Nat → En) (i : Nat) : List (Nat × Int) := if (mk i).k ≠ 0 ∧ hasB bt (mk i).l = false then [(1, (mk i).l)] else []
def objSteps (mk bt : Nat → En) : Nat → List (Nat × Int)
  | 0 => []
  | j + 1 => objSteps mk bt j ++ objStep mk bt j
def leafSteps (l : List Int) : List (Nat × Int) := l.map fun z => (2, z)
def lastSteps : List (Nat × Int) := [(3, 7), (4, 0), (5, 0)]
def stepsOf (mk bt : Nat → En) : List (Nat × Int) := objSteps mk bt 49 ++ leafSteps (dfTo (rowE 49 mk) (rowE 49 bt) 7) ++ lastSteps
theorem objSteps_len (mk bt : Nat → En) (j : Nat) : (objSteps mk bt j).length ≤ j := by
  induction j with
  | zero => exact Nat.le_refl _
  | succ j ih =>
    rw [objSteps, List.length_append]
    unfold objStep
    split <;> simp <;> omega
theorem stepsOf_len (mk bt : Nat → En) : (stepsOf mk bt).length ≤ 59 := by
  have h1 := objSteps_len mk bt 49
  have h2 := dfTo_len (rowE 49 mk) (rowE 49 bt) 7
  unfold stepsOf leafSteps lastSteps
  simp only [List.length_append, List.length_map, List.length_cons, List.length_nil]
  omega
theorem objSteps_mem (mk bt : Nat → En) (j : Nat) (p : Nat × Int) : p ∈ objSteps mk bt j ↔ p.1 = 1 ∧ ∃ i, i < j ∧ (mk i).k ≠ 0 ∧ (mk i).l = p.2 ∧ hasB bt p.2 = false := by
  induction j with
  | zero => simp [objSteps]
  | succ j ih =>
    rw [objSteps, List.mem_append, ih]
    constructor
    · rintro (⟨h1, i, hi, h2⟩ | h)
      · exact ⟨h1, i, by omega, h2⟩
      · unfold objStep at h
        split at h
        · rename_i c
          rw [List.mem_singleton] at h
          subst h
          exact ⟨rfl, j, by omega, c.1, rfl, c.2⟩
        · cases h
    · rintro ⟨h1, i, hi, h2, h3, h4⟩
      by_cases e : i = j
      · subst e
        right
        unfold objStep
        rw [if_pos ⟨h2, by rw [h3]; exact h4⟩, List.mem_singleton, h3]
        exact Prod.ext h1 rfl
      · exact Or.inl ⟨h1, i, by omega, h2, h3, h4⟩

/-! ### Begin -/
def two40 : Int := 1099511627776
def Wk.gen (K : Wk) : Int := K.b.getD 0 0
def Wk.argB (K : Wk) (z : Int) : Bool := decide (0 ≤ z ∧ z ≤ two40 ∧ K.gen ≠ two40)
def Wk.beginE (K : Wk) (S : Sto) (z : Int) : Int := if K.l ≠ [] then 3 else if K.argB z then S.markE else 1
def Wk.beginS (K : Wk) (S : Sto) (z : Int) : Sto := if K.l = [] ∧ K.argB z = true then S.markS else S
def Wk.beginK (K : Wk) (S : Sto) (z : Int) : Wk := if K.l = [] ∧ K.argB z = true ∧ S.is = false then ⟨K.b, K.sl, z, S.w, S.d, stepsOf S.w S.b⟩ else K

/-! ### Step -/
/-- The line of the directory that a step writes; what speaks against it. -/
def Wk.line (K : Wk) (p : Nat × Int) : List Int := if p.1 = 2 then leafKV (rowE 49 K.k) p.2 else rootV (tab7 K.d)
def Wk.lineE (K : Wk) (p : Nat × Int) : Int := if p.1 = 2 then leafKE (rowE 49 K.k) p.2 else rootE (tab7 K.d)
theorem Wk.line_len (K : Wk) (p : Nat × Int) : (K.line p).length = 8 := by
  unfold Wk.line; split
  · exact leafKV_len _ _
  · exact rootV_len _
def putM (S : Sto) (A : Mm) (l : List Int) : Mm := if S.F.allocE = 0 then (if (layP A S.F.allocV (listF l) 8).2 = 0 then (layP A S.F.allocV (listF l) 8).1.flushZ 0 S.F.allocV else (layP A S.F.allocV (listF l) 8).1) else A
def putE (S : Sto) (A : Mm) (l : List Int) : Int := if S.F.allocE = 0 then (if (layP A S.F.allocV (listF l) 8).2 = 0 then (layP A S.F.allocV (listF l) 8).1.flushE 0 S.F.allocV else (layP A S.F.allocV (listF l) 8).2) else S.F.allocE
/-- The superblock that the last step writes. -/
def Wk.next (K : Wk) : List Int := [K.gen + 1, K.d 7, K.q, K.b.getD 3 0]
def Wk.put (K : Wk) (S : Sto) (A : Mm) (p : Nat × Int) : Wk := if putE S A (K.line p) = 0 then ⟨K.b, K.sl, K.q, K.k, upd K.d p.2.toNat S.F.allocV, K.l⟩ else K
def isPut (p : Nat × Int) : Bool := p.1 == 2 || p.1 == 3
def Wk.doE (K : Wk) (S : Sto) (A : Mm) (p : Nat × Int) : Int :=
  if p.1 = 1 then A.flushE 0 p.2
  else if p.1 = 2 ∨ p.1 = 3 then putE S A (K.line p)
  else if p.1 = 4 then A.fenceE 0
  else if A.writeE 0 (1 - K.sl) K.next = 0 then S.doneE else A.writeE 0 (1 - K.sl) K.next
def Wk.doM (K : Wk) (S : Sto) (A : Mm) (p : Nat × Int) : Mm :=
  if p.1 = 1 then A.flushZ 0 p.2
  else if p.1 = 2 ∨ p.1 = 3 then putM S A (K.line p)
  else if p.1 = 4 then A.fenceZ 0
  else A.writeZ 0 (1 - K.sl) K.next
def Wk.doS (K : Wk) (S : Sto) (A : Mm) (p : Nat × Int) : Sto :=
  if p.1 = 1 then S
  else if p.1 = 2 ∨ p.1 = 3 then S.took
  else if p.1 = 4 then S
  else if A.writeE 0 (1 - K.sl) K.next = 0 then S.commitS K.d else S
def Wk.doK (K : Wk) (S : Sto) (A : Mm) (p : Nat × Int) : Wk :=
  if p.1 = 1 then K
  else if p.1 = 2 ∨ p.1 = 3 then K.put S A p
  else if p.1 = 4 then K
  else if A.writeE 0 (1 - K.sl) K.next = 0 ∧ S.doneE = 0 then ⟨K.next, 1 - K.sl, K.q, K.k, K.d, K.l⟩ else K
/-- What is left of a worker whose checkpoint is given up. -/
def Wk.idle (K : Wk) : Wk := ⟨K.b, K.sl, 0, fun _ => ze, fun _ => 0, []⟩
def Wk.less (K : Wk) (r : List (Nat × Int)) : Wk := ⟨K.b, K.sl, K.q, K.k, K.d, r⟩
def Wk.stepE (K : Wk) (S : Sto) (A : Mm) : Int := match K.l with | [] => 3 | p :: _ => K.doE S A p
def Wk.stepD (K : Wk) (S : Sto) (A : Mm) : Bool := match K.l with | [] => false | p :: r => decide (K.doE S A p = 0 ∧ r = [])
def Wk.stepM (K : Wk) (S : Sto) (A : Mm) : Mm := match K.l with | [] => A | p :: _ => K.doM S A p
def Wk.stepS (K : Wk) (S : Sto) (A : Mm) : Sto := match K.l with | [] => S | p :: _ => if K.doE S A p = 10 then (K.doS S A p).abortS else K.doS S A p
def Wk.stepK (K : Wk) (S : Sto) (A : Mm) : Wk := match K.l with | [] => K | p :: r => if K.doE S A p = 10 then (K.doK S A p).idle else if K.doE S A p = 0 then (K.doK S A p).less r else K.doK S A p
theorem stepE_cons {K : Wk} {p : Nat × Int} {r : List (Nat × Int)} (h : K.l = p :: r) (S : Sto) (A : Mm) : K.stepE S A = K.doE S A p := by unfold Wk.stepE; rw [h]
theorem stepM_cons {K : Wk} {p : Nat × Int} {r : List (Nat × Int)} (h : K.l = p :: r) (S : Sto) (A : Mm) : K.stepM S A = K.doM S A p := by unfold Wk.stepM; rw [h]
theorem stepS_cons {K : Wk} {p : Nat × Int} {r : List (Nat × Int)} (h : K.l = p :: r) (S : Sto) (A : Mm) : K.stepS S A = if K.doE S A p = 10 then (K.doS S A p).abortS else K.doS S A p := by unfold Wk.stepS; rw [h]
theorem stepK_cons {K : Wk} {p : Nat × Int} {r : List (Nat × Int)} (h : K.l = p :: r) (S : Sto) (A : Mm) : K.stepK S A = if K.doE S A p = 10 then (K.doK S A p).idle else if K.doE S A p = 0 then (K.doK S A p).less r else K.doK S A p := by unfold Wk.stepK; rw [h]
theorem stepD_cons {K : Wk} {p : Nat × Int} {r : List (Nat × Int)} (h : K.l = p :: r) (S : Sto) (A : Mm) : K.stepD S A = decide (K.doE S A p = 0 ∧ r = []) := by unfold Wk.stepD; rw [h]
theorem step_idle {K : Wk} (h : K.l = []) (S : Sto) (A : Mm) : K.stepE S A = 3 ∧ K.stepM S A = A ∧ K.stepS S A = S ∧ K.stepK S A = K ∧ K.stepD S A = false := by
  unfold Wk.stepE Wk.stepM Wk.stepS Wk.stepK Wk.stepD; rw [h]; exact ⟨rfl, rfl, rfl, rfl, rfl⟩

/-! ### memories stay memories -/
theorem putM_n (S : Sto) (A : Mm) (l : List Int) : (putM S A l).n = A.n := by
  unfold putM
  split
  · split
    · rw [flushZ_n]; exact layP_n _ _ _ _
    · exact layP_n _ _ _ _
  · rfl
theorem putM_ok {S : Sto} {A : Mm} {B : Nat} (h : A.ok B) (l : List Int) (hl : ∀ j, InU (listF l j)) : (putM S A l).ok (B + 9) := by
  have h8 := layP_ok h S.F.allocV (listF l) hl 8
  unfold putM
  split
  · split
    · exact ok_mono (ok_flushZ h8 _ _) (by omega)
    · exact ok_mono h8 (by omega)
  · exact ok_mono h (by omega)
theorem doM_n (K : Wk) (S : Sto) (A : Mm) (p : Nat × Int) : (K.doM S A p).n = A.n := by
  unfold Wk.doM
  split
  · exact flushZ_n _ _ _
  · split
    · exact putM_n _ _ _
    · split
      · exact fenceZ_n _ _
      · exact writeZ_n _ _ _ _
theorem Wk.line_wf (K : Wk) (p : Nat × Int) : ∀ z ∈ K.line p, (Lit.int .u64 z).wf = true := by
  unfold Wk.line; split
  · exact zleafKV_wf _ _
  · exact rootV_wf _
theorem doM_ok {A : Mm} {B : Nat} (h : A.ok B) (K : Wk) (S : Sto) (p : Nat × Int) : (K.doM S A p).ok (B + 11) := by
  unfold Wk.doM
  split
  · exact ok_mono (ok_flushZ h _ _) (by omega)
  · split
    · exact ok_mono (putM_ok h _ (listF_inU (K.line_wf p))) (by omega)
    · split
      · exact ok_mono (ok_fenceZ h _) (by omega)
      · exact ok_writeZ h _ _ _
theorem doS_ok {S : Sto} (h : S.ok) (K : Wk) (A : Mm) (p : Nat × Int) : (K.doS S A p).ok := by
  unfold Wk.doS
  split
  · exact h
  · split
    · exact took_ok h
    · split
      · exact h
      · split
        · exact commitS_ok h _
        · exact h
theorem wstepM_n (K : Wk) (S : Sto) (A : Mm) : (K.stepM S A).n = A.n := by
  unfold Wk.stepM; split
  · rfl
  · exact doM_n _ _ _ _
theorem wstepM_ok {A : Mm} {B : Nat} (h : A.ok B) (K : Wk) (S : Sto) : (K.stepM S A).ok (B + 11) := by
  unfold Wk.stepM; split
  · exact ok_mono h (by omega)
  · exact doM_ok h _ _ _
theorem wstepS_ok {S : Sto} (h : S.ok) (K : Wk) (A : Mm) : (K.stepS S A).ok := by
  unfold Wk.stepS; split
  · exact h
  · split
    · exact abortS_ok (doS_ok h _ _ _)
    · exact doS_ok h _ _ _

end Go.Proofs.YtiafhcgaikapcaaGreat


/-
  How a worker lies in the program's memory: one block of 164 cells (the memory, the store, the superblock, its slot, the checkpoint), and its steps in another one; beside a store on a memory in whatever company.
-/
namespace Go.Proofs.YtiafhcgaikapcaaGreat
open Go.ChangeShapes Go.WideShapes Go.ChangeAt Go.RowKit Go.Joins
set_option maxRecDepth 10000
set_option linter.unusedVariables false
set_option linter.unusedSimpArgs false

/-- A memory in the block m, in whatever company: what its Flush and Fence, and super's Write, leave besides. -/
structure MemX (W : World) (m : Nat) (St : Mm → World → (Nat → Prop) → Prop) : Prop extends MemL W m St where
  flush : ∀ w G A, St A w G → A.ok 1000 → ∀ y z, Calls Tryz.prog 125 #[.pointer (some ⟨m, 0, none⟩), .int .i64 y, .int .i64 z] w (Done (St (A.flushZ y z)) w G (.int .i64 (A.flushE y z)))
  fence : ∀ w G A, St A w G → A.ok 1000 → ∀ y, Calls Tryz.prog 126 #[.pointer (some ⟨m, 0, none⟩), .int .i64 y] w (Done (St (A.fenceZ y)) w G (.int .i64 (A.fenceE y)))
  write : ∀ w G A, St A w G → A.ok 900 → ∀ core slot s, s.length = 4 → Calls Tryz.prog 110 #[.pointer (some ⟨m, 0, none⟩), .int .i64 core, .int .i64 slot, .agg (iv .i64 s)] w (Done (St (A.writeZ core slot s)) w G (.int .i64 (A.writeE core slot s)))
theorem Has.memX (W : World) (m : Nat) : MemX W m (fun A w G => Has W w G m A) where
  toMemL := Has.memL W m
  flush := fun w G A h hok y z => (h.flushZ hok y z).mono fun e w' ha => ha
  fence := fun w G A h hok y => (h.fenceZ hok y).mono fun e w' ha => ha
  write := fun w G A h hok core slot s hs => (h.write hok core slot s hs).mono fun e w' ha => ha

section
variable {W w : World} {m b : Nat} {St : Mm → World → (Nat → Prop) → Prop} {S : Sto} {A : Mm} {G : Nat → Prop}
theorem SHas.ofMem (h : SHas W m b St S A w G) {A' : Mm} {v : Value} {e : Ending} {w' : World} (hd : Done (St A') w (fun k => G k ∨ k = b) v e w') : Done (SHas W m b St S A') w G v e w' := by
  obtain ⟨he, h1, h2⟩ := hd
  refine ⟨he, ⟨?_, h1, h.nb, h.new⟩, fun k hg => h2 k (Or.inl hg)⟩
  have := h.rep
  unfold SRep Blk at this ⊢
  rw [h2 b (Or.inr rfl)]; exact this
theorem SHas.flush (M : MemX W m St) (h : SHas W m b St S A w G) (hok : A.ok 1000) (y z : Int) :
    Calls Tryz.prog 125 #[.pointer (some ⟨m, 0, none⟩), .int .i64 y, .int .i64 z] w (Done (SHas W m b St S (A.flushZ y z)) w G (.int .i64 (A.flushE y z))) :=
  (M.flush w _ A h.st hok y z).mono fun e w' hd => h.ofMem hd
theorem SHas.fence (M : MemX W m St) (h : SHas W m b St S A w G) (hok : A.ok 1000) (y : Int) :
    Calls Tryz.prog 126 #[.pointer (some ⟨m, 0, none⟩), .int .i64 y] w (Done (SHas W m b St S (A.fenceZ y)) w G (.int .i64 (A.fenceE y))) :=
  (M.fence w _ A h.st hok y).mono fun e w' hd => h.ofMem hd
theorem SHas.write (M : MemX W m St) (h : SHas W m b St S A w G) (hok : A.ok 900) (core slot : Int) (s : List Int) (hs : s.length = 4) :
    Calls Tryz.prog 110 #[.pointer (some ⟨m, 0, none⟩), .int .i64 core, .int .i64 slot, .agg (iv .i64 s)] w (Done (SHas W m b St S (A.writeZ core slot s)) w G (.int .i64 (A.writeE core slot s))) :=
  (M.write w _ A h.st hok core slot s hs).mono fun e w' hd => h.ofMem hd
end

/-! ### the steps' row -/
/-- The function that a step of a kind does. -/
def fnS (k : Nat) : FuncId := if k = 1 then 148 else if k = 2 then 150 else if k = 3 then 151 else if k = 4 then 152 else 153
def fnV (k : Nat) : Value := .func (.func (fnS k)) #[] #[]
def spV (p : Nat × Int) : List Value := [fnV p.1, .int .i64 p.2]
def spsV (l : List (Nat × Int)) : List Value := l.flatMap spV
theorem spsV_len (l : List (Nat × Int)) : (spsV l).length = 2 * l.length := by
  induction l with
  | nil => rfl
  | cons p r ih => show (spV p ++ spsV r).length = _; rw [List.length_append, ih]; simp [spV]; omega
theorem spsV_app (l r : List (Nat × Int)) : spsV (l ++ r) = spsV l ++ spsV r := by unfold spsV; rw [List.flatMap_append]
/-- Steps behind a slice: none, or in a block, from some place on. -/
def StepRow (w : World) (v : Value) (l : List (Nat × Int)) : Prop :=
  (l = [] ∧ ∃ a c, v = .slice a 0 c) ∨ ∃ g o c, v = .slice (some ⟨g, o, none⟩) l.length c ∧ l.length ≤ c ∧ w.rangeAt g o (spsV l)
theorem StepRow.same {w w' : World} {v : Value} {l : List (Nat × Int)} (h : StepRow w v l) (hs : ∀ k, v.ownBlock = some k → w'.heap[k]? = w.heap[k]?) : StepRow w' v l := by
  rcases h with h | ⟨g, o, c, rfl, h1, h3⟩
  · exact Or.inl h
  · refine Or.inr ⟨g, o, c, rfl, h1, fun j u hj => ?_⟩
    have := h3 j u hj
    unfold World.cell? at this ⊢
    rw [hs g rfl]; exact this
theorem StepRow.len {w : World} {v : Value} {l : List (Nat × Int)} (h : StepRow w v l) : ∃ a c, v = .slice a l.length c := by
  rcases h with ⟨rfl, a, c, rfl⟩ | ⟨g, o, c, rfl, -⟩
  · exact ⟨a, c, rfl⟩
  · exact ⟨_, c, rfl⟩
/-- The first step. -/
theorem StepRow.first {w : World} {v : Value} {p : Nat × Int} {r : List (Nat × Int)} (h : StepRow w v (p :: r)) :
    ∃ g o c, v = .slice (some ⟨g, o, none⟩) (r.length + 1) c ∧ r.length + 1 ≤ c ∧ w.rangeAt g o (spV p) ∧ w.rangeAt g (o + 2) (spsV r) := by
  rcases h with ⟨h, -⟩ | ⟨g, o, c, rfl, h1, h3⟩
  · cases h
  · refine ⟨g, o, c, rfl, h1, fun j u hj => h3 j u ?_, fun j u hj => ?_⟩
    · show (spV p ++ spsV r)[j]? = _
      rw [List.getElem?_append_left (by
        rcases Nat.lt_or_ge j (spV p).length with h' | h'
        · exact h'
        · rw [List.getElem?_eq_none h'] at hj; cases hj)]
      exact hj
    · rw [show o + 2 + j = o + (2 + j) by omega]
      refine h3 (2 + j) u ?_
      show (spV p ++ spsV r)[2 + j]? = _
      rw [List.getElem?_append_right (by simp [spV])]
      have e : (2 + j) - (spV p).length = j := by simp [spV]
      rw [e]; exact hj

/-! ### the worker's block -/
def wkF (m b : Nat) (K : Wk) (sl : Value) (i : Nat) : Value :=
  if i = 0 then .pointer (some ⟨m, 0, none⟩) else if i = 1 then .pointer (some ⟨b, 0, none⟩) else if i < 6 then .int .i64 (K.b.getD (i - 2) 0) else if i = 6 then .int .i64 K.sl
  else if i = 7 then .int .i64 K.q else if i < 155 then .int .i64 (fl3 K.k (i - 8)) else if i < 163 then .int .i64 (K.d (i - 155)) else sl
def WRepZ (m b : Nat) (K : Wk) (sl : Value) (w : World) (x : Nat) : Prop := Blk w x 164 155 (wkF m b K sl)
theorem wkF_b (m b : Nat) (K : Wk) (sl : Value) (j : Nat) (h : j < 4) : wkF m b K sl (2 + j) = .int .i64 (K.b.getD j 0) := by
  unfold wkF; rw [if_neg (by omega), if_neg (by omega), if_pos (by omega), show 2 + j - 2 = j by omega]
theorem wkF_k (m b : Nat) (K : Wk) (sl : Value) (j : Nat) (h : j < 147) : wkF m b K sl (8 + j) = .int .i64 (fl3 K.k j) := by
  unfold wkF; rw [if_neg (by omega), if_neg (by omega), if_neg (by omega), if_neg (by omega), if_neg (by omega), if_pos (by omega), show 8 + j - 8 = j by omega]
theorem wkF_d (m b : Nat) (K : Wk) (sl : Value) (j : Nat) (h : j < 8) : wkF m b K sl (155 + j) = .int .i64 (K.d j) := by
  unfold wkF; rw [if_neg (by omega), if_neg (by omega), if_neg (by omega), if_neg (by omega), if_neg (by omega), if_neg (by omega), if_pos (by omega), show 155 + j - 155 = j by omega]
section
variable {m b x : Nat} {K : Wk} {sl : Value} {w : World}
theorem WRepZ.pm (h : WRepZ m b K sl w x) : w.cell? ⟨x, 0, none⟩ = some (.pointer (some ⟨m, 0, none⟩)) := Blk.cell h 0 (by decide)
theorem WRepZ.pb (h : WRepZ m b K sl w x) : w.cell? ⟨x, 1, none⟩ = some (.pointer (some ⟨b, 0, none⟩)) := Blk.cell h 1 (by decide)
theorem WRepZ.cg (h : WRepZ m b K sl w x) : w.cell? ⟨x, 2, none⟩ = some (.int .i64 K.gen) := Blk.cell h 2 (by decide)
theorem WRepZ.c3 (h : WRepZ m b K sl w x) : w.cell? ⟨x, 5, none⟩ = some (.int .i64 (K.b.getD 3 0)) := Blk.cell h 5 (by decide)
theorem WRepZ.csl (h : WRepZ m b K sl w x) : w.cell? ⟨x, 6, none⟩ = some (.int .i64 K.sl) := Blk.cell h 6 (by decide)
theorem WRepZ.cq (h : WRepZ m b K sl w x) : w.cell? ⟨x, 7, none⟩ = some (.int .i64 K.q) := Blk.cell h 7 (by decide)
theorem WRepZ.cs (h : WRepZ m b K sl w x) : w.cell? ⟨x, 163, none⟩ = some sl := Blk.cell h 163 (by decide)
theorem WRepZ.cd (h : WRepZ m b K sl w x) (i : Nat) (hi : i < 8) : w.cell? ⟨x, 155 + i, none⟩ = some (.int .i64 (K.d i)) := by rw [Blk.cell h (155 + i) (by omega), wkF_d _ _ _ _ _ hi]
theorem WRepZ.fr (h : WRepZ m b K sl w x) (i : Nat) : w.frozen? ⟨x, i, none⟩ = false := Blk.free h i
theorem WRepZ.rb (h : WRepZ m b K sl w x) (hb : K.b.length = 4) : w.rangeAt x 2 (iv .i64 K.b).toList := by
  have e : (iv .i64 K.b).toList = (List.range 4).map fun j => Value.int .i64 (K.b.getD j 0) := by
    have := hb
    match hK : K.b, this with
    | [a, c, d, f], _ => rfl
  rw [e]
  exact Blk.range h 2 4 (by decide) _ fun j hj => wkF_b m b K sl j hj
theorem WRepZ.rk (h : WRepZ m b K sl w x) : w.rangeAt x 8 (tabV K.k).toList := by rw [tabV_list]; exact Blk.range h 8 147 (by decide) _ fun j hj => wkF_k m b K sl j hj
theorem WRepZ.rd (h : WRepZ m b K sl w x) : w.rangeAt x 155 (dirV K.d).toList := by rw [dirV_list]; exact Blk.range h 155 8 (by decide) _ fun j hj => wkF_d m b K sl j hj
/-- The line of a leaf, or of the root, is set. -/
theorem WRepZ.putD (h : WRepZ m b K sl w x) (i : Nat) (hi : i < 8) (v : Int) : WRepZ m b ⟨K.b, K.sl, K.q, K.k, upd K.d i v, K.l⟩ sl (w.setCell ⟨x, 155 + i, none⟩ (.int .i64 v)) x :=
  (Blk.set h (155 + i) (.int .i64 v)).ext fun j hj => by
    by_cases e : j = 155 + i
    · subst e
      rw [upd_same, wkF_d _ _ _ _ _ hi]
      show _ = Value.int _ (upd K.d i v i)
      rw [upd_same]
    · rw [upd_other _ _ _ _ e]
      unfold wkF
      by_cases h1 : j < 155 ∨ 163 ≤ j
      · repeat' split
        all_goals first | rfl | omega
      · have h2 : ¬ j < 155 := fun q => h1 (Or.inl q)
        have h3 : j < 163 := by omega
        rw [if_neg (by omega), if_neg (by omega), if_neg (by omega), if_neg (by omega), if_neg (by omega), if_neg h2, if_pos h3, if_neg (by omega), if_neg (by omega), if_neg (by omega), if_neg (by omega), if_neg (by omega), if_neg h2, if_pos h3]
        show _ = Value.int _ (upd K.d i v (j - 155))
        rw [upd_other _ _ _ _ (by omega)]
/-- The steps that are left are others. -/
theorem WRepZ.putS (h : WRepZ m b K sl w x) (r : List (Nat × Int)) (sl' : Value) : WRepZ m b (K.less r) sl' (w.setCell ⟨x, 163, none⟩ sl') x :=
  (Blk.set h 163 sl').ext fun j hj => by
    by_cases e : j = 163
    · subst e; rw [upd_same]; rfl
    · rw [upd_other _ _ _ _ e]
      unfold wkF
      repeat' split
      all_goals first | rfl | omega
/-- Another superblock counts, in its slot. -/
theorem WRepZ.putB (h : WRepZ m b K sl w x) (s : List Int) (hs : s.length = 4) (z : Int) : WRepZ m b ⟨s, z, K.q, K.k, K.d, K.l⟩ sl ((w.setCells x 2 (iv .i64 s).toList).setCell ⟨x, 6, none⟩ (.int .i64 z)) x := by
  have hl : (iv .i64 s).toList.length = 4 := by rw [Array.length_toList, iv_size, hs]
  refine (Blk.set (Blk.sets (iv .i64 s).toList w _ 2 h) 6 (.int .i64 z)).ext fun j hj => ?_
  by_cases e : j = 6
  · subst e; rw [upd_same]; rfl
  · rw [upd_other _ _ _ _ e]
    by_cases h4 : 2 ≤ j ∧ j < 6
    · rw [if_pos (by omega)]
      obtain ⟨i, rfl⟩ : ∃ i, j = 2 + i := ⟨j - 2, by omega⟩
      rw [wkF_b _ _ _ _ _ (by omega), show 2 + i - 2 = i by omega]
      match s, hs with
      | [c0, c1, c2, c3], _ =>
        match i, (show i < 4 by omega) with
        | 0, _ => rfl
        | 1, _ => rfl
        | 2, _ => rfl
        | 3, _ => rfl
    · rw [if_neg (by omega)]
      unfold wkF
      repeat' split
      all_goals first | rfl | omega
end
/-- A checkpoint's cells. -/
def ckF (q : Int) (k : Nat → En) (d : Nat → Int) (sl : Value) (i : Nat) : Value := if i = 0 then .int .i64 q else if i < 148 then .int .i64 (fl3 k (i - 1)) else if i < 156 then .int .i64 (d (i - 148)) else sl
def ckV (q : Int) (k : Nat → En) (d : Nat → Int) (sl : Value) : Array Value := tab 157 (ckF q k d sl)
theorem ckV_size (q : Int) (k : Nat → En) (d : Nat → Int) (sl : Value) : (ckV q k d sl).size = 157 := tab_size _ _
theorem WRepZ.putC {m b x : Nat} {K : Wk} {sl : Value} {w : World} (h : WRepZ m b K sl w x) (q : Int) (k : Nat → En) (d : Nat → Int) (sl' : Value) (l : List (Nat × Int)) : WRepZ m b ⟨K.b, K.sl, q, k, d, l⟩ sl' (w.setCells x 7 (ckV q k d sl').toList) x := by
  have hl : (ckV q k d sl').toList.length = 157 := by rw [Array.length_toList, ckV_size]
  refine (Blk.sets (ckV q k d sl').toList w _ 7 h).ext fun j hj => ?_
  by_cases h7 : 7 ≤ j
  · rw [if_pos (by omega)]
    have hg : (ckV q k d sl').toList.getD (j - 7) undef = ckF q k d sl' (j - 7) := by
      rw [List.getD_eq_getElem?_getD, Array.getElem?_toList, show (ckV q k d sl')[j - 7]? = some (ckF q k d sl' (j - 7)) from tab_get _ _ _ (by omega)]; rfl
    rw [hg]
    unfold ckF wkF
    rw [if_neg (show ¬ j = 0 by omega), if_neg (show ¬ j = 1 by omega), if_neg (show ¬ j < 6 by omega), if_neg (show ¬ j = 6 by omega)]
    by_cases e7 : j = 7
    · rw [if_pos (by omega), if_pos e7]
    · rw [if_neg (show ¬ j - 7 = 0 by omega), if_neg e7]
      by_cases e8 : j < 155
      · rw [if_pos (by omega), if_pos e8, show j - 7 - 1 = j - 8 by omega]
      · rw [if_neg (by omega), if_neg e8]
        by_cases e9 : j < 163
        · rw [if_pos (by omega), if_pos e9, show j - 7 - 148 = j - 155 by omega]
        · rw [if_neg (by omega), if_neg e9]
  · rw [if_neg (by omega)]
    unfold wkF
    repeat' split
    all_goals first | rfl | omega

/-! ### a worker beside its store -/
structure WH (W : World) (m b x : Nat) (St : Mm → World → (Nat → Prop) → Prop) (S : Sto) (A : Mm) (K : Wk) (sl : Value) (w : World) (G : Nat → Prop) : Prop where
  rep : WRepZ m b K sl w x
  row : StepRow w sl K.l
  st : SHas W m b St S A w (fun k => G k ∨ k = x ∨ sl.ownBlock = some k)
  nx : ¬ G x
  newx : W.heap.size ≤ x
  ns : ∀ k, sl.ownBlock = some k → ¬ G k ∧ W.heap.size ≤ k ∧ k ≠ x
def WHas (W : World) (m b x : Nat) (St : Mm → World → (Nat → Prop) → Prop) (S : Sto) (A : Mm) (K : Wk) (w : World) (G : Nat → Prop) : Prop := ∃ sl, WH W m b x St S A K sl w G
section
variable {W w w' : World} {m b x : Nat} {St : Mm → World → (Nat → Prop) → Prop} {S : Sto} {A : Mm} {K : Wk} {sl : Value} {G : Nat → Prop}
theorem WH.lt (h : WH W m b x St S A K sl w G) : x < w.heap.size := Blk.lt h.rep
theorem WH.slt (M : MemL W m St) (h : WH W m b x St S A K sl w G) : ∀ k, sl.ownBlock = some k → k < w.heap.size := fun k hk => (SHas.stay M b S A).lt _ _ h.st k (Or.inr (Or.inr hk))
theorem WH.stay (M : MemL W m St) (b x : Nat) (S : Sto) (A : Mm) (K : Wk) (sl : Value) : Stay W (WH W m b x St S A K sl) where
  al := fun w G o h => ⟨Blk.alloc h.rep o, h.row.same (fun k hk => Below.heap_alloc _ _ _ (h.slt M k hk)), (SHas.stay M b S A).ls _ _ _ ((SHas.stay M b S A).al _ _ o h.st) (fun k hk => by
    rcases hk with (hk | hk) | hk | hk
    · exact Or.inl (Or.inl hk)
    · exact Or.inr hk
    · exact Or.inl (Or.inr (Or.inl hk))
    · exact Or.inl (Or.inr (Or.inr hk))), fun hk => by
    rcases hk with hk | hk
    · exact h.nx hk
    · have := h.lt; omega, h.newx, fun k hk => ⟨fun hg => by
    rcases hg with hg | hg
    · exact (h.ns k hk).1 hg
    · have := h.slt M k hk; omega, (h.ns k hk).2⟩⟩
  ls := fun w G G' h hs => ⟨h.rep, h.row, (SHas.stay M b S A).ls _ _ _ h.st (fun k hk => hk.imp (hs k) id), fun hk => h.nx (hs _ hk), h.newx, fun k hk => ⟨fun hg => (h.ns k hk).1 (hs _ hg), (h.ns k hk).2⟩⟩
  bl := fun w w' G h hk => ⟨Blk.keeps h.rep hk id, h.row.same (fun k e => hk.block k (h.slt M k e) id), (SHas.stay M b S A).bl _ _ _ h.st hk, h.nx, h.newx, h.ns⟩
  ow := fun w w' G L h hL hW hk => ⟨Blk.keeps h.rep hk (fun e => h.nx (e ▸ hL)), h.row.same (fun k e => hk.block k (h.slt M k e) (fun q => (h.ns k e).1 (q ▸ hL))), (SHas.stay M b S A).ow _ _ _ L h.st (Or.inl hL) hW hk, h.nx, h.newx, h.ns⟩
  lt := fun w G h k hk => (SHas.stay M b S A).lt _ _ h.st k (Or.inl hk)
  sz := fun w G h => (SHas.stay M b S A).sz _ _ h.st
theorem WHas.stay (M : MemL W m St) (b x : Nat) (S : Sto) (A : Mm) (K : Wk) : Stay W (WHas W m b x St S A K) where
  al := fun w G o ⟨sl, h⟩ => ⟨sl, (WH.stay M b x S A K sl).al _ _ o h⟩
  ls := fun w G G' ⟨sl, h⟩ hs => ⟨sl, (WH.stay M b x S A K sl).ls _ _ _ h hs⟩
  bl := fun w w' G ⟨sl, h⟩ hk => ⟨sl, (WH.stay M b x S A K sl).bl _ _ _ h hk⟩
  ow := fun w w' G L ⟨sl, h⟩ hL hW hk => ⟨sl, (WH.stay M b x S A K sl).ow _ _ _ L h hL hW hk⟩
  lt := fun w G ⟨sl, h⟩ => (WH.stay M b x S A K sl).lt _ _ h
  sz := fun w G ⟨sl, h⟩ => (WH.stay M b x S A K sl).sz _ _ h
/-- A call of the store, or of the memory, turns the store and the memory alone. -/
theorem WH.lift (h : WH W m b x St S A K sl w G) {S' : Sto} {A' : Mm} {v : Value} {e : Ending} (hd : Done (SHas W m b St S' A') w (fun k => G k ∨ k = x ∨ sl.ownBlock = some k) v e w') : Done (WH W m b x St S' A' K sl) w G v e w' := by
  obtain ⟨he, h1, h2⟩ := hd
  refine ⟨he, ⟨?_, h.row.same (fun k hk => h2 k (Or.inr (Or.inr hk))), h1, h.nx, h.newx, h.ns⟩, fun k hg => h2 k (Or.inl hg)⟩
  have := h.rep
  unfold WRepZ Blk at this ⊢
  rw [h2 x (Or.inr (Or.inl rfl))]; exact this
end

end Go.Proofs.YtiafhcgaikapcaaGreat


/-
  A worker's Left; its steps that flush an object's line, and that fence.
-/
namespace Go.Proofs.YtiafhcgaikapcaaGreat
open Go.ChangeShapes Go.WideShapes Go.ChangeAt Go.RowKit Go.Joins
set_option maxRecDepth 10000
set_option linter.unusedVariables false
set_option linter.unusedSimpArgs false

theorem wleft_any {W w : World} {m b x : Nat} {St : Mm → World → (Nat → Prop) → Prop} {S : Sto} {A : Mm} {K : Wk} {sl : Value} {G : Nat → Prop} (h : WH W m b x St S A K sl w G) :
    Calls Tryz.prog 35 #[.pointer (some ⟨x, 0, none⟩)] w fun e w' => e = .returned (.int .i64 (K.l.length : Int)) ∧ w' = w := by
  obtain ⟨a, c, hv⟩ := h.row.len
  have cs := h.rep.cs
  rw [hv] at cs
  clear h hv
  generalize K.l.length = n at *
  go_enter Tryz.func35, Tryz.ntmps35
  go_wp2_with fail
  go_ret
  exact ⟨rfl, rfl⟩
theorem wflush_any {W w : World} {m b x : Nat} {St : Mm → World → (Nat → Prop) → Prop} {S : Sto} {A : Mm} {K : Wk} {sl : Value} {G : Nat → Prop} (M : MemX W m St) (h : WH W m b x St S A K sl w G) (hok : A.ok 1000) (z : Int) :
    Calls Tryz.prog 148 #[.pointer (some ⟨x, 0, none⟩), .int .i64 z] w (Done (WH W m b x St S (A.flushZ 0 z) K sl) w G (.int .i64 (A.flushE 0 z))) := by
  have C := hide (h.st.flush M hok 0 z)
  have HH := hide h
  have pm := h.rep.pm
  clear h
  generalize A.flushE 0 z = E at *
  generalize A.flushZ 0 z = A2 at *
  go_enter Tryz.func148, Tryz.ntmps148
  go_wp2_with fail
  refine (unhide C).mono ?_
  intro e w1 hd
  have HD := hide ((unhide HH).lift hd)
  obtain ⟨rfl, -, -⟩ := hd
  clear C HH pm
  go_wp2_with fail
  go_ret
  exact unhide HD
theorem wfence_any {W w : World} {m b x : Nat} {St : Mm → World → (Nat → Prop) → Prop} {S : Sto} {A : Mm} {K : Wk} {sl : Value} {G : Nat → Prop} (M : MemX W m St) (h : WH W m b x St S A K sl w G) (hok : A.ok 1000) (z : Int) :
    Calls Tryz.prog 152 #[.pointer (some ⟨x, 0, none⟩), .int .i64 z] w (Done (WH W m b x St S (A.fenceZ 0) K sl) w G (.int .i64 (A.fenceE 0))) := by
  have C := hide (h.st.fence M hok 0)
  have HH := hide h
  have pm := h.rep.pm
  clear h
  generalize A.fenceE 0 = E at *
  generalize A.fenceZ 0 = A2 at *
  go_enter Tryz.func152, Tryz.ntmps152
  go_wp2_with fail
  refine (unhide C).mono ?_
  intro e w1 hd
  have HD := hide ((unhide HH).lift hd)
  obtain ⟨rfl, -, -⟩ := hd
  clear C HH pm
  go_wp2_with fail
  go_ret
  exact unhide HD

end Go.Proofs.YtiafhcgaikapcaaGreat


/-
  A worker's write: a frame is taken for a line of the directory, which is stored there, and flushed.
-/
namespace Go.Proofs.YtiafhcgaikapcaaGreat
open Go.ChangeShapes Go.WideShapes Go.ChangeAt Go.RowKit Go.Joins
set_option maxRecDepth 10000
set_option linter.unusedVariables false
set_option linter.unusedSimpArgs false

theorem lnV_listF (l : List Int) (h : l.length = 8) : iv .u64 l = lnV (listF l) := by
  rw [lnV_iv]
  congr 1
  exact (list_ext0 (n := 8) h (rowOf_len _) fun m hm => by rw [rowOf_get _ m hm]; rfl)
/-- Behind a write: the worker's Dir has the line. -/
def Wk.laid (K : Wk) (S : Sto) (A : Mm) (l : List Int) (at' : Int) : Wk := if putE S A l = 0 then ⟨K.b, K.sl, K.q, K.k, upd K.d at'.toNat S.F.allocV, K.l⟩ else K
theorem put_laid (K : Wk) (S : Sto) (A : Mm) (p : Nat × Int) : K.put S A p = K.laid S A (K.line p) p.2 := rfl
theorem WH.setD {W w : World} {m b x : Nat} {St : Mm → World → (Nat → Prop) → Prop} {S : Sto} {A : Mm} {K : Wk} {sl : Value} {G : Nat → Prop} (M : MemL W m St) (h : WH W m b x St S A K sl w G) (i : Nat) (hi : i < 8) (v : Int) :
    WH W m b x St S A ⟨K.b, K.sl, K.q, K.k, upd K.d i v, K.l⟩ sl (w.setCell ⟨x, 155 + i, none⟩ (.int .i64 v)) G ∧ Same G w (w.setCell ⟨x, 155 + i, none⟩ (.int .i64 v)) := by
  have hk : Keeps (· = x) w (w.setCell ⟨x, 155 + i, none⟩ (.int .i64 v)) := Keeps.setCell (F := (· = x)) (p := ⟨x, 155 + i, none⟩) (Keeps.refl _ _) rfl _
  refine ⟨⟨h.rep.putD i hi v, h.row.same (fun k e => hk.block k (h.slt M k e) (h.ns k e).2.2), (SHas.stay M b S A).ow _ _ _ x h.st (Or.inr (Or.inl rfl)) h.newx hk, h.nx, h.newx, h.ns⟩, fun k hg => ?_⟩
  exact hk.block k ((SHas.stay M b S A).lt _ _ h.st k (Or.inl hg)) (fun e => h.nx (e ▸ hg))


set_option maxHeartbeats 4000000 in
theorem wwrite_any {W w : World} {m b x : Nat} {St : Mm → World → (Nat → Prop) → Prop} {S : Sto} {A : Mm} {K : Wk} {sl : Value} {G : Nat → Prop} (M : MemX W m St) (h : WH W m b x St S A K sl w G) (hS : S.ok) (hA : A.ok 900) (n : Nat) (hn : n < 8) (l : List Int) (hl : l.length = 8) (hw : ∀ z ∈ l, (Lit.int .u64 z).wf = true) :
    Calls Tryz.prog 186 #[.pointer (some ⟨x, 0, none⟩), .int .i64 (n : Int), .agg (iv .u64 l), .int .i64 0] w (Done (WH W m b x St S.took (putM S A l) (K.laid S A l (n : Int)) sl) w G (.int .i64 (putE S A l))) := by
  rw [lnV_listF l hl]
  have T0 := hide (WH.stay M.toMemL b x S A K sl)
  have O0 := hide ((Held.start (unhide T0) h).alloc (unhide T0) (.cells (lnV (listF l)) 83))
  have CT := hide (fun (w' : World) (G' : Nat → Prop) (h' : SHas W m b St S A w' G') => take_obj M.toMemL h' hS)
  by_cases he : S.F.allocE = 0
  · have EM : Hid (putM S A l = if (layP A S.F.allocV (listF l) 8).2 = 0 then (layP A S.F.allocV (listF l) 8).1.flushZ 0 S.F.allocV else (layP A S.F.allocV (listF l) 8).1) := by show _ = _; unfold putM; rw [if_pos he]
    have EE : Hid (putE S A l = if (layP A S.F.allocV (listF l) 8).2 = 0 then (layP A S.F.allocV (listF l) 8).1.flushE 0 S.F.allocV else (layP A S.F.allocV (listF l) 8).2) := by show _ = _; unfold putE; rw [if_pos he]
    have EK1 : Hid (putE S A l = 0 → K.laid S A l (n : Int) = ⟨K.b, K.sl, K.q, K.k, upd K.d n S.F.allocV, K.l⟩) := fun q => by unfold Wk.laid; rw [if_pos q]; rfl
    have EK2 : Hid (putE S A l ≠ 0 → K.laid S A l (n : Int) = K) := fun q => by unfold Wk.laid; rw [if_neg q]
    have HS : Hid (∀ j, (layP A S.F.allocV (listF l) j).2 = 0 → (layP A S.F.allocV (listF l) (j + 1)).1 = (layP A S.F.allocV (listF l) j).1.storeZ S.F.allocV j (listF l j) ∧ (layP A S.F.allocV (listF l) (j + 1)).2 = (layP A S.F.allocV (listF l) j).1.storeE S.F.allocV j) := fun j q => by
      rw [layP_next q]; exact ⟨rfl, rfl⟩
    have H8 : Hid (∀ j, j ≤ 8 → (layP A S.F.allocV (listF l) j).2 ≠ 0 → layP A S.F.allocV (listF l) 8 = layP A S.F.allocV (listF l) j) := fun j hj q => by
      have := layP_stuck q (8 - j)
      rwa [show j + (8 - j) = 8 by omega] at this
    have HO : Hid (∀ j, j ≤ 8 → (layP A S.F.allocV (listF l) j).1.ok 1000) := fun j hj => ok_mono (layP_ok hA _ (listF l) (listF_inU hw) j) (by omega)
    have H0 : Hid ((layP A S.F.allocV (listF l) 0) = (A, 0)) := rfl
    rw [he] at CT
    obtain ⟨PM, hPM⟩ : ∃ PM, PM = layP A S.F.allocV (listF l) := ⟨_, rfl⟩
    rw [← hPM] at EM EE HS H8 HO H0
    clear hPM
    have HX : Hid (∀ j, j < 8 → (lnV (listF l))[j]? = some (.int .u64 (listF l j))) := fun j hj => lnV_get (listF l) j hj
    have TT := hide (WH.stay M.toMemL b x S.took A K sl)
    have s8 := s8_ln (listF l)
    obtain ⟨g, hg⟩ : ∃ g, g = w.heap.size := ⟨_, rfl⟩
    rw [← hg] at O0
    have HM := hide M
    clear h hS hl hw M hA he
    generalize S.took = S1 at *
    generalize S.F.allocV = V at *
    generalize lnV (listF l) = LV at *
    generalize listF l = lf at *
    go_enter Tryz.func186, Tryz.ntmps186
    go_upto_region 3 with fail
    rw [← hg]
    clear hg
    generalize w.alloc (.cells LV 83) = w1 at *
    have pb := (unhide O0).st.rep.pb
    go_wp2_with fail
    refine (unhide CT _ _ (unhide O0).st.st).mono ?_
    intro e w2 hd
    have hd2 := (unhide O0).st.lift hd
    obtain ⟨rfl, -, -⟩ := hd
    have O1 := hide ((unhide O0).call (St' := WH W m b x St S1 A K sl) hd2.2.1 hd2.2.2)
    clear hd2 CT O0 pb T0
    go_upto_region 6 with fail
    have KL := hide ((unhide O1).at g (.cells LV 83) (by simp))
    go_wp2_with (with_reducible refine wpList_load_row (by with_unfolding_all rfl) 83 _ (by with_unfolding_all rfl) g (by with_unfolding_all rfl) _ _ _ _ (unhide KL) Tryz.underlying83 (by with_unfolding_all rfl) s8 ?_)
    clear KL s8
    go_loopw [37] (fun q wr => ∃ j : Nat, j ≤ 8 ∧ q = .int .i64 j ∧ (PM j).2 = 0 ∧ Held W (WH W m b x St S1 (PM j).1 K sl) w wr G [(g, .cells LV 83)]) (fun q _ => 8 - (intOf q).toNat)
    case atStart => exact ⟨0, by omega, rfl, by rw [unhide H0], by rw [unhide H0]; exact unhide O1⟩
    case round =>
      clear O1 TT
      obtain ⟨j, hj, rfl, hp, hh⟩ := hrel
      have HH := hide hh
      have HP := hide hp
      clear hh hp
      by_cases hlt : j < 8
      · have hlt' : (j : Int) < 8 := by omega
        have hix := fun W => run_index_lineO W LV .i64 j hlt _ (unhide HX j hlt)
        have pm := (unhide HH).st.rep.pm
        have CS := hide ((unhide HH).st.st.store (unhide HM).toMemL (unhide HO j (by omega)) V (j : Int) (lf j))
        rw [← (unhide HS j (unhide HP)).1, ← (unhide HS j (unhide HP)).2] at CS
        go_wp2_with fail
        refine (unhide CS).mono ?_
        intro e w3 hd
        have hd2 := (unhide HH).st.lift hd
        obtain ⟨rfl, -, -⟩ := hd
        have O2 := hide ((unhide HH).call (St' := WH W m b x St S1 (PM (j + 1)).1 K sl) hd2.2.1 hd2.2.2)
        clear hd2 HH CS hix pm
        by_cases hq : (PM (j + 1)).2 = 0
        · have HQ := hide hq
          rw [hq]
          clear hq
          go_wp2_with fail
          go_roundw
          case rel => exact ⟨j + 1, by omega, by go_num, unhide HQ, unhide O2⟩
          case measure => simp [intOf]; omega
        · have e8 := hide (unhide H8 (j + 1) (by omega) hq)
          have EQ : Hid (putE S A l = (PM (j + 1)).2) := (unhide EE).trans (by rw [unhide e8, if_neg hq])
          have EQM : Hid (putM S A l = (PM (j + 1)).1) := (unhide EM).trans (by rw [unhide e8, if_neg hq])
          have EQK : Hid (K.laid S A l (n : Int) = K) := unhide EK2 (by rw [unhide EQ]; exact hq)
          have hqb : ((PM (j + 1)).2 == 0) = false := by simpa using hq
          have hqb2 : ((PM (j + 1)).2 != 0) = true := by simpa using hq
          clear hq
          generalize (PM (j + 1)).2 = E at *
          go_wp2_with fail
          go_ret
          rw [unhide EQ, unhide EQM, unhide EQK]
          exact (unhide O2).done (WH.stay (unhide HM).toMemL b x _ _ K sl) _
      · obtain rfl : j = 8 := by omega
        have pm := (unhide HH).st.rep.pm
        have CF := hide ((unhide HH).st.st.flush (unhide HM) (unhide HO 8 (by omega)) 0 V)
        have EQ : Hid (putE S A l = (PM 8).1.flushE 0 V) := (unhide EE).trans (if_pos (unhide HP))
        have EQM : Hid (putM S A l = (PM 8).1.flushZ 0 V) := (unhide EM).trans (if_pos (unhide HP))
        have EK3 : Hid ((PM 8).1.flushE 0 V = 0 → K.laid S A l (n : Int) = ⟨K.b, K.sl, K.q, K.k, upd K.d n V, K.l⟩) := fun q => unhide EK1 ((unhide EQ).trans q)
        have EK4 : Hid ((PM 8).1.flushE 0 V ≠ 0 → K.laid S A l (n : Int) = K) := fun q => unhide EK2 (by rw [unhide EQ]; exact q)
        clear EE EM EK1 EK2 HS H8 HO H0 HX HP
        generalize (PM 8).1.flushE 0 V = E at *
        generalize (PM 8).1.flushZ 0 V = A2 at *
        generalize (PM 8).1 = A1 at *
        go_wp2_with fail
        refine (unhide CF).mono ?_
        intro e w3 hd
        have hd2 := (unhide HH).st.lift hd
        obtain ⟨rfl, -, -⟩ := hd
        have O2 := hide ((unhide HH).call (St' := WH W m b x St S1 A2 K sl) hd2.2.1 hd2.2.2)
        clear hd2 HH CF pm
        by_cases hE : E = 0
        · have EK5 := hide (unhide EK3 hE)
          subst hE
          have cx := (unhide O2).st.rep.cd n hn
          have fx := (unhide O2).st.rep.fr (155 + n)
          have O3 := hide (Held.turn (unhide O2) ((unhide O2).st.setD (unhide HM).toMemL n hn V))
          have hn8 : (n : Int) < 8 := by omega
          have hn0 : (0 : Int) ≤ (n : Int) := by omega
          clear O2 EK3 EK4
          generalize K.d n = old at *
          go_wp2_with fail
          go_ret
          rw [unhide EQ, unhide EQM, unhide EK5]
          exact (unhide O3).done (WH.stay (unhide HM).toMemL b x _ _ _ sl) _
        · have EK5 := hide (unhide EK4 hE)
          have hqb : (E == 0) = false := by simpa using hE
          have hqb2 : (E != 0) = true := by simpa using hE
          clear hE EK3 EK4
          go_wp2_with fail
          go_ret
          rw [unhide EQ, unhide EQM, unhide EK5]
          exact (unhide O2).done (WH.stay (unhide HM).toMemL b x _ _ K sl) _
  · have EE : Hid (putE S A l = S.F.allocE) := by show _ = _; unfold putE; rw [if_neg he]
    have EM : Hid (putM S A l = A) := by show _ = _; unfold putM; rw [if_neg he]
    have EK : Hid (K.laid S A l (n : Int) = K) := by show _ = _; unfold Wk.laid; rw [if_neg (by rw [unhide EE]; exact he)]
    rw [unhide EM, unhide EE, unhide EK]
    have heb : (S.F.allocE != 0) = true := by simpa using he
    have heb2 : (S.F.allocE == 0) = false := by simpa using he
    obtain ⟨g, hg⟩ : ∃ g, g = w.heap.size := ⟨_, rfl⟩
    rw [← hg] at O0
    have HM := hide M
    clear h hS hl hw M hA he EE EM EK
    generalize S.took = S1 at *
    generalize S.F.allocV = V at *
    generalize S.F.allocE = E at *
    generalize lnV (listF l) = LV at *
    go_enter Tryz.func186, Tryz.ntmps186
    go_upto_region 3 with fail
    rw [← hg]
    clear hg
    generalize w.alloc (.cells LV 83) = w1 at *
    have pb := (unhide O0).st.rep.pb
    go_wp2_with fail
    refine (unhide CT _ _ (unhide O0).st.st).mono ?_
    intro e w2 hd
    have hd2 := (unhide O0).st.lift hd
    obtain ⟨rfl, -, -⟩ := hd
    have O1 := hide ((unhide O0).call (St' := WH W m b x St S1 A K sl) hd2.2.1 hd2.2.2)
    clear hd2 CT O0 pb T0
    go_wp2_with fail
    go_ret
    exact (unhide O1).done (WH.stay (unhide HM).toMemL b x _ _ K sl) _

end Go.Proofs.YtiafhcgaikapcaaGreat


/-
  A worker's steps that write a leaf, and the root.
-/
namespace Go.Proofs.YtiafhcgaikapcaaGreat
open Go.ChangeShapes Go.WideShapes Go.ChangeAt Go.RowKit Go.Joins
set_option maxRecDepth 10000
set_option linter.unusedVariables false
set_option linter.unusedSimpArgs false

theorem WRepZ.rd7 {m b x : Nat} {K : Wk} {sl : Value} {w : World} (h : WRepZ m b K sl w x) : w.rangeAt x 155 (iv .i64 (tab7 K.d)).toList := by
  have e : (iv .i64 (tab7 K.d)).toList = (List.range 7).map fun j => Value.int .i64 (K.d j) := by simp [iv, tab7]
  rw [e]
  exact Blk.range h 155 7 (by decide) _ fun j hj => wkF_d m b K sl j (by omega)
theorem zero_lnz : (Tryz.prog.info? 83).map (·.zero) = some (some (.agg (iv .u64 zs8))) := by kernel_rfl

set_option maxHeartbeats 4000000 in
theorem wleaf_any {W w : World} {m b x : Nat} {St : Mm → World → (Nat → Prop) → Prop} {S : Sto} {A : Mm} {K : Wk} {sl : Value} {G : Nat → Prop} (M : MemX W m St) (h : WH W m b x St S A K sl w G) (hS : S.ok) (hA : A.ok 900) (n : Nat) (hn : n < 7) (hE : leafKE (rowE 49 K.k) (n : Int) = 0) :
    Calls Tryz.prog 150 #[.pointer (some ⟨x, 0, none⟩), .int .i64 (n : Int)] w (Done (WH W m b x St S.took (putM S A (leafKV (rowE 49 K.k) (n : Int))) (K.laid S A (leafKV (rowE 49 K.k) (n : Int)) (n : Int)) sl) w G (.int .i64 (putE S A (leafKV (rowE 49 K.k) (n : Int))))) := by
  have T0 := hide (WH.stay M.toMemL b x S A K sl)
  have O0 := hide (Held.start (unhide T0) h)
  have CL := hide (leaf_any (rowE 49 K.k) (rowE_len 49 _) (n : Int) w)
  rw [hE] at CL
  have hl := leafKV_len (rowE 49 K.k) (n : Int)
  have CW := hide (fun (w' : World) (G' : Nat → Prop) (h' : WH W m b x St S A K sl w' G') => wwrite_any M h' hS hA n (by omega) (leafKV (rowE 49 K.k) (n : Int)) hl (zleafKV_wf _ _))
  have RK := hide h.rep.rk
  have e147 : tabV K.k = iv .i64 (rowE 49 K.k) := rfl
  have s147 : (Tryz.prog.info? 66).map (·.size) = some (tabV K.k).toList.length := by rw [Array.length_toList]; exact s147_tab K.k
  have s8 : (Tryz.prog.info? 83).map (·.size) = some (iv .u64 (leafKV (rowE 49 K.k) (n : Int))).size := s8_of _ hl
  have X8 := hide (iv_one .u64 (leafKV (rowE 49 K.k) (n : Int)))
  have SZ : Hid ((iv .u64 zs8).size = (iv .u64 (leafKV (rowE 49 K.k) (n : Int))).size) := by show _ = _; rw [iv_size, iv_size, hl]; rfl
  have ZL := hide zero_lnz
  generalize iv .u64 zs8 = ZV at *
  rw [← e147] at CL
  clear h hE hl e147
  generalize leafKV (rowE 49 K.k) (n : Int) = lv at *
  generalize tabV K.k = TV at *
  go_enter Tryz.func150, Tryz.ntmps150
  go_wp2_with (with_reducible refine wpList_load_mid (by with_unfolding_all rfl) 66 _ (by with_unfolding_all rfl) x 8 (by with_unfolding_all rfl) TV.toList _ (unhide RK) Tryz.underlying66 (by with_unfolding_all rfl) s147 ?_)
  refine (unhide CL).mono ?_
  rintro e w1 ⟨rfl, hb⟩
  have O1 := hide (((unhide O0).below (unhide T0) hb).alloc (unhide T0) (.cells (iv .u64 lv) 83))
  clear hb CL O0 RK s147
  go_upto_region 2 with (first | (with_reducible refine wpList_allocZ (by with_unfolding_all rfl) 83 (by with_unfolding_all rfl) ZV (unhide ZL) ?_) | (with_reducible refine wpList_store_row (by with_unfolding_all rfl) 83 _ _ (by with_unfolding_all rfl) w1.heap.size (iv .u64 lv) (by with_unfolding_all rfl) (by with_unfolding_all rfl) 83 ZV (heap_new w1 _) s8 (unhide SZ) (unhide X8) ?_; rw [setRow_alloc]))
  obtain ⟨g, hg⟩ : ∃ g, g = w1.heap.size := ⟨_, rfl⟩
  rw [← hg] at O1 ⊢
  clear hg
  generalize w1.alloc (.cells (iv .u64 lv) 83) = w2 at *
  have KL := hide ((unhide O1).at g (.cells (iv .u64 lv) 83) (by simp))
  go_wp2_with (with_reducible refine wpList_load_row (by with_unfolding_all rfl) 83 _ (by with_unfolding_all rfl) g (by with_unfolding_all rfl) _ _ _ _ (unhide KL) Tryz.underlying83 (by with_unfolding_all rfl) s8 ?_)
  refine (unhide CW _ _ (unhide O1).st).mono ?_
  intro e w3 hd
  have O2 := hide ((unhide O1).call hd.2.1 hd.2.2)
  obtain ⟨rfl, -, -⟩ := hd
  clear CW KL O1 s8 X8 SZ ZL
  generalize putE S A lv = E at *
  go_wp2_with fail
  go_ret
  exact (unhide O2).done (WH.stay M.toMemL b x _ _ _ sl) _

set_option maxHeartbeats 4000000 in
theorem wroot_any {W w : World} {m b x : Nat} {St : Mm → World → (Nat → Prop) → Prop} {S : Sto} {A : Mm} {K : Wk} {sl : Value} {G : Nat → Prop} (M : MemX W m St) (h : WH W m b x St S A K sl w G) (hS : S.ok) (hA : A.ok 900) (hE : rootE (tab7 K.d) = 0) :
    Calls Tryz.prog 151 #[.pointer (some ⟨x, 0, none⟩), .int .i64 7] w (Done (WH W m b x St S.took (putM S A (rootV (tab7 K.d))) (K.laid S A (rootV (tab7 K.d)) 7) sl) w G (.int .i64 (putE S A (rootV (tab7 K.d))))) := by
  have T0 := hide (WH.stay M.toMemL b x S A K sl)
  have O0 := hide (Held.start (unhide T0) h)
  have CL := hide (root_any (tab7 K.d) (tab7_len _) w)
  rw [hE] at CL
  have hl := rootV_len (tab7 K.d)
  have CW := hide (fun (w' : World) (G' : Nat → Prop) (h' : WH W m b x St S A K sl w' G') => wwrite_any M h' hS hA 7 (by omega) (rootV (tab7 K.d)) hl (rootV_wf _))
  have RK := hide h.rep.rd7
  have s7 : (Tryz.prog.info? 95).map (·.size) = some (iv .i64 (tab7 K.d)).toList.length := by rw [Array.length_toList]; exact s7_of _ (tab7_len _)
  have s8 : (Tryz.prog.info? 83).map (·.size) = some (iv .u64 (rootV (tab7 K.d))).size := s8_of _ hl
  have X8 := hide (iv_one .u64 (rootV (tab7 K.d)))
  have SZ : Hid ((iv .u64 zs8).size = (iv .u64 (rootV (tab7 K.d))).size) := by show _ = _; rw [iv_size, iv_size, hl]; rfl
  have ZL := hide zero_lnz
  have hAr : ∀ W, Sem.run Tryz.prog (Instr.arrayAt 95 (.slice (some ⟨x, 155, none⟩) 7 8)) W = .ok (.pointer (some ⟨x, 155, none⟩)) W := fun W => by simp [Instr.arrayAt, run_underlying Tryz.underlying95, go_sem]
  generalize iv .u64 zs8 = ZV at *
  clear h hE hl
  generalize rootV (tab7 K.d) = lv at *
  generalize iv .i64 (tab7 K.d) = TV at *
  go_enter Tryz.func151, Tryz.ntmps151
  go_wp2_with (with_reducible refine wpList_load_mid (by with_unfolding_all rfl) 95 _ (by with_unfolding_all rfl) x 155 (by with_unfolding_all rfl) TV.toList _ (unhide RK) Tryz.underlying95 (by with_unfolding_all rfl) s7 ?_)
  refine (unhide CL).mono ?_
  rintro e w1 ⟨rfl, hb⟩
  have O1 := hide (((unhide O0).below (unhide T0) hb).alloc (unhide T0) (.cells (iv .u64 lv) 83))
  clear hb CL O0 RK s7
  go_upto_region 2 with (first | (with_reducible refine wpList_allocZ (by with_unfolding_all rfl) 83 (by with_unfolding_all rfl) ZV (unhide ZL) ?_) | (with_reducible refine wpList_store_row (by with_unfolding_all rfl) 83 _ _ (by with_unfolding_all rfl) w1.heap.size (iv .u64 lv) (by with_unfolding_all rfl) (by with_unfolding_all rfl) 83 ZV (heap_new w1 _) s8 (unhide SZ) (unhide X8) ?_; rw [setRow_alloc]))
  obtain ⟨g, hg⟩ : ∃ g, g = w1.heap.size := ⟨_, rfl⟩
  rw [← hg] at O1 ⊢
  clear hg
  generalize w1.alloc (.cells (iv .u64 lv) 83) = w2 at *
  have KL := hide ((unhide O1).at g (.cells (iv .u64 lv) 83) (by simp))
  go_wp2_with (with_reducible refine wpList_load_row (by with_unfolding_all rfl) 83 _ (by with_unfolding_all rfl) g (by with_unfolding_all rfl) _ _ _ _ (unhide KL) Tryz.underlying83 (by with_unfolding_all rfl) s8 ?_)
  refine (unhide CW _ _ (unhide O1).st).mono ?_
  intro e w3 hd
  have O2 := hide ((unhide O1).call hd.2.1 hd.2.2)
  obtain ⟨rfl, -, -⟩ := hd
  clear CW KL O1 s8 X8 SZ ZL
  generalize putE S A lv = E at *
  go_wp2_with fail
  go_ret
  exact (unhide O2).done (WH.stay M.toMemL b x _ _ _ sl) _

end Go.Proofs.YtiafhcgaikapcaaGreat


/-
  A worker's last step: the superblock is written, and then counts.
-/
namespace Go.Proofs.YtiafhcgaikapcaaGreat
open Go.ChangeShapes Go.WideShapes Go.ChangeAt Go.RowKit Go.Joins
set_option maxRecDepth 10000
set_option linter.unusedVariables false
set_option linter.unusedSimpArgs false

theorem yieldsIf_build4 {P : Program} {ops : Array Oper} {S : World → Prop} {op : Oper} {a : Act} (hw : Region.wanted op (yielded ops a.tmps) = true) (t : TypeId) (x0 x1 x2 x3 : Operand) (ho : op.op = .build t #[(0, x0), (1, x1), (2, x2), (3, x3)])
    (u0 u1 u2 u3 : Value) (h0 : a.eval x0 = u0) (h1 : a.eval x1 = u1) (h2 : a.eval x2 = u2) (h3 : a.eval x3 = u3) (cs : Array Value) (hb : P.built t [(0, u0), (1, u1), (2, u2), (3, u3)] = some cs) : YieldsIf P ops S op (.agg cs) a :=
  Or.inl ⟨hw, fun w _ => by
    have h := run_build (P := P) w t #[(0, u0), (1, u1), (2, u2), (3, u3)] cs hb
    unfold execOp
    simp [ho, h0, h1, h2, h3, Sem.run_bind, h]⟩
theorem built_sup (a b c d : Int) : Tryz.prog.built 49 [(0, .int .i64 a), (1, .int .i64 b), (2, .int .i64 c), (3, .int .i64 d)] = some (iv .i64 [a, b, c, d]) := by kernel_rfl
theorem s4_sup (l : List Int) (h : l.length = 4) : (Tryz.prog.info? 49).map (·.size) = some (iv .i64 l).size := by rw [iv_size, h]; kernel_rfl
theorem Wk.next_len (K : Wk) : K.next.length = 4 := rfl
theorem WH.setB {W w : World} {m b x : Nat} {St : Mm → World → (Nat → Prop) → Prop} {S : Sto} {A : Mm} {K : Wk} {sl : Value} {G : Nat → Prop} (M : MemL W m St) (h : WH W m b x St S A K sl w G) (s : List Int) (hs : s.length = 4) (z : Int) :
    WH W m b x St S A ⟨s, z, K.q, K.k, K.d, K.l⟩ sl ((w.setCells x 2 (iv .i64 s).toList).setCell ⟨x, 6, none⟩ (.int .i64 z)) G ∧ Same G w ((w.setCells x 2 (iv .i64 s).toList).setCell ⟨x, 6, none⟩ (.int .i64 z)) := by
  have hk : Keeps (· = x) w ((w.setCells x 2 (iv .i64 s).toList).setCell ⟨x, 6, none⟩ (.int .i64 z)) := (keeps_cells x (iv .i64 s).toList w 2).trans' (Keeps.setCell (F := (· = x)) (p := ⟨x, 6, none⟩) (Keeps.refl _ _) rfl _)
  refine ⟨⟨h.rep.putB s hs z, h.row.same (fun k e => hk.block k (h.slt M k e) (h.ns k e).2.2), (SHas.stay M b S A).ow _ _ _ x h.st (Or.inr (Or.inl rfl)) h.newx hk, h.nx, h.newx, h.ns⟩, fun k hg => ?_⟩
  exact hk.block k ((SHas.stay M b S A).lt _ _ h.st k (Or.inl hg)) (fun e => h.nx (e ▸ hg))

/-- What commit makes. -/
def Wk.comE (K : Wk) (S : Sto) (A : Mm) : Int := if A.writeE 0 (1 - K.sl) K.next = 0 then S.doneE else A.writeE 0 (1 - K.sl) K.next
def Wk.comS (K : Wk) (S : Sto) (A : Mm) : Sto := if A.writeE 0 (1 - K.sl) K.next = 0 then S.commitS K.d else S
def Wk.comK (K : Wk) (S : Sto) (A : Mm) : Wk := if A.writeE 0 (1 - K.sl) K.next = 0 ∧ S.doneE = 0 then ⟨K.next, 1 - K.sl, K.q, K.k, K.d, K.l⟩ else K

set_option maxHeartbeats 8000000 in
theorem wcommit_any {W w : World} {m b x : Nat} {St : Mm → World → (Nat → Prop) → Prop} {S : Sto} {A : Mm} {K : Wk} {sl : Value} {G : Nat → Prop} (M : MemX W m St) (h : WH W m b x St S A K sl w G) (hS : S.ok) (hA : A.ok 900) (hg : 0 ≤ K.gen ∧ K.gen ≤ 1099511627776) (hsl : 0 ≤ K.sl ∧ K.sl ≤ 1) (z : Int) :
    Calls Tryz.prog 153 #[.pointer (some ⟨x, 0, none⟩), .int .i64 z] w (Done (WH W m b x St (K.comS S A) (A.writeZ 0 (1 - K.sl) K.next) (K.comK S A) sl) w G (.int .i64 (K.comE S A))) := by
  have T0 := hide (WH.stay M.toMemL b x S A K sl)
  have O0 := hide (Held.start (unhide T0) h)
  have CW := hide (fun (w' : World) (G' : Nat → Prop) (h' : SHas W m b St S A w' G') => h'.write M hA 0 (1 - K.sl) K.next K.next_len)
  have CC := hide (fun (A' : Mm) (w' : World) (G' : Nat → Prop) (h' : SHas W m b St S A' w' G') => commit_any M.toMemL h' hS K.d)
  have eK1 : Hid (A.writeE 0 (1 - K.sl) K.next ≠ 0 → K.comE S A = A.writeE 0 (1 - K.sl) K.next ∧ K.comS S A = S ∧ K.comK S A = K) := fun q => by
    unfold Wk.comE Wk.comS Wk.comK
    rw [if_neg q, if_neg q, if_neg (fun c => q c.1)]; exact ⟨rfl, rfl, rfl⟩
  have eK2 : Hid (A.writeE 0 (1 - K.sl) K.next = 0 → K.comE S A = S.doneE ∧ K.comS S A = S.commitS K.d ∧ (S.doneE = 0 → K.comK S A = ⟨K.next, 1 - K.sl, K.q, K.k, K.d, K.l⟩) ∧ (S.doneE ≠ 0 → K.comK S A = K)) := fun q => by
    unfold Wk.comE Wk.comS Wk.comK
    rw [if_pos q, if_pos q]
    exact ⟨rfl, rfl, fun d => if_pos ⟨q, d⟩, fun d => if_neg (fun c => d c.2)⟩
  have CE : Hid (∀ w', WRepZ m b K sl w' x → w'.cell? ⟨x, 2, none⟩ = some (.int .i64 K.gen) ∧ w'.cell? ⟨x, 162, none⟩ = some (.int .i64 (K.d 7)) ∧ w'.cell? ⟨x, 7, none⟩ = some (.int .i64 K.q) ∧ w'.cell? ⟨x, 5, none⟩ = some (.int .i64 (K.b.getD 3 0))) := fun w' r => ⟨r.cg, r.cd 7 (by decide), r.cq, r.c3⟩
  have CSL : Hid (∀ w', WRepZ m b K sl w' x → w'.cell? ⟨x, 6, none⟩ = some (.int .i64 K.sl)) := fun w' r => r.csl
  have BS := hide (built_sup (K.gen + 1) (K.d 7) K.q (K.b.getD 3 0))
  have NX : Hid (K.next = [K.gen + 1, K.d 7, K.q, K.b.getD 3 0]) := rfl
  rw [← unhide NX] at BS
  have s4 := s4_sup K.next K.next_len
  have X4 := hide (iv_one .i64 K.next)
  have SZ : Hid ((#[.int .i64 0, .int .i64 0, .int .i64 0, .int .i64 0] : Array Value).size = (iv .i64 K.next).size) := by show _ = _; rw [iv_size]; rfl
  have hg1 : In64 (K.gen + 1) := ⟨by omega, by omega⟩
  have hw : IntKind.i64.wrap (K.gen + 1) = K.gen + 1 := by simp [IntKind.wrap, IntKind.signed, IntKind.bits]; omega
  have hw2 : wrap64 (1 - K.sl) = 1 - K.sl := by simp only [wrap64]; omega
  clear h hS hA
  generalize hNV : iv .i64 K.next = NV at *
  generalize K.b.getD 3 0 = cores at *
  generalize K.gen = gen at *
  go_enter Tryz.func153, Tryz.ntmps153
  go_upto_region 1 with fail
  have O1 := hide ((unhide O0).drew (unhide T0))
  refine wp_region_noPanic ?_
  refine wp_region_held_drew (S := fun w' => w'.cell? ⟨x, 2, none⟩ = some (.int .i64 gen) ∧ w'.cell? ⟨x, 162, none⟩ = some (.int .i64 (K.d 7)) ∧ w'.cell? ⟨x, 7, none⟩ = some (.int .i64 K.q) ∧ w'.cell? ⟨x, 5, none⟩ = some (.int .i64 cores)) (by kernel_rfl) (unhide CE _ (unhide O1).st.rep) (fun hHeld => ?_)
  clear O0
  generalize w.drew = w1 at *
  refine take_at 0 9 (v := ?_) rfl rfl (by kernel_rfl) (by kernel_rfl) (by kernel_rfl) (Or.inl ⟨by rfl, ?_⟩) hHeld ?_
  rotate_left
  · intro w hSw; go_simp; with_reducible rfl
  simp only [Act.put, List.setIfInBounds_toArray, List.set_cons_zero, List.set_cons_succ]
  refine take_at 1 10 (v := ?_) rfl rfl (by kernel_rfl) (by kernel_rfl) (by kernel_rfl) (Or.inl ⟨by rfl, ?_⟩) hHeld ?_
  rotate_left
  · intro w hSw; go_simp; with_reducible rfl
  simp only [Act.put, List.setIfInBounds_toArray, List.set_cons_zero, List.set_cons_succ]
  refine take_at 2 11 (v := ?_) rfl rfl (by kernel_rfl) (by kernel_rfl) (by kernel_rfl) (Or.inl ⟨by rfl, ?_⟩) hHeld ?_
  rotate_left
  · intro w hSw; go_simp; with_reducible rfl
  simp only [Act.put, List.setIfInBounds_toArray, List.set_cons_zero, List.set_cons_succ]
  refine take_at 3 12 (v := ?_) rfl rfl (by kernel_rfl) (by kernel_rfl) (by kernel_rfl) (Or.inl ⟨by rfl, ?_⟩) hHeld ?_
  rotate_left
  · intro w hSw; go_simp; with_reducible rfl
  simp only [Act.put, List.setIfInBounds_toArray, List.set_cons_zero, List.set_cons_succ]
  refine take_at 4 13 (v := ?_) rfl rfl (by kernel_rfl) (by kernel_rfl) (by kernel_rfl) (Or.inl ⟨by rfl, ?_⟩) hHeld ?_
  rotate_left
  · intro w hSw; have c := hSw.1; go_simp; with_reducible rfl
  simp only [Act.put, List.setIfInBounds_toArray, List.set_cons_zero, List.set_cons_succ]
  refine take_at 5 14 (v := .int .i64 (gen + 1)) rfl rfl (by kernel_rfl) (by kernel_rfl) (by kernel_rfl) (Or.inl ⟨by rfl, ?_⟩) hHeld ?_
  · intro w hSw
    go_simp
    first | done | rw [hw] | simp [hw]
  simp only [Act.put, List.setIfInBounds_toArray, List.set_cons_zero, List.set_cons_succ]
  refine take_at 6 15 (v := ?_) rfl rfl (by kernel_rfl) (by kernel_rfl) (by kernel_rfl) (Or.inl ⟨by rfl, ?_⟩) hHeld ?_
  rotate_left
  · intro w hSw; go_simp; with_reducible rfl
  simp only [Act.put, List.setIfInBounds_toArray, List.set_cons_zero, List.set_cons_succ]
  refine take_at 7 16 (v := ?_) rfl rfl (by kernel_rfl) (by kernel_rfl) (by kernel_rfl) (Or.inl ⟨by rfl, ?_⟩) hHeld ?_
  rotate_left
  · intro w hSw; go_simp; with_reducible rfl
  simp only [Act.put, List.setIfInBounds_toArray, List.set_cons_zero, List.set_cons_succ]
  refine take_at 8 17 (v := ?_) rfl rfl (by kernel_rfl) (by kernel_rfl) (by kernel_rfl) (Or.inl ⟨by rfl, ?_⟩) hHeld ?_
  rotate_left
  · intro w hSw; go_simp; with_reducible rfl
  simp only [Act.put, List.setIfInBounds_toArray, List.set_cons_zero, List.set_cons_succ]
  refine take_at 9 18 (v := ?_) rfl rfl (by kernel_rfl) (by kernel_rfl) (by kernel_rfl) (Or.inl ⟨by rfl, ?_⟩) hHeld ?_
  rotate_left
  · intro w hSw; go_simp; with_reducible rfl
  simp only [Act.put, List.setIfInBounds_toArray, List.set_cons_zero, List.set_cons_succ]
  refine take_at 10 19 (v := .pointer (some ⟨x, 162, none⟩)) rfl rfl (by kernel_rfl) (by kernel_rfl) (by kernel_rfl) (Or.inl ⟨by rfl, ?_⟩) hHeld ?_
  · intro w hSw
    first | (go_simp; done) | (go_simp; rfl)
  simp only [Act.put, List.setIfInBounds_toArray, List.set_cons_zero, List.set_cons_succ]
  refine take_at 11 20 (v := ?_) rfl rfl (by kernel_rfl) (by kernel_rfl) (by kernel_rfl) (Or.inl ⟨by rfl, ?_⟩) hHeld ?_
  rotate_left
  · intro w hSw; have c := hSw.2.1; go_simp; with_reducible rfl
  simp only [Act.put, List.setIfInBounds_toArray, List.set_cons_zero, List.set_cons_succ]
  refine take_at 12 21 (v := ?_) rfl rfl (by kernel_rfl) (by kernel_rfl) (by kernel_rfl) (Or.inl ⟨by rfl, ?_⟩) hHeld ?_
  rotate_left
  · intro w hSw; go_simp; with_reducible rfl
  simp only [Act.put, List.setIfInBounds_toArray, List.set_cons_zero, List.set_cons_succ]
  refine take_at 13 22 (v := ?_) rfl rfl (by kernel_rfl) (by kernel_rfl) (by kernel_rfl) (Or.inl ⟨by rfl, ?_⟩) hHeld ?_
  rotate_left
  · intro w hSw; go_simp; with_reducible rfl
  simp only [Act.put, List.setIfInBounds_toArray, List.set_cons_zero, List.set_cons_succ]
  refine take_at 14 23 (v := ?_) rfl rfl (by kernel_rfl) (by kernel_rfl) (by kernel_rfl) (Or.inl ⟨by rfl, ?_⟩) hHeld ?_
  rotate_left
  · intro w hSw; go_simp; with_reducible rfl
  simp only [Act.put, List.setIfInBounds_toArray, List.set_cons_zero, List.set_cons_succ]
  refine take_at 15 24 (v := ?_) rfl rfl (by kernel_rfl) (by kernel_rfl) (by kernel_rfl) (Or.inl ⟨by rfl, ?_⟩) hHeld ?_
  rotate_left
  · intro w hSw; go_simp; with_reducible rfl
  simp only [Act.put, List.setIfInBounds_toArray, List.set_cons_zero, List.set_cons_succ]
  refine take_at 16 25 (v := ?_) rfl rfl (by kernel_rfl) (by kernel_rfl) (by kernel_rfl) (Or.inl ⟨by rfl, ?_⟩) hHeld ?_
  rotate_left
  · intro w hSw; have c := hSw.2.2.1; go_simp; with_reducible rfl
  simp only [Act.put, List.setIfInBounds_toArray, List.set_cons_zero, List.set_cons_succ]
  refine take_at 17 26 (v := ?_) rfl rfl (by kernel_rfl) (by kernel_rfl) (by kernel_rfl) (Or.inl ⟨by rfl, ?_⟩) hHeld ?_
  rotate_left
  · intro w hSw; go_simp; with_reducible rfl
  simp only [Act.put, List.setIfInBounds_toArray, List.set_cons_zero, List.set_cons_succ]
  refine take_at 18 27 (v := ?_) rfl rfl (by kernel_rfl) (by kernel_rfl) (by kernel_rfl) (Or.inl ⟨by rfl, ?_⟩) hHeld ?_
  rotate_left
  · intro w hSw; go_simp; with_reducible rfl
  simp only [Act.put, List.setIfInBounds_toArray, List.set_cons_zero, List.set_cons_succ]
  refine take_at 19 28 (v := ?_) rfl rfl (by kernel_rfl) (by kernel_rfl) (by kernel_rfl) (Or.inl ⟨by rfl, ?_⟩) hHeld ?_
  rotate_left
  · intro w hSw; go_simp; with_reducible rfl
  simp only [Act.put, List.setIfInBounds_toArray, List.set_cons_zero, List.set_cons_succ]
  refine take_at 20 29 (v := ?_) rfl rfl (by kernel_rfl) (by kernel_rfl) (by kernel_rfl) (Or.inl ⟨by rfl, ?_⟩) hHeld ?_
  rotate_left
  · intro w hSw; go_simp; with_reducible rfl
  simp only [Act.put, List.setIfInBounds_toArray, List.set_cons_zero, List.set_cons_succ]
  refine take_at 21 30 (v := ?_) rfl rfl (by kernel_rfl) (by kernel_rfl) (by kernel_rfl) (Or.inl ⟨by rfl, ?_⟩) hHeld ?_
  rotate_left
  · intro w hSw; have c := hSw.2.2.2; go_simp; with_reducible rfl
  simp only [Act.put, List.setIfInBounds_toArray, List.set_cons_zero, List.set_cons_succ]
  refine take_at 22 31 rfl rfl (by kernel_rfl) (by kernel_rfl) (by kernel_rfl) (yieldsIf_build4 (by rfl) 49 (.tmp 14) (.tmp 20) (.tmp 25) (.tmp 30) rfl (.int .i64 (gen + 1)) (.int .i64 (K.d 7)) (.int .i64 K.q) (.int .i64 cores) rfl rfl rfl rfl _ (unhide BS)) hHeld ?_
  simp only [Act.put, List.setIfInBounds_toArray, List.set_cons_zero, List.set_cons_succ]
  refine wpAnyH_ready (rs := [23]) (by kernel_rfl) (by simp) ?_
  refine AllReadyH.cons rfl (fun K2 hK => ?_) AllReadyH.nil
  go_simp
  obtain ⟨g, hgg⟩ : ∃ g, g = w1.heap.size := ⟨_, rfl⟩
  have O2 := hide ((unhide O1).alloc (unhide T0) (.cells #[.int .i64 0, .int .i64 0, .int .i64 0, .int .i64 0] 49))
  rw [← hgg] at O2 ⊢
  clear hgg O1
  generalize w1.alloc (.cells #[.int .i64 0, .int .i64 0, .int .i64 0, .int .i64 0] 49) = w2 at *
  refine hK.out _ _ (unhide CE _ (unhide O2).st.rep) (fun hNew => ?_)
  clear hK K2 hHeld
  refine wpAnyH_ready (rs := [24]) (by kernel_rfl) (by simp) ?_
  refine AllReadyH.cons rfl (fun K2 hK => ?_) AllReadyH.nil
  refine (if_pos (by rfl)).mpr ?_
  refine wp_store_row 49 (.tmp 5) (.tmp 31) rfl g NV rfl rfl _ _ ((unhide O2).at g (.cells #[.int .i64 0, .int .i64 0, .int .i64 0, .int .i64 0] 49) (by simp)) s4 (unhide SZ) (unhide X4) ?_
  have O3 := hide ((unhide O2).rowHd (unhide T0) (by simp) NV)
  refine hK.out _ _ (unhide CE _ (unhide O3).st.rep) (fun hHeld => ?_)
  clear hK K2 hNew hHeld O2
  generalize w2.setRow g NV = w3 at *
  refine wpAnyH_done (by kernel_rfl) ?_ _
  refine NoPanic.normal ?_
  have csl := unhide CSL _ (unhide O3).st.rep
  go_upto_region 3 with fail
  clear csl CE
  have O4 := hide ((unhide O3).drew (unhide T0))
  have RG : Hid (∀ (S' : World → (Nat → Prop) → Prop) (wx : World), Held W S' w wx G [(g, .cells NV 49)] → wx.rangeAt g 0 NV.toList) := fun S' wx O j v hv => by
    rw [cell_of_block (O.at g (.cells NV 49) (by simp)), Nat.zero_add, ← Array.getElem?_toList]; exact hv
  have s4l : (Tryz.prog.info? 49).map (·.size) = some NV.toList.length := by rw [Array.length_toList]; exact s4
  refine wp_region_noPanic ?_
  refine wp_region_held_drew (S := fun w' => w'.cell? ⟨x, 0, none⟩ = some (.pointer (some ⟨m, 0, none⟩)) ∧ w'.rangeAt g 0 NV.toList) (by kernel_rfl) ⟨(unhide O4).st.rep.pm, unhide RG _ _ (unhide O4)⟩ (fun hHeld => ?_)
  clear O3
  generalize w3.drew = w4 at *
  refine take_at 0 37 (v := ?_) rfl rfl (by kernel_rfl) (by kernel_rfl) (by kernel_rfl) (Or.inl ⟨by rfl, ?_⟩) hHeld ?_
  rotate_left
  · intro w hSw; go_simp; with_reducible rfl
  simp only [Act.put, List.setIfInBounds_toArray, List.set_cons_zero, List.set_cons_succ]
  refine take_at 1 38 (v := ?_) rfl rfl (by kernel_rfl) (by kernel_rfl) (by kernel_rfl) (Or.inl ⟨by rfl, ?_⟩) hHeld ?_
  rotate_left
  · intro w hSw; go_simp; with_reducible rfl
  simp only [Act.put, List.setIfInBounds_toArray, List.set_cons_zero, List.set_cons_succ]
  refine take_at 2 39 (v := ?_) rfl rfl (by kernel_rfl) (by kernel_rfl) (by kernel_rfl) (Or.inl ⟨by rfl, ?_⟩) hHeld ?_
  rotate_left
  · intro w hSw; go_simp; with_reducible rfl
  simp only [Act.put, List.setIfInBounds_toArray, List.set_cons_zero, List.set_cons_succ]
  refine take_at 3 40 (v := ?_) rfl rfl (by kernel_rfl) (by kernel_rfl) (by kernel_rfl) (Or.inl ⟨by rfl, ?_⟩) hHeld ?_
  rotate_left
  · intro w hSw; have c := hSw.1; go_simp; with_reducible rfl
  simp only [Act.put, List.setIfInBounds_toArray, List.set_cons_zero, List.set_cons_succ]
  refine take_at 4 41 (v := ?_) rfl rfl (by kernel_rfl) (by kernel_rfl) (by kernel_rfl) (Or.inl ⟨by rfl, ?_⟩) hHeld ?_
  rotate_left
  · intro w hSw; go_simp; with_reducible rfl
  simp only [Act.put, List.setIfInBounds_toArray, List.set_cons_zero, List.set_cons_succ]
  refine take_at 5 42 rfl rfl (by kernel_rfl) (by kernel_rfl) (by kernel_rfl) (yieldsIf_load_mid (by rfl) 49 _ rfl g 0 rfl NV.toList _ (fun w' h => h.2) Tryz.underlying49 rfl s4l) hHeld ?_
  simp only [Act.put, List.setIfInBounds_toArray, List.set_cons_zero, List.set_cons_succ]
  refine wpAnyH_ready (rs := [6]) (by kernel_rfl) (by simp) ?_
  refine AllReadyH.cons rfl (fun K2 hK => ?_) AllReadyH.nil
  go_simp
  generalize A.writeZ 0 (1 - K.sl) K.next = A2 at *
  generalize A.writeE 0 (1 - K.sl) K.next = E at *
  refine (unhide CW _ _ (unhide O4).st.st).mono ?_
  intro e w5 hd
  have hd2 := (unhide O4).st.lift hd
  obtain ⟨rfl, -, -⟩ := hd
  have T2 := hide (WH.stay M.toMemL b x S A2 K sl)
  have O5 := hide ((unhide O4).call (St' := WH W m b x St S A2 K sl) hd2.2.1 hd2.2.2)
  clear hd2 O4 CW
  go_wp2_with fail
  refine hK.out _ _ ⟨(unhide O5).st.rep.pm, unhide RG _ _ (unhide O5)⟩ (fun hNew => ?_)
  clear hK K2 hHeld
  have hHeld := hNew
  clear hNew
  refine take_at 7 7 (v := ?_) rfl rfl (by kernel_rfl) (by kernel_rfl) (by kernel_rfl) (Or.inl ⟨by rfl, ?_⟩) hHeld ?_
  rotate_left
  · intro w hSw; go_simp; with_reducible rfl
  simp only [Act.put, List.setIfInBounds_toArray, List.set_cons_zero, List.set_cons_succ]
  refine wpAnyH_done (by kernel_rfl) ?_ _
  refine NoPanic.normal ?_
  clear hHeld
  by_cases hE : E = 0
  · obtain ⟨k1, k2, k3, k4⟩ := unhide eK2 hE
    have KE := hide k1
    have KS := hide k2
    have K3 := hide k3
    have K4 := hide k4
    clear k1 k2 k3 k4 eK1 eK2
    subst hE
    go_upto_region 6 with fail
    have O6 := hide ((unhide O5).drew (unhide T2))
    have HRD : Hid (∀ w', WRepZ m b K sl w' x → w'.rangeAt x 155 (dirV K.d).toList) := fun w' r => r.rd
    have s8 : (Tryz.prog.info? 67).map (·.size) = some (dirV K.d).toList.length := by rw [Array.length_toList]; exact s8_dir K.d
    have CC2 := hide (unhide CC A2)
    refine wp_region_noPanic ?_
    refine wp_region_held_drew (S := fun w' => w'.cell? ⟨x, 1, none⟩ = some (.pointer (some ⟨b, 0, none⟩)) ∧ w'.rangeAt x 155 (dirV K.d).toList) (by kernel_rfl) ⟨(unhide O6).st.rep.pb, unhide HRD _ (unhide O6).st.rep⟩ (fun hHeld => ?_)
    clear O5 CC
    generalize w5.drew = w6 at *
    generalize dirV K.d = DV at *
    refine take_at 0 47 (v := ?_) rfl rfl (by kernel_rfl) (by kernel_rfl) (by kernel_rfl) (Or.inl ⟨by rfl, ?_⟩) hHeld ?_
    rotate_left
    · intro w hSw; go_simp; with_reducible rfl
    simp only [Act.put, List.setIfInBounds_toArray, List.set_cons_zero, List.set_cons_succ]
    refine take_at 1 48 (v := ?_) rfl rfl (by kernel_rfl) (by kernel_rfl) (by kernel_rfl) (Or.inl ⟨by rfl, ?_⟩) hHeld ?_
    rotate_left
    · intro w hSw; go_simp; with_reducible rfl
    simp only [Act.put, List.setIfInBounds_toArray, List.set_cons_zero, List.set_cons_succ]
    refine take_at 2 49 (v := ?_) rfl rfl (by kernel_rfl) (by kernel_rfl) (by kernel_rfl) (Or.inl ⟨by rfl, ?_⟩) hHeld ?_
    rotate_left
    · intro w hSw; go_simp; with_reducible rfl
    simp only [Act.put, List.setIfInBounds_toArray, List.set_cons_zero, List.set_cons_succ]
    refine take_at 3 50 (v := ?_) rfl rfl (by kernel_rfl) (by kernel_rfl) (by kernel_rfl) (Or.inl ⟨by rfl, ?_⟩) hHeld ?_
    rotate_left
    · intro w hSw; have c := hSw.1; go_simp; with_reducible rfl
    simp only [Act.put, List.setIfInBounds_toArray, List.set_cons_zero, List.set_cons_succ]
    refine take_at 4 51 (v := ?_) rfl rfl (by kernel_rfl) (by kernel_rfl) (by kernel_rfl) (Or.inl ⟨by rfl, ?_⟩) hHeld ?_
    rotate_left
    · intro w hSw; go_simp; with_reducible rfl
    simp only [Act.put, List.setIfInBounds_toArray, List.set_cons_zero, List.set_cons_succ]
    refine take_at 5 52 (v := ?_) rfl rfl (by kernel_rfl) (by kernel_rfl) (by kernel_rfl) (Or.inl ⟨by rfl, ?_⟩) hHeld ?_
    rotate_left
    · intro w hSw; go_simp; with_reducible rfl
    simp only [Act.put, List.setIfInBounds_toArray, List.set_cons_zero, List.set_cons_succ]
    refine take_at 6 53 (v := ?_) rfl rfl (by kernel_rfl) (by kernel_rfl) (by kernel_rfl) (Or.inl ⟨by rfl, ?_⟩) hHeld ?_
    rotate_left
    · intro w hSw; go_simp; with_reducible rfl
    simp only [Act.put, List.setIfInBounds_toArray, List.set_cons_zero, List.set_cons_succ]
    refine take_at 7 54 (v := ?_) rfl rfl (by kernel_rfl) (by kernel_rfl) (by kernel_rfl) (Or.inl ⟨by rfl, ?_⟩) hHeld ?_
    rotate_left
    · intro w hSw; go_simp; with_reducible rfl
    simp only [Act.put, List.setIfInBounds_toArray, List.set_cons_zero, List.set_cons_succ]
    refine take_at 8 55 rfl rfl (by kernel_rfl) (by kernel_rfl) (by kernel_rfl) (yieldsIf_load_mid (by rfl) 67 _ rfl x 155 rfl DV.toList _ (fun w' h => h.2) Tryz.underlying67 rfl s8) hHeld ?_
    simp only [Act.put, List.setIfInBounds_toArray, List.set_cons_zero, List.set_cons_succ]
    refine wpAnyH_ready (rs := [9]) (by kernel_rfl) (by simp) ?_
    refine AllReadyH.cons rfl (fun K2 hK => ?_) AllReadyH.nil
    go_simp
    refine (unhide CC2 _ _ (unhide O6).st.st).mono ?_
    generalize S.commitS K.d = S2 at *
    intro e w7 hd
    have hd2 := (unhide O6).st.lift hd
    obtain ⟨rfl, -, -⟩ := hd
    have T3 := hide (WH.stay M.toMemL b x S2 A2 K sl)
    have O7 := hide ((unhide O6).call (St' := WH W m b x St S2 A2 K sl) hd2.2.1 hd2.2.2)
    clear hd2 O6 CC2
    go_wp2_with fail
    refine hK.out _ _ ⟨(unhide O7).st.rep.pb, unhide HRD _ (unhide O7).st.rep⟩ (fun hNew => ?_)
    clear hK K2 hHeld
    have hHeld := hNew
    clear hNew
    refine take_at 10 8 (v := ?_) rfl rfl (by kernel_rfl) (by kernel_rfl) (by kernel_rfl) (Or.inl ⟨by rfl, ?_⟩) hHeld ?_
    rotate_left
    · intro w hSw; go_simp; with_reducible rfl
    simp only [Act.put, List.setIfInBounds_toArray, List.set_cons_zero, List.set_cons_succ]
    refine wpAnyH_done (by kernel_rfl) ?_ _
    refine NoPanic.normal ?_
    clear hHeld HRD s8
    by_cases hD : S.doneE = 0
    · have K5 := hide (unhide K3 hD)
      rw [hD] at KE ⊢
      have hBl : (iv .i64 K.next).size = 4 := by rw [iv_size]; rfl
      have KR := hide (unhide RG _ _ (unhide O7))
      have TB := hide (Blk.there (unhide O7).st.rep 2 4 (by decide))
      have hsz : NV.size = 4 := by rw [← hNV]; exact hBl
      rw [← hsz] at TB
      have O8 := hide (Held.turn (unhide O7) ((unhide O7).st.setB M.toMemL K.next K.next_len (1 - K.sl)))
      rw [hNV] at O8
      have RM := Blk.sets NV.toList w7 _ 2 (unhide O7).st.rep
      have c6 : (w7.setCells x 2 NV.toList).cell? ⟨x, 6, none⟩ = some (.int .i64 K.sl) := by
        rw [Blk.cell RM 6 (by decide), if_neg (by rw [Array.length_toList, hsz]; omega)]; rfl
      have f6 : (w7.setCells x 2 NV.toList).frozen? ⟨x, 6, none⟩ = false := Blk.free RM 6
      have hw3 : wrap64 (1 - K.sl) = 1 - K.sl := hw2
      clear RM hBl hsz K3 K4 hD
      go_wp2_with (first | (with_reducible refine wpList_load_mid (by with_unfolding_all rfl) 49 _ (by with_unfolding_all rfl) g 0 (by with_unfolding_all rfl) NV.toList _ (unhide KR) Tryz.underlying49 (by with_unfolding_all rfl) s4l ?_) | (with_reducible refine wpList_store_mid (by with_unfolding_all rfl) 49 _ _ (by with_unfolding_all rfl) x 2 NV (by with_unfolding_all rfl) (by with_unfolding_all rfl) (unhide TB) s4 (unhide X4) ?_))
      go_ret
      rw [unhide KE, unhide KS, unhide K5]
      exact (unhide O8).done (WH.stay M.toMemL b x _ _ _ sl) _
    · have K5 := hide (unhide K4 hD)
      have hqb : (S.doneE == 0) = false := by simpa using hD
      have hqb2 : (S.doneE != 0) = true := by simpa using hD
      clear K3 K4 hD
      generalize S.doneE = E2 at *
      go_wp2_with fail
      go_ret
      rw [unhide KE, unhide KS, unhide K5]
      exact (unhide O7).done (unhide T3) _
  · obtain ⟨k1, k2, k3⟩ := unhide eK1 hE
    have K1 := hide k1
    have K2' := hide k2
    have K3' := hide k3
    have hqb : (E == 0) = false := by simpa using hE
    have hqb2 : (E != 0) = true := by simpa using hE
    clear hE eK1 eK2 k1 k2 k3
    go_wp2_with fail
    go_ret
    rw [unhide K1, unhide K2', unhide K3']
    exact (unhide O5).done (unhide T2) _

end Go.Proofs.YtiafhcgaikapcaaGreat


/-
  A worker's checkpoint is another one: its cells, its steps.
-/
namespace Go.Proofs.YtiafhcgaikapcaaGreat
open Go.ChangeShapes Go.WideShapes Go.ChangeAt Go.RowKit Go.Joins
set_option maxRecDepth 100000
set_option linter.unusedVariables false
set_option linter.unusedSimpArgs false

theorem built_ck (q : Int) (k : Nat → En) (d : Nat → Int) (a : Option Addr) (n c : Nat) :
    Tryz.prog.built 153 [(0, .int .i64 q), (1, .agg (tabV k)), (2, .agg (dirV d)), (3, .slice a n c)] = some (ckV q k d (.slice a n c)) := by kernel_rfl
theorem built_ck0 : Tryz.prog.built 153 [] = some (ckV 0 (fun _ => ze) (fun _ => 0) (.slice none 0 0)) := by kernel_rfl
theorem s157 (q : Int) (k : Nat → En) (d : Nat → Int) (sl : Value) : (Tryz.prog.info? 153).map (·.size) = some (ckV q k d sl).size := by rw [ckV_size]; kernel_rfl
theorem ckV_one (q : Int) (k : Nat → En) (d : Nat → Int) (a : Option Addr) (n c : Nat) : (ckV q k d (.slice a n c)).all (·.oneCell') = true := by
  refine Array.all_eq_true_iff_forall_mem.2 fun v hv => ?_
  obtain ⟨i, hi, rfl⟩ := Array.mem_iff_getElem.1 hv
  rw [ckV_size] at hi
  have e : (ckV q k d (.slice a n c))[i]? = some (ckF q k d (.slice a n c) i) := tab_get _ _ _ hi
  rw [Array.getElem?_eq_getElem (by rw [ckV_size]; exact hi)] at e
  rw [Option.some.inj e]
  unfold ckF
  repeat' split
  all_goals rfl

section
variable {W w : World} {m b x : Nat} {St : Mm → World → (Nat → Prop) → Prop} {S : Sto} {A : Mm} {K : Wk} {sl : Value} {G G' : Nat → Prop}
/-- Its checkpoint is another one, whose steps lie in a block that nobody else has. -/
theorem WH.setC (M : MemL W m St) (h : WH W m b x St S A K sl w G') (hG : ∀ k, G k → G' k) (q : Int) (k : Nat → En) (d : Nat → Int) (v : Value) (l : List (Nat × Int)) (hr : StepRow w v l) (hv : ∀ g, v.ownBlock = some g → G' g ∧ ¬ G g ∧ W.heap.size ≤ g) :
    WH W m b x St S A ⟨K.b, K.sl, q, k, d, l⟩ v (w.setCells x 7 (ckV q k d v).toList) G ∧ Same G' w (w.setCells x 7 (ckV q k d v).toList) := by
  have hk := keeps_cells x (ckV q k d v).toList w 7
  have hgx : ∀ g, v.ownBlock = some g → g ≠ x := fun g e q => h.nx (q ▸ (hv g e).1)
  refine ⟨⟨h.rep.putC q k d v l, hr.same (fun j e => hk.block j ((WH.stay M b x S A K sl).lt _ _ h j (hv j e).1) (hgx j e)), (SHas.stay M b S A).ls _ _ _ ((SHas.stay M b S A).ow _ _ _ x h.st (Or.inr (Or.inl rfl)) h.newx hk) (fun j hj => ?_), fun q => h.nx (hG _ q), h.newx, fun j e => ⟨(hv j e).2.1, (hv j e).2.2, hgx j e⟩⟩, fun j hg => ?_⟩
  · rcases hj with hj | hj | hj
    · exact Or.inl (hG j hj)
    · exact Or.inr (Or.inl hj)
    · exact Or.inl (hv j hj).1
  · exact hk.block j ((WH.stay M b x S A K sl).lt _ _ h j hg) (fun e => h.nx (e ▸ hg))
/-- Fewer steps are left, in the same block. -/
theorem WH.setS (M : MemL W m St) (h : WH W m b x St S A K sl w G) (v : Value) (l : List (Nat × Int)) (hr : StepRow w v l) (hv : ∀ g, v.ownBlock = some g → sl.ownBlock = some g) :
    WH W m b x St S A (K.less l) v (w.setCell ⟨x, 163, none⟩ v) G ∧ Same G w (w.setCell ⟨x, 163, none⟩ v) := by
  have hk : Keeps (· = x) w (w.setCell ⟨x, 163, none⟩ v) := Keeps.setCell (F := (· = x)) (p := ⟨x, 163, none⟩) (Keeps.refl _ _) rfl _
  refine ⟨⟨h.rep.putS l v, hr.same (fun j e => hk.block j (h.slt M j (hv j e)) (h.ns j (hv j e)).2.2), (SHas.stay M b S A).ls _ _ _ ((SHas.stay M b S A).ow _ _ _ x h.st (Or.inr (Or.inl rfl)) h.newx hk) (fun j hj => ?_), h.nx, h.newx, fun j e => h.ns j (hv j e)⟩, fun j hg => ?_⟩
  · rcases hj with hj | hj | hj
    · exact Or.inl hj
    · exact Or.inr (Or.inl hj)
    · exact Or.inr (Or.inr (hv j hj))
  · exact hk.block j ((SHas.stay M b S A).lt _ _ h.st j (Or.inl hg)) (fun e => h.nx (e ▸ hg))
end
theorem lt_of_heapZ {w : World} {g : Nat} {o : Obj} (h : w.heap[g]? = some o) : g < w.heap.size := by
  rcases Nat.lt_or_ge g w.heap.size with h' | h'
  · exact h'
  · rw [Array.getElem?_eq_none h'] at h; cases h
/-- Blocks that a grown world has beside the state: each as if it were laid. -/
theorem Held.growsZ {W : World} {St : World → (Nat → Prop) → Prop} {w0 w w' : World} {G : Nat → Prop} {L : List (Nat × Obj)} (S : Stay W St) (h : Held W St w0 w G L) (hk : Keeps (fun _ => False) w w') :
    ∀ d, w.heap.size + d ≤ w'.heap.size → ∃ u L', Held W St w0 u G L' ∧ Keeps (fun _ => False) u w' ∧ u.heap.size = w.heap.size + d ∧ (∀ k, w.heap.size ≤ k → k < w.heap.size + d → ∃ o, (k, o) ∈ L' ∧ w'.heap[k]? = some o) ∧ ∀ p ∈ L, p ∈ L'
  | 0, _ => ⟨w, L, h, hk, rfl, fun k h1 h2 => by omega, fun p hp => hp⟩
  | d + 1, hd => by
    obtain ⟨u, L', h1, h2, h3, h4, h5⟩ := Held.growsZ S h hk d (by omega)
    obtain ⟨o, ho⟩ : ∃ o, w'.heap[u.heap.size]? = some o := ⟨w'.heap[u.heap.size]'(by omega), Array.getElem?_eq_getElem _⟩
    refine ⟨u.alloc o, (u.heap.size, o) :: L', h1.alloc S o, keeps_made h2 ho, by simp; omega, fun k k1 k2 => ?_, fun p hp => List.mem_cons_of_mem _ (h5 p hp)⟩
    by_cases e : k = u.heap.size
    · exact ⟨o, by rw [e]; exact List.mem_cons_self, by rw [e]; exact ho⟩
    · obtain ⟨o', q1, q2⟩ := h4 k k1 (by omega)
      exact ⟨o', List.mem_cons_of_mem _ q1, q2⟩
theorem Held.joinsZ {W : World} {St : World → (Nat → Prop) → Prop} {w0 w w' : World} {G : Nat → Prop} {L : List (Nat × Obj)} (S : Stay W St) (h : Held W St w0 w G L) (hk : Keeps (fun _ => False) w w') (g : Nat) (o : Obj) (hg : w.heap.size ≤ g) (ho : w'.heap[g]? = some o) : Held W St w0 w' G ((g, o) :: L) := by
  have hlt := lt_of_heapZ ho
  obtain ⟨u, L', h1, h2, h3, h4, h5⟩ := Held.growsZ S h hk (w'.heap.size - w.heap.size) (by omega)
  refine (h1.keeps S h2).less S (fun p hp => ?_)
  rcases List.mem_cons.1 hp with rfl | hp
  · obtain ⟨o', q1, q2⟩ := h4 g hg (by omega)
    rw [ho] at q2
    rw [Option.some.inj q2]; exact q1
  · exact h5 p hp


end Go.Proofs.YtiafhcgaikapcaaGreat
