
/-
  The calls that ObjectsKeep and ObjectsFree do, one behind the other. No program.
-/
import Derived.Test.YtjmgmbigbkllgaaOInv
import Derived.Test.YtjmgmbigbkllgaaOArgs
namespace Go.Proofs.Ytjmgmbigbkllgaa
set_option linter.unusedVariables false

def stepS (S : Sto) (A : Mm) (p : OOp) : Sto :=
  if kindN p.kind 3 = 0 then S.setS A (kindN p.id 20 : Nat) (kindN p.word 8 : Nat) p.v
  else if kindN p.kind 3 = 1 then S.makeS A (1 + (kindN p.word 2 : Nat) : Int) else S.endS (kindN p.id 20 : Nat)
def stepM (S : Sto) (A : Mm) (p : OOp) : Mm :=
  if kindN p.kind 3 = 0 then S.setM A (kindN p.id 20 : Nat) (kindN p.word 8 : Nat) p.v
  else if kindN p.kind 3 = 1 then S.makeM A (1 + (kindN p.word 2 : Nat) : Int) else A
theorem inv_step {S : Sto} (h : Inv S) (A : Mm) (p : OOp) : Inv (stepS S A p) := by
  unfold stepS; split
  · exact inv_set h _ _ _ _
  · split
    · exact inv_make h _ _
    · exact inv_end h _
theorem stepS_ok {S : Sto} (h : S.ok) (A : Mm) (p : OOp) : (stepS S A p).ok := by
  unfold stepS; split
  · exact setS_ok h _ _ _ _
  · split
    · exact makeS_ok h _ _
    · exact endS_ok h _
theorem lohi_trans {F G H : Fr} (h : lohi F G) (k : lohi G H) : lohi F H := ⟨h.1.trans k.1, h.2.trans k.2⟩
theorem lohi_step (S : Sto) (A : Mm) (p : OOp) : lohi (stepS S A p).F S.F := by
  unfold stepS; split
  · exact lohi_set _ _ _ _ _
  · split
    · exact lohi_make _ _ _
    · exact lohi_end _ _
theorem stepM_ok {S : Sto} {A : Mm} {B : Nat} (h : A.ok B) (p : OOp) (hp : InU p.v) : (stepM S A p).ok (B + 8) := by
  unfold stepM; split
  · exact setM_ok h _ _ _ hp
  · split
    · exact makeM_ok h _
    · exact ok_mono h (by omega)
theorem stepM_n (S : Sto) (A : Mm) (p : OOp) : (stepM S A p).n = A.n := by
  unfold stepM; split
  · exact setM_n _ _ _ _ _
  · split
    · exact makeM_n _ _ _
    · rfl
/-- What no call but Mark, Commit, Abort turns. -/
def fixed (S T : Sto) : Prop := S.b = T.b ∧ S.d = T.d ∧ S.k = T.k ∧ S.is = T.is
theorem fixed_step (S : Sto) (A : Mm) (p : OOp) : fixed (stepS S A p) S := by
  unfold stepS
  split
  · unfold Sto.setS; repeat' split
    all_goals exact ⟨rfl, rfl, rfl, rfl⟩
  · split
    · unfold Sto.makeS; repeat' split
      all_goals exact ⟨rfl, rfl, rfl, rfl⟩
    · unfold Sto.endS; split <;> exact ⟨rfl, rfl, rfl, rfl⟩
theorem keep_step {S : Sto} {A : Mm} (h : Inv S) (hc : Calm A) (hN : S.F.hi ≤ A.n) (p : OOp) : Calm (stepM S A p) ∧ ∀ y, S.shared y → (stepM S A p).hasZ y = A.hasZ y := by
  unfold stepM; split
  · exact keep_set h hc hN _ _ _
  · split
    · exact keep_make h hc hN _
    · exact ⟨hc, fun _ _ => rfl⟩

end Go.Proofs.Ytjmgmbigbkllgaa
