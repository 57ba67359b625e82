
/-
  What a checkpoint's steps make of a line: what was sure stays sure, what was flushed is sure behind the fence. No program, and the power may go off.
-/
import Derived.Test.YtiafhcgaikapcaaGreatPkZd
namespace Go.Proofs.YtiafhcgaikapcaaGreat
set_option linter.unusedVariables false

theorem putM_other {S : Sto} {A : Mm} (l : List Int) {i : Nat} (hi : S.F.allocE = 0 → i ≠ S.F.allocV.toNat) : (putM S A l).l i = A.l i := by
  unfold putM
  split
  · rename_i ha
    have hn := hi ha
    split
    · rcases flushZ_l (layP A S.F.allocV (listF l) 8).1 S.F.allocV i with h | h
      · exact h.trans (layP_other _ _ _ _ hn 8)
      · exact absurd h.1 hn
    · exact layP_other _ _ _ _ hn 8
  · rfl
theorem putM_done {S : Sto} {A : Mm} {l : List Int} (hN : S.F.hi ≤ A.n) (h : putE S A l = 0) : S.F.allocE = 0 ∧ LFl ((putM S A l).l S.F.allocV.toNat) (listF l) := by
  unfold putE at h
  unfold putM
  by_cases ha : S.F.allocE = 0
  · rw [if_pos ha] at h ⊢
    by_cases h2 : (layP A S.F.allocV (listF l) 8).2 = 0
    · rw [if_pos h2] at h ⊢
      refine ⟨ha, ?_⟩
      rw [flushZ_done h]
      exact flush_fl fun j hj => layP_done (isZ_isF hN (isF_new ha)) (listF l) 8 (Nat.le_refl _) h2 j hj
    · rw [if_neg h2] at h
      exact absurd h h2
  · rw [if_neg ha] at h
    exact absurd h ha

/-! ### a step, line by line -/
theorem tk_toNat_ne {F : Fr} (ha : F.allocE = 0) {y : Int} (hy : F.tk y) : y.toNat ≠ F.allocV.toNat := fun e => by
  have h1 := tk_ne ha hy
  have h2 := hy.1.1
  have h3 := (isF_new ha).1
  omega
theorem do_cases {S : Sto} {A : Mm} {K : Wk} {p : Nat × Int} {y : Int} (hy : S.F.tk y) (h10 : 10 ≤ S.F.lo) (hsl : 0 ≤ K.sl ∧ K.sl ≤ 1) :
    (K.doM S A p).l y.toNat = A.l y.toNat ∨ (K.doM S A p).l y.toNat = (A.l y.toNat).flush 0 ∨ (K.doM S A p).l y.toNat = (A.l y.toNat).settle ((A.l y.toNat).f 0) := by
  unfold Wk.doM
  split
  · rcases flushZ_l A p.2 y.toNat with h | h
    · exact Or.inl h
    · exact Or.inr (Or.inl h.2)
  · split
    · exact Or.inl (putM_other _ fun ha => tk_toNat_ne ha hy)
    · split
      · rcases fenceZ_l A y.toNat with h | h
        · exact Or.inl h
        · exact Or.inr (Or.inr h)
      · have hy1 := hy.1.1
        rcases writeZ_l A (1 - K.sl) K.next y.toNat (by omega) with h | h
        · exact Or.inl h
        · exact Or.inr (Or.inr h)
theorem do_su {S : Sto} {A : Mm} {K : Wk} {p : Nat × Int} {y : Int} {c : Nat → Int} (hy : S.F.tk y) (h10 : 10 ≤ S.F.lo) (hsl : 0 ≤ K.sl ∧ K.sl ≤ 1) (h : LSu (A.l y.toNat) c) : LSu ((K.doM S A p).l y.toNat) c := by
  rcases do_cases (A := A) (p := p) hy h10 hsl with e | e | e <;> rw [e]
  · exact h
  · exact h
  · exact settle_su h _
theorem do_hs {S : Sto} {A : Mm} {K : Wk} {p : Nat × Int} {y : Int} {c : Nat → Int} (hy : S.F.tk y) (h10 : 10 ≤ S.F.lo) (hsl : 0 ≤ K.sl ∧ K.sl ≤ 1) (h : LHs (A.l y.toNat) c) : LHs ((K.doM S A p).l y.toNat) c := by
  rcases do_cases (A := A) (p := p) hy h10 hsl with e | e | e <;> rw [e]
  · exact h
  · exact h
  · exact settle_hs h _
theorem do_fl {S : Sto} {A : Mm} {K : Wk} {p : Nat × Int} {y : Int} {c : Nat → Int} (hy : S.F.tk y) (h10 : 10 ≤ S.F.lo) (hsl : 0 ≤ K.sl ∧ K.sl ≤ 1) (h : LFl (A.l y.toNat) c) : LFl ((K.doM S A p).l y.toNat) c := by
  rcases do_cases (A := A) (p := p) hy h10 hsl with e | e | e <;> rw [e]
  · exact h
  · exact flush_keep h
  · have h2 := settle_fl h
    refine su_fl h2 ?_
    show (A.l y.toNat).f 0 - (A.l y.toNat).f 0 ≤ _
    omega

/-! ### what is changed in between -/
/-- A line that no change touches: one that the base, or what is marked, names, or a taken one that is no object's. -/
def Safe (S : Sto) (y : Int) : Prop := S.F.tk y ∧ (S.shared y ∨ ∀ j, j < 49 → (S.w j).k ≠ 0 → y ≠ (S.w j).l)
theorem layM_other {S : Sto} {A : Mm} {y : Int} (hy : S.F.tk y) (l : Nat → Int) : (S.layM A l).l y.toNat = A.l y.toNat := by
  unfold Sto.layM
  split
  · rename_i ha; exact layP_other _ _ _ _ (tk_toNat_ne ha hy) 8
  · rfl
theorem ch_other {N : Nat} {S : Sto} {A : Mm} (g : Good N S) {y : Int} (hy : Safe S y) (p : OOp) : (chM S A p).l y.toNat = A.l y.toNat := by
  unfold chM
  split
  · unfold Sto.setM
    split
    · rename_i c
      have hf := findE_ok c.2
      split
      · rename_i ho
        refine storeZ_other _ _ _ _ _ fun e => ?_
        have ht := (g.inv.tw ((kindN p.id 20 : Nat) : Int).toNat (by omega) hf.2.2).1
        have hne : y ≠ S.line ((kindN p.id 20 : Nat) : Int) := by
          rcases hy.2 with h | h
          · intro q; exact own_shared ho (q ▸ h)
          · exact h _ (by omega) hf.2.2
        have h1 := hy.1.1.1
        have h2 := ht.1
        have h3 : S.line ((kindN p.id 20 : Nat) : Int) = (S.w ((kindN p.id 20 : Nat) : Int).toNat).l := rfl
        omega
      · split
        · exact layM_other hy.1 _
        · rfl
    · rfl
  · split
    · unfold Sto.makeM
      split
      · exact layM_other hy.1 _
      · rfl
    · rfl

end Go.Proofs.YtiafhcgaikapcaaGreat
