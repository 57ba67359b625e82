
/-
  What a checkpoint's steps make of a line: what was sure stays sure, what was flushed is sure behind the fence. No program, and the power may go off.
-/
import Derived.Test.YtinhnnnehhlceaaGreatPkZd
namespace Go.Proofs.YtinhnnnehhlceaaGreat
set_option linter.unusedVariables false

/-- A line has just these words, and all of it is sure; it has them, and all of it is flushed; it has them. -/
def LSu (L : Ln) (c : Nat → Int) : Prop := L.t = [] ∧ ∀ j, j < 8 → L.s j = c j
def LHs (L : Ln) (c : Nat → Int) : Prop := ∀ j, j < 8 → L.has j = c j
def LFl (L : Ln) (c : Nat → Int) : Prop := LHs L c ∧ L.f 0 = L.t.length
theorem LSu.hs {L : Ln} {c : Nat → Int} (h : LSu L c) : LHs L c := fun j hj => by
  unfold Ln.has; rw [h.1]; exact h.2 j hj
theorem settle_su {L : Ln} {c : Nat → Int} (h : LSu L c) (n : Nat) : LSu (L.settle n) c := by
  refine ⟨?_, fun j hj => ?_⟩
  · show L.t.drop n = []
    rw [h.1]; simp
  · show runS (L.t.take n) L.s j = c j
    rw [h.1]; simp [runS]; exact h.2 j hj
theorem settle_hs {L : Ln} {c : Nat → Int} (h : LHs L c) (n : Nat) : LHs (L.settle n) c := fun j hj => by rw [Ln.settle_has]; exact h j hj
/-- What was flushed by the core 0 is sure behind its fence. -/
theorem settle_fl {L : Ln} {c : Nat → Int} (h : LFl L c) : LSu (L.settle (L.f 0)) c := by
  refine ⟨?_, fun j hj => ?_⟩
  · show L.t.drop (L.f 0) = []
    rw [h.2]; exact List.drop_length
  · show runS (L.t.take (L.f 0)) L.s j = c j
    rw [h.2, List.take_length]
    exact h.1 j hj
theorem su_fl {L : Ln} {c : Nat → Int} (h : LSu L c) (hf : L.f 0 ≤ L.t.length) : LFl L c := ⟨h.hs, by rw [h.1] at hf ⊢; simp at hf ⊢; exact hf⟩
theorem flush_fl {L : Ln} {c : Nat → Int} (h : LHs L c) : LFl (L.flush 0) c := ⟨h, by show upd L.f 0 L.t.length 0 = _; rw [upd_same]; rfl⟩
theorem flush_keep {L : Ln} {c : Nat → Int} (h : LFl L c) : LFl (L.flush 0) c := flush_fl h.1

/-! ### the memory's calls, line by line -/
theorem step_l (A : Mm) (l : Nat → Ln) (i : Nat) : (A.step l).l i = l i ∨ (A.step l).l i = A.l i := by
  unfold Mm.step; split
  · exact Or.inl rfl
  · exact Or.inr rfl
theorem step_may {A : Mm} (h : A.may = true) (l : Nat → Ln) (i : Nat) : (A.step l).l i = l i := by unfold Mm.step; rw [if_pos h]; rfl
theorem err_may {A : Mm} (h : A.err = 0) : A.may = true := by
  unfold Mm.err at h
  split at h
  · assumption
  · cases h
theorem storeZ_other (A : Mm) (z q v : Int) (i : Nat) (hi : i ≠ z.toNat) : (A.storeZ z q v).l i = A.l i := by
  unfold Mm.storeZ
  split
  · unfold Mm.store
    rcases step_l A (upd A.l z.toNat ((A.l z.toNat).store q.toNat v)) i with h | h
    · rw [h]; exact upd_other _ _ _ _ hi
    · exact h
  · rfl
theorem layP_other (A : Mm) (z : Int) (l : Nat → Int) (i : Nat) (hi : i ≠ z.toNat) : ∀ k, (layP A z l k).1.l i = A.l i
  | 0 => rfl
  | k + 1 => by
    unfold layP
    split
    · exact (storeZ_other _ _ _ _ _ hi).trans (layP_other A z l i hi k)
    · exact layP_other A z l i hi k
theorem flushZ_l (A : Mm) (z : Int) (i : Nat) : (A.flushZ 0 z).l i = A.l i ∨ (i = z.toNat ∧ (A.flushZ 0 z).l i = (A.l i).flush 0) := by
  unfold Mm.flushZ
  split
  · unfold Mm.flush
    rcases step_l A (upd A.l z.toNat ((A.l z.toNat).flush (0 : Int).toNat)) i with h | h
    · rw [h]
      by_cases e : i = z.toNat
      · subst e; rw [upd_same]; exact Or.inr ⟨rfl, rfl⟩
      · rw [upd_other _ _ _ _ e]; exact Or.inl rfl
    · exact Or.inl h
  · exact Or.inl rfl
theorem flushZ_done {A : Mm} {z : Int} (h : A.flushE 0 z = 0) : (A.flushZ 0 z).l z.toNat = (A.l z.toNat).flush 0 := by
  unfold Mm.flushE at h
  split at h
  · rename_i c
    unfold Mm.flushZ
    rw [if_pos c]
    unfold Mm.flush
    rw [step_may (err_may h), upd_same]; rfl
  · cases h
theorem fenceZ_l (A : Mm) (i : Nat) : (A.fenceZ 0).l i = A.l i ∨ (A.fenceZ 0).l i = (A.l i).settle ((A.l i).f 0) := by
  unfold Mm.fenceZ
  split
  · unfold Mm.fence
    rcases step_l A (fun i => (A.l i).settle ((A.l i).f (0 : Int).toNat)) i with h | h
    · exact Or.inr h
    · exact Or.inl h
  · exact Or.inl rfl
theorem fenceZ_done {A : Mm} (h : A.fenceE 0 = 0) (i : Nat) : (A.fenceZ 0).l i = (A.l i).settle ((A.l i).f 0) := by
  unfold Mm.fenceE at h
  split at h
  · rename_i c
    unfold Mm.fenceZ
    rw [if_pos c]
    unfold Mm.fence
    rw [step_may (err_may h)]; rfl
  · cases h
theorem writeZ_l (A : Mm) (slot : Int) (s : List Int) (i : Nat) (hi : i ≠ slot.toNat) : (A.writeZ 0 slot s).l i = A.l i ∨ (A.writeZ 0 slot s).l i = (A.l i).settle ((A.l i).f 0) := by
  have hp := puts_other A slot.toNat (lineV s) i hi 8
  have hf : ((A.puts slot.toNat (lineV s) 8).flushZ 0 slot).l i = A.l i := by
    rcases flushZ_l (A.puts slot.toNat (lineV s) 8) slot i with h | h
    · exact h.trans hp
    · exact absurd h.1 hi
  unfold Mm.writeZ
  split
  · split
    · split
      · rcases fenceZ_l ((A.puts slot.toNat (lineV s) 8).flushZ 0 slot) i with h | h
        · exact Or.inl (h.trans hf)
        · rw [hf] at h; exact Or.inr h
      · exact Or.inl hf
    · exact Or.inl hp
  · exact Or.inl rfl
/-- A line's words, stored one behind the other into a line that is there. -/
theorem layP_done {A : Mm} {z : Int} (hz : A.isZ z) (l : Nat → Int) : ∀ k, k ≤ 8 → (layP A z l k).2 = 0 → ∀ j, j < k → ((layP A z l k).1.l z.toNat).has j = l j
  | 0, _, _, j, hj => by omega
  | k + 1, hk, h2, j, hj => by
    by_cases h0 : (layP A z l k).2 = 0
    · rw [layP_next h0] at h2 ⊢
      have hn : (layP A z l k).1.isZ z := by unfold Mm.isZ; rw [layP_n]; exact hz
      have h8 : is8 (k : Int) := ⟨by omega, by omega⟩
      have h3 : (layP A z l k).1.storeE z (k : Int) = 0 := h2
      unfold Mm.storeE at h3
      rw [if_pos ⟨hn, h8⟩] at h3
      show (((layP A z l k).1.storeZ z (k : Int) (l k)).l z.toNat).has j = l j
      unfold Mm.storeZ
      rw [if_pos ⟨hn, h8⟩]
      unfold Mm.store
      rw [step_may (err_may h3), upd_same, Ln.store_has, Int.toNat_natCast]
      by_cases e : j = k
      · subst e; rw [upd_same]
      · rw [upd_other _ _ _ _ e]; exact layP_done hz l k (by omega) h0 j (by omega)
    · exfalso
      unfold layP at h2
      rw [if_neg h0] at h2
      exact h0 h2
theorem putM_other {S : Sto} {A : Mm} (l : List Int) {i : Nat} (hi : S.F.allocE = 0 → i ≠ S.F.allocV.toNat) : (putM S A l).l i = A.l i := by
  unfold putM
  split
  · rename_i ha
    have hn := hi ha
    split
    · rcases flushZ_l (layP A S.F.allocV (listF l) 8).1 S.F.allocV i with h | h
      · exact h.trans (layP_other _ _ _ _ hn 8)
      · exact absurd h.1 hn
    · exact layP_other _ _ _ _ hn 8
  · rfl
theorem putM_done {S : Sto} {A : Mm} {l : List Int} (hN : S.F.hi ≤ A.n) (h : putE S A l = 0) : S.F.allocE = 0 ∧ LFl ((putM S A l).l S.F.allocV.toNat) (listF l) := by
  unfold putE at h
  unfold putM
  by_cases ha : S.F.allocE = 0
  · rw [if_pos ha] at h ⊢
    by_cases h2 : (layP A S.F.allocV (listF l) 8).2 = 0
    · rw [if_pos h2] at h ⊢
      refine ⟨ha, ?_⟩
      rw [flushZ_done h]
      exact flush_fl fun j hj => layP_done (isZ_isF hN (isF_new ha)) (listF l) 8 (Nat.le_refl _) h2 j hj
    · rw [if_neg h2] at h
      exact absurd h h2
  · rw [if_neg ha] at h
    exact absurd h ha

/-! ### a step, line by line -/
theorem tk_toNat_ne {F : Fr} (ha : F.allocE = 0) {y : Int} (hy : F.tk y) : y.toNat ≠ F.allocV.toNat := fun e => by
  have h1 := tk_ne ha hy
  have h2 := hy.1.1
  have h3 := (isF_new ha).1
  omega
theorem do_cases {S : Sto} {A : Mm} {K : Wk} {p : Nat × Int} {y : Int} (hy : S.F.tk y) (h10 : 10 ≤ S.F.lo) (hsl : 0 ≤ K.sl ∧ K.sl ≤ 1) :
    (K.doM S A p).l y.toNat = A.l y.toNat ∨ (K.doM S A p).l y.toNat = (A.l y.toNat).flush 0 ∨ (K.doM S A p).l y.toNat = (A.l y.toNat).settle ((A.l y.toNat).f 0) := by
  unfold Wk.doM
  split
  · rcases flushZ_l A p.2 y.toNat with h | h
    · exact Or.inl h
    · exact Or.inr (Or.inl h.2)
  · split
    · exact Or.inl (putM_other _ fun ha => tk_toNat_ne ha hy)
    · split
      · rcases fenceZ_l A y.toNat with h | h
        · exact Or.inl h
        · exact Or.inr (Or.inr h)
      · have hy1 := hy.1.1
        rcases writeZ_l A (1 - K.sl) K.next y.toNat (by omega) with h | h
        · exact Or.inl h
        · exact Or.inr (Or.inr h)
theorem do_su {S : Sto} {A : Mm} {K : Wk} {p : Nat × Int} {y : Int} {c : Nat → Int} (hy : S.F.tk y) (h10 : 10 ≤ S.F.lo) (hsl : 0 ≤ K.sl ∧ K.sl ≤ 1) (h : LSu (A.l y.toNat) c) : LSu ((K.doM S A p).l y.toNat) c := by
  rcases do_cases (A := A) (p := p) hy h10 hsl with e | e | e <;> rw [e]
  · exact h
  · exact h
  · exact settle_su h _
theorem do_hs {S : Sto} {A : Mm} {K : Wk} {p : Nat × Int} {y : Int} {c : Nat → Int} (hy : S.F.tk y) (h10 : 10 ≤ S.F.lo) (hsl : 0 ≤ K.sl ∧ K.sl ≤ 1) (h : LHs (A.l y.toNat) c) : LHs ((K.doM S A p).l y.toNat) c := by
  rcases do_cases (A := A) (p := p) hy h10 hsl with e | e | e <;> rw [e]
  · exact h
  · exact h
  · exact settle_hs h _
theorem do_fl {S : Sto} {A : Mm} {K : Wk} {p : Nat × Int} {y : Int} {c : Nat → Int} (hy : S.F.tk y) (h10 : 10 ≤ S.F.lo) (hsl : 0 ≤ K.sl ∧ K.sl ≤ 1) (h : LFl (A.l y.toNat) c) : LFl ((K.doM S A p).l y.toNat) c := by
  rcases do_cases (A := A) (p := p) hy h10 hsl with e | e | e <;> rw [e]
  · exact h
  · exact flush_keep h
  · have h2 := settle_fl h
    refine su_fl h2 ?_
    show (A.l y.toNat).f 0 - (A.l y.toNat).f 0 ≤ _
    omega

/-! ### what is changed in between -/
/-- A line that no change touches: one that the base, or what is marked, names, or a taken one that is no object's. -/
def Safe (S : Sto) (y : Int) : Prop := S.F.tk y ∧ (S.shared y ∨ ∀ j, j < 49 → (S.w j).k ≠ 0 → y ≠ (S.w j).l)
theorem layM_other {S : Sto} {A : Mm} {y : Int} (hy : S.F.tk y) (l : Nat → Int) : (S.layM A l).l y.toNat = A.l y.toNat := by
  unfold Sto.layM
  split
  · rename_i ha; exact layP_other _ _ _ _ (tk_toNat_ne ha hy) 8
  · rfl
theorem ch_other {N : Nat} {S : Sto} {A : Mm} (g : Good N S) {y : Int} (hy : Safe S y) (p : OOp) : (chM S A p).l y.toNat = A.l y.toNat := by
  unfold chM
  split
  · unfold Sto.setM
    split
    · rename_i c
      have hf := findE_ok c.2
      split
      · rename_i ho
        refine storeZ_other _ _ _ _ _ fun e => ?_
        have ht := (g.inv.tw ((kindN p.id 20 : Nat) : Int).toNat (by omega) hf.2.2).1
        have hne : y ≠ S.line ((kindN p.id 20 : Nat) : Int) := by
          rcases hy.2 with h | h
          · intro q; exact own_shared ho (q ▸ h)
          · exact h _ (by omega) hf.2.2
        have h1 := hy.1.1.1
        have h2 := ht.1
        have h3 : S.line ((kindN p.id 20 : Nat) : Int) = (S.w ((kindN p.id 20 : Nat) : Int).toNat).l := rfl
        omega
      · split
        · exact layM_other hy.1 _
        · rfl
    · rfl
  · split
    · unfold Sto.makeM
      split
      · exact layM_other hy.1 _
      · rfl
    · rfl

end Go.Proofs.YtinhnnnehhlceaaGreat
