
/-
  A checkpoint's steps on a memory whose power stays on: each is done, or no frame is free; what there is stays. No program.
-/
import Derived.Test.YtinhnnnehhlceaaZGood
import Derived.Test.YtinhnnnehhlceaaZStep
import Derived.Test.YtinhnnnehhlceaaSLastMath
namespace Go.Proofs.Ytinhnnnehhlceaa
set_option linter.unusedVariables false

/-! ### flush, fence, a line written, the superblock -/
theorem has_of {A : Mm} (hc : Calm A) {y : Int} (hy : A.isZ y) : A.hasZ y = (A.l y.toNat).has := by unfold Mm.hasZ; rw [if_pos ⟨hy, hc.1⟩]
theorem calm_stepped {A : Mm} (hc : Calm A) (l : Nat → Ln) : Calm (A.step l) := by
  rw [calm_step hc]
  exact ⟨hc.1, by show (if A.fuse > 0 then A.fuse - 1 else A.fuse) = -1; rw [hc.2]; rfl⟩
theorem err_calm {A : Mm} (hc : Calm A) : A.err = 0 := by unfold Mm.err; rw [if_pos (calm_may hc)]
theorem calm_flush {A : Mm} (hc : Calm A) {z : Int} (hz : A.isZ z) : A.flushE 0 z = 0 ∧ Calm (A.flushZ 0 z) ∧ ∀ y, A.isZ y → (A.flushZ 0 z).hasZ y = A.hasZ y := by
  have h0 : is8 0 ∧ A.isZ z := ⟨by unfold is8; omega, hz⟩
  unfold Mm.flushE Mm.flushZ
  rw [if_pos h0, if_pos h0]
  have hc2 : Calm (A.flush (0 : Int).toNat z.toNat) := calm_stepped hc _
  refine ⟨err_calm hc, hc2, fun y hy => ?_⟩
  have hn : (A.flush (0 : Int).toNat z.toNat).isZ y := by unfold Mm.isZ; rw [show (A.flush (0 : Int).toNat z.toNat).n = A.n from step_n _ _]; exact hy
  rw [has_of hc2 hn, has_of hc hy]
  unfold Mm.flush
  rw [calm_step hc]
  show (upd A.l z.toNat _ y.toNat).has = _
  unfold upd
  split
  · rename_i e; rw [e]; rfl
  · rfl
theorem calm_fence {A : Mm} (hc : Calm A) : A.fenceE 0 = 0 ∧ Calm (A.fenceZ 0) ∧ ∀ y, A.isZ y → (A.fenceZ 0).hasZ y = A.hasZ y := by
  have h0 : is8 0 := by unfold is8; omega
  unfold Mm.fenceE Mm.fenceZ
  rw [if_pos h0, if_pos h0]
  have hc2 : Calm (A.fence (0 : Int).toNat) := calm_stepped hc _
  refine ⟨err_calm hc, hc2, fun y hy => ?_⟩
  have hn : (A.fence (0 : Int).toNat).isZ y := by unfold Mm.isZ; rw [show (A.fence (0 : Int).toNat).n = A.n from step_n _ _]; exact hy
  rw [has_of hc2 hn, has_of hc hy]
  unfold Mm.fence
  rw [calm_step hc]
  exact Ln.settle_has _ _
theorem calm_put {S : Sto} {A : Mm} (hc : Calm A) (hN : S.F.hi ≤ A.n) (l : List Int) :
    (putE S A l = 0 ∨ (putE S A l = 10 ∧ S.F.allocE ≠ 0)) ∧ (S.F.allocE = 0 → putE S A l = 0) ∧ Calm (putM S A l) ∧ ∀ y, S.F.tk y → (putM S A l).hasZ y = A.hasZ y := by
  unfold putE putM
  by_cases ha : S.F.allocE = 0
  · rw [if_pos ha, if_pos ha]
    have hz := isZ_isF (A := A) hN (isF_new ha)
    obtain ⟨h1, h2, h3, h4⟩ := calm_lay hc hz (listF l) 8 (Nat.le_refl _)
    rw [if_pos h2, if_pos h2]
    have hz2 : (layP A S.F.allocV (listF l) 8).1.isZ S.F.allocV := by unfold Mm.isZ; rw [layP_n]; exact hz
    obtain ⟨f1, f2, f3⟩ := calm_flush h1 hz2
    refine ⟨Or.inl f1, fun _ => f1, f2, fun y hy => ?_⟩
    have hy1 := isZ_isF (A := A) hN hy.1
    rw [f3 y (by unfold Mm.isZ; rw [layP_n]; exact hy1)]
    exact h3 y hy1 (tk_ne ha hy)
  · rw [if_neg ha, if_neg ha]
    exact ⟨Or.inr ⟨(alloc_none ha).2.1, ha⟩, fun h => absurd h ha, hc, fun _ _ => rfl⟩
theorem puts_other (A : Mm) (k : Nat) (l : List Int) (i : Nat) (hi : i ≠ k) : ∀ j, ((A.puts k l j).l i) = A.l i := by
  have hst : ∀ (B : Mm) (q : Nat) (v : Int), (B.store k q v).l i = B.l i := fun B q v => by
    unfold Mm.store Mm.step
    split
    · exact upd_other _ _ _ _ hi
    · rfl
  intro j
  induction j with
  | zero => exact hst _ _ _
  | succ j ih => exact (hst _ _ _).trans ih
theorem flush_other (A : Mm) (c k i : Nat) (hi : i ≠ k) : (A.flush c k).l i = A.l i := by
  unfold Mm.flush Mm.step
  split
  · exact upd_other _ _ _ _ hi
  · rfl
theorem fence_has (A : Mm) (c i : Nat) : ((A.fence c).l i).has = (A.l i).has := by
  unfold Mm.fence Mm.step
  split
  · exact Ln.settle_has _ _
  · rfl
theorem write_other (A : Mm) (slot : Int) (s : List Int) (i : Nat) (hi : i ≠ slot.toNat) : ((A.writeZ 0 slot s).l i).has = (A.l i).has := by
  unfold Mm.writeZ
  split
  · split
    · have hp := puts_other A slot.toNat (lineV s) i hi 8
      have hf : (((A.puts slot.toNat (lineV s) 8).flushZ 0 slot).l i) = A.l i := by
        unfold Mm.flushZ
        split
        · rw [flush_other _ _ _ _ hi]; exact hp
        · exact hp
      split
      · unfold Mm.fenceZ
        split
        · rw [fence_has, hf]
        · rw [hf]
      · rw [hf]
    · rw [puts_other _ _ _ _ hi]
  · rfl

/-! ### a checkpoint that is under way -/
structure Way (S : Sto) (K : Wk) : Prop where
  is : S.is = true
  k : K.k = S.k
  d : ∀ i, i < 8 → S.F.tk (K.d i)
  dw : ∀ i j, i < 8 → j < 49 → (S.w j).k ≠ 0 → K.d i ≠ (S.w j).l
  l : ∀ p ∈ K.l, (p.1 = 1 ∧ hasB S.k p.2 = true) ∨ (p.1 = 2 ∧ 0 ≤ p.2 ∧ p.2 < 7) ∨ p = (3, 7) ∨ p = (4, 0) ∨ p = (5, 0)
  sup : K.b.length = 4 ∧ 1 ≤ K.gen ∧ K.gen < two40 ∧ (K.sl = 0 ∨ K.sl = 1) ∧ 1 ≤ K.b.getD 3 0 ∧ K.b.getD 3 0 ≤ 8 ∧ 0 ≤ K.q ∧ K.q ≤ two40
theorem way_root {N : Nat} {S : Sto} {K : Wk} (g : Good N S) (h : Way S K) : mayT (tab7 K.d) = true := by
  rw [mayT_iff]
  intro i hi
  rw [tab7_get _ _ hi]
  have := (h.d i (by omega)).1
  have h1 := this.1
  have h2 := this.2
  rw [g.lh.1] at h1; rw [g.lh.2] at h2
  have := g.hN
  omega
theorem way_leaf {N : Nat} {S : Sto} {K : Wk} (g : Good N S) (h : Way S K) (k : Nat) (hk : k < 7) : mayX (partT (rowE 49 K.k) k) = true := by
  rw [mayX_iff]
  intro i hi
  rw [partT_at _ _ _ hi, rowE_at 49 _ _ (by omega), h.k]
  exact g.k _ (by omega)
theorem way_sup {N : Nat} {S : Sto} {K : Wk} (g : Good N S) (h : Way S K) : mayS K.next = true := by
  obtain ⟨s1, s2, s3, s4, s5, s6, s7, s8⟩ := h.sup
  have hd := (h.d 7 (by decide)).1
  have h1 := hd.1
  have h2 := hd.2
  rw [g.lh.1] at h1; rw [g.lh.2] at h2
  have := g.hN
  unfold two40 at s3 s8
  rw [mayS_iff]
  show 1 ≤ K.gen + 1 ∧ K.gen + 1 ≤ 1099511627776 ∧ 0 ≤ K.d 7 ∧ K.d 7 < 1024 ∧ 0 ≤ K.q ∧ K.q ≤ 1099511627776 ∧ 1 ≤ K.b.getD 3 0 ∧ K.b.getD 3 0 ≤ 8
  omega
theorem way_fine {N : Nat} {S : Sto} {K : Wk} (g : Good N S) (h : Way S K) {p : Nat × Int} (hp : p ∈ K.l) : K.fine p := by
  obtain ⟨s1, s2, s3, s4, s5, s6, s7, s8⟩ := h.sup
  unfold two40 at s3
  rcases h.l p hp with c | c | c | c | c
  · exact Or.inl c.1
  · refine Or.inr (Or.inl ⟨c.1, c.2.1, c.2.2, ?_⟩)
    unfold leafKE leafE
    rw [if_pos ⟨c.2.1, c.2.2⟩, if_pos (way_leaf g h _ (by omega))]
  · refine Or.inr (Or.inr (Or.inl ⟨c, ?_⟩))
    unfold rootE
    rw [if_pos (way_root g h)]
  · exact Or.inr (Or.inr (Or.inr (Or.inl (by rw [c]))))
  · refine Or.inr (Or.inr (Or.inr (Or.inr ⟨by rw [c], ⟨by omega, by omega⟩, by omega, by omega⟩)))
/-- What a step on a memory whose power stays on leaves. -/
structure Did (N : Nat) (S : Sto) (A : Mm) (K : Wk) (p : Nat × Int) : Prop where
  e : K.doE S A p = 0 ∨ (K.doE S A p = 10 ∧ S.F.allocE ≠ 0 ∧ isPut p = true)
  e0 : S.F.allocE = 0 → K.doE S A p = 0
  calm : Calm (K.doM S A p)
  n : (K.doM S A p).n = N
  w : (K.doS S A p).w = S.w
  has : ∀ y, S.F.tk y → (K.doM S A p).hasZ y = A.hasZ y
theorem way_did {N : Nat} {S : Sto} {A : Mm} {K : Wk} (g : Good N S) (hc : Calm A) (hn : A.n = N) (h64 : 64 ≤ N) (h : Way S K) {p : Nat × Int} (hp : p ∈ K.l) : Did N S A K p := by
  have hN : S.F.hi ≤ A.n := by rw [g.lh.2, hn]; exact Nat.le_refl _
  have hnM : (K.doM S A p).n = N := (doM_n _ _ _ _).trans hn
  have tz : ∀ y, S.F.tk y → A.isZ y := fun y hy => isZ_isF hN hy.1
  rcases h.l p hp with c | c | c | c | c
  · have e1 : K.doE S A p = A.flushE 0 p.2 := by unfold Wk.doE; rw [if_pos c.1]
    have e2 : K.doM S A p = A.flushZ 0 p.2 := by unfold Wk.doM; rw [if_pos c.1]
    have e3 : K.doS S A p = S := by unfold Wk.doS; rw [if_pos c.1]
    obtain ⟨f1, f2, f3⟩ := calm_flush hc (tz _ (hasB_tk g.inv.tm c.2))
    exact ⟨Or.inl (e1.trans f1), fun _ => e1.trans f1, by rw [e2]; exact f2, hnM, by rw [e3], fun y hy => by rw [e2]; exact f3 y (tz y hy)⟩
  · have hq : ¬ p.1 = 1 := by omega
    have e1 : K.doE S A p = putE S A (K.line p) := by unfold Wk.doE; rw [if_neg hq, if_pos (Or.inl c.1)]
    have e2 : K.doM S A p = putM S A (K.line p) := by unfold Wk.doM; rw [if_neg hq, if_pos (Or.inl c.1)]
    have e3 : K.doS S A p = S.took := by unfold Wk.doS; rw [if_neg hq, if_pos (Or.inl c.1)]
    obtain ⟨f1, f2, f3, f4⟩ := calm_put hc hN (K.line p)
    refine ⟨?_, fun ha => e1.trans (f2 ha), by rw [e2]; exact f3, hnM, by rw [e3]; rfl, fun y hy => by rw [e2]; exact f4 y hy⟩
    rw [e1]
    exact f1.imp id fun q => ⟨q.1, q.2, by unfold isPut; rw [c.1]; rfl⟩
  · have hq : ¬ p.1 = 1 := by rw [c]; decide
    have h3 : p.1 = 3 := by rw [c]
    have e1 : K.doE S A p = putE S A (K.line p) := by unfold Wk.doE; rw [if_neg hq, if_pos (Or.inr h3)]
    have e2 : K.doM S A p = putM S A (K.line p) := by unfold Wk.doM; rw [if_neg hq, if_pos (Or.inr h3)]
    have e3 : K.doS S A p = S.took := by unfold Wk.doS; rw [if_neg hq, if_pos (Or.inr h3)]
    obtain ⟨f1, f2, f3, f4⟩ := calm_put hc hN (K.line p)
    refine ⟨?_, fun ha => e1.trans (f2 ha), by rw [e2]; exact f3, hnM, by rw [e3]; rfl, fun y hy => by rw [e2]; exact f4 y hy⟩
    rw [e1]
    exact f1.imp id fun q => ⟨q.1, q.2, by unfold isPut; rw [h3]; rfl⟩
  · have h4 : p.1 = 4 := by rw [c]
    have e1 : K.doE S A p = A.fenceE 0 := by unfold Wk.doE; rw [if_neg (by omega), if_neg (by omega), if_pos h4]
    have e2 : K.doM S A p = A.fenceZ 0 := by unfold Wk.doM; rw [if_neg (by omega), if_neg (by omega), if_pos h4]
    have e3 : K.doS S A p = S := by unfold Wk.doS; rw [if_neg (by omega), if_neg (by omega), if_pos h4]
    obtain ⟨f1, f2, f3⟩ := calm_fence hc
    exact ⟨Or.inl (e1.trans f1), fun _ => e1.trans f1, by rw [e2]; exact f2, hnM, by rw [e3], fun y hy => by rw [e2]; exact f3 y (tz y hy)⟩
  · have h5 : p.1 = 5 := by rw [c]
    obtain ⟨s1, s2, s3, s4, s5⟩ := h.sup
    obtain ⟨k, hk, hk2⟩ : ∃ k : Nat, 1 - K.sl = (k : Int) ∧ k < 2 := ⟨(1 - K.sl).toNat, by omega, by omega⟩
    obtain ⟨w1, w2, w3⟩ := wrote_free A hc.1 hc.2 (by omega) 0 (by unfold is8; omega) (1 - K.sl) k hk hk2 K.next (way_sup g h)
    have hD : S.doneE = 0 := by unfold Sto.doneE; rw [h.is]; rfl
    have e1 : K.doE S A p = 0 := by unfold Wk.doE; rw [if_neg (by omega), if_neg (by omega), if_neg (by omega), if_pos w1, hD]
    have e2 : K.doM S A p = A.writeZ 0 (1 - K.sl) K.next := by unfold Wk.doM; rw [if_neg (by omega), if_neg (by omega), if_neg (by omega)]
    have e3 : K.doS S A p = S.commitS K.d := by unfold Wk.doS; rw [if_neg (by omega), if_neg (by omega), if_neg (by omega), if_pos w1]
    have hc2 : Calm (A.writeZ 0 (1 - K.sl) K.next) := ⟨w2, w3⟩
    refine ⟨Or.inl e1, fun _ => e1, by rw [e2]; exact hc2, hnM, ?_, fun y hy => ?_⟩
    · rw [e3]; unfold Sto.commitS; split <;> rfl
    · have hy1 := tz y hy
      have hy2 : (A.writeZ 0 (1 - K.sl) K.next).isZ y := by unfold Mm.isZ; rw [writeZ_n]; exact hy1
      rw [e2, has_of hc2 hy2, has_of hc hy1]
      refine write_other A _ _ _ ?_
      have := hy.1.1
      rw [g.lh.1] at this
      omega

end Go.Proofs.Ytinhnnnehhlceaa
