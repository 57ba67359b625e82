
/-
  A checkpoint on a memory whose power may go off: what each step leaves. No program.
-/
import Derived.Test.YtiafhcgaikapcaaGreatZBase
namespace Go.Proofs.YtiafhcgaikapcaaGreat
set_option linter.unusedVariables false
set_option linter.unusedSimpArgs false

def EOn (E : Int) (B : Mm) : Prop := (E = 0 ∧ B.on = true) ∨ (E = 4 ∧ B.on = false)
theorem EOn.on {E : Int} {B : Mm} (h : EOn E B) (h0 : E = 0) : B.on = true := by
  rcases h with h | h
  · exact h.2
  · rw [h0] at h; exact absurd h.1 (by decide)
theorem EOn.off {E : Int} {B : Mm} (h : EOn E B) (h0 : E ≠ 0) : E = 4 ∧ B.on = false := by
  rcases h with h | h
  · exact absurd h.1 h0
  · exact h
theorem eon_step {A : Mm} (hon : A.on = true) (l : Nat → Ln) : EOn A.err (A.step l) := by
  unfold Mm.err Mm.step
  by_cases h : A.may = true
  · rw [if_pos h, if_pos h]; exact Or.inl ⟨rfl, hon⟩
  · rw [if_neg h, if_neg h]; exact Or.inr ⟨rfl, rfl⟩
theorem eon_store {A : Mm} (hon : A.on = true) {z q : Int} (hz : A.isZ z) (hq : is8 q) (v : Int) : EOn (A.storeE z q) (A.storeZ z q v) := by
  unfold Mm.storeE Mm.storeZ
  rw [if_pos ⟨hz, hq⟩, if_pos ⟨hz, hq⟩]
  exact eon_step hon _
theorem eon_flush {A : Mm} (hon : A.on = true) {z : Int} (hz : A.isZ z) : EOn (A.flushE 0 z) (A.flushZ 0 z) := by
  unfold Mm.flushE Mm.flushZ
  rw [if_pos ⟨by decide, hz⟩, if_pos ⟨by decide, hz⟩]
  exact eon_step hon _
theorem eon_fence {A : Mm} (hon : A.on = true) : EOn (A.fenceE 0) (A.fenceZ 0) := by
  unfold Mm.fenceE Mm.fenceZ
  rw [if_pos (by decide), if_pos (by decide)]
  exact eon_step hon _
theorem eon_lay {A : Mm} (hon : A.on = true) {z : Int} (hz : A.isZ z) (l : Nat → Int) : ∀ k, k ≤ 8 → EOn (layP A z l k).2 (layP A z l k).1
  | 0, _ => Or.inl ⟨rfl, hon⟩
  | k + 1, hk => by
    have ih := eon_lay hon hz l k (by omega)
    by_cases h : (layP A z l k).2 = 0
    · rw [layP_next h]
      exact eon_store (ih.on h) (by unfold Mm.isZ; rw [layP_n]; exact hz) ⟨by omega, by omega⟩ _
    · unfold layP
      rw [if_neg h]
      exact ih
theorem eon_put {S : Sto} {A : Mm} (hon : A.on = true) (hN : S.F.hi ≤ A.n) (ha : S.F.allocE = 0) (l : List Int) : EOn (putE S A l) (putM S A l) := by
  have hz : A.isZ S.F.allocV := isZ_isF hN (isF_new ha)
  have h8 := eon_lay hon hz (listF l) 8 (Nat.le_refl _)
  unfold putE putM
  rw [if_pos ha, if_pos ha]
  by_cases h : (layP A S.F.allocV (listF l) 8).2 = 0
  · rw [if_pos h, if_pos h]
    exact eon_flush (h8.on h) (by unfold Mm.isZ; rw [layP_n]; exact hz)
  · rw [if_neg h, if_neg h]
    exact h8
/-- Behind a Write to a slot whose line was sure: it is written and sure, or the power is off and the first m stores are there. -/
theorem write_pow {A : Mm} {k : Nat} {slot : Int} {s : List Int} (ek : slot = (k : Int)) (hk : k < 2) (ht : (A.l k).t = []) (hon : A.on = true) (hn : 64 ≤ A.n) (hm : mayS s = true) :
    (A.writeE 0 slot s = 0 ∧ (A.writeZ 0 slot s).on = true ∧ LSu ((A.writeZ 0 slot s).l k) (listF (lineS s))) ∨
    (A.writeE 0 slot s = 4 ∧ (A.writeZ 0 slot s).on = false ∧ ∃ m, m ≤ 9 ∧ ((A.writeZ 0 slot s).l k).s = (A.l k).s ∧ ((A.writeZ 0 slot s).l k).t = (stW (lineS s) 8).take m) := by
  have hok : okW slot s = true := by simp [okW, hm]; omega
  have hV : lineV s = lineS s := by simp [lineV, hm]
  have hsl : slot.toNat = k := by omega
  obtain ⟨m, h1, h2, h3⟩ := puts_inv A k (lineS s) ht 8 (Nat.le_refl _)
  have hz : (A.puts k (lineS s) 8).isZ slot := by unfold Mm.isZ; rw [puts_n]; omega
  unfold Mm.writeE Mm.writeZ
  rw [if_pos hok, if_pos hok, hV, hsl]
  generalize A.puts k (lineS s) 8 = P at *
  by_cases hp : P.on = true
  · rw [if_pos hp, if_pos hp]
    have hm9 := h3 hp
    subst hm9
    have hP : LHs (P.l k) (listF (lineS s)) := fun j hj => by
      unfold Ln.has
      rw [h2.t, h2.s, stW_take _ 8 8 (Nat.le_refl _), run_stW _ _ _ _ (Nat.le_refl _), if_pos hj]
      rfl
    have ef := eon_flush hp hz
    by_cases hf : P.flushE 0 slot = 0
    · rw [if_pos hf, if_pos hf]
      have e1 := flushZ_done hf
      rw [hsl] at e1
      have eg := eon_fence (ef.on hf)
      by_cases hg : (P.flushZ 0 slot).fenceE 0 = 0
      · left
        refine ⟨hg, eg.on hg, ?_⟩
        rw [fenceZ_done hg k, e1]
        exact settle_fl (flush_fl hP)
      · right
        obtain ⟨g1, g2⟩ := eg.off hg
        refine ⟨g1, g2, 9, Nat.le_refl _, ?_⟩
        have e2 : ((P.flushZ 0 slot).fenceZ 0).l k = (P.flushZ 0 slot).l k := by
          unfold Mm.fenceE at hg
          unfold Mm.fenceZ
          rw [if_pos (by decide)] at hg ⊢
          unfold Mm.err at hg
          unfold Mm.fence Mm.step
          by_cases hmay : (P.flushZ 0 slot).may = true
          · rw [if_pos hmay] at hg; exact absurd rfl hg
          · rw [if_neg hmay]; rfl
        rw [e2, e1]
        exact ⟨h2.s, h2.t⟩
    · rw [if_neg hf, if_neg hf]
      right
      obtain ⟨g1, g2⟩ := ef.off hf
      refine ⟨g1, g2, 9, Nat.le_refl _, ?_⟩
      rcases flushZ_l P slot k with e | e
      · rw [e]; exact ⟨h2.s, h2.t⟩
      · rw [e.2]; exact ⟨h2.s, h2.t⟩
  · rw [if_neg hp, if_neg hp]
    right
    exact ⟨rfl, by simpa using hp, m, h1, h2.s, h2.t⟩
/-- What a crash makes of it: no superblock, or the whole one. -/
theorem crash_pow {A B : Mm} {k : Nat} {s : List Int} {m : Nat} (keep : List Int) (hm : m ≤ 9) (hs : (B.l k).s = (A.l k).s) (ht : (B.l k).t = (stW (lineS s) 8).take m) (h7 : (A.l k).s 7 = 0) :
    isS (rowOf ((B.crash keep).l k).has) = false ∨ rowOf ((B.crash keep).l k).has = lineS s := by
  obtain ⟨n, hn, e⟩ := crash_s B keep k
  rw [has_sure (crash_t B keep k), e, hs, ht, List.take_take]
  by_cases h9 : min n m ≤ 8
  · left
    exact row_less _ _ _ h7 h9
  · right
    have : min n m = 8 + 1 := by omega
    rw [this, stW_take _ 8 8 (Nat.le_refl _)]
    exact row_eight _ (lineS_len _) _
/-- A step that is not the last one. -/
theorem do_pow {N : Nat} {S : Sto} {A : Mm} {K : Wk} {p : Nat × Int} (g : Good N S) (hn : A.n = N) (hon : A.on = true) (hw : Way S K) (hp : p ∈ K.l) (h5 : p.1 ≠ 5) (ha : isPut p = true → S.F.allocE = 0) : EOn (K.doE S A p) (K.doM S A p) := by
  have hN : S.F.hi ≤ A.n := by rw [g.lh.2, hn]; exact Nat.le_refl _
  unfold Wk.doE Wk.doM
  rcases hw.l p hp with c | c | c | c | c
  · rw [if_pos c.1, if_pos c.1]
    exact eon_flush hon (isZ_isF hN (hasB_tk g.inv.tm c.2).1)
  · have hi : isPut p = true := by unfold isPut; rw [c.1]; rfl
    have q1 : ¬ p.1 = 1 := by omega
    have q2 : p.1 = 2 ∨ p.1 = 3 := Or.inl c.1
    rw [if_neg q1, if_pos q2, if_neg q1, if_pos q2]
    exact eon_put hon hN (ha hi) _
  · have h3 : p.1 = 3 := by rw [c]
    have hi : isPut p = true := by unfold isPut; rw [h3]; rfl
    have q1 : ¬ p.1 = 1 := by omega
    have q2 : p.1 = 2 ∨ p.1 = 3 := Or.inr h3
    rw [if_neg q1, if_pos q2, if_neg q1, if_pos q2]
    exact eon_put hon hN (ha hi) _
  · have h4 : p.1 = 4 := by rw [c]
    have q1 : ¬ p.1 = 1 := by omega
    have q2 : ¬ (p.1 = 2 ∨ p.1 = 3) := by omega
    rw [if_neg q1, if_neg q2, if_pos h4, if_neg q1, if_neg q2, if_pos h4]
    exact eon_fence hon
  · rw [c] at h5; exact absurd rfl h5

end Go.Proofs.YtiafhcgaikapcaaGreat
