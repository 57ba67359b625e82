
/-
  A memory line by line: what is sure, what is flushed, what each call makes of it; and memories whose power stays on. No program.
-/
import Derived.Test.YtiafhcgaikapcaaGreatPkShow
import Derived.Test.YtiafhcgaikapcaaGreatPkMem
import Derived.Test.YtiafhcgaikapcaaGreatPkCr
namespace Go.Proofs.YtiafhcgaikapcaaGreat
set_option linter.unusedVariables false

/-! ### a memory whose power stays on -/
theorem has_of {A : Mm} (hc : Calm A) {y : Int} (hy : A.isZ y) : A.hasZ y = (A.l y.toNat).has := by unfold Mm.hasZ; rw [if_pos ⟨hy, hc.1⟩]
theorem calm_stepped {A : Mm} (hc : Calm A) (l : Nat → Ln) : Calm (A.step l) := by
  rw [calm_step hc]
  exact ⟨hc.1, by show (if A.fuse > 0 then A.fuse - 1 else A.fuse) = -1; rw [hc.2]; rfl⟩
theorem err_calm {A : Mm} (hc : Calm A) : A.err = 0 := by unfold Mm.err; rw [if_pos (calm_may hc)]
theorem calm_flush {A : Mm} (hc : Calm A) {z : Int} (hz : A.isZ z) : A.flushE 0 z = 0 ∧ Calm (A.flushZ 0 z) ∧ ∀ y, A.isZ y → (A.flushZ 0 z).hasZ y = A.hasZ y := by
  have h0 : is8 0 ∧ A.isZ z := ⟨by unfold is8; omega, hz⟩
  unfold Mm.flushE Mm.flushZ
  rw [if_pos h0, if_pos h0]
  have hc2 : Calm (A.flush (0 : Int).toNat z.toNat) := calm_stepped hc _
  refine ⟨err_calm hc, hc2, fun y hy => ?_⟩
  have hn : (A.flush (0 : Int).toNat z.toNat).isZ y := by unfold Mm.isZ; rw [show (A.flush (0 : Int).toNat z.toNat).n = A.n from step_n _ _]; exact hy
  rw [has_of hc2 hn, has_of hc hy]
  unfold Mm.flush
  rw [calm_step hc]
  show (upd A.l z.toNat _ y.toNat).has = _
  unfold upd
  split
  · rename_i e; rw [e]; rfl
  · rfl
theorem calm_fence {A : Mm} (hc : Calm A) : A.fenceE 0 = 0 ∧ Calm (A.fenceZ 0) ∧ ∀ y, A.isZ y → (A.fenceZ 0).hasZ y = A.hasZ y := by
  have h0 : is8 0 := by unfold is8; omega
  unfold Mm.fenceE Mm.fenceZ
  rw [if_pos h0, if_pos h0]
  have hc2 : Calm (A.fence (0 : Int).toNat) := calm_stepped hc _
  refine ⟨err_calm hc, hc2, fun y hy => ?_⟩
  have hn : (A.fence (0 : Int).toNat).isZ y := by unfold Mm.isZ; rw [show (A.fence (0 : Int).toNat).n = A.n from step_n _ _]; exact hy
  rw [has_of hc2 hn, has_of hc hy]
  unfold Mm.fence
  rw [calm_step hc]
  exact Ln.settle_has _ _
theorem puts_other (A : Mm) (k : Nat) (l : List Int) (i : Nat) (hi : i ≠ k) : ∀ j, ((A.puts k l j).l i) = A.l i := by
  have hst : ∀ (B : Mm) (q : Nat) (v : Int), (B.store k q v).l i = B.l i := fun B q v => by
    unfold Mm.store Mm.step
    split
    · exact upd_other _ _ _ _ hi
    · rfl
  intro j
  induction j with
  | zero => exact hst _ _ _
  | succ j ih => exact (hst _ _ _).trans ih
theorem flush_other (A : Mm) (c k i : Nat) (hi : i ≠ k) : (A.flush c k).l i = A.l i := by
  unfold Mm.flush Mm.step
  split
  · exact upd_other _ _ _ _ hi
  · rfl
theorem fence_has (A : Mm) (c i : Nat) : ((A.fence c).l i).has = (A.l i).has := by
  unfold Mm.fence Mm.step
  split
  · exact Ln.settle_has _ _
  · rfl
theorem write_other (A : Mm) (slot : Int) (s : List Int) (i : Nat) (hi : i ≠ slot.toNat) : ((A.writeZ 0 slot s).l i).has = (A.l i).has := by
  unfold Mm.writeZ
  split
  · split
    · have hp := puts_other A slot.toNat (lineV s) i hi 8
      have hf : (((A.puts slot.toNat (lineV s) 8).flushZ 0 slot).l i) = A.l i := by
        unfold Mm.flushZ
        split
        · rw [flush_other _ _ _ _ hi]; exact hp
        · exact hp
      split
      · unfold Mm.fenceZ
        split
        · rw [fence_has, hf]
        · rw [hf]
      · rw [hf]
    · rw [puts_other _ _ _ _ hi]
  · rfl

/-! ### line by line -/
def listF (l : List Int) : Nat → Int := fun j => l.getD j 0
/-- A line has just these words, and all of it is sure; it has them, and all of it is flushed; it has them. -/
def LSu (L : Ln) (c : Nat → Int) : Prop := L.t = [] ∧ ∀ j, j < 8 → L.s j = c j
def LHs (L : Ln) (c : Nat → Int) : Prop := ∀ j, j < 8 → L.has j = c j
def LFl (L : Ln) (c : Nat → Int) : Prop := LHs L c ∧ L.f 0 = L.t.length
theorem LSu.hs {L : Ln} {c : Nat → Int} (h : LSu L c) : LHs L c := fun j hj => by
  unfold Ln.has; rw [h.1]; exact h.2 j hj
theorem settle_su {L : Ln} {c : Nat → Int} (h : LSu L c) (n : Nat) : LSu (L.settle n) c := by
  refine ⟨?_, fun j hj => ?_⟩
  · show L.t.drop n = []
    rw [h.1]; simp
  · show runS (L.t.take n) L.s j = c j
    rw [h.1]; simp [runS]; exact h.2 j hj
theorem settle_hs {L : Ln} {c : Nat → Int} (h : LHs L c) (n : Nat) : LHs (L.settle n) c := fun j hj => by rw [Ln.settle_has]; exact h j hj
/-- What was flushed by the core 0 is sure behind its fence. -/
theorem settle_fl {L : Ln} {c : Nat → Int} (h : LFl L c) : LSu (L.settle (L.f 0)) c := by
  refine ⟨?_, fun j hj => ?_⟩
  · show L.t.drop (L.f 0) = []
    rw [h.2]; exact List.drop_length
  · show runS (L.t.take (L.f 0)) L.s j = c j
    rw [h.2, List.take_length]
    exact h.1 j hj
theorem su_fl {L : Ln} {c : Nat → Int} (h : LSu L c) (hf : L.f 0 ≤ L.t.length) : LFl L c := ⟨h.hs, by rw [h.1] at hf ⊢; simp at hf ⊢; exact hf⟩
theorem flush_fl {L : Ln} {c : Nat → Int} (h : LHs L c) : LFl (L.flush 0) c := ⟨h, by show upd L.f 0 L.t.length 0 = _; rw [upd_same]; rfl⟩
theorem flush_keep {L : Ln} {c : Nat → Int} (h : LFl L c) : LFl (L.flush 0) c := flush_fl h.1

/-! ### the memory's calls, line by line -/
theorem step_l (A : Mm) (l : Nat → Ln) (i : Nat) : (A.step l).l i = l i ∨ (A.step l).l i = A.l i := by
  unfold Mm.step; split
  · exact Or.inl rfl
  · exact Or.inr rfl
theorem step_may {A : Mm} (h : A.may = true) (l : Nat → Ln) (i : Nat) : (A.step l).l i = l i := by unfold Mm.step; rw [if_pos h]; rfl
theorem err_may {A : Mm} (h : A.err = 0) : A.may = true := by
  unfold Mm.err at h
  split at h
  · assumption
  · cases h
theorem storeZ_other (A : Mm) (z q v : Int) (i : Nat) (hi : i ≠ z.toNat) : (A.storeZ z q v).l i = A.l i := by
  unfold Mm.storeZ
  split
  · unfold Mm.store
    rcases step_l A (upd A.l z.toNat ((A.l z.toNat).store q.toNat v)) i with h | h
    · rw [h]; exact upd_other _ _ _ _ hi
    · exact h
  · rfl
theorem layP_other (A : Mm) (z : Int) (l : Nat → Int) (i : Nat) (hi : i ≠ z.toNat) : ∀ k, (layP A z l k).1.l i = A.l i
  | 0 => rfl
  | k + 1 => by
    unfold layP
    split
    · exact (storeZ_other _ _ _ _ _ hi).trans (layP_other A z l i hi k)
    · exact layP_other A z l i hi k
theorem flushZ_l (A : Mm) (z : Int) (i : Nat) : (A.flushZ 0 z).l i = A.l i ∨ (i = z.toNat ∧ (A.flushZ 0 z).l i = (A.l i).flush 0) := by
  unfold Mm.flushZ
  split
  · unfold Mm.flush
    rcases step_l A (upd A.l z.toNat ((A.l z.toNat).flush (0 : Int).toNat)) i with h | h
    · rw [h]
      by_cases e : i = z.toNat
      · subst e; rw [upd_same]; exact Or.inr ⟨rfl, rfl⟩
      · rw [upd_other _ _ _ _ e]; exact Or.inl rfl
    · exact Or.inl h
  · exact Or.inl rfl
theorem flushZ_done {A : Mm} {z : Int} (h : A.flushE 0 z = 0) : (A.flushZ 0 z).l z.toNat = (A.l z.toNat).flush 0 := by
  unfold Mm.flushE at h
  split at h
  · rename_i c
    unfold Mm.flushZ
    rw [if_pos c]
    unfold Mm.flush
    rw [step_may (err_may h), upd_same]; rfl
  · cases h
theorem fenceZ_l (A : Mm) (i : Nat) : (A.fenceZ 0).l i = A.l i ∨ (A.fenceZ 0).l i = (A.l i).settle ((A.l i).f 0) := by
  unfold Mm.fenceZ
  split
  · unfold Mm.fence
    rcases step_l A (fun i => (A.l i).settle ((A.l i).f (0 : Int).toNat)) i with h | h
    · exact Or.inr h
    · exact Or.inl h
  · exact Or.inl rfl
theorem fenceZ_done {A : Mm} (h : A.fenceE 0 = 0) (i : Nat) : (A.fenceZ 0).l i = (A.l i).settle ((A.l i).f 0) := by
  unfold Mm.fenceE at h
  split at h
  · rename_i c
    unfold Mm.fenceZ
    rw [if_pos c]
    unfold Mm.fence
    rw [step_may (err_may h)]; rfl
  · cases h
theorem writeZ_l (A : Mm) (slot : Int) (s : List Int) (i : Nat) (hi : i ≠ slot.toNat) : (A.writeZ 0 slot s).l i = A.l i ∨ (A.writeZ 0 slot s).l i = (A.l i).settle ((A.l i).f 0) := by
  have hp := puts_other A slot.toNat (lineV s) i hi 8
  have hf : ((A.puts slot.toNat (lineV s) 8).flushZ 0 slot).l i = A.l i := by
    rcases flushZ_l (A.puts slot.toNat (lineV s) 8) slot i with h | h
    · exact h.trans hp
    · exact absurd h.1 hi
  unfold Mm.writeZ
  split
  · split
    · split
      · rcases fenceZ_l ((A.puts slot.toNat (lineV s) 8).flushZ 0 slot) i with h | h
        · exact Or.inl (h.trans hf)
        · rw [hf] at h; exact Or.inr h
      · exact Or.inl hf
    · exact Or.inl hp
  · exact Or.inl rfl
/-- A line's words, stored one behind the other into a line that is there. -/
theorem layP_done {A : Mm} {z : Int} (hz : A.isZ z) (l : Nat → Int) : ∀ k, k ≤ 8 → (layP A z l k).2 = 0 → ∀ j, j < k → ((layP A z l k).1.l z.toNat).has j = l j
  | 0, _, _, j, hj => by omega
  | k + 1, hk, h2, j, hj => by
    by_cases h0 : (layP A z l k).2 = 0
    · rw [layP_next h0] at h2 ⊢
      have hn : (layP A z l k).1.isZ z := by unfold Mm.isZ; rw [layP_n]; exact hz
      have h8 : is8 (k : Int) := ⟨by omega, by omega⟩
      have h3 : (layP A z l k).1.storeE z (k : Int) = 0 := h2
      unfold Mm.storeE at h3
      rw [if_pos ⟨hn, h8⟩] at h3
      show (((layP A z l k).1.storeZ z (k : Int) (l k)).l z.toNat).has j = l j
      unfold Mm.storeZ
      rw [if_pos ⟨hn, h8⟩]
      unfold Mm.store
      rw [step_may (err_may h3), upd_same, Ln.store_has, Int.toNat_natCast]
      by_cases e : j = k
      · subst e; rw [upd_same]
      · rw [upd_other _ _ _ _ e]; exact layP_done hz l k (by omega) h0 j (by omega)
    · exfalso
      unfold layP at h2
      rw [if_neg h0] at h2
      exact h0 h2
/-! ### lines of a directory -/
theorem listF_inU {l : List Int} (h : ∀ z ∈ l, (Lit.int .u64 z).wf = true) : ∀ j, InU (listF l j) := getD_inU h
theorem lineG_wf {g : Nat → Int} (h : ∀ i, i < 7 → 0 ≤ g i ∧ g i ≤ 18446744073709551615) : ∀ z ∈ lineG g, (Lit.int .u64 z).wf = true := sealOf_wf _ fun z hz => by
  have := wUp_bd g 7 (fun i hi _ => h i hi) z hz
  simp [Lit.wf, IntKind.min, IntKind.max, IntKind.signed, IntKind.bits]; omega
theorem zleafKV_wf (t : List Int) (k : Int) : ∀ z ∈ leafKV t k, (Lit.int .u64 z).wf = true := by
  unfold leafKV
  split
  · unfold leafV
    split
    · rename_i hm
      refine lineG_wf fun i hi => ?_
      have := wordN_bd _ ((mayX_iff _).1 hm i hi)
      omega
    · exact zs8_wf
  · exact zs8_wf
theorem rootV_wf (n : List Int) : ∀ z ∈ rootV n, (Lit.int .u64 z).wf = true := by
  unfold rootV
  split
  · rename_i hm
    refine lineG_wf fun i hi => ?_
    have := (mayT_iff _).1 hm i hi
    omega
  · exact zs8_wf

end Go.Proofs.YtiafhcgaikapcaaGreat
