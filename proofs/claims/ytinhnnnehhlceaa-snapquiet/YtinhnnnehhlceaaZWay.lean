
/-
  A checkpoint from its beginning to its end, on a memory whose power stays on. No program.
-/
import Derived.Test.YtinhnnnehhlceaaZCalm
namespace Go.Proofs.Ytinhnnnehhlceaa
set_option linter.unusedVariables false

theorem dfTo_mem (a b : List Int) (j : Nat) (z : Int) : z ∈ dfTo a b j ↔ ∃ k : Nat, k < j ∧ dfB a b k = true ∧ z = (k : Int) := by
  unfold dfTo
  rw [List.mem_map]
  constructor
  · rintro ⟨k, hk, rfl⟩
    rw [List.mem_filter, List.mem_range] at hk
    exact ⟨k, hk.1, hk.2, rfl⟩
  · rintro ⟨k, h1, h2, rfl⟩
    exact ⟨k, List.mem_filter.2 ⟨List.mem_range.2 h1, h2⟩, rfl⟩
theorem stepsOf_mem (mk bt : Nat → En) (p : Nat × Int) : p ∈ stepsOf mk bt ↔ (p.1 = 1 ∧ ∃ i, i < 49 ∧ (mk i).k ≠ 0 ∧ (mk i).l = p.2 ∧ hasB bt p.2 = false) ∨ (p.1 = 2 ∧ ∃ k : Nat, k < 7 ∧ dfB (rowE 49 mk) (rowE 49 bt) k = true ∧ p.2 = (k : Int)) ∨ p = (3, 7) ∨ p = (4, 0) ∨ p = (5, 0) := by
  unfold stepsOf leafSteps lastSteps
  rw [List.mem_append, List.mem_append, objSteps_mem, List.mem_map]
  constructor
  · rintro ((h | ⟨z, hz, rfl⟩) | h)
    · exact Or.inl h
    · exact Or.inr (Or.inl ⟨rfl, (dfTo_mem _ _ _ _).1 hz⟩)
    · simp at h; exact Or.inr (Or.inr h)
  · rintro (h | ⟨h1, h2⟩ | h)
    · exact Or.inl (Or.inl h)
    · refine Or.inl (Or.inr ⟨p.2, (dfTo_mem _ _ _ _).2 h2, ?_⟩)
      rw [← h1]
    · right; simpa using h
def firsts (mk bt : Nat → En) : List (Nat × Int) := objSteps mk bt 49 ++ leafSteps (dfTo (rowE 49 mk) (rowE 49 bt) 7) ++ [(3, 7), (4, 0)]
theorem stepsOf_last (mk bt : Nat → En) : stepsOf mk bt = firsts mk bt ++ [(5, 0)] := by unfold stepsOf firsts lastSteps; simp
theorem firsts_no5 (mk bt : Nat → En) : ∀ p ∈ firsts mk bt, p.1 ≠ 5 := by
  intro p hp
  unfold firsts leafSteps at hp
  rw [List.mem_append, List.mem_append, objSteps_mem, List.mem_map] at hp
  rcases hp with (h | ⟨z, hz, rfl⟩) | h
  · omega
  · show (2 : Nat) ≠ 5; decide
  · simp at h
    rcases h with rfl | rfl <;> decide
/-- The superblock is the last step. -/
theorem last_five {mk bt : Nat → En} {pre r : List (Nat × Int)} {p : Nat × Int} (h : pre ++ p :: r = stepsOf mk bt) : p.1 = 5 ↔ r = [] := by
  rw [stepsOf_last] at h
  constructor
  · intro h5
    rcases List.eq_nil_or_concat r with e | ⟨r', q, e⟩
    · exact e
    · exfalso
      subst e
      have h2 : (pre ++ p :: r') ++ [q] = firsts mk bt ++ [(5, 0)] := by rw [← h]; simp
      have h3 := (List.append_inj' h2 rfl).1
      exact firsts_no5 mk bt p (by rw [← h3]; simp) h5
  · rintro rfl
    have h2 := (List.append_inj' h rfl).2
    simp at h2
    rw [h2]
theorem puts_len (mk bt : Nat → En) : (stepsOf mk bt).countP isPut ≤ 8 := by
  unfold stepsOf lastSteps
  rw [List.countP_append, List.countP_append]
  have h1 : (objSteps mk bt 49).countP isPut = 0 := by
    rw [List.countP_eq_zero]
    intro p hp
    have := ((objSteps_mem mk bt 49 p).1 hp).1
    unfold isPut; rw [this]; decide
  have h2 : (leafSteps (dfTo (rowE 49 mk) (rowE 49 bt) 7)).countP isPut ≤ 7 := by
    refine Nat.le_trans List.countP_le_length ?_
    unfold leafSteps
    rw [List.length_map]
    exact dfTo_len _ _ _
  have h3 : ([(3, 7), (4, 0), (5, 0)] : List (Nat × Int)).countP isPut = 1 := by decide
  omega

/-! ### Begin -/
structure Sup (K : Wk) : Prop where
  len : K.b.length = 4
  g1 : 1 ≤ K.gen
  g2 : K.gen < two40
  sl : K.sl = 0 ∨ K.sl = 1
  c1 : 1 ≤ K.b.getD 3 0
  c2 : K.b.getD 3 0 ≤ 8
theorem way_begin {N : Nat} {S : Sto} {K : Wk} {z : Int} (g : Good N S) (hl : K.l = []) (hs : Sup K) (hz : 0 ≤ z ∧ z ≤ two40) (hi : S.is = false) :
    K.beginE S z = 0 ∧ K.beginS S z = S.markS ∧ K.beginK S z = ⟨K.b, K.sl, z, S.w, S.d, stepsOf S.w S.b⟩ ∧ Way S.markS (K.beginK S z) := by
  have ha : K.argB z = true := by
    unfold Wk.argB
    exact decide_eq_true ⟨hz.1, hz.2, by have := hs.g2; omega⟩
  have eM : S.markE = 0 := by unfold Sto.markE; rw [hi]; rfl
  have eS : S.markS = ⟨S.F, S.w, S.b, S.d, S.w, true⟩ := by unfold Sto.markS; rw [hi]; rfl
  have e1 : K.beginE S z = 0 := by unfold Wk.beginE; rw [if_neg (by simpa using hl), if_pos ha, eM]
  have e2 : K.beginS S z = S.markS := by unfold Wk.beginS; rw [if_pos ⟨hl, ha⟩]
  have e3 : K.beginK S z = ⟨K.b, K.sl, z, S.w, S.d, stepsOf S.w S.b⟩ := by unfold Wk.beginK; rw [if_pos ⟨hl, ha, hi⟩]
  refine ⟨e1, e2, e3, ?_⟩
  rw [e3, eS]
  refine ⟨rfl, rfl, g.inv.td, fun i j hi hj hk => g.inv.dw i j hi hj hk, fun p hp => ?_, hs.len, hs.g1, hs.g2, hs.sl, hs.c1, hs.c2, hz.1, hz.2⟩
  rcases (stepsOf_mem _ _ _).1 hp with ⟨h1, i, hi', hk, hl', _⟩ | ⟨h1, k, hk, _, h2⟩ | h
  · exact Or.inl ⟨h1, (hasB_iff _ _).2 ⟨i, hi', hk, hl'⟩⟩
  · exact Or.inr (Or.inl ⟨h1, by omega, by omega⟩)
  · exact Or.inr (Or.inr h)

/-! ### what is changed in between -/
theorem fixed_ch (S : Sto) (A : Mm) (p : OOp) : fixed (chS S A p) S := by
  unfold chS
  split
  · unfold Sto.setS; repeat' split
    all_goals exact ⟨rfl, rfl, rfl, rfl⟩
  · split
    · unfold Sto.makeS; repeat' split
      all_goals exact ⟨rfl, rfl, rfl, rfl⟩
    · unfold Sto.endS; split <;> exact ⟨rfl, rfl, rfl, rfl⟩
/-- A line that is taken, and no object's. -/
def Priv (S : Sto) (z : Int) : Prop := S.F.tk z ∧ ∀ j, j < 49 → (S.w j).k ≠ 0 → z ≠ (S.w j).l
theorem priv_took {S : Sto} {z : Int} (h : Priv S z) : Priv S.took z := ⟨tk_alloc h.1, h.2⟩
theorem priv_new {S : Sto} {z : Int} (h : Priv S z) (ha : S.F.allocE = 0) (n : Nat) (x : En) (hx : x.l = S.F.allocV) : Priv (S.took.withW n x) z := by
  refine ⟨tk_alloc h.1, fun j hj hk => ?_⟩
  have hk' : (upd S.w n x j).k ≠ 0 := hk
  show z ≠ (upd S.w n x j).l
  unfold upd at hk' ⊢
  split
  · rw [hx]; exact tk_ne ha h.1
  · rename_i e
    rw [if_neg e] at hk'
    exact h.2 j hj hk'
theorem priv_ch {S : Sto} {z : Int} (h : Priv S z) (A : Mm) (p : OOp) : Priv (chS S A p) z := by
  unfold chS
  split
  · unfold Sto.setS
    split
    · split
      · exact h
      · split
        · split
          · rename_i e; exact priv_new h (layE_alloc e) _ _ rfl
          · exact priv_took h
        · exact h
    · exact h
  · split
    · unfold Sto.makeS
      split
      · split
        · rename_i e; exact priv_new h (layE_alloc e) _ _ rfl
        · exact priv_took h
      · exact h
    · unfold Sto.endS
      split
      · rename_i c
        obtain ⟨z0, z1, hk⟩ := findE_ok c
        refine ⟨?_, fun j hj hkj => ?_⟩
        · show (S.endF _).tk z
          unfold Sto.endF
          split
          · have hne := h.2 _ (by omega) hk
            unfold Fr.turnA
            split
            · rename_i hst
              by_cases h0 : 0 ≤ S.line ((kindN p.id 20 : Nat) : Int)
              · exact tk_put h.1 h0 hne 0
              · exfalso
                unfold Fr.st at hst
                rw [if_neg (fun q : S.F.isF _ => h0 (by have := q.1; omega))] at hst
                exact absurd hst (by decide)
            · exact h.1
          · exact h.1
        · have hk' : (upd S.w ((kindN p.id 20 : Nat) : Int).toNat (endV (S.w ((kindN p.id 20 : Nat) : Int).toNat)) j).k ≠ 0 := hkj
          show z ≠ (upd S.w ((kindN p.id 20 : Nat) : Int).toNat (endV (S.w ((kindN p.id 20 : Nat) : Int).toNat)) j).l
          unfold upd at hk' ⊢
          split
          · rename_i e
            rw [if_pos e] at hk'
            unfold endV at hk'
            split at hk'
            · exact absurd rfl hk'
            · exact absurd rfl hk'
          · rename_i e
            rw [if_neg e] at hk'
            exact h.2 j hj hk'
      · exact h
theorem way_ch {S : Sto} {K : Wk} (h : Way S K) (A : Mm) (p : OOp) : Way (chS S A p) K := by
  obtain ⟨f1, f2, f3, f4⟩ := fixed_ch S A p
  have hp := fun i hi => priv_ch ⟨h.d i hi, fun j hj hk => h.dw i j hi hj hk⟩ A p
  exact ⟨f4.trans h.is, h.k.trans f3.symm, fun i hi => (hp i hi).1, fun i j hi hj hk => (hp i hi).2 j hj hk, fun q hq => by rw [f3]; exact h.l q hq, h.sup⟩

/-! ### a step -/
theorem way_step {N : Nat} {S : Sto} {A : Mm} {K : Wk} {p : Nat × Int} {r : List (Nat × Int)} (g : Good N S) (h : Way S K) (hl : K.l = p :: r) (hE : K.doE S A p = 0) (h5 : p.1 ≠ 5) :
    Way (K.doS S A p) ((K.doK S A p).less r) ∧ Good N (K.doS S A p) ∧ (K.doS S A p).b = S.b ∧ (K.doS S A p).d = S.d ∧ (K.doS S A p).is = S.is ∧ (K.doS S A p).k = S.k ∧ ((K.doK S A p).less r).b = K.b ∧ ((K.doK S A p).less r).sl = K.sl ∧ ((K.doK S A p).less r).q = K.q ∧ (S.F.left ≤ (K.doS S A p).F.left + (if isPut p then 1 else 0)) := by
  have hp : p ∈ K.l := by rw [hl]; exact List.mem_cons_self
  have hr : ∀ q ∈ r, q ∈ K.l := fun q hq => by rw [hl]; exact List.mem_cons_of_mem _ hq
  have stay : K.doS S A p = S → K.doK S A p = K → Way (K.doS S A p) ((K.doK S A p).less r) ∧ Good N (K.doS S A p) ∧ (K.doS S A p).b = S.b ∧ (K.doS S A p).d = S.d ∧ (K.doS S A p).is = S.is ∧ (K.doS S A p).k = S.k ∧ ((K.doK S A p).less r).b = K.b ∧ ((K.doK S A p).less r).sl = K.sl ∧ ((K.doK S A p).less r).q = K.q ∧ (S.F.left ≤ (K.doS S A p).F.left + (if isPut p then 1 else 0)) := fun e1 e2 => by
    rw [e1, e2]
    exact ⟨⟨h.is, h.k, h.d, h.dw, fun q hq => h.l q (hr q hq), h.sup⟩, g, rfl, rfl, rfl, rfl, rfl, rfl, rfl, Nat.le_add_right _ _⟩
  have put : p.1 = 2 ∨ p.1 = 3 → p.2.toNat < 8 → Way (K.doS S A p) ((K.doK S A p).less r) ∧ Good N (K.doS S A p) ∧ (K.doS S A p).b = S.b ∧ (K.doS S A p).d = S.d ∧ (K.doS S A p).is = S.is ∧ (K.doS S A p).k = S.k ∧ ((K.doK S A p).less r).b = K.b ∧ ((K.doK S A p).less r).sl = K.sl ∧ ((K.doK S A p).less r).q = K.q ∧ (S.F.left ≤ (K.doS S A p).F.left + (if isPut p then 1 else 0)) := fun h23 h8 => by
    have hq : ¬ p.1 = 1 := by omega
    have e1 : K.doE S A p = putE S A (K.line p) := by unfold Wk.doE; rw [if_neg hq, if_pos h23]
    have e2 : K.doS S A p = S.took := by unfold Wk.doS; rw [if_neg hq, if_pos h23]
    rw [e1] at hE
    have e3 : K.doK S A p = ⟨K.b, K.sl, K.q, K.k, upd K.d p.2.toNat S.F.allocV, K.l⟩ := by unfold Wk.doK Wk.put; rw [if_neg hq, if_pos h23, if_pos hE]
    have ha : S.F.allocE = 0 := by
      rcases Classical.em (S.F.allocE = 0) with q | q
      · exact q
      · unfold putE at hE; rw [if_neg q] at hE; exact absurd hE q
    have hput : isPut p = true := by unfold isPut; rcases h23 with e | e <;> rw [e] <;> rfl
    rw [e2, e3]
    refine ⟨⟨h.is, h.k, fun i hi => ?_, fun i j hi hj hk => ?_, fun q hq => h.l q (hr q hq), h.sup⟩, g.took, rfl, rfl, rfl, rfl, rfl, rfl, rfl, by rw [if_pos hput]; exact left_took S⟩
    · show S.F.allocA.tk (upd K.d p.2.toNat S.F.allocV i)
      unfold upd; split
      · exact tk_new ha
      · exact tk_alloc (h.d i hi)
    · show upd K.d p.2.toNat S.F.allocV i ≠ (S.w j).l
      have hk' : (S.w j).k ≠ 0 := hk
      unfold upd; split
      · exact (tk_ne ha (g.inv.tw j hj hk')).symm
      · exact h.dw i j hi hj hk'
  rcases h.l p hp with c | c | c | c | c
  · exact stay (by unfold Wk.doS; rw [if_pos c.1]) (by unfold Wk.doK; rw [if_pos c.1])
  · exact put (Or.inl c.1) (by omega)
  · exact put (Or.inr (by rw [c])) (by rw [c]; decide)
  · have h4 : p.1 = 4 := by rw [c]
    exact stay (by unfold Wk.doS; rw [if_neg (by omega), if_neg (by omega), if_pos h4]) (by unfold Wk.doK; rw [if_neg (by omega), if_neg (by omega), if_pos h4])
  · exact absurd (by rw [c]) h5
theorem way_last {N : Nat} {S : Sto} {A : Mm} {K : Wk} {p : Nat × Int} (g : Good N S) (h : Way S K) (hp : p ∈ K.l) (hE : K.doE S A p = 0) (h5 : p.1 = 5) :
    K.doS S A p = S.commitS K.d ∧ Good N (S.commitS K.d) ∧ (S.commitS K.d).b = S.k ∧ (S.commitS K.d).d = K.d ∧ (S.commitS K.d).is = false ∧ (S.commitS K.d).w = S.w ∧ K.doK S A p = ⟨K.next, 1 - K.sl, K.q, K.k, K.d, K.l⟩ ∧ A.writeE 0 (1 - K.sl) K.next = 0 ∧ K.doM S A p = A.writeZ 0 (1 - K.sl) K.next := by
  have hD : S.doneE = 0 := by unfold Sto.doneE; rw [h.is]; rfl
  have e0 : K.doE S A p = if A.writeE 0 (1 - K.sl) K.next = 0 then S.doneE else A.writeE 0 (1 - K.sl) K.next := by unfold Wk.doE; rw [if_neg (by omega), if_neg (by omega), if_neg (by omega)]
  have hW : A.writeE 0 (1 - K.sl) K.next = 0 := by
    rw [e0] at hE
    split at hE
    · assumption
    · rename_i q; exact absurd hE q
  have eC : S.commitS K.d = (Sto.mk S.F S.w S.k K.d S.k S.is).unmarkS := by unfold Sto.commitS; rw [if_pos h.is]
  refine ⟨?_, g.commit K.d h.d h.dw, by rw [eC]; rfl, by rw [eC]; rfl, by rw [eC]; rfl, by rw [eC]; rfl, ?_, hW, ?_⟩
  · unfold Wk.doS; rw [if_neg (by omega), if_neg (by omega), if_neg (by omega), if_pos hW]
  · unfold Wk.doK; rw [if_neg (by omega), if_neg (by omega), if_neg (by omega), if_pos ⟨hW, hD⟩]
  · unfold Wk.doM; rw [if_neg (by omega), if_neg (by omega), if_neg (by omega)]

end Go.Proofs.Ytinhnnnehhlceaa
