
/-
  What a checkpoint writes, line by line, up to the image that it leaves; an image whose lines are sure is loaded as it is. No program.
-/
import Derived.Test.YtiafhcgaikapcaaGreatZSure
import Derived.Test.YtiafhcgaikapcaaGreatPkDir
import Derived.Test.YtiafhcgaikapcaaGreatMImg
namespace Go.Proofs.YtiafhcgaikapcaaGreat
set_option linter.unusedVariables false

theorem chM_n' (S : Sto) (A : Mm) (p : OOp) : (chM S A p).n = A.n := by
  unfold chM; split
  · exact setM_n _ _ _ _ _
  · split
    · exact makeM_n _ _ _
    · rfl
/-! ### images -/
structure Img (N : Nat) (A : Mm) (tb : Nat → En) (d : Nat → Int) : Prop where
  lf : ∀ k, k < 7 → LSu (A.l (d k).toNat) (listF (leafS (partT (rowE 49 tb) k)))
  rt : LSu (A.l (d 7).toNat) (listF (rootS (tab7 d)))
  may : ∀ i, i < 49 → mayN (tb i) = true
  db : ∀ i, i < 8 → 10 ≤ d i ∧ d i < N
  te : ∀ i, i < 49 → (tb i).k ≠ 0 → 10 ≤ (tb i).l ∧ (tb i).l < N
  dd : ∀ i j, i < 8 → j < 8 → i ≠ j → d i ≠ d j
  dt : ∀ i j, i < 8 → j < 49 → (tb j).k ≠ 0 → d i ≠ (tb j).l
  tt : ∀ i j, i < 49 → j < 49 → i ≠ j → (tb i).k ≠ 0 → (tb j).k ≠ 0 → (tb i).l ≠ (tb j).l
section
variable {N : Nat} {A : Mm} {tb : Nat → En} {d : Nat → Int}
theorem Img.mayX (h : Img N A tb d) (k : Nat) (hk : k < 7) : mayX (partT (rowE 49 tb) k) = true := by
  rw [mayX_iff]
  intro i hi
  rw [partT_at _ _ _ hi, rowE_at 49 _ _ (by omega)]
  exact h.may _ (by omega)
theorem Img.mayT (h : Img N A tb d) (hN : N ≤ 1024) : mayT (tab7 d) = true := by
  rw [mayT_iff]
  intro i hi
  rw [tab7_get _ _ hi]
  have := h.db i (by omega)
  omega
theorem Img.root (h : Img N A tb d) (hN : N ≤ 1024) : isT (lineA A (d 7).toNat) = true ∧ lsA A (d 7) = tab7 d := by
  have e : lineA A (d 7).toNat = rootS (tab7 d) := lineA_su (lineG_len _) h.rt
  obtain ⟨h1, h2⟩ := root_back (tab7 d) (tab7_len _) (h.mayT hN)
  unfold lsA
  rw [e]
  refine ⟨h1, ?_⟩
  unfold readTV at h2
  rw [if_pos h1] at h2
  exact h2
theorem Img.leaf (h : Img N A tb d) (hN : N ≤ 1024) (k : Nat) (hk : k < 7) : isX (leafA A (d 7) k) = true ∧ readX (leafA A (d 7) k) = partT (rowE 49 tb) k := by
  have e : leafA A (d 7) k = leafS (partT (rowE 49 tb) k) := by
    unfold leafA
    rw [(h.root hN).2, tab7_get _ _ hk]
    exact lineA_su (lineG_len _) (h.lf k hk)
  obtain ⟨h1, h2⟩ := leaf_back (partT (rowE 49 tb) k) (partT_len _ _) (h.mayX k hk)
  rw [e]
  refine ⟨h1, ?_⟩
  unfold readXV at h2
  rw [if_pos h1] at h2
  exact h2
theorem Img.tab (h : Img N A tb d) (hN : N ≤ 1024) : tabA A (d 7) = rowE 49 tb := by
  unfold tabA
  refine rowE_ext fun i hi => ?_
  unfold tabF
  rw [(h.leaf hN (i / 7) (by omega)).2, partT_at _ _ _ (by omega), show 7 * (i / 7) + i % 7 = i by omega, rowE_at 49 _ _ hi]
theorem Img.obj (h : Img N A tb d) (k : Nat) (hk : k < 7) : ∀ j, j ≤ 7 → (objTo (partT (rowE 49 tb) k) j).Nodup ∧ ∀ z ∈ objTo (partT (rowE 49 tb) k) j, ∃ i, 7 * k ≤ i ∧ i < 7 * k + j ∧ (tb i).k ≠ 0 ∧ (tb i).l = z
  | 0, _ => by simp [objTo]
  | j + 1, hj => by
    obtain ⟨h1, h2⟩ := h.obj k hk j (by omega)
    rw [objTo]
    have hen : enAt (partT (rowE 49 tb) k) j = tb (7 * k + j) := by rw [partT_at _ _ _ (by omega), rowE_at 49 _ _ (by omega)]
    rw [hen]
    by_cases h0 : (tb (7 * k + j)).k = 0
    · rw [if_pos h0, List.append_nil]
      exact ⟨h1, fun z hz => by obtain ⟨i, a, b, c⟩ := h2 z hz; exact ⟨i, a, by omega, c⟩⟩
    · rw [if_neg h0]
      refine ⟨List.nodup_append.2 ⟨h1, by simp, fun a ha b hb e => ?_⟩, fun z hz => ?_⟩
      · simp at hb
        obtain ⟨i, i1, i2, i3, i4⟩ := h2 a ha
        exact h.tt i (7 * k + j) (by omega) (by omega) (by omega) i3 h0 (by rw [i4, e, hb])
      · rcases List.mem_append.1 hz with hz | hz
        · obtain ⟨i, a, b, c⟩ := h2 z hz; exact ⟨i, a, by omega, c⟩
        · simp at hz; exact ⟨7 * k + j, by omega, by omega, h0, hz.symm⟩
theorem Img.names (h : Img N A tb d) (hN : N ≤ 1024) : ∀ k, k ≤ 7 → (nsTo A (d 7) k).Nodup ∧ ∀ z ∈ nsTo A (d 7) k, z = d 7 ∨ (∃ i, i < k ∧ z = d i) ∨ (∃ i, i < 7 * k ∧ (tb i).k ≠ 0 ∧ (tb i).l = z)
  | 0, _ => by simp [nsTo]
  | k + 1, hk => by
    obtain ⟨h1, h2⟩ := h.names hN k (by omega)
    have hz : (lsA A (d 7)).getD k 0 = d k := by rw [(h.root hN).2, tab7_get _ k (by omega)]
    have hx : readX (lineA A ((lsA A (d 7)).getD k 0).toNat) = partT (rowE 49 tb) k := (h.leaf hN k (by omega)).2
    obtain ⟨o1, o2⟩ := h.obj k (by omega) 7 (by omega)
    rw [nsTo, hx, hz]
    have n1 : (nsTo A (d 7) k ++ [d k]).Nodup := List.nodup_append.2 ⟨h1, by simp, fun a ha b hb e => by
      simp at hb
      subst hb
      rcases h2 a ha with q | ⟨i, i1, i2⟩ | ⟨i, i1, i2, i3⟩
      · exact h.dd 7 k (by decide) (by omega) (by omega) (q.symm.trans e)
      · exact h.dd i k (by omega) (by omega) (by omega) (i2.symm.trans e)
      · exact h.dt k i (by omega) (by omega) i2 (e.symm.trans i3.symm)⟩
    refine ⟨List.nodup_append.2 ⟨n1, o1, fun a ha b hb e => ?_⟩, fun z hz => ?_⟩
    · obtain ⟨q, q1, q2, q3, q4⟩ := o2 b hb
      rcases List.mem_append.1 ha with ha | ha
      · rcases h2 a ha with r | ⟨i, i1, i2⟩ | ⟨i, i1, i2, i3⟩
        · exact h.dt 7 q (by decide) (by omega) q3 (by rw [q4, ← e, r])
        · exact h.dt i q (by omega) (by omega) q3 (by rw [q4, ← e, i2])
        · exact h.tt i q (by omega) (by omega) (by omega) i2 q3 (by rw [q4, i3, e])
      · simp at ha
        exact h.dt k q (by omega) (by omega) q3 (by rw [q4, ← e, ha])
    · rcases List.mem_append.1 hz with hz | hz
      · rcases List.mem_append.1 hz with hz | hz
        · rcases h2 z hz with r | ⟨i, i1, i2⟩ | ⟨i, i1, i2⟩
          · exact Or.inl r
          · exact Or.inr (Or.inl ⟨i, by omega, i2⟩)
          · exact Or.inr (Or.inr ⟨i, by omega, i2⟩)
        · simp at hz; exact Or.inr (Or.inl ⟨k, by omega, hz⟩)
      · obtain ⟨q, q1, q2, q3⟩ := o2 z hz
        exact Or.inr (Or.inr ⟨q, by omega, q3⟩)
/-- An image whose lines are there is loaded as it is. -/
theorem Img.load (h : Img N A tb d) (hN : N ≤ 1024) (hn : A.n = N) (hon : A.on = true) : ldT A 10 (d 7) = rowE 49 tb ∧ ldE A 10 (d 7) = 0 := by
  have hB : loadB A 10 (d 7) = true := by
    rw [loadB_iff, hn]
    have h7 := h.db 7 (by decide)
    refine ⟨⟨?_, (h.root hN).1⟩, fun k hk => (h.leaf hN k hk).1, ?_⟩
    · rw [okN_iff]
      refine ⟨fun z hz => ?_, by simp⟩
      simp at hz
      omega
    · obtain ⟨h1, h2⟩ := h.names hN 7 (by omega)
      rw [okN_iff]
      refine ⟨fun z hz => ?_, h1⟩
      rcases h2 z hz with r | ⟨i, i1, i2⟩ | ⟨i, i1, i2, i3⟩
      · omega
      · have := h.db i (by omega); omega
      · have := h.te i (by omega) i2; omega
  unfold ldT ldE
  rw [if_pos ⟨hon, hB⟩, if_pos hon, if_pos hB]
  exact ⟨h.tab hN, rfl⟩
theorem Img.crash (h : Img N A tb d) (keep : List Int) : Img N (A.crash keep) tb d :=
  ⟨fun k hk => crash_su (h.lf k hk) keep, crash_su h.rt keep, h.may, h.db, h.te, h.dd, h.dt, h.tt⟩
end

/-! ### the order of the steps -/
def early (mk bt : Nat → En) : List (Nat × Int) := objSteps mk bt 49 ++ leafSteps (dfTo (rowE 49 mk) (rowE 49 bt) 7)
theorem stepsOf_early (mk bt : Nat → En) : stepsOf mk bt = early mk bt ++ [(3, 7), (4, 0), (5, 0)] := rfl
theorem early_le (mk bt : Nat → En) : ∀ p ∈ early mk bt, p.1 = 1 ∨ p.1 = 2 := by
  intro p hp
  unfold early leafSteps at hp
  rw [List.mem_append, objSteps_mem, List.mem_map] at hp
  rcases hp with h | ⟨z, hz, rfl⟩
  · exact Or.inl h.1
  · exact Or.inr rfl
theorem order_gen {E : List (Nat × Int)} (he : ∀ p ∈ E, p.1 = 1 ∨ p.1 = 2) {x y z : Nat × Int} {pre r : List (Nat × Int)} {p : Nat × Int} (h : pre ++ p :: r = E ++ [x, y, z]) :
    ((p.1 = 1 ∨ p.1 = 2) ∧ ∀ q ∈ pre, q.1 = 1 ∨ q.1 = 2) ∨ (p = x ∧ pre = E) ∨ (p = y ∧ pre = E ++ [x]) ∨ (p = z ∧ pre = E ++ [x, y]) := by
  rcases List.append_eq_append_iff.1 h with ⟨s, h1, h2⟩ | ⟨s, h1, h2⟩
  · cases s with
    | nil =>
      rw [List.nil_append] at h2
      rw [List.append_nil] at h1
      exact Or.inr (Or.inl ⟨(List.cons.inj h2).1, h1.symm⟩)
    | cons a s =>
      rw [List.cons_append] at h2
      left
      have e := (List.cons.inj h2).1
      refine ⟨he p (by rw [h1, e]; simp), fun q hq => he q (by rw [h1]; simp [hq])⟩
  · cases s with
    | nil =>
      rw [List.nil_append] at h2
      rw [List.append_nil] at h1
      exact Or.inr (Or.inl ⟨(List.cons.inj h2).1.symm, h1⟩)
    | cons a s =>
      rw [List.cons_append] at h2
      obtain ⟨e1, h2⟩ := List.cons.inj h2
      cases s with
      | nil =>
        rw [List.nil_append] at h2
        exact Or.inr (Or.inr (Or.inl ⟨(List.cons.inj h2).1.symm, by rw [h1, ← e1]⟩))
      | cons b s =>
        rw [List.cons_append] at h2
        obtain ⟨e2, h2⟩ := List.cons.inj h2
        cases s with
        | nil =>
          rw [List.nil_append] at h2
          exact Or.inr (Or.inr (Or.inr ⟨(List.cons.inj h2).1.symm, by rw [h1, ← e1, ← e2]⟩))
        | cons c s =>
          exfalso
          have := congrArg List.length h2
          simp at this
theorem order {mk bt : Nat → En} {pre r : List (Nat × Int)} {p : Nat × Int} (h : pre ++ p :: r = stepsOf mk bt) :
    ((p.1 = 1 ∨ p.1 = 2) ∧ ∀ q ∈ pre, q.1 = 1 ∨ q.1 = 2) ∨ (p = (3, 7) ∧ pre = early mk bt) ∨ (p = (4, 0) ∧ pre = early mk bt ++ [(3, 7)]) ∨ (p = (5, 0) ∧ pre = early mk bt ++ [(3, 7), (4, 0)]) := by
  rw [stepsOf_early] at h
  exact order_gen (early_le mk bt) h

/-! ### a checkpoint that is under way -/
structure Ck (N : Nat) (mk bt : Nat → En) (bd : Nat → Int) (C : Nat → Nat → Int) (pre : List (Nat × Int)) (S : Sto) (A : Mm) (K : Wk) : Prop where
  good : Good N S
  n : A.n = N
  way : Way S K
  k : S.k = mk
  b : S.b = bt
  d : S.d = bd
  eq : pre ++ K.l = stepsOf mk bt
  mkd : ∀ i j, i < 49 → j < 49 → i ≠ j → (mk i).k ≠ 0 → (mk j).k ≠ 0 → (mk i).l ≠ (mk j).l
  dd : ∀ i j, i < 8 → j < 8 → i ≠ j → K.d i ≠ K.d j
  dm : ∀ i j, i < 8 → j < 49 → (mk j).k ≠ 0 → K.d i ≠ (mk j).l
  du : ∀ k : Nat, k < 7 → (2, (k : Int)) ∉ pre → K.d k = bd k
  bl : ∀ k, k < 7 → LSu (A.l (bd k).toNat) (listF (leafS (partT (rowE 49 bt) k)))
  br : LSu (A.l (bd 7).toNat) (listF (rootS (tab7 bd)))
  bo : ∀ i, i < 49 → (mk i).k ≠ 0 → hasB bt (mk i).l = true → LSu (A.l (mk i).l.toNat) (C i)
  oo : ∀ i, i < 49 → (mk i).k ≠ 0 → LHs (A.l (mk i).l.toNat) (C i)
  of : ∀ i, i < 49 → (mk i).k ≠ 0 → (1, (mk i).l) ∈ pre → LFl (A.l (mk i).l.toNat) (C i)
  lf : ∀ k : Nat, k < 7 → (2, (k : Int)) ∈ pre → LFl (A.l (K.d k).toNat) (listF (leafS (partT (rowE 49 mk) k)))
  rt : (3, 7) ∈ pre → LFl (A.l (K.d 7).toNat) (listF (rootS (tab7 K.d)))
  so : (4, 0) ∈ pre → ∀ i, i < 49 → (mk i).k ≠ 0 → (1, (mk i).l) ∈ pre → LSu (A.l (mk i).l.toNat) (C i)
  sl : (4, 0) ∈ pre → ∀ k : Nat, k < 7 → (2, (k : Int)) ∈ pre → LSu (A.l (K.d k).toNat) (listF (leafS (partT (rowE 49 mk) k)))
  sr : (4, 0) ∈ pre → LSu (A.l (K.d 7).toNat) (listF (rootS (tab7 K.d)))
section
variable {N : Nat} {mk bt : Nat → En} {bd : Nat → Int} {C : Nat → Nat → Int} {pre : List (Nat × Int)} {S : Sto} {A : Mm} {K : Wk}
theorem Ck.tm (h : Ck N mk bt bd C pre S A K) (i : Nat) (hi : i < 49) (hk : (mk i).k ≠ 0) : S.F.tk (mk i).l := by
  have := h.good.inv.tm i hi
  rw [h.k] at this
  exact this hk
theorem Ck.td (h : Ck N mk bt bd C pre S A K) (i : Nat) (hi : i < 8) : S.F.tk (bd i) := by
  have := h.good.inv.td i hi
  rw [h.d] at this
  exact this
theorem tab7_upd7 (d : Nat → Int) (v : Int) : tab7 (upd d 7 v) = tab7 d := tab7_ext fun i hi => upd_other _ _ _ _ (by omega)
/-- A step that is done, but for the last one. -/
theorem Ck.step (h : Ck N mk bt bd C pre S A K) {p : Nat × Int} {r : List (Nat × Int)} (hl : K.l = p :: r) (hE : K.doE S A p = 0) (h5 : p.1 ≠ 5) :
    Ck N mk bt bd C (pre ++ [p]) (K.doS S A p) (K.doM S A p) ((K.doK S A p).less r) := by
  obtain ⟨w1, w2, w3, w4, w5, w6, w7, w8, w9, w10⟩ := way_step h.good h.way hl hE h5
  have hpre : pre ++ p :: r = stepsOf mk bt := by rw [← hl]; exact h.eq
  have hpm : p ∈ K.l := by rw [hl]; exact List.mem_cons_self
  have h10 : 10 ≤ S.F.lo := by rw [h.good.lh.1]; exact Nat.le_refl _
  have hsl : 0 ≤ K.sl ∧ K.sl ≤ 1 := by
    obtain ⟨s1, s2, s3, s4, s5⟩ := h.way.sup
    omega
  have hN : S.F.hi ≤ A.n := by rw [h.good.lh.2, h.n]; exact Nat.le_refl _
  have xbl : ∀ k, k < 7 → LSu ((K.doM S A p).l (bd k).toNat) (listF (leafS (partT (rowE 49 bt) k))) := fun k hk => do_su (h.td k (by omega)) h10 hsl (h.bl k hk)
  have xbr : LSu ((K.doM S A p).l (bd 7).toNat) (listF (rootS (tab7 bd))) := do_su (h.td 7 (by decide)) h10 hsl h.br
  have xbo : ∀ i, i < 49 → (mk i).k ≠ 0 → hasB bt (mk i).l = true → LSu ((K.doM S A p).l (mk i).l.toNat) (C i) := fun i hi hk hb => do_su (h.tm i hi hk) h10 hsl (h.bo i hi hk hb)
  have xoo : ∀ i, i < 49 → (mk i).k ≠ 0 → LHs ((K.doM S A p).l (mk i).l.toNat) (C i) := fun i hi hk => do_hs (h.tm i hi hk) h10 hsl (h.oo i hi hk)
  have hn : (K.doM S A p).n = N := (doM_n _ _ _ _).trans h.n
  have hpre2 : (pre ++ [p]) ++ ((K.doK S A p).less r).l = stepsOf mk bt := by
    show (pre ++ [p]) ++ r = _
    rw [← hpre]; simp
  have mem2 : ∀ q, q ∈ pre ++ [p] ↔ q ∈ pre ∨ q = p := fun q => by simp
  rcases order hpre with ⟨hp12, hq⟩ | ⟨hp, hq⟩ | ⟨hp, hq⟩ | ⟨hp, hq⟩
  · have no37 : (3, 7) ∉ pre ++ [p] := fun q => by
      rcases (mem2 _).1 q with q | q
      · rcases hq _ q with e | e <;> cases e
      · rw [← q] at hp12; rcases hp12 with e | e <;> cases e
    have no40 : (4, 0) ∉ pre ++ [p] := fun q => by
      rcases (mem2 _).1 q with q | q
      · rcases hq _ q with e | e <;> cases e
      · rw [← q] at hp12; rcases hp12 with e | e <;> cases e
    rcases hp12 with h1 | h2
    · have eM : K.doM S A p = A.flushZ 0 p.2 := by unfold Wk.doM; rw [if_pos h1]
      have eE : K.doE S A p = A.flushE 0 p.2 := by unfold Wk.doE; rw [if_pos h1]
      have eK : K.doK S A p = K := by unfold Wk.doK; rw [if_pos h1]
      rw [eK] at w1 hpre2 ⊢
      refine ⟨w2, hn, w1, w6.trans h.k, w3.trans h.b, w4.trans h.d, hpre2, h.mkd, h.dd, h.dm, fun k hk hnp => h.du k hk (fun q => hnp ((mem2 _).2 (Or.inl q))), xbl, xbr, xbo, xoo, fun i hi hk hm => ?_, fun k hk hm => ?_, fun q => absurd q no37, fun q => absurd q no40, fun q => absurd q no40, fun q => absurd q no40⟩
      · rcases (mem2 _).1 hm with hm | hm
        · exact do_fl (h.tm i hi hk) h10 hsl (h.of i hi hk hm)
        · have e2 : p.2 = (mk i).l := by rw [← hm]
          rw [eM, e2, flushZ_done (by rw [← e2, ← eE]; exact hE)]
          exact flush_fl (h.oo i hi hk)
      · rcases (mem2 _).1 hm with hm | hm
        · exact do_fl (h.way.d k (by omega)) h10 hsl (h.lf k hk hm)
        · rw [← hm] at h1; cases h1
    · have hq1 : ¬ p.1 = 1 := by omega
      obtain ⟨n, hn7, hpn⟩ : ∃ n : Nat, n < 7 ∧ p.2 = (n : Int) := by
        rcases h.way.l p hpm with c | c | c | c | c
        · omega
        · exact ⟨p.2.toNat, by omega, by omega⟩
        · rw [c] at h2; cases h2
        · rw [c] at h2; cases h2
        · rw [c] at h2; cases h2
      have hpe : p = (2, (n : Int)) := Prod.ext h2 hpn
      have eM : K.doM S A p = putM S A (K.line p) := by unfold Wk.doM; rw [if_neg hq1, if_pos (Or.inl h2)]
      have eE : K.doE S A p = putE S A (K.line p) := by unfold Wk.doE; rw [if_neg hq1, if_pos (Or.inl h2)]
      rw [eE] at hE
      obtain ⟨ha, hfl⟩ := putM_done hN hE
      have eK : K.doK S A p = ⟨K.b, K.sl, K.q, K.k, upd K.d n S.F.allocV, K.l⟩ := by unfold Wk.doK Wk.put; rw [if_neg hq1, if_pos (Or.inl h2), if_pos hE, hpn, Int.toNat_natCast]
      have eL : K.line p = leafS (partT (rowE 49 mk) n) := by
        unfold Wk.line leafKV leafV
        rw [if_pos h2, hpn, if_pos ⟨by omega, by omega⟩, Int.toNat_natCast, h.way.k, h.k]
        have := way_leaf h.good h.way n hn7
        rw [h.way.k, h.k] at this
        rw [if_pos this]
      rw [eL] at hfl
      rw [eK] at w1 hpre2 ⊢
      refine ⟨w2, hn, w1, w6.trans h.k, w3.trans h.b, w4.trans h.d, hpre2, h.mkd, fun i j hi hj hij => ?_, fun i j hi hj hk => ?_, fun k hk hnp => ?_, xbl, xbr, xbo, xoo, fun i hi hk hm => ?_, fun k hk hm => ?_, fun q => absurd q no37, fun q => absurd q no40, fun q => absurd q no40, fun q => absurd q no40⟩
      · show upd K.d n S.F.allocV i ≠ upd K.d n S.F.allocV j
        unfold upd
        split
        · split
          · omega
          · exact (tk_ne ha (h.way.d j hj)).symm
        · split
          · exact tk_ne ha (h.way.d i hi)
          · exact h.dd i j hi hj hij
      · show upd K.d n S.F.allocV i ≠ (mk j).l
        unfold upd
        split
        · exact (tk_ne ha (h.tm j hj hk)).symm
        · exact h.dm i j hi hj hk
      · show upd K.d n S.F.allocV k = bd k
        have hkn : k ≠ n := fun e => hnp ((mem2 _).2 (Or.inr (by rw [e]; exact hpe.symm)))
        rw [upd_other _ _ _ _ hkn]
        exact h.du k hk (fun q => hnp ((mem2 _).2 (Or.inl q)))
      · rcases (mem2 _).1 hm with hm | hm
        · exact do_fl (h.tm i hi hk) h10 hsl (h.of i hi hk hm)
        · rw [hpe] at hm; cases hm
      · show LFl ((K.doM S A p).l (upd K.d n S.F.allocV k).toNat) _
        by_cases hkn : k = n
        · subst hkn
          rw [upd_same, eM, eL]
          exact hfl
        · rw [upd_other _ _ _ _ hkn]
          rcases (mem2 _).1 hm with hm | hm
          · exact do_fl (h.way.d k (by omega)) h10 hsl (h.lf k hk hm)
          · rw [hpe] at hm
            exact absurd (Int.ofNat.inj (Prod.mk.inj hm).2) hkn
  · have h3 : p.1 = 3 := by rw [hp]
    have hq1 : ¬ p.1 = 1 := by omega
    have no40 : (4, 0) ∉ pre ++ [p] := fun q => by
      rcases (mem2 _).1 q with q | q
      · rw [hq] at q
        rcases early_le mk bt _ q with e | e <;> cases e
      · rw [hp] at q; cases q
    have eM : K.doM S A p = putM S A (K.line p) := by unfold Wk.doM; rw [if_neg hq1, if_pos (Or.inr h3)]
    have eE : K.doE S A p = putE S A (K.line p) := by unfold Wk.doE; rw [if_neg hq1, if_pos (Or.inr h3)]
    rw [eE] at hE
    obtain ⟨ha, hfl⟩ := putM_done hN hE
    have eK : K.doK S A p = ⟨K.b, K.sl, K.q, K.k, upd K.d 7 S.F.allocV, K.l⟩ := by unfold Wk.doK Wk.put; rw [if_neg hq1, if_pos (Or.inr h3), if_pos hE, hp]; rfl
    have eL : K.line p = rootS (tab7 K.d) := by
      unfold Wk.line rootV
      rw [if_neg (by omega), if_pos (way_root h.good h.way)]
    rw [eL] at hfl
    rw [eK] at w1 hpre2 ⊢
    refine ⟨w2, hn, w1, w6.trans h.k, w3.trans h.b, w4.trans h.d, hpre2, h.mkd, fun i j hi hj hij => ?_, fun i j hi hj hk => ?_, fun k hk hnp => ?_, xbl, xbr, xbo, xoo, fun i hi hk hm => ?_, fun k hk hm => ?_, fun q => ?_, fun q => absurd q no40, fun q => absurd q no40, fun q => absurd q no40⟩
    · show upd K.d 7 S.F.allocV i ≠ upd K.d 7 S.F.allocV j
      unfold upd
      split
      · split
        · omega
        · exact (tk_ne ha (h.way.d j hj)).symm
      · split
        · exact tk_ne ha (h.way.d i hi)
        · exact h.dd i j hi hj hij
    · show upd K.d 7 S.F.allocV i ≠ (mk j).l
      unfold upd
      split
      · exact (tk_ne ha (h.tm j hj hk)).symm
      · exact h.dm i j hi hj hk
    · show upd K.d 7 S.F.allocV k = bd k
      rw [upd_other _ _ _ _ (by omega)]
      exact h.du k hk (fun q => hnp ((mem2 _).2 (Or.inl q)))
    · rcases (mem2 _).1 hm with hm | hm
      · exact do_fl (h.tm i hi hk) h10 hsl (h.of i hi hk hm)
      · rw [hp] at hm; cases hm
    · show LFl ((K.doM S A p).l (upd K.d 7 S.F.allocV k).toNat) _
      rw [upd_other _ _ _ _ (by omega)]
      rcases (mem2 _).1 hm with hm | hm
      · exact do_fl (h.way.d k (by omega)) h10 hsl (h.lf k hk hm)
      · rw [hp] at hm; cases hm
    · show LFl ((K.doM S A p).l (upd K.d 7 S.F.allocV 7).toNat) (listF (rootS (tab7 (upd K.d 7 S.F.allocV))))
      rw [upd_same, tab7_upd7, eM, eL]
      exact hfl
  · have h4 : p.1 = 4 := by rw [hp]
    have eM : K.doM S A p = A.fenceZ 0 := by unfold Wk.doM; rw [if_neg (by omega), if_neg (by omega), if_pos h4]
    have eE : K.doE S A p = A.fenceE 0 := by unfold Wk.doE; rw [if_neg (by omega), if_neg (by omega), if_pos h4]
    have eK : K.doK S A p = K := by unfold Wk.doK; rw [if_neg (by omega), if_neg (by omega), if_pos h4]
    rw [eE] at hE
    have hset := fun i => fenceZ_done hE i
    have r3 : (3, 7) ∈ pre := by rw [hq]; simp
    have m1 : ∀ i : Nat, (1, (mk i).l) ∈ pre ++ [p] → (1, (mk i).l) ∈ pre := fun i hm => by
      rcases (mem2 _).1 hm with hm | hm
      · exact hm
      · rw [hp] at hm; cases hm
    have m2 : ∀ k : Nat, (2, (k : Int)) ∈ pre ++ [p] → (2, (k : Int)) ∈ pre := fun k hm => by
      rcases (mem2 _).1 hm with hm | hm
      · exact hm
      · rw [hp] at hm; cases hm
    rw [eK] at w1 hpre2 ⊢
    refine ⟨w2, hn, w1, w6.trans h.k, w3.trans h.b, w4.trans h.d, hpre2, h.mkd, h.dd, h.dm, fun k hk hnp => h.du k hk (fun q => hnp ((mem2 _).2 (Or.inl q))), xbl, xbr, xbo, xoo, fun i hi hk hm => do_fl (h.tm i hi hk) h10 hsl (h.of i hi hk (m1 i hm)), fun k hk hm => do_fl (h.way.d k (by omega)) h10 hsl (h.lf k hk (m2 k hm)), fun q => do_fl (h.way.d 7 (by decide)) h10 hsl (h.rt r3), fun _ i hi hk hm => ?_, fun _ k hk hm => ?_, fun _ => ?_⟩
    · rw [eM, hset]; exact settle_fl (h.of i hi hk (m1 i hm))
    · rw [eM]
      show LSu ((A.fenceZ 0).l (K.d k).toNat) _
      rw [hset]; exact settle_fl (h.lf k hk (m2 k hm))
    · rw [eM]
      show LSu ((A.fenceZ 0).l (K.d 7).toNat) (listF (rootS (tab7 K.d)))
      rw [hset]; exact settle_fl (h.rt r3)
  · rw [hp] at h5; exact absurd rfl h5
/-- Behind the fence the new image is there. -/
theorem Ck.img (h : Ck N mk bt bd C pre S A K) (h4 : (4, 0) ∈ pre) (hall : ∀ q ∈ early mk bt, q ∈ pre) : Img N A mk K.d ∧ ∀ i, i < 49 → (mk i).k ≠ 0 → LSu (A.l (mk i).l.toNat) (C i) := by
  have hb := h.good.inv
  refine ⟨⟨fun k hk => ?_, h.sr h4, fun i hi => ?_, fun i hi => ?_, fun i hi hk => ?_, h.dd, h.dm, h.mkd⟩, fun i hi hk => ?_⟩
  · by_cases hdf : dfB (rowE 49 mk) (rowE 49 bt) k = true
    · refine h.sl h4 k hk (hall _ ?_)
      unfold early leafSteps
      rw [List.mem_append, List.mem_map]
      exact Or.inr ⟨(k : Int), (dfTo_mem _ _ _ _).2 ⟨k, hk, hdf, rfl⟩, rfl⟩
    · have hno : (2, (k : Int)) ∉ pre := fun q => by
        have hq : (2, (k : Int)) ∈ stepsOf mk bt := by rw [← h.eq]; simp [q]
        rcases (stepsOf_mem _ _ _).1 hq with c | ⟨_, k', _, c, e⟩ | c | c | c
        · cases c.1
        · have : k = k' := Int.ofNat.inj e
          subst this
          exact hdf c
        · cases c
        · cases c
        · cases c
      rw [h.du k hk hno]
      have he : partT (rowE 49 mk) k = partT (rowE 49 bt) k := by
        unfold dfB at hdf
        simpa using hdf
      rw [he]
      exact h.bl k hk
  · have := h.good.k i hi; rw [h.k] at this; exact this
  · have ht := (h.way.d i hi).1
    have h1 := ht.1
    have h2 := ht.2
    rw [h.good.lh.1] at h1; rw [h.good.lh.2] at h2
    exact ⟨h1, h2⟩
  · have ht := (h.tm i hi hk).1
    have h1 := ht.1
    have h2 := ht.2
    rw [h.good.lh.1] at h1; rw [h.good.lh.2] at h2
    exact ⟨h1, h2⟩
  · by_cases hbt : hasB bt (mk i).l = true
    · exact h.bo i hi hk hbt
    · refine h.so h4 i hi hk (hall _ ?_)
      unfold early
      rw [List.mem_append, objSteps_mem]
      exact Or.inl ⟨rfl, i, hi, hk, rfl, by simpa using hbt⟩
/-- What is changed in between touches none of it. -/
theorem Ck.ch (h : Ck N mk bt bd C pre S A K) (p : OOp) : Ck N mk bt bd C pre (chS S A p) (chM S A p) K := by
  obtain ⟨f1, f2, f3, f4⟩ := fixed_ch S A p
  have om : ∀ i, i < 49 → (mk i).k ≠ 0 → (chM S A p).l (mk i).l.toNat = A.l (mk i).l.toNat := fun i hi hk => ch_other h.good ⟨h.tm i hi hk, Or.inl (Or.inr (by rw [h.k]; exact (hasB_iff _ _).2 ⟨i, hi, hk, rfl⟩))⟩ p
  have od : ∀ i, i < 8 → (chM S A p).l (K.d i).toNat = A.l (K.d i).toNat := fun i hi => ch_other h.good ⟨h.way.d i hi, Or.inr fun j hj hk => h.way.dw i j hi hj hk⟩ p
  have ob : ∀ i, i < 8 → (chM S A p).l (bd i).toNat = A.l (bd i).toNat := fun i hi => ch_other h.good ⟨h.td i hi, Or.inr fun j hj hk => by rw [← h.d]; exact h.good.inv.dw i j hi hj hk⟩ p
  refine ⟨h.good.ch A p, (chM_n' _ _ _).trans h.n, way_ch h.way A p, f3.trans h.k, f1.trans h.b, f2.trans h.d, h.eq, h.mkd, h.dd, h.dm, h.du, fun k hk => by rw [ob k (by omega)]; exact h.bl k hk, by rw [ob 7 (by decide)]; exact h.br, fun i hi hk hb => by rw [om i hi hk]; exact h.bo i hi hk hb, fun i hi hk => by rw [om i hi hk]; exact h.oo i hi hk, fun i hi hk hm => by rw [om i hi hk]; exact h.of i hi hk hm, fun k hk hm => by rw [od k (by omega)]; exact h.lf k hk hm, fun q => by rw [od 7 (by decide)]; exact h.rt q, fun q i hi hk hm => by rw [om i hi hk]; exact h.so q i hi hk hm, fun q k hk hm => by rw [od k (by omega)]; exact h.sl q k hk hm, fun q => by rw [od 7 (by decide)]; exact h.sr q⟩
end

end Go.Proofs.YtiafhcgaikapcaaGreat
