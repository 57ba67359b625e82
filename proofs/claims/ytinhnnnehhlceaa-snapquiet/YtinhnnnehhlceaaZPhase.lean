
/-
  A checkpoint's phases, on a memory whose power stays on: under way, committed, or given up. No program.
-/
import Derived.Test.YtinhnnnehhlceaaZWay
import Derived.Test.YtinhnnnehhlceaaZMade
namespace Go.Proofs.Ytinhnnnehhlceaa
set_option linter.unusedVariables false

/-- What is so all the while: S0 and A0 are the store and the memory when it begins. -/
structure Cm (N : Nat) (S0 : Sto) (A0 : Mm) (S : Sto) (A : Mm) : Prop where
  good : Good N S
  calm : Calm A
  n : A.n = N
  w : S.w = S0.w
  has : ∀ i, i < 49 → (S0.w i).k ≠ 0 → A.hasZ (S0.w i).l = A0.hasZ (S0.w i).l
structure Under (fr : Bool) (S0 : Sto) (K0 : Wk) (S : Sto) (K : Wk) : Prop where
  way : Way S K
  mkd : S.k = S0.w
  pre : ∃ pre, pre ++ K.l = stepsOf S0.w S0.b
  ne : K.l ≠ []
  b : S.b = S0.b
  d : S.d = S0.d
  kb : K.b = K0.b
  ksl : K.sl = K0.sl
  left : fr = true → K.l.countP isPut ≤ S.F.left
structure Ended (S0 : Sto) (K0 : Wk) (S : Sto) (K : Wk) : Prop where
  l : K.l = []
  is : S.is = false
  b : S.b = S0.w
  g : K.gen = K0.gen + 1
  sl : K.sl = 1 - K0.sl
  len : K.b.length = 4
  c : K.b.getD 3 0 = K0.b.getD 3 0
structure Gone (S0 : Sto) (K0 : Wk) (S : Sto) (K : Wk) : Prop where
  l : K.l = []
  is : S.is = false
  b : S.b = S0.b
  d : S.d = S0.d
  kb : K.b = K0.b
  ksl : K.sl = K0.sl
def Ph (N : Nat) (fr : Bool) (S0 : Sto) (A0 : Mm) (K0 : Wk) (S : Sto) (A : Mm) (K : Wk) (e : Int) (l : Nat) : Prop :=
  Cm N S0 A0 S A ∧ ((e = 0 ∧ l = K.l.length ∧ Under fr S0 K0 S K) ∨ (e = 0 ∧ l = 0 ∧ Ended S0 K0 S K) ∨ (fr = false ∧ e = 10 ∧ l = 0 ∧ Gone S0 K0 S K))
section
variable {N : Nat} {fr : Bool} {S0 : Sto} {A0 : Mm} {K0 : Wk} {S : Sto} {A : Mm} {K : Wk} {e : Int} {l : Nat}
theorem Ph.len (h : Ph N fr S0 A0 K0 S A K e l) : K.l.length = l := by
  rcases h.2 with ⟨_, h2, _⟩ | ⟨_, h2, h3⟩ | ⟨_, _, h2, h3⟩
  · exact h2.symm
  · rw [h2, h3.l]; rfl
  · rw [h2, h3.l]; rfl
theorem Ph.start {z : Int} (g : Good N S0) (hc : Calm A0) (hn : A0.n = N) (hl : K0.l = []) (hs : Sup K0) (hz : 0 ≤ z ∧ z ≤ two40) (hi : S0.is = false) (hf : fr = true → 8 ≤ S0.F.left) :
    K0.beginE S0 z = 0 ∧ Ph N fr S0 A0 K0 (K0.beginS S0 z) A0 (K0.beginK S0 z) 0 (stepsOf S0.w S0.b).length := by
  obtain ⟨e1, e2, e3, e4⟩ := way_begin g hl hs hz hi
  have eS : S0.markS = ⟨S0.F, S0.w, S0.b, S0.d, S0.w, true⟩ := by unfold Sto.markS; rw [hi]; rfl
  refine ⟨e1, ?_⟩
  rw [e2, e3]
  rw [e3] at e4
  have h1 := puts_len S0.w S0.b
  have hne : stepsOf S0.w S0.b ≠ [] := by rw [stepsOf_last]; simp
  have hpre : ∃ pre, pre ++ stepsOf S0.w S0.b = stepsOf S0.w S0.b := ⟨[], List.nil_append _⟩
  have hb : S0.markS.b = S0.b := by rw [eS]
  have hd : S0.markS.d = S0.d := by rw [eS]
  have hw : S0.markS.w = S0.w := by rw [eS]
  have hk : S0.markS.k = S0.w := by rw [eS]
  have hF : S0.markS.F = S0.F := by rw [eS]
  have g' := g.mark
  clear eS e1 e2 e3
  generalize S0.markS = S1 at *
  refine ⟨⟨g', hc, hn, hw, fun i _ _ => rfl⟩, Or.inl ⟨rfl, ?_, ⟨e4, hk, ?_, ?_, hb, hd, rfl, rfl, fun q => ?_⟩⟩⟩
  · show (stepsOf S0.w S0.b).length = (stepsOf S0.w S0.b).length
    exact Eq.refl _
  · obtain ⟨pre, h⟩ := hpre
    exact ⟨pre, h⟩
  · exact hne
  · have h2 := hf q
    rw [hF]
    show (stepsOf S0.w S0.b).countP isPut ≤ S0.F.left
    omega
theorem Ph.fine (h : Ph N fr S0 A0 K0 S A K e l) : ∀ p r, K.l = p :: r → K.fine p := by
  intro p r hl
  rcases h.2 with ⟨_, _, u⟩ | ⟨_, _, h3⟩ | ⟨_, _, _, h3⟩
  · exact way_fine h.1.good u.way (by rw [hl]; exact List.mem_cons_self)
  · rw [h3.l] at hl; cases hl
  · rw [h3.l] at hl; cases hl
theorem Ph.step (h64 : 64 ≤ N) (h : Ph N fr S0 A0 K0 S A K 0 (l + 1)) :
    (K.stepE S A = 0 ∧ K.stepD S A = decide (l = 0) ∧ Ph N fr S0 A0 K0 (K.stepS S A) (K.stepM S A) (K.stepK S A) 0 l) ∨ (fr = false ∧ K.stepE S A = 10 ∧ K.stepD S A = false ∧ Ph N fr S0 A0 K0 (K.stepS S A) (K.stepM S A) (K.stepK S A) 10 0) := by
  obtain ⟨c, h⟩ := h
  rcases h with ⟨_, hlen, u⟩ | ⟨_, h2, _⟩ | ⟨_, h2, _⟩
  · obtain ⟨p, r, hl⟩ : ∃ p r, K.l = p :: r := List.exists_cons_of_ne_nil u.ne
    have hp : p ∈ K.l := by rw [hl]; exact List.mem_cons_self
    have hrl : l = r.length := by rw [hl] at hlen; simp at hlen; exact hlen
    obtain ⟨pre, hpre⟩ := u.pre
    have hpre' := hpre
    rw [hl] at hpre'
    have hlast := last_five hpre'
    have did := way_did c.good c.calm c.n h64 u.way hp
    have hcm : ∀ S', Good N S' → S'.w = S.w → Cm N S0 A0 S' (K.doM S A p) := fun S' g' hw => ⟨g', did.calm, did.n, hw.trans c.w, fun i hi hk => by
      rw [did.has _ (by have := c.good.inv.tw i hi (by rw [c.w]; exact hk); rw [c.w] at this; exact this)]
      exact c.has i hi hk⟩
    rw [stepE_cons hl, stepM_cons hl, stepS_cons hl, stepK_cons hl, stepD_cons hl]
    rcases did.e with hE | ⟨hE, hA, hP⟩
    · rw [hE, if_neg (by decide), if_neg (by decide), if_pos rfl]
      left
      by_cases h5 : p.1 = 5
      · have hr := hlast.1 h5
        obtain ⟨f1, f2, f3, f4, f5, f6, f7, f8, f9⟩ := way_last c.good u.way hp hE h5
        rw [f1, f7]
        subst hr
        refine ⟨rfl, by simp [hrl], hcm _ f2 f6, Or.inr (Or.inl ⟨rfl, hrl, rfl, f5, ?_, ?_, ?_, rfl, ?_⟩)⟩
        · rw [f3]; exact u.mkd
        · show K.gen + 1 = K0.gen + 1
          unfold Wk.gen; rw [u.kb]
        · show 1 - K.sl = 1 - K0.sl
          rw [u.ksl]
        · show K.b.getD 3 0 = _
          rw [u.kb]
      · have hr : r ≠ [] := fun q => h5 (hlast.2 q)
        obtain ⟨f1, f2, f3, f4, f5, f6, f7, f8, f9, f10⟩ := way_step c.good u.way hl hE h5
        have hl0 : l ≠ 0 := by
          intro q
          rw [q] at hrl
          exact hr (List.eq_nil_of_length_eq_zero hrl.symm)
        refine ⟨rfl, ?_, hcm _ f2 did.w, Or.inl ⟨rfl, hrl, f1, f6.trans u.mkd, ⟨pre ++ [p], ?_⟩, hr, f3.trans u.b, f4.trans u.d, f7.trans u.kb, f8.trans u.ksl, fun q => ?_⟩⟩
        · rw [decide_eq_false hl0, decide_eq_false (fun q => hr q.2)]
        · show (pre ++ [p]) ++ r = _
          rw [← hpre']; simp
        · have h1 := u.left q
          rw [hl, List.countP_cons] at h1
          show r.countP isPut ≤ (K.doS S A p).F.left
          by_cases hi : isPut p = true
          · rw [if_pos hi] at h1 f10; omega
          · rw [if_neg hi] at h1 f10; omega
    · rw [hE, if_pos rfl, if_pos rfl]
      right
      have hfr : fr = false := by
        cases hfr : fr with
        | false => rfl
        | true =>
          exfalso
          have h1 := u.left hfr
          rw [hl, List.countP_cons, if_pos hP] at h1
          have h2 := left_none hA
          omega
      have h23 : p.1 = 2 ∨ p.1 = 3 := by unfold isPut at hP; simpa using hP
      have e2 : K.doS S A p = S := by
        unfold Wk.doS
        rw [if_neg (by omega), if_pos h23]
        unfold Sto.took
        rw [(alloc_none hA).1]
      have e3 : K.doK S A p = K := by
        have e1 : K.doE S A p = putE S A (K.line p) := by unfold Wk.doE; rw [if_neg (by omega), if_pos h23]
        unfold Wk.doK Wk.put
        rw [if_neg (by omega), if_pos h23, if_neg (by rw [← e1, hE]; decide)]
      rw [e2, e3]
      have eA : S.abortS = S.unmarkS := by unfold Sto.abortS; rw [if_pos u.way.is]
      refine ⟨hfr, rfl, decide_eq_false (fun q => absurd q.1 (by decide)), hcm _ c.good.abort (by rw [eA]; rfl), Or.inr (Or.inr ⟨hfr, rfl, rfl, rfl, by rw [eA]; rfl, ?_, ?_, u.kb, u.ksl⟩)⟩
      · rw [eA]; exact u.b
      · rw [eA]; exact u.d
  · cases h2
  · cases h2
end

end Go.Proofs.Ytinhnnnehhlceaa
