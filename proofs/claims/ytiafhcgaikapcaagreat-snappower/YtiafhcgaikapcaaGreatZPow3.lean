
/-
  Where SnapPower's second checkpoint begins: a first one of the base itself, then changes, then a fuse. No program.
-/
import Derived.Test.YtiafhcgaikapcaaGreatZPow2
namespace Go.Proofs.YtiafhcgaikapcaaGreat
set_option linter.unusedVariables false
set_option linter.unusedSimpArgs false

/-- The first checkpoint's states, step by step. -/
def it0 : Nat → Sto × Mm × Wk
  | 0 => (wk0.beginS (sS 12 400) 0, iA 12 400, wk0.beginK (sS 12 400) 0)
  | j + 1 => ((it0 j).2.2.stepS (it0 j).1 (it0 j).2.1, (it0 j).2.2.stepM (it0 j).1 (it0 j).2.1, (it0 j).2.2.stepK (it0 j).1 (it0 j).2.1)
def wS : Nat → En := (sS 12 400).w
def cS : Nat → Nat → Int := fun i => ((iA 12 400).l (wS i).l.toNat).has
theorem wS_base : (sS 12 400).b = tblF 12 ∧ wS = tblF 12 := ⟨rfl, rfl⟩
theorem len_it0 : (wk0.beginK (sS 12 400) 0).l.length = 3 := by decide +kernel
theorem it0_begin : wk0.beginE (sS 12 400) 0 = 0 ∧ Cq 400 wS (tblF 12) dirF cS 0 0 (it0 0).1 (it0 0).2.1 (it0 0).2.2 3 := by
  obtain ⟨e1, e2, e3⟩ := Cq.start (q := 0) (Chd.start 400 (by decide) (by decide)) (Bs.start 400) (by decide) ⟨by decide, by decide⟩
  rw [len_it0] at e3
  exact ⟨e1, e3⟩
theorem it0_at : ∀ j, j ≤ 3 → Cq 400 wS (tblF 12) dirF cS 0 0 (it0 j).1 (it0 j).2.1 (it0 j).2.2 (3 - j)
  | 0, _ => it0_begin.2
  | j + 1, h => by
    have ih := it0_at j (by omega)
    rw [show 3 - j = (3 - (j + 1)) + 1 by omega] at ih
    exact (ih.step (by decide)).2.2.less
theorem it0_step (j : Nat) (h : j < 3) : (it0 j).2.2.stepE (it0 j).1 (it0 j).2.1 = 0 := by
  have ih := it0_at j (by omega)
  rw [show 3 - j = (3 - (j + 1)) + 1 by omega] at ih
  exact (ih.step (by decide)).1
theorem doS_w (S : Sto) (A : Mm) (K : Wk) (p : Nat × Int) : (K.doS S A p).w = S.w := by
  unfold Wk.doS Sto.commitS
  split
  · rfl
  · split
    · rfl
    · split
      · rfl
      · split
        · split <;> rfl
        · rfl
theorem stepS_w {S : Sto} {A : Mm} {K : Wk} (h : K.stepE S A = 0) : (K.stepS S A).w = S.w := by
  cases hl : K.l with
  | nil => rw [(step_idle hl S A).2.2.1]
  | cons p r =>
    rw [stepE_cons hl] at h
    rw [stepS_cons hl, h, if_neg (show ¬ ((0 : Int) = 10) by decide)]
    exact doS_w S A K p
theorem it0_w : ∀ j, j ≤ 3 → (it0 j).1.w = wS
  | 0, _ => by
    show (wk0.beginS (sS 12 400) 0).w = _
    unfold Wk.beginS Sto.markS
    split
    · split <;> rfl
    · rfl
  | j + 1, h => (stepS_w (it0_step j (by omega))).trans (it0_w j (by omega))
theorem left_it0 : 300 ≤ (it0 3).1.F.left := by decide +kernel

/-- What stands behind the first checkpoint and some changes. -/
structure Chp (bd : Nat → Int) (S : Sto) (A : Mm) (i : Nat) : Prop where
  good : Good 400 S
  calm : Calm A
  n : A.n = 400
  ok : ∃ B, A.ok B ∧ B ≤ 400 + 8 * i
  is : S.is = false
  left : 300 ≤ S.F.left + i
  b : S.b = wS
  d : S.d = bd
  img : Img 400 A wS bd
  bo : ∀ i, i < 49 → (wS i).k ≠ 0 → (A.l (wS i).l.toNat).t = []
  s0 : LSu (A.l 0) zeroF
  s1 : LSu (A.l 1) (listF (lineS [2, bd 7, 0, 1]))
  m1 : mayS [2, bd 7, 0, 1] = true
theorem Chp.ch {bd : Nat → Int} {S : Sto} {A : Mm} {i : Nat} (h : Chp bd S A i) (p : OOp) (hp : InU p.v) : Chp bd (chS S A p) (chM S A p) (i + 1) := by
  obtain ⟨B, b1, b2⟩ := h.ok
  obtain ⟨f1, f2, f3, f4⟩ := fixed_ch S A p
  have hl := left_ch S A p
  have := h.left
  have hd := h.d
  have hb := h.b
  have od : ∀ i, i < 8 → (chM S A p).l (bd i).toNat = A.l (bd i).toNat := fun i hi => by
    rw [← hd]
    exact ch_other h.good ⟨h.good.inv.td i hi, Or.inr fun j hj hk => h.good.inv.dw i j hi hj hk⟩ p
  have om : ∀ i, i < 49 → (wS i).k ≠ 0 → (chM S A p).l (wS i).l.toNat = A.l (wS i).l.toNat := fun i hi hk => by
    rw [← hb] at hk ⊢
    exact ch_other h.good ⟨h.good.inv.tb i hi hk, Or.inl (Or.inl ((hasB_iff _ _).2 ⟨i, hi, hk, rfl⟩))⟩ p
  exact ⟨h.good.ch A p, calm_ch h.good.inv h.calm (by rw [h.good.lh.2, h.n]; exact Nat.le_refl _) p, (chM_n _ _ _).trans h.n, ⟨B + 8, chM_ok b1 p hp, by omega⟩, f4.trans h.is, by omega, f1.trans h.b, f2.trans h.d, ⟨fun k hk => by rw [od k (by omega)]; exact h.img.lf k hk, by rw [od 7 (by decide)]; exact h.img.rt, h.img.may, h.img.db, h.img.te, h.img.dd, h.img.dt, h.img.tt⟩, fun i hi hk => by rw [om i hi hk]; exact h.bo i hi hk, by rw [ch_low h.good (by decide)]; exact h.s0, by rw [ch_low h.good (by decide)]; exact h.s1, h.m1⟩
theorem ok_it0 : ∀ j, j ≤ 3 → (it0 j).2.1.ok (11 * j)
  | 0, _ => iA_ok 12 400 (by decide) (by decide)
  | j + 1, h => ok_mono (wstepM_ok (ok_it0 j (by omega)) _ _) (by omega)
theorem is_it0 : (it0 3).1.is = false := by decide +kernel
theorem sl_it0 : (it0 3).2.2.sl = 1 := by decide +kernel
theorem b_it0 : (it0 3).2.2.b = [2, (it0 3).2.2.d 7, 0, 1] := by decide +kernel
theorem l_it0 : (it0 3).2.2.l = [] := by decide +kernel
theorem Chp.start : Chp (it0 3).2.2.d (it0 3).1 (it0 3).2.1 0 := by
  have h := (it0_at 3 (Nat.le_refl _)).dn
  have h1 := ok_it0 3 (Nat.le_refl _)
  have h2 := is_it0
  have h3 := left_it0
  generalize it0 3 = t at *
  exact ⟨h.good, h.calm, h.n, ⟨_, h1, by decide⟩, h2, by omega, h.b, h.d, h.img, fun i hi hk => (h.su i hi hk).1, h.s0, h.s1, h.may⟩
theorem Pc.begin {N : Nat} {bt : Nat → En} {bd : Nat → Int} {S : Sto} {A : Mm} {B : Nat} {K : Wk} {q : Int} (g : Good N S.markS) (hS : S.markS = ⟨S.F, S.w, S.b, S.d, S.w, true⟩) (hi : Inv S) (hon : A.on = true) (hn : A.n = N) (hw : Way S.markS K) (hKk : K.k = S.w) (hKd : K.d = S.d) (hKl : K.l = stepsOf S.w S.b) (hKs : K.sl = 1) (hKb : K.b = [2, bd 7, 0, 1]) (hKq : K.q = q)
    (hSb : S.b = bt) (hSd : S.d = bd) (img : Img N A bt bd) (bo : ∀ i, i < 49 → (bt i).k ≠ 0 → (A.l (bt i).l.toNat).t = []) (s0 : LSu (A.l 0) zeroF) (s1 : LSu (A.l 1) (listF (lineS [2, bd 7, 0, 1]))) (m1 : mayS [2, bd 7, 0, 1] = true) (hok : A.ok B) (hB : B + wt K.l ≤ 808) (hl : K.l.countP isPut ≤ S.F.left) :
    Pc N S.w bt bd (fun i => (A.l (S.w i).l.toNat).has) q S.markS A K := by
  have hpre : [] ++ K.l = stepsOf S.w bt := by rw [List.nil_append, hKl, hSb]
  have no : ∀ z : Nat × Int, z ∉ ([] : List (Nat × Int)) := fun z hz => by cases hz
  refine ⟨⟨[], g, hn, hw, by rw [hS], by rw [hS]; exact hSb, by rw [hS]; exact hSd, hpre, hi.wd, fun a b ha hb' hab => ?_, fun a b ha hb' hk => ?_, fun k hk _ => ?_, img.lf, img.rt, fun a ha hk hB => ?_, fun a ha hk j hj => rfl, fun a _ _ hm => absurd hm (no _), fun a _ hm => absurd hm (no _), fun hm => absurd hm (no _), fun hm => absurd hm (no _), fun hm => absurd hm (no _), fun hm => absurd hm (no _)⟩, hon, img, s0, s1, m1, hKs, hKb, hKq, ?_, ⟨B, hok, hB⟩⟩
  · rw [hKd, hSd]; exact img.dd a b ha hb' hab
  · rw [hKd]; exact hi.dw a b ha hb' hk
  · rw [hKd, hSd]
  · obtain ⟨j, hj, hk2, hl⟩ := (hasB_iff _ _).1 hB
    have ht := bo j hj hk2
    rw [hl] at ht
    exact ⟨ht, fun m hm => by show _ = (A.l (S.w a).l.toNat).has m; rw [has_sure ht]⟩
  · have hF : S.markS.F = S.F := by rw [hS]
    rw [hF]
    exact hl
/-- Under way with l steps left, done, or the power is off. -/
def Pq (N : Nat) (mk bt : Nat → En) (bd : Nat → Int) (C : Nat → Nat → Int) (q : Int) (S : Sto) (A : Mm) (K : Wk) (l : Nat) (D : Bool) : Prop :=
  (Pc N mk bt bd C q S A K ∧ K.l.length = l ∧ 0 < l ∧ D = false) ∨ (∃ d, Pd N mk bd C q d A ∧ K.l.length = l ∧ l = 0 ∧ D = true) ∨ (Po N mk bt bd C q A ∧ K.l.length = l ∧ 0 < l ∧ D = false)
theorem Pq.start {bd : Nat → Int} {S : Sto} {A : Mm} {i : Nat} {K : Wk} (h : Chp bd S A i) (hi : i ≤ 20) (fu : Int) (hfu : In64 fu) (hl : K.l = []) (hsl : K.sl = 1) (hb : K.b = [2, bd 7, 0, 1]) :
    K.beginE S 5 = 0 ∧ (K.beginK S 5).l.length ≤ 59 ∧ Pq 400 S.w wS bd (fun i => (A.l (S.w i).l.toNat).has) 5 (K.beginS S 5) (A.fused fu) (K.beginK S 5) (K.beginK S 5).l.length false := by
  have hs : Sup K := by
    refine ⟨by rw [hb]; rfl, ?_, ?_, Or.inr hsl, ?_, ?_⟩
    · unfold Wk.gen; rw [hb]; show (1 : Int) ≤ 2; decide
    · unfold Wk.gen; rw [hb]; show (2 : Int) < two40; decide
    · rw [hb]; show (1 : Int) ≤ 1; decide
    · rw [hb]; show (1 : Int) ≤ 8; decide
  obtain ⟨e1, e2, e3, e4⟩ := way_begin (z := 5) h.good hl hs ⟨by decide, by decide⟩ h.is
  have eS : S.markS = ⟨S.F, S.w, S.b, S.d, S.w, true⟩ := by unfold Sto.markS; rw [h.is]; rfl
  have h1 := puts_len S.w S.b
  have h2 := stepsOf_len S.w S.b
  have h3 := wt_steps S.w S.b
  have hleft := h.left
  obtain ⟨B, o1, o2⟩ := h.ok
  have k1 : (K.beginK S 5).l = stepsOf S.w S.b := by rw [e3]
  have k2 : (K.beginK S 5).k = S.w := by rw [e3]
  have k3 : (K.beginK S 5).d = S.d := by rw [e3]
  have k4 : (K.beginK S 5).sl = 1 := by rw [e3]; exact hsl
  have k5 : (K.beginK S 5).b = [2, bd 7, 0, 1] := by rw [e3]; exact hb
  have k6 : (K.beginK S 5).q = 5 := by rw [e3]
  refine ⟨e1, by rw [k1]; exact h2, Or.inl ⟨?_, rfl, ?_, rfl⟩⟩
  · rw [e2]
    clear e1 e2 e3
    generalize K.beginK S 5 = K1 at *
    exact Pc.begin (A := A.fused fu) h.good.mark eS h.good.inv h.calm.1 h.n e4 k2 k3 k1 k4 k5 k6 h.b h.d ⟨h.img.lf, h.img.rt, h.img.may, h.img.db, h.img.te, h.img.dd, h.img.dt, h.img.tt⟩ h.bo h.s0 h.s1 h.m1 (ok_fused o1 fu hfu) (by rw [k1]; omega) (by rw [k1]; omega)
  · rw [k1, stepsOf_last, List.length_append]
    exact Nat.succ_pos _
section
variable {N : Nat} {mk bt : Nat → En} {bd : Nat → Int} {C : Nat → Nat → Int} {q : Int} {S : Sto} {A : Mm} {K : Wk} {l : Nat} {D : Bool}
theorem Pq.len (h : Pq N mk bt bd C q S A K l D) : K.l.length = l := by
  rcases h with h | ⟨d, h⟩ | h
  · exact h.2.1
  · exact h.2.1
  · exact h.2.1
/-- A step while the power is on. -/
theorem Pq.step (h64 : 64 ≤ N) (h : Pq N mk bt bd C q S A K (l + 1) D) (hon : A.on = true) :
    S.ok ∧ A.ok 900 ∧ (∀ p r, K.l = p :: r → K.fine p) ∧ ∃ l', l' ≤ l + 1 ∧ Pq N mk bt bd C q (K.stepS S A) (K.stepM S A) (K.stepK S A) l' (K.stepD S A) ∧ ((K.stepM S A).on = true → l' = l) := by
  rcases h with ⟨g, g1, g2, g3⟩ | ⟨d, g, g1, g2, g3⟩ | ⟨g, g1, g2, g3⟩
  · obtain ⟨p, r, hl⟩ : ∃ p r, K.l = p :: r := List.exists_cons_of_ne_nil (by intro z; rw [z] at g1; cases g1)
    have hr : r.length = l := by rw [hl] at g1; simpa using g1
    obtain ⟨pre, hc⟩ := g.ck
    obtain ⟨B, b1, b2⟩ := g.ok
    refine ⟨hc.good.ok, ok_mono b1 (by omega), fun p r hl => way_fine hc.good hc.way (by rw [hl]; exact List.mem_cons_self), ?_⟩
    rcases g.step h64 hl with ⟨e1, e2, e3, e4⟩ | ⟨e1, e2, e3, e4⟩
    · refine ⟨l, by omega, ?_, fun _ => rfl⟩
      rcases e4 with ⟨z, z1⟩ | ⟨z, z1⟩
      · refine Or.inl ⟨z1, by rw [e3]; exact hr, ?_, by rw [e2]; exact decide_eq_false z⟩
        cases r with
        | nil => exact absurd rfl z
        | cons a r => rw [← hr]; exact Nat.succ_pos _
      · exact Or.inr (Or.inl ⟨_, z1, by rw [e3]; exact hr, by rw [← hr, z]; rfl, by rw [e2]; exact decide_eq_true z⟩)
    · exact ⟨l + 1, Nat.le_refl _, Or.inr (Or.inr ⟨e4, by rw [e3]; exact g1, g2, e2⟩), fun z => by rw [e4.on] at z; cases z⟩
  · cases g2
  · rw [g.on] at hon; cases hon
/-- Where the loop ends: nothing is left, or the power is off. -/
theorem Pq.told (h : Pq N mk bt bd C q S A K l D) (hend : l = 0 ∨ A.on = false) (keep : List Int) : Booted N mk bt bd C q (A.crash keep) D ∧ A.ok 808 ∧ A.n = N := by
  rcases h with ⟨g, g1, g2, g3⟩ | ⟨d, g, g1, g2, g3⟩ | ⟨g, g1, g2, g3⟩
  · exfalso
    rcases hend with z | z
    · omega
    · rw [g.on] at z; cases z
  · exact ⟨g.told keep D, g.ok, g.n⟩
  · rw [g3]; exact ⟨g.told keep, g.ok, g.n⟩
end

end Go.Proofs.YtiafhcgaikapcaaGreat
