
/-
  A second checkpoint, on a memory whose power may go off, from its beginning to what a crash leaves. No program.
-/
import Derived.Test.YtiafhcgaikapcaaGreatZPow
namespace Go.Proofs.YtiafhcgaikapcaaGreat
set_option linter.unusedVariables false
set_option linter.unusedSimpArgs false

structure Pc (N : Nat) (mk bt : Nat → En) (bd : Nat → Int) (C : Nat → Nat → Int) (q : Int) (S : Sto) (A : Mm) (K : Wk) : Prop where
  ck : ∃ pre, Ck N mk bt bd C pre S A K
  on : A.on = true
  img : Img N A bt bd
  s0 : LSu (A.l 0) zeroF
  s1 : LSu (A.l 1) (listF (lineS [2, bd 7, 0, 1]))
  m1 : mayS [2, bd 7, 0, 1] = true
  sl : K.sl = 1
  b : K.b = [2, bd 7, 0, 1]
  q : K.q = q
  left : K.l.countP isPut ≤ S.F.left
  ok : ∃ B, A.ok B ∧ B + wt K.l ≤ 808
/-- The power is off: the old image is there; the slot 0 is nought, or bears some stores of a superblock whose image is there. -/
structure Po (N : Nat) (mk bt : Nat → En) (bd : Nat → Int) (C : Nat → Nat → Int) (q : Int) (A : Mm) : Prop where
  on : A.on = false
  n : A.n = N
  img : Img N A bt bd
  s0 : LSu (A.l 0) zeroF ∨ ∃ d : Nat → Int, mayS [3, d 7, q, 1] = true ∧ Img N A mk d ∧ (∀ i, i < 49 → (mk i).k ≠ 0 → LSu (A.l (mk i).l.toNat) (C i)) ∧ ∃ m, m ≤ 9 ∧ (A.l 0).s 7 = 0 ∧ (A.l 0).t = (stW (lineS [3, d 7, q, 1]) 8).take m
  s1 : LSu (A.l 1) (listF (lineS [2, bd 7, 0, 1]))
  m1 : mayS [2, bd 7, 0, 1] = true
  ok : A.ok 808
structure Pd (N : Nat) (mk : Nat → En) (bd : Nat → Int) (C : Nat → Nat → Int) (q : Int) (d : Nat → Int) (A : Mm) : Prop where
  n : A.n = N
  img : Img N A mk d
  su : ∀ i, i < 49 → (mk i).k ≠ 0 → LSu (A.l (mk i).l.toNat) (C i)
  s0 : LSu (A.l 0) (listF (lineS [3, d 7, q, 1]))
  may : mayS [3, d 7, q, 1] = true
  s1 : LSu (A.l 1) (listF (lineS [2, bd 7, 0, 1]))
  m1 : mayS [2, bd 7, 0, 1] = true
  ok : A.ok 808
section
variable {N : Nat} {mk bt : Nat → En} {bd : Nat → Int} {C : Nat → Nat → Int} {q : Int} {S : Sto} {A : Mm} {K : Wk}
theorem Pc.step (h64 : 64 ≤ N) (h : Pc N mk bt bd C q S A K) {p : Nat × Int} {r : List (Nat × Int)} (hl : K.l = p :: r) :
    (K.stepE S A = 0 ∧ K.stepD S A = decide (r = []) ∧ (K.stepK S A).l = r ∧ ((r ≠ [] ∧ Pc N mk bt bd C q (K.stepS S A) (K.stepM S A) (K.stepK S A)) ∨ (r = [] ∧ Pd N mk bd C q (K.stepK S A).d (K.stepM S A)))) ∨
    (K.stepE S A = 4 ∧ K.stepD S A = false ∧ (K.stepK S A).l = K.l ∧ Po N mk bt bd C q (K.stepM S A)) := by
  obtain ⟨pre, hc⟩ := h.ck
  obtain ⟨B, b1, b2⟩ := h.ok
  have hp : p ∈ K.l := by rw [hl]; exact List.mem_cons_self
  have hpre : pre ++ p :: r = stepsOf mk bt := by rw [← hl]; exact hc.eq
  have hlast := last_five hpre
  have hleft := h.left
  rw [hl, List.countP_cons] at hleft
  have hw := b2
  rw [hl, wt_cons] at hw
  have ha : isPut p = true → S.F.allocE = 0 := fun hi => by
    by_cases z : S.F.allocE = 0
    · exact z
    · have := left_none z
      rw [if_pos hi] at hleft
      omega
  have h14 : p.1 ≠ 5 → p.1 = 1 ∨ p.1 = 2 ∨ p.1 = 3 ∨ p.1 = 4 := fun h5 => by
    rcases hc.way.l p hp with c | c | c | c | c
    · exact Or.inl c.1
    · exact Or.inr (Or.inl c.1)
    · exact Or.inr (Or.inr (Or.inl (by rw [c])))
    · exact Or.inr (Or.inr (Or.inr (by rw [c])))
    · rw [c] at h5; exact absurd rfl h5
  have hsl : 0 ≤ K.sl ∧ K.sl ≤ 1 := by rw [h.sl]; exact ⟨by decide, by decide⟩
  have h10 : 10 ≤ S.F.lo := by rw [hc.good.lh.1]; exact Nat.le_refl _
  have hok := doM_okw b1 K S p h14
  have hn2 : (K.doM S A p).n = N := (doM_n _ _ _ _).trans hc.n
  have ximg : Img N (K.doM S A p) bt bd := ⟨fun k hk => do_su (hc.td k (by omega)) h10 hsl (h.img.lf k hk), do_su (hc.td 7 (by decide)) h10 hsl h.img.rt, h.img.may, h.img.db, h.img.te, h.img.dd, h.img.dt, h.img.tt⟩
  have x1 : LSu ((K.doM S A p).l 1) (listF (lineS [2, bd 7, 0, 1])) := do_low hc.good (by decide) (fun _ => by rw [h.sl]; decide) h14 h.s1
  have hokB : (K.doM S A p).ok 808 := ok_mono hok (by omega)
  rw [stepE_cons hl, stepM_cons hl, stepS_cons hl, stepK_cons hl, stepD_cons hl]
  by_cases h5 : p.1 = 5
  · have hr := hlast.1 h5
    have hq : (4, 0) ∈ pre ∧ ∀ z ∈ early mk bt, z ∈ pre := by
      rcases order hpre with ⟨c, _⟩ | ⟨c, _⟩ | ⟨c, _⟩ | ⟨c, e⟩
      · omega
      · rw [c] at h5; cases h5
      · rw [c] at h5; cases h5
      · rw [e]; exact ⟨by simp, fun z hz => by simp [hz]⟩
    obtain ⟨i1, i2⟩ := hc.img hq.1 hq.2
    have hnx : K.next = [3, K.d 7, q, 1] := by unfold Wk.next Wk.gen; rw [h.b, h.q]; rfl
    have hm := way_sup hc.good hc.way
    rw [hnx] at hm
    have xd : ∀ i, i < 8 → ∀ c, LSu (A.l (K.d i).toNat) c → LSu ((K.doM S A p).l (K.d i).toNat) c := fun i hi c hs => do_su (hc.way.d i hi) h10 hsl hs
    have ximg2 : Img N (K.doM S A p) mk K.d := ⟨fun k hk => xd k (by omega) _ (i1.lf k hk), xd 7 (by decide) _ i1.rt, i1.may, i1.db, i1.te, i1.dd, i1.dt, i1.tt⟩
    have xsu : ∀ i, i < 49 → (mk i).k ≠ 0 → LSu ((K.doM S A p).l (mk i).l.toNat) (C i) := fun i hi hk => do_su (hc.tm i hi hk) h10 hsl (i2 i hi hk)
    have eM : K.doM S A p = A.writeZ 0 0 [3, K.d 7, q, 1] := by
      unfold Wk.doM
      rw [if_neg (show ¬ p.1 = 1 by omega), if_neg (show ¬ (p.1 = 2 ∨ p.1 = 3) by omega), if_neg (show ¬ p.1 = 4 by omega), h.sl, hnx]
      rfl
    have hD : S.doneE = 0 := by unfold Sto.doneE; rw [hc.way.is]; rfl
    have eE : K.doE S A p = A.writeE 0 0 [3, K.d 7, q, 1] := by
      unfold Wk.doE
      rw [if_neg (show ¬ p.1 = 1 by omega), if_neg (show ¬ (p.1 = 2 ∨ p.1 = 3) by omega), if_neg (show ¬ p.1 = 4 by omega), h.sl, hnx, hD]
      show (if A.writeE 0 0 [3, K.d 7, q, 1] = 0 then 0 else A.writeE 0 0 [3, K.d 7, q, 1]) = _
      split
      · rename_i z; rw [z]
      · rfl
    have eK : (K.doK S A p).d = K.d := by
      unfold Wk.doK
      rw [if_neg (show ¬ p.1 = 1 by omega), if_neg (show ¬ (p.1 = 2 ∨ p.1 = 3) by omega), if_neg (show ¬ p.1 = 4 by omega)]
      split <;> rfl
    rcases write_pow (A := A) (k := 0) (slot := 0) (s := [3, K.d 7, q, 1]) rfl (by decide) h.s0.1 h.on (by rw [hc.n]; exact h64) hm with ⟨w1, w2, w3⟩ | ⟨w1, w2, m, w3, w4, w5⟩
    · left
      rw [eE, w1, if_neg (show ¬ ((0 : Int) = 10) by decide), if_neg (show ¬ ((0 : Int) = 10) by decide), if_pos (show (0 : Int) = 0 from rfl)]
      rw [← eM] at w2 w3
      refine ⟨rfl, by simp, rfl, Or.inr ⟨hr, hn2, ?_, xsu, ?_, ?_, x1, h.m1, hokB⟩⟩
      · show Img N _ mk (K.doK S A p).d
        rw [eK]; exact ximg2
      · show LSu _ (listF (lineS [3, (K.doK S A p).d 7, q, 1]))
        rw [eK]; exact w3
      · show mayS [3, (K.doK S A p).d 7, q, 1] = true
        rw [eK]; exact hm
    · right
      rw [eE, w1, if_neg (show ¬ ((4 : Int) = 10) by decide), if_neg (show ¬ ((4 : Int) = 0) by decide)]
      rw [← eM] at w2 w4 w5
      refine ⟨rfl, decide_eq_false (fun z => absurd z.1 (by decide)), ?_, w2, hn2, ximg, Or.inr ⟨K.d, hm, ximg2, xsu, m, w3, by rw [w4]; exact h.s0.2 7 (by decide), w5⟩, x1, h.m1, hokB⟩
      have ew : A.writeE 0 (1 - K.sl) K.next = 4 := by rw [h.sl, hnx]; exact w1
      unfold Wk.doK
      rw [if_neg (show ¬ p.1 = 1 by omega), if_neg (show ¬ (p.1 = 2 ∨ p.1 = 3) by omega), if_neg (show ¬ p.1 = 4 by omega), if_neg (fun z => by rw [ew] at z; exact absurd z.1 (by decide))]
  · have hr : r ≠ [] := fun z => h5 (hlast.2 z)
    have x0 : LSu ((K.doM S A p).l 0) zeroF := do_low hc.good (by decide) (fun z => absurd z h5) h14 h.s0
    have eo := do_pow hc.good hc.n h.on hc.way hp h5 ha
    by_cases hE : K.doE S A p = 0
    · left
      rw [hE, if_neg (show ¬ ((0 : Int) = 10) by decide), if_neg (show ¬ ((0 : Int) = 10) by decide), if_pos (show (0 : Int) = 0 from rfl)]
      obtain ⟨f1, f2, f3, f4, f5, f6, f7, f8, f9, f10⟩ := way_step hc.good hc.way hl hE h5
      refine ⟨rfl, by simp, rfl, Or.inl ⟨hr, ⟨pre ++ [p], hc.step hl hE h5⟩, eo.on hE, ximg, x0, x1, h.m1, f8.trans h.sl, f7.trans h.b, f9.trans h.q, ?_, ⟨_, hok, ?_⟩⟩⟩
      · show r.countP isPut ≤ _
        by_cases hi : isPut p = true
        · rw [if_pos hi] at hleft f10; omega
        · rw [if_neg hi] at hleft f10; omega
      · show B + _ + wt r ≤ 808
        omega
    · right
      obtain ⟨g1, g2⟩ := eo.off hE
      rw [g1, if_neg (show ¬ ((4 : Int) = 10) by decide), if_neg (show ¬ ((4 : Int) = 0) by decide)]
      refine ⟨rfl, decide_eq_false (fun z => absurd z.1 (by decide)), ?_, g2, hn2, ximg, Or.inl x0, x1, h.m1, hokB⟩
      unfold Wk.doK Wk.put
      split
      · rfl
      · split
        · split <;> rfl
        · split
          · rfl
          · rename_i n1 n2 n3
            have := h14 h5
            omega
/-- What Find and Load tell behind a crash: the old image, or the new one with all that it names. -/
structure Booted (N : Nat) (mk bt : Nat → En) (bd : Nat → Int) (C : Nat → Nat → Int) (q : Int) (A : Mm) (done : Bool) : Prop where
  e : A.findE = 0
  v : (A.findV = [2, bd 7, 0, 1] ∧ A.findAt = 1 ∧ done = false ∧ Img N A bt bd) ∨ ∃ d : Nat → Int, A.findV = [3, d 7, q, 1] ∧ A.findAt = 0 ∧ Img N A mk d ∧ ∀ i, i < 49 → (mk i).k ≠ 0 → LSu (A.l (mk i).l.toNat) (C i)
theorem su_row {A : Mm} {y : Nat} {l : List Int} (hl : l.length = 8) (h : LSu (A.l y) (listF l)) (keep : List Int) : rowOf ((A.crash keep).l y).has = l := LHs.row hl (crash_su h keep).hs
theorem told_new {A : Mm} {d : Nat → Int} {s1 : List Int} (hl : s1.length = 4) (hm1 : mayS s1 = true) (h2 : s1.getD 0 0 = 2) (hm : mayS [3, d 7, q, 1] = true) (hon : A.on = true) (r0 : rowOf (A.l 0).has = lineS [3, d 7, q, 1]) (r1 : rowOf (A.l 1).has = lineS s1) :
    A.findE = 0 ∧ A.findV = [3, d 7, q, 1] ∧ A.findAt = 0 := by
  obtain ⟨b1, b2, b3⟩ := best_both [3, d 7, q, 1] s1 rfl hm hl hm1
  have hg : ¬ (s1.getD 0 0 > ([3, d 7, q, 1] : List Int).getD 0 0) := by rw [h2]; show ¬ ((2 : Int) > 3); decide
  unfold Mm.findE Mm.findV Mm.findAt Mm.bestM
  rw [r0, r1, b1, b2, b3, hon, if_neg hg, if_neg hg]
  exact ⟨rfl, rfl, rfl⟩
theorem told_old {A : Mm} {s1 : List Int} (hl : s1.length = 4) (hm1 : mayS s1 = true) (hon : A.on = true) (r0 : isS (rowOf (A.l 0).has) = false) (r1 : rowOf (A.l 1).has = lineS s1) :
    A.findE = 0 ∧ A.findV = s1 ∧ A.findAt = 1 := by
  obtain ⟨b1, b2, b3⟩ := best_other s1 hl hm1 _ r0
  unfold Mm.findE Mm.findV Mm.findAt Mm.bestM
  rw [r1, b1, b2, b3, hon]
  exact ⟨rfl, rfl, rfl⟩
theorem Pd.told {d : Nat → Int} {bt' : Nat → En} (h : Pd N mk bd C q d A) (keep : List Int) (D : Bool) : Booted N mk bt' bd C q (A.crash keep) D := by
  obtain ⟨e1, e2, e3⟩ := told_new (A := A.crash keep) rfl h.m1 rfl h.may rfl (su_row (lineS_len _) h.s0 keep) (su_row (lineS_len _) h.s1 keep)
  exact ⟨e1, Or.inr ⟨d, e2, e3, h.img.crash keep, fun i hi hk => crash_su (h.su i hi hk) keep⟩⟩
theorem Po.told (h : Po N mk bt bd C q A) (keep : List Int) : Booted N mk bt bd C q (A.crash keep) false := by
  have r1 := su_row (lineS_len _) h.s1 keep
  rcases h.s0 with h0 | ⟨d, hm, i1, i2, m, m1, m2, m3⟩
  · have r0 : isS (rowOf ((A.crash keep).l 0).has) = false := by
      have e : rowOf ((A.crash keep).l 0).has = rowOf zeroF := by
        unfold rowOf
        exact List.map_congr_left fun j hj => (crash_su h0 keep).hs j (List.mem_range.1 hj)
      rw [e]; exact zero_noS
    obtain ⟨e1, e2, e3⟩ := told_old (A := A.crash keep) rfl h.m1 rfl r0 r1
    exact ⟨e1, Or.inl ⟨e2, e3, rfl, h.img.crash keep⟩⟩
  · rcases crash_pow (A := A) (B := A) keep m1 rfl m3 m2 with r0 | r0
    · obtain ⟨e1, e2, e3⟩ := told_old (A := A.crash keep) rfl h.m1 rfl r0 r1
      exact ⟨e1, Or.inl ⟨e2, e3, rfl, h.img.crash keep⟩⟩
    · obtain ⟨e1, e2, e3⟩ := told_new (A := A.crash keep) rfl h.m1 rfl hm rfl r0 r1
      exact ⟨e1, Or.inr ⟨d, e2, e3, i1.crash keep, fun i hi hk => crash_su (i2 i hi hk) keep⟩⟩
end

end Go.Proofs.YtiafhcgaikapcaaGreat
