import Derived.Test.YtiafhcgaikapcaaGreatPkZc
import Derived.Test.YtiafhcgaikapcaaGreatPkZa
import Derived.Test.YtiafhcgaikapcaaGreatPkZb
import Derived.Test.YtiafhcgaikapcaaGreatSLastMath
import Derived.Test.YtiafhcgaikapcaaGreatPkIv
import Derived.Deep.Slices

/-
  What stands of a store whatever is done: its entries may be, what is named is taken; behind Commit and Abort too. No program.
-/
namespace Go.Proofs.YtiafhcgaikapcaaGreat
set_option linter.unusedVariables false

/-! ### Commit, Abort -/
theorem tk_freed {F : Fr} (nm : Nat → Bool) {z : Int} (h : F.tk z) (hn : nm z.toNat = true) : (F.freeTo nm 1024).tk z := by
  refine ⟨h.1, ?_⟩
  show (if ((F.lo ≤ z.toNat ∧ z.toNat < F.hi) ∧ z.toNat < 1024) ∧ F.s z.toNat = 1 ∧ nm z.toNat = false then (0 : Int) else F.s z.toNat) = 1
  rw [if_neg (fun c => by rw [hn] at c; cases c.2.2)]; exact h.2
theorem freed_s2 {F : Fr} (nm : Nat → Bool) (h : ∀ i, F.s i = 0 ∨ F.s i = 1) : ∀ i, (F.freeTo nm 1024).s i = 0 ∨ (F.freeTo nm 1024).s i = 1 := fun i => by
  show (if ((F.lo ≤ i ∧ i < F.hi) ∧ i < 1024) ∧ F.s i = 1 ∧ nm i = false then (0 : Int) else F.s i) = 0 ∨ (if ((F.lo ≤ i ∧ i < F.hi) ∧ i < 1024) ∧ F.s i = 1 ∧ nm i = false then (0 : Int) else F.s i) = 1
  split
  · exact Or.inl rfl
  · exact h i
theorem tk_nat {F : Fr} {z : Int} (h : F.tk z) : ((z.toNat : Nat) : Int) = z := by have := h.1.1; omega
theorem inv_freed {S : Sto} (h : Inv S) (hk : S.k = fun _ => ze) : Inv S.freed := by
  have nd : ∀ i, i < 8 → S.nmB (S.d i).toNat = true := fun i hi => by
    unfold Sto.nmB
    rw [tk_nat (h.td i hi), (inD_iff _ _).2 ⟨i, hi, rfl⟩]; rfl
  have nb : ∀ i, i < 49 → (S.b i).k ≠ 0 → S.nmB (S.b i).l.toNat = true := fun i hi hki => by
    unfold Sto.nmB
    rw [tk_nat (h.tb i hi hki), (hasB_iff S.b _).2 ⟨i, hi, hki, rfl⟩]; simp
  have nw : ∀ i, i < 49 → (S.w i).k ≠ 0 → S.nmB (S.w i).l.toNat = true := fun i hi hki => by
    unfold Sto.nmB
    rw [tk_nat (h.tw i hi hki), (hasB_iff S.w _).2 ⟨i, hi, hki, rfl⟩]; simp
  exact ⟨freed_s2 _ h.s2, fun i hi hki => tk_freed _ (h.tb i hi hki) (nb i hi hki), fun i hi hki => by
    exfalso
    have e : S.freed.k i = S.k i := rfl
    rw [e, hk] at hki; exact hki rfl, fun i hi hki => tk_freed _ (h.tw i hi hki) (nw i hi hki), h.wd, fun i hi => tk_freed _ (h.td i hi) (nd i hi), h.dw⟩
theorem inv_unmark {S : Sto} (h : Inv S) : Inv S.unmarkS :=
  inv_freed (S := Sto.mk S.F S.w S.b S.d (fun _ => ze) false) ⟨h.s2, h.tb, fun i hi hk => absurd rfl hk, h.tw, h.wd, h.td, h.dw⟩ rfl
theorem inv_abort {S : Sto} (h : Inv S) : Inv S.abortS := by
  unfold Sto.abortS; split
  · exact inv_unmark h
  · exact h
theorem inv_commit {S : Sto} (h : Inv S) (d : Nat → Int) (hd : ∀ i, i < 8 → S.F.tk (d i)) (hdw : ∀ i j, i < 8 → j < 49 → (S.w j).k ≠ 0 → d i ≠ (S.w j).l) : Inv (S.commitS d) := by
  unfold Sto.commitS; split
  · exact inv_unmark (S := Sto.mk S.F S.w S.k d S.k S.is) ⟨h.s2, h.tm, h.tm, h.tw, h.wd, hd, hdw⟩
  · exact h
theorem lohi_unmark (S : Sto) : lohi S.unmarkS.F S.F := ⟨rfl, rfl⟩
theorem lohi_commit (S : Sto) (d : Nat → Int) : lohi (S.commitS d).F S.F := by unfold Sto.commitS; split <;> exact ⟨rfl, rfl⟩
theorem lohi_abort (S : Sto) : lohi S.abortS.F S.F := by unfold Sto.abortS; split <;> exact ⟨rfl, rfl⟩

/-! ### stores whose entries may be -/
structure Good (N : Nat) (S : Sto) : Prop where
  ok : S.ok
  inv : Inv S
  lh : S.F.lo = 10 ∧ S.F.hi = N
  hN : N ≤ 1024
  w : ∀ i, i < 49 → mayN (S.w i) = true
  b : ∀ i, i < 49 → mayN (S.b i) = true
  k : ∀ i, i < 49 → mayN (S.k i) = true
theorem may_ze : mayN ze = true := by decide
theorem may_moved {x : En} (h : mayN x = true) (hk : x.k ≠ 0) {l : Int} (h0 : 0 ≤ l) (h1 : l < 1024) : mayN (moved x l) = true := by
  have := (mayN_iff x).1 h
  refine (mayN_iff _).2 ?_
  unfold moved
  simp only
  omega
theorem may_new {x : En} (h : mayN x = true) {z l : Int} (hz : z = 1 ∨ z = 2 ∨ z = 4) (h0 : 0 ≤ l) (h1 : l < 1024) : mayN ⟨z, x.v, l⟩ = true := by
  have := (mayN_iff x).1 h
  refine (mayN_iff _).2 ?_
  simp only
  omega
theorem may_end {x : En} (h : mayN x = true) : mayN (endV x) = true := by
  unfold endV
  split
  · exact may_ze
  · have := (mayN_iff x).1 h
    refine (mayN_iff _).2 ⟨Int.le_refl _, show (0 : Int) ≤ 4 by decide, ?_, ?_, Int.le_refl _, show (0 : Int) < 1024 by decide, fun _ => rfl⟩
    · show 0 ≤ nextI x.v
      unfold nextI
      split <;> omega
    · show nextI x.v ≤ 16777215
      unfold nextI
      split <;> omega
theorem Good.alloc {N : Nat} {S : Sto} (h : Good N S) (ha : S.F.allocE = 0) : 10 ≤ S.F.allocV ∧ S.F.allocV < N := by
  have := isF_new ha
  have h1 := this.1
  have h2 := this.2
  rw [h.lh.1] at h1; rw [h.lh.2] at h2
  exact ⟨h1, h2⟩
theorem Good.took {N : Nat} {S : Sto} (h : Good N S) : Good N S.took :=
  ⟨took_ok h.ok, inv_took h.inv, ⟨(alloc_lo _).1.trans h.lh.1, (alloc_lo _).2.trans h.lh.2⟩, h.hN, h.w, h.b, h.k⟩
theorem Good.set {N : Nat} {S : Sto} (h : Good N S) (A : Mm) (z q v : Int) : Good N (S.setS A z q v) := by
  have hl := lohi_set S A z q v
  refine ⟨setS_ok h.ok _ _ _ _, inv_set h.inv _ _ _ _, ⟨hl.1.trans h.lh.1, hl.2.trans h.lh.2⟩, h.hN, ?_, ?_, ?_⟩
  · unfold Sto.setS
    split
    · rename_i c
      have hf := findE_ok c.2
      split
      · exact h.w
      · split
        · split
          · rename_i e
            have ha := h.alloc (layE_alloc e)
            intro i hi
            exact upd_lt (P := fun e : En => mayN e = true) h.w _ (may_moved (h.w z.toNat (by omega)) hf.2.2 (by omega) (by have := h.hN; omega)) i hi
          · exact h.w
        · exact h.w
    · exact h.w
  · unfold Sto.setS
    repeat' split
    all_goals exact h.b
  · unfold Sto.setS
    repeat' split
    all_goals exact h.k
theorem Good.make {N : Nat} {S : Sto} (h : Good N S) (A : Mm) (z : Int) : Good N (S.makeS A z) := by
  have hl := lohi_make S A z
  refine ⟨makeS_ok h.ok _ _, inv_make h.inv _ _, ⟨hl.1.trans h.lh.1, hl.2.trans h.lh.2⟩, h.hN, ?_, ?_, ?_⟩
  · unfold Sto.makeS
    split
    · rename_i c
      obtain ⟨k, e1, hk, _, e2, _, e3⟩ := nextE_ok c
      split
      · rename_i e
        have ha := h.alloc (layE_alloc e)
        intro i hi
        refine upd_lt (P := fun e : En => mayN e = true) h.w _ ?_ i hi
        rw [e2]
        exact may_new (h.w k hk) ((mkB_iff z).1 e3) (by omega) (by have := h.hN; omega)
      · exact h.w
    · exact h.w
  · unfold Sto.makeS
    repeat' split
    all_goals exact h.b
  · unfold Sto.makeS
    repeat' split
    all_goals exact h.k
theorem Good.end {N : Nat} {S : Sto} (h : Good N S) (z : Int) : Good N (S.endS z) := by
  have hl := lohi_end S z
  refine ⟨endS_ok h.ok _, inv_end h.inv _, ⟨hl.1.trans h.lh.1, hl.2.trans h.lh.2⟩, h.hN, ?_, ?_, ?_⟩
  · unfold Sto.endS
    split
    · rename_i c
      have hf := findE_ok c
      intro i hi
      exact upd_lt (P := fun e : En => mayN e = true) h.w _ (may_end (h.w z.toNat (by omega))) i hi
    · exact h.w
  · unfold Sto.endS; split <;> exact h.b
  · unfold Sto.endS; split <;> exact h.k
theorem Good.ch {N : Nat} {S : Sto} (h : Good N S) (A : Mm) (p : OOp) : Good N (chS S A p) := by
  unfold chS; split
  · exact h.set _ _ _ _
  · split
    · exact h.make _ _
    · exact h.end _
theorem Good.mark {N : Nat} {S : Sto} (h : Good N S) : Good N S.markS := by
  have hl := lohi_mark S
  refine ⟨markS_ok h.ok, inv_mark h.inv, ⟨hl.1.trans h.lh.1, hl.2.trans h.lh.2⟩, h.hN, ?_, ?_, ?_⟩
  all_goals unfold Sto.markS; split
  · exact h.w
  · exact h.w
  · exact h.b
  · exact h.b
  · exact h.k
  · exact h.w
theorem Good.unmark {N : Nat} {S : Sto} (h : Good N S) : Good N S.unmarkS :=
  ⟨unmarkS_ok h.ok, inv_unmark h.inv, h.lh, h.hN, h.w, h.b, fun _ _ => may_ze⟩
theorem Good.abort {N : Nat} {S : Sto} (h : Good N S) : Good N S.abortS := by
  unfold Sto.abortS; split
  · exact h.unmark
  · exact h
theorem Good.commit {N : Nat} {S : Sto} (h : Good N S) (d : Nat → Int) (hd : ∀ i, i < 8 → S.F.tk (d i)) (hdw : ∀ i j, i < 8 → j < 49 → (S.w j).k ≠ 0 → d i ≠ (S.w j).l) : Good N (S.commitS d) := by
  have hl := lohi_commit S d
  refine ⟨commitS_ok h.ok _, inv_commit h.inv d hd hdw, ⟨hl.1.trans h.lh.1, hl.2.trans h.lh.2⟩, h.hN, ?_, ?_, ?_⟩
  all_goals unfold Sto.commitS; split
  · exact h.w
  · exact h.w
  · exact h.k
  · exact h.b
  · exact fun _ _ => may_ze
  · exact h.k
theorem may_tbl (n : Nat) (hn : n < 49) : ∀ i, i < 49 → mayN (tblF n i) = true := fun i hi => by
  unfold tblF
  split
  · refine (mayN_iff _).2 ?_
    simp only
    omega
  · exact may_ze
theorem good_start (n N : Nat) (hn : n < 31) (h1 : 64 ≤ N) (h2 : N ≤ 1024) : Good N (sS n N) :=
  ⟨sS_ok n N (by omega) h2, inv_sS N h1 n hn, sS_lo n N, h2, may_tbl n (by omega), may_tbl n (by omega), fun _ _ => may_ze⟩

/-! ### how many frames are left -/
theorem left_free (F : Fr) (i : Nat) : F.left ≤ (F.put i 0).left := by
  unfold Fr.left Fr.leftTo
  show (List.range F.hi).countP F.fr ≤ (List.range F.hi).countP (F.put i 0).fr
  apply List.countP_mono_left
  intro j _ hj
  have := fr_iff.1 hj
  refine fr_iff.2 ⟨this.1, ?_⟩
  show upd F.s i 0 j = 0
  unfold upd; split
  · rfl
  · exact this.2
theorem left_took (S : Sto) : S.F.left ≤ S.took.F.left + 1 := by
  show S.F.left ≤ S.F.allocA.left + 1
  by_cases h : S.F.allocE = 0
  · rw [left_alloc h]; exact Nat.le_refl _
  · rw [(alloc_none h).1]; omega
theorem left_ch (S : Sto) (A : Mm) (p : OOp) : S.F.left ≤ (chS S A p).F.left + 1 := by
  have ht := left_took S
  unfold chS
  split
  · unfold Sto.setS
    repeat' split
    all_goals first | exact Nat.le_succ _ | exact ht
  · split
    · unfold Sto.makeS
      repeat' split
      all_goals first | exact Nat.le_succ _ | exact ht
    · unfold Sto.endS
      split
      · show S.F.left ≤ (S.endF _).left + 1
        unfold Sto.endF
        split
        · unfold Fr.turnA
          split
          · have := left_free S.F (S.line ((kindN p.id 20 : Nat) : Int)).toNat
            omega
          · omega
        · omega
      · omega

end Go.Proofs.YtiafhcgaikapcaaGreat


/-
  A checkpoint's steps on a memory whose power stays on: each is done, or no frame is free; what there is stays. No program.
-/
namespace Go.Proofs.YtiafhcgaikapcaaGreat
set_option linter.unusedVariables false

/-! ### flush, fence, a line written, the superblock -/
theorem calm_put {S : Sto} {A : Mm} (hc : Calm A) (hN : S.F.hi ≤ A.n) (l : List Int) :
    (putE S A l = 0 ∨ (putE S A l = 10 ∧ S.F.allocE ≠ 0)) ∧ (S.F.allocE = 0 → putE S A l = 0) ∧ Calm (putM S A l) ∧ ∀ y, S.F.tk y → (putM S A l).hasZ y = A.hasZ y := by
  unfold putE putM
  by_cases ha : S.F.allocE = 0
  · rw [if_pos ha, if_pos ha]
    have hz := isZ_isF (A := A) hN (isF_new ha)
    obtain ⟨h1, h2, h3, h4⟩ := calm_lay hc hz (listF l) 8 (Nat.le_refl _)
    rw [if_pos h2, if_pos h2]
    have hz2 : (layP A S.F.allocV (listF l) 8).1.isZ S.F.allocV := by unfold Mm.isZ; rw [layP_n]; exact hz
    obtain ⟨f1, f2, f3⟩ := calm_flush h1 hz2
    refine ⟨Or.inl f1, fun _ => f1, f2, fun y hy => ?_⟩
    have hy1 := isZ_isF (A := A) hN hy.1
    rw [f3 y (by unfold Mm.isZ; rw [layP_n]; exact hy1)]
    exact h3 y hy1 (tk_ne ha hy)
  · rw [if_neg ha, if_neg ha]
    exact ⟨Or.inr ⟨(alloc_none ha).2.1, ha⟩, fun h => absurd h ha, hc, fun _ _ => rfl⟩
/-! ### a checkpoint that is under way -/
structure Way (S : Sto) (K : Wk) : Prop where
  is : S.is = true
  k : K.k = S.k
  d : ∀ i, i < 8 → S.F.tk (K.d i)
  dw : ∀ i j, i < 8 → j < 49 → (S.w j).k ≠ 0 → K.d i ≠ (S.w j).l
  l : ∀ p ∈ K.l, (p.1 = 1 ∧ hasB S.k p.2 = true) ∨ (p.1 = 2 ∧ 0 ≤ p.2 ∧ p.2 < 7) ∨ p = (3, 7) ∨ p = (4, 0) ∨ p = (5, 0)
  sup : K.b.length = 4 ∧ 1 ≤ K.gen ∧ K.gen < two40 ∧ (K.sl = 0 ∨ K.sl = 1) ∧ 1 ≤ K.b.getD 3 0 ∧ K.b.getD 3 0 ≤ 8 ∧ 0 ≤ K.q ∧ K.q ≤ two40
theorem way_root {N : Nat} {S : Sto} {K : Wk} (g : Good N S) (h : Way S K) : mayT (tab7 K.d) = true := by
  rw [mayT_iff]
  intro i hi
  rw [tab7_get _ _ hi]
  have := (h.d i (by omega)).1
  have h1 := this.1
  have h2 := this.2
  rw [g.lh.1] at h1; rw [g.lh.2] at h2
  have := g.hN
  omega
theorem way_leaf {N : Nat} {S : Sto} {K : Wk} (g : Good N S) (h : Way S K) (k : Nat) (hk : k < 7) : mayX (partT (rowE 49 K.k) k) = true := by
  rw [mayX_iff]
  intro i hi
  rw [partT_at _ _ _ hi, rowE_at 49 _ _ (by omega), h.k]
  exact g.k _ (by omega)
theorem way_sup {N : Nat} {S : Sto} {K : Wk} (g : Good N S) (h : Way S K) : mayS K.next = true := by
  obtain ⟨s1, s2, s3, s4, s5, s6, s7, s8⟩ := h.sup
  have hd := (h.d 7 (by decide)).1
  have h1 := hd.1
  have h2 := hd.2
  rw [g.lh.1] at h1; rw [g.lh.2] at h2
  have := g.hN
  unfold two40 at s3 s8
  rw [mayS_iff]
  show 1 ≤ K.gen + 1 ∧ K.gen + 1 ≤ 1099511627776 ∧ 0 ≤ K.d 7 ∧ K.d 7 < 1024 ∧ 0 ≤ K.q ∧ K.q ≤ 1099511627776 ∧ 1 ≤ K.b.getD 3 0 ∧ K.b.getD 3 0 ≤ 8
  omega
theorem way_fine {N : Nat} {S : Sto} {K : Wk} (g : Good N S) (h : Way S K) {p : Nat × Int} (hp : p ∈ K.l) : K.fine p := by
  obtain ⟨s1, s2, s3, s4, s5, s6, s7, s8⟩ := h.sup
  unfold two40 at s3
  rcases h.l p hp with c | c | c | c | c
  · exact Or.inl c.1
  · refine Or.inr (Or.inl ⟨c.1, c.2.1, c.2.2, ?_⟩)
    unfold leafKE leafE
    rw [if_pos ⟨c.2.1, c.2.2⟩, if_pos (way_leaf g h _ (by omega))]
  · refine Or.inr (Or.inr (Or.inl ⟨c, ?_⟩))
    unfold rootE
    rw [if_pos (way_root g h)]
  · exact Or.inr (Or.inr (Or.inr (Or.inl (by rw [c]))))
  · refine Or.inr (Or.inr (Or.inr (Or.inr ⟨by rw [c], ⟨by omega, by omega⟩, by omega, by omega⟩)))
/-- What a step on a memory whose power stays on leaves. -/
structure Did (N : Nat) (S : Sto) (A : Mm) (K : Wk) (p : Nat × Int) : Prop where
  e : K.doE S A p = 0 ∨ (K.doE S A p = 10 ∧ S.F.allocE ≠ 0 ∧ isPut p = true)
  e0 : S.F.allocE = 0 → K.doE S A p = 0
  calm : Calm (K.doM S A p)
  n : (K.doM S A p).n = N
  w : (K.doS S A p).w = S.w
  has : ∀ y, S.F.tk y → (K.doM S A p).hasZ y = A.hasZ y
theorem way_did {N : Nat} {S : Sto} {A : Mm} {K : Wk} (g : Good N S) (hc : Calm A) (hn : A.n = N) (h64 : 64 ≤ N) (h : Way S K) {p : Nat × Int} (hp : p ∈ K.l) : Did N S A K p := by
  have hN : S.F.hi ≤ A.n := by rw [g.lh.2, hn]; exact Nat.le_refl _
  have hnM : (K.doM S A p).n = N := (doM_n _ _ _ _).trans hn
  have tz : ∀ y, S.F.tk y → A.isZ y := fun y hy => isZ_isF hN hy.1
  rcases h.l p hp with c | c | c | c | c
  · have e1 : K.doE S A p = A.flushE 0 p.2 := by unfold Wk.doE; rw [if_pos c.1]
    have e2 : K.doM S A p = A.flushZ 0 p.2 := by unfold Wk.doM; rw [if_pos c.1]
    have e3 : K.doS S A p = S := by unfold Wk.doS; rw [if_pos c.1]
    obtain ⟨f1, f2, f3⟩ := calm_flush hc (tz _ (hasB_tk g.inv.tm c.2))
    exact ⟨Or.inl (e1.trans f1), fun _ => e1.trans f1, by rw [e2]; exact f2, hnM, by rw [e3], fun y hy => by rw [e2]; exact f3 y (tz y hy)⟩
  · have hq : ¬ p.1 = 1 := by omega
    have e1 : K.doE S A p = putE S A (K.line p) := by unfold Wk.doE; rw [if_neg hq, if_pos (Or.inl c.1)]
    have e2 : K.doM S A p = putM S A (K.line p) := by unfold Wk.doM; rw [if_neg hq, if_pos (Or.inl c.1)]
    have e3 : K.doS S A p = S.took := by unfold Wk.doS; rw [if_neg hq, if_pos (Or.inl c.1)]
    obtain ⟨f1, f2, f3, f4⟩ := calm_put hc hN (K.line p)
    refine ⟨?_, fun ha => e1.trans (f2 ha), by rw [e2]; exact f3, hnM, by rw [e3]; rfl, fun y hy => by rw [e2]; exact f4 y hy⟩
    rw [e1]
    exact f1.imp id fun q => ⟨q.1, q.2, by unfold isPut; rw [c.1]; rfl⟩
  · have hq : ¬ p.1 = 1 := by rw [c]; decide
    have h3 : p.1 = 3 := by rw [c]
    have e1 : K.doE S A p = putE S A (K.line p) := by unfold Wk.doE; rw [if_neg hq, if_pos (Or.inr h3)]
    have e2 : K.doM S A p = putM S A (K.line p) := by unfold Wk.doM; rw [if_neg hq, if_pos (Or.inr h3)]
    have e3 : K.doS S A p = S.took := by unfold Wk.doS; rw [if_neg hq, if_pos (Or.inr h3)]
    obtain ⟨f1, f2, f3, f4⟩ := calm_put hc hN (K.line p)
    refine ⟨?_, fun ha => e1.trans (f2 ha), by rw [e2]; exact f3, hnM, by rw [e3]; rfl, fun y hy => by rw [e2]; exact f4 y hy⟩
    rw [e1]
    exact f1.imp id fun q => ⟨q.1, q.2, by unfold isPut; rw [h3]; rfl⟩
  · have h4 : p.1 = 4 := by rw [c]
    have e1 : K.doE S A p = A.fenceE 0 := by unfold Wk.doE; rw [if_neg (by omega), if_neg (by omega), if_pos h4]
    have e2 : K.doM S A p = A.fenceZ 0 := by unfold Wk.doM; rw [if_neg (by omega), if_neg (by omega), if_pos h4]
    have e3 : K.doS S A p = S := by unfold Wk.doS; rw [if_neg (by omega), if_neg (by omega), if_pos h4]
    obtain ⟨f1, f2, f3⟩ := calm_fence hc
    exact ⟨Or.inl (e1.trans f1), fun _ => e1.trans f1, by rw [e2]; exact f2, hnM, by rw [e3], fun y hy => by rw [e2]; exact f3 y (tz y hy)⟩
  · have h5 : p.1 = 5 := by rw [c]
    obtain ⟨s1, s2, s3, s4, s5⟩ := h.sup
    obtain ⟨k, hk, hk2⟩ : ∃ k : Nat, 1 - K.sl = (k : Int) ∧ k < 2 := ⟨(1 - K.sl).toNat, by omega, by omega⟩
    obtain ⟨w1, w2, w3⟩ := wrote_free A hc.1 hc.2 (by omega) 0 (by unfold is8; omega) (1 - K.sl) k hk hk2 K.next (way_sup g h)
    have hD : S.doneE = 0 := by unfold Sto.doneE; rw [h.is]; rfl
    have e1 : K.doE S A p = 0 := by unfold Wk.doE; rw [if_neg (by omega), if_neg (by omega), if_neg (by omega), if_pos w1, hD]
    have e2 : K.doM S A p = A.writeZ 0 (1 - K.sl) K.next := by unfold Wk.doM; rw [if_neg (by omega), if_neg (by omega), if_neg (by omega)]
    have e3 : K.doS S A p = S.commitS K.d := by unfold Wk.doS; rw [if_neg (by omega), if_neg (by omega), if_neg (by omega), if_pos w1]
    have hc2 : Calm (A.writeZ 0 (1 - K.sl) K.next) := ⟨w2, w3⟩
    refine ⟨Or.inl e1, fun _ => e1, by rw [e2]; exact hc2, hnM, ?_, fun y hy => ?_⟩
    · rw [e3]; unfold Sto.commitS; split <;> rfl
    · have hy1 := tz y hy
      have hy2 : (A.writeZ 0 (1 - K.sl) K.next).isZ y := by unfold Mm.isZ; rw [writeZ_n]; exact hy1
      rw [e2, has_of hc2 hy2, has_of hc hy1]
      refine write_other A _ _ _ ?_
      have := hy.1.1
      rw [g.lh.1] at this
      omega

end Go.Proofs.YtiafhcgaikapcaaGreat


/-
  A checkpoint from its beginning to its end, on a memory whose power stays on. No program.
-/
namespace Go.Proofs.YtiafhcgaikapcaaGreat
set_option linter.unusedVariables false

theorem dfTo_mem (a b : List Int) (j : Nat) (z : Int) : z ∈ dfTo a b j ↔ ∃ k : Nat, k < j ∧ dfB a b k = true ∧ z = (k : Int) := by
  unfold dfTo
  rw [List.mem_map]
  constructor
  · rintro ⟨k, hk, rfl⟩
    rw [List.mem_filter, List.mem_range] at hk
    exact ⟨k, hk.1, hk.2, rfl⟩
  · rintro ⟨k, h1, h2, rfl⟩
    exact ⟨k, List.mem_filter.2 ⟨List.mem_range.2 h1, h2⟩, rfl⟩
theorem stepsOf_mem (mk bt : Nat → En) (p : Nat × Int) : p ∈ stepsOf mk bt ↔ (p.1 = 1 ∧ ∃ i, i < 49 ∧ (mk i).k ≠ 0 ∧ (mk i).l = p.2 ∧ hasB bt p.2 = false) ∨ (p.1 = 2 ∧ ∃ k : Nat, k < 7 ∧ dfB (rowE 49 mk) (rowE 49 bt) k = true ∧ p.2 = (k : Int)) ∨ p = (3, 7) ∨ p = (4, 0) ∨ p = (5, 0) := by
  unfold stepsOf leafSteps lastSteps
  rw [List.mem_append, List.mem_append, objSteps_mem, List.mem_map]
  constructor
  · rintro ((h | ⟨z, hz, rfl⟩) | h)
    · exact Or.inl h
    · exact Or.inr (Or.inl ⟨rfl, (dfTo_mem _ _ _ _).1 hz⟩)
    · simp at h; exact Or.inr (Or.inr h)
  · rintro (h | ⟨h1, h2⟩ | h)
    · exact Or.inl (Or.inl h)
    · refine Or.inl (Or.inr ⟨p.2, (dfTo_mem _ _ _ _).2 h2, ?_⟩)
      rw [← h1]
    · right; simpa using h
def firsts (mk bt : Nat → En) : List (Nat × Int) := objSteps mk bt 49 ++ leafSteps (dfTo (rowE 49 mk) (rowE 49 bt) 7) ++ [(3, 7), (4, 0)]
theorem stepsOf_last (mk bt : Nat → En) : stepsOf mk bt = firsts mk bt ++ [(5, 0)] := by unfold stepsOf firsts lastSteps; simp
theorem firsts_no5 (mk bt : Nat → En) : ∀ p ∈ firsts mk bt, p.1 ≠ 5 := by
  intro p hp
  unfold firsts leafSteps at hp
  rw [List.mem_append, List.mem_append, objSteps_mem, List.mem_map] at hp
  rcases hp with (h | ⟨z, hz, rfl⟩) | h
  · omega
  · show (2 : Nat) ≠ 5; decide
  · simp at h
    rcases h with rfl | rfl <;> decide
/-- The superblock is the last step. -/
theorem last_five {mk bt : Nat → En} {pre r : List (Nat × Int)} {p : Nat × Int} (h : pre ++ p :: r = stepsOf mk bt) : p.1 = 5 ↔ r = [] := by
  rw [stepsOf_last] at h
  constructor
  · intro h5
    rcases List.eq_nil_or_concat r with e | ⟨r', q, e⟩
    · exact e
    · exfalso
      subst e
      have h2 : (pre ++ p :: r') ++ [q] = firsts mk bt ++ [(5, 0)] := by rw [← h]; simp
      have h3 := (List.append_inj' h2 rfl).1
      exact firsts_no5 mk bt p (by rw [← h3]; simp) h5
  · rintro rfl
    have h2 := (List.append_inj' h rfl).2
    simp at h2
    rw [h2]
theorem puts_len (mk bt : Nat → En) : (stepsOf mk bt).countP isPut ≤ 8 := by
  unfold stepsOf lastSteps
  rw [List.countP_append, List.countP_append]
  have h1 : (objSteps mk bt 49).countP isPut = 0 := by
    rw [List.countP_eq_zero]
    intro p hp
    have := ((objSteps_mem mk bt 49 p).1 hp).1
    unfold isPut; rw [this]; decide
  have h2 : (leafSteps (dfTo (rowE 49 mk) (rowE 49 bt) 7)).countP isPut ≤ 7 := by
    refine Nat.le_trans List.countP_le_length ?_
    unfold leafSteps
    rw [List.length_map]
    exact dfTo_len _ _ _
  have h3 : ([(3, 7), (4, 0), (5, 0)] : List (Nat × Int)).countP isPut = 1 := by decide
  omega

/-! ### Begin -/
structure Sup (K : Wk) : Prop where
  len : K.b.length = 4
  g1 : 1 ≤ K.gen
  g2 : K.gen < two40
  sl : K.sl = 0 ∨ K.sl = 1
  c1 : 1 ≤ K.b.getD 3 0
  c2 : K.b.getD 3 0 ≤ 8
theorem way_begin {N : Nat} {S : Sto} {K : Wk} {z : Int} (g : Good N S) (hl : K.l = []) (hs : Sup K) (hz : 0 ≤ z ∧ z ≤ two40) (hi : S.is = false) :
    K.beginE S z = 0 ∧ K.beginS S z = S.markS ∧ K.beginK S z = ⟨K.b, K.sl, z, S.w, S.d, stepsOf S.w S.b⟩ ∧ Way S.markS (K.beginK S z) := by
  have ha : K.argB z = true := by
    unfold Wk.argB
    exact decide_eq_true ⟨hz.1, hz.2, by have := hs.g2; omega⟩
  have eM : S.markE = 0 := by unfold Sto.markE; rw [hi]; rfl
  have eS : S.markS = ⟨S.F, S.w, S.b, S.d, S.w, true⟩ := by unfold Sto.markS; rw [hi]; rfl
  have e1 : K.beginE S z = 0 := by unfold Wk.beginE; rw [if_neg (by simpa using hl), if_pos ha, eM]
  have e2 : K.beginS S z = S.markS := by unfold Wk.beginS; rw [if_pos ⟨hl, ha⟩]
  have e3 : K.beginK S z = ⟨K.b, K.sl, z, S.w, S.d, stepsOf S.w S.b⟩ := by unfold Wk.beginK; rw [if_pos ⟨hl, ha, hi⟩]
  refine ⟨e1, e2, e3, ?_⟩
  rw [e3, eS]
  refine ⟨rfl, rfl, g.inv.td, fun i j hi hj hk => g.inv.dw i j hi hj hk, fun p hp => ?_, hs.len, hs.g1, hs.g2, hs.sl, hs.c1, hs.c2, hz.1, hz.2⟩
  rcases (stepsOf_mem _ _ _).1 hp with ⟨h1, i, hi', hk, hl', _⟩ | ⟨h1, k, hk, _, h2⟩ | h
  · exact Or.inl ⟨h1, (hasB_iff _ _).2 ⟨i, hi', hk, hl'⟩⟩
  · exact Or.inr (Or.inl ⟨h1, by omega, by omega⟩)
  · exact Or.inr (Or.inr h)

/-! ### what is changed in between -/
theorem fixed_ch (S : Sto) (A : Mm) (p : OOp) : fixed (chS S A p) S := by
  unfold chS
  split
  · unfold Sto.setS; repeat' split
    all_goals exact ⟨rfl, rfl, rfl, rfl⟩
  · split
    · unfold Sto.makeS; repeat' split
      all_goals exact ⟨rfl, rfl, rfl, rfl⟩
    · unfold Sto.endS; split <;> exact ⟨rfl, rfl, rfl, rfl⟩
/-- A line that is taken, and no object's. -/
def Priv (S : Sto) (z : Int) : Prop := S.F.tk z ∧ ∀ j, j < 49 → (S.w j).k ≠ 0 → z ≠ (S.w j).l
theorem priv_took {S : Sto} {z : Int} (h : Priv S z) : Priv S.took z := ⟨tk_alloc h.1, h.2⟩
theorem priv_new {S : Sto} {z : Int} (h : Priv S z) (ha : S.F.allocE = 0) (n : Nat) (x : En) (hx : x.l = S.F.allocV) : Priv (S.took.withW n x) z := by
  refine ⟨tk_alloc h.1, fun j hj hk => ?_⟩
  have hk' : (upd S.w n x j).k ≠ 0 := hk
  show z ≠ (upd S.w n x j).l
  unfold upd at hk' ⊢
  split
  · rw [hx]; exact tk_ne ha h.1
  · rename_i e
    rw [if_neg e] at hk'
    exact h.2 j hj hk'
theorem priv_ch {S : Sto} {z : Int} (h : Priv S z) (A : Mm) (p : OOp) : Priv (chS S A p) z := by
  unfold chS
  split
  · unfold Sto.setS
    split
    · split
      · exact h
      · split
        · split
          · rename_i e; exact priv_new h (layE_alloc e) _ _ rfl
          · exact priv_took h
        · exact h
    · exact h
  · split
    · unfold Sto.makeS
      split
      · split
        · rename_i e; exact priv_new h (layE_alloc e) _ _ rfl
        · exact priv_took h
      · exact h
    · unfold Sto.endS
      split
      · rename_i c
        obtain ⟨z0, z1, hk⟩ := findE_ok c
        refine ⟨?_, fun j hj hkj => ?_⟩
        · show (S.endF _).tk z
          unfold Sto.endF
          split
          · have hne := h.2 _ (by omega) hk
            unfold Fr.turnA
            split
            · rename_i hst
              by_cases h0 : 0 ≤ S.line ((kindN p.id 20 : Nat) : Int)
              · exact tk_put h.1 h0 hne 0
              · exfalso
                unfold Fr.st at hst
                rw [if_neg (fun q : S.F.isF _ => h0 (by have := q.1; omega))] at hst
                exact absurd hst (by decide)
            · exact h.1
          · exact h.1
        · have hk' : (upd S.w ((kindN p.id 20 : Nat) : Int).toNat (endV (S.w ((kindN p.id 20 : Nat) : Int).toNat)) j).k ≠ 0 := hkj
          show z ≠ (upd S.w ((kindN p.id 20 : Nat) : Int).toNat (endV (S.w ((kindN p.id 20 : Nat) : Int).toNat)) j).l
          unfold upd at hk' ⊢
          split
          · rename_i e
            rw [if_pos e] at hk'
            unfold endV at hk'
            split at hk'
            · exact absurd rfl hk'
            · exact absurd rfl hk'
          · rename_i e
            rw [if_neg e] at hk'
            exact h.2 j hj hk'
      · exact h
theorem way_ch {S : Sto} {K : Wk} (h : Way S K) (A : Mm) (p : OOp) : Way (chS S A p) K := by
  obtain ⟨f1, f2, f3, f4⟩ := fixed_ch S A p
  have hp := fun i hi => priv_ch ⟨h.d i hi, fun j hj hk => h.dw i j hi hj hk⟩ A p
  exact ⟨f4.trans h.is, h.k.trans f3.symm, fun i hi => (hp i hi).1, fun i j hi hj hk => (hp i hi).2 j hj hk, fun q hq => by rw [f3]; exact h.l q hq, h.sup⟩

/-! ### a step -/
theorem way_step {N : Nat} {S : Sto} {A : Mm} {K : Wk} {p : Nat × Int} {r : List (Nat × Int)} (g : Good N S) (h : Way S K) (hl : K.l = p :: r) (hE : K.doE S A p = 0) (h5 : p.1 ≠ 5) :
    Way (K.doS S A p) ((K.doK S A p).less r) ∧ Good N (K.doS S A p) ∧ (K.doS S A p).b = S.b ∧ (K.doS S A p).d = S.d ∧ (K.doS S A p).is = S.is ∧ (K.doS S A p).k = S.k ∧ ((K.doK S A p).less r).b = K.b ∧ ((K.doK S A p).less r).sl = K.sl ∧ ((K.doK S A p).less r).q = K.q ∧ (S.F.left ≤ (K.doS S A p).F.left + (if isPut p then 1 else 0)) := by
  have hp : p ∈ K.l := by rw [hl]; exact List.mem_cons_self
  have hr : ∀ q ∈ r, q ∈ K.l := fun q hq => by rw [hl]; exact List.mem_cons_of_mem _ hq
  have stay : K.doS S A p = S → K.doK S A p = K → Way (K.doS S A p) ((K.doK S A p).less r) ∧ Good N (K.doS S A p) ∧ (K.doS S A p).b = S.b ∧ (K.doS S A p).d = S.d ∧ (K.doS S A p).is = S.is ∧ (K.doS S A p).k = S.k ∧ ((K.doK S A p).less r).b = K.b ∧ ((K.doK S A p).less r).sl = K.sl ∧ ((K.doK S A p).less r).q = K.q ∧ (S.F.left ≤ (K.doS S A p).F.left + (if isPut p then 1 else 0)) := fun e1 e2 => by
    rw [e1, e2]
    exact ⟨⟨h.is, h.k, h.d, h.dw, fun q hq => h.l q (hr q hq), h.sup⟩, g, rfl, rfl, rfl, rfl, rfl, rfl, rfl, Nat.le_add_right _ _⟩
  have put : p.1 = 2 ∨ p.1 = 3 → p.2.toNat < 8 → Way (K.doS S A p) ((K.doK S A p).less r) ∧ Good N (K.doS S A p) ∧ (K.doS S A p).b = S.b ∧ (K.doS S A p).d = S.d ∧ (K.doS S A p).is = S.is ∧ (K.doS S A p).k = S.k ∧ ((K.doK S A p).less r).b = K.b ∧ ((K.doK S A p).less r).sl = K.sl ∧ ((K.doK S A p).less r).q = K.q ∧ (S.F.left ≤ (K.doS S A p).F.left + (if isPut p then 1 else 0)) := fun h23 h8 => by
    have hq : ¬ p.1 = 1 := by omega
    have e1 : K.doE S A p = putE S A (K.line p) := by unfold Wk.doE; rw [if_neg hq, if_pos h23]
    have e2 : K.doS S A p = S.took := by unfold Wk.doS; rw [if_neg hq, if_pos h23]
    rw [e1] at hE
    have e3 : K.doK S A p = ⟨K.b, K.sl, K.q, K.k, upd K.d p.2.toNat S.F.allocV, K.l⟩ := by unfold Wk.doK Wk.put; rw [if_neg hq, if_pos h23, if_pos hE]
    have ha : S.F.allocE = 0 := by
      rcases Classical.em (S.F.allocE = 0) with q | q
      · exact q
      · unfold putE at hE; rw [if_neg q] at hE; exact absurd hE q
    have hput : isPut p = true := by unfold isPut; rcases h23 with e | e <;> rw [e] <;> rfl
    rw [e2, e3]
    refine ⟨⟨h.is, h.k, fun i hi => ?_, fun i j hi hj hk => ?_, fun q hq => h.l q (hr q hq), h.sup⟩, g.took, rfl, rfl, rfl, rfl, rfl, rfl, rfl, by rw [if_pos hput]; exact left_took S⟩
    · show S.F.allocA.tk (upd K.d p.2.toNat S.F.allocV i)
      unfold upd; split
      · exact tk_new ha
      · exact tk_alloc (h.d i hi)
    · show upd K.d p.2.toNat S.F.allocV i ≠ (S.w j).l
      have hk' : (S.w j).k ≠ 0 := hk
      unfold upd; split
      · exact (tk_ne ha (g.inv.tw j hj hk')).symm
      · exact h.dw i j hi hj hk'
  rcases h.l p hp with c | c | c | c | c
  · exact stay (by unfold Wk.doS; rw [if_pos c.1]) (by unfold Wk.doK; rw [if_pos c.1])
  · exact put (Or.inl c.1) (by omega)
  · exact put (Or.inr (by rw [c])) (by rw [c]; decide)
  · have h4 : p.1 = 4 := by rw [c]
    exact stay (by unfold Wk.doS; rw [if_neg (by omega), if_neg (by omega), if_pos h4]) (by unfold Wk.doK; rw [if_neg (by omega), if_neg (by omega), if_pos h4])
  · exact absurd (by rw [c]) h5
theorem way_last {N : Nat} {S : Sto} {A : Mm} {K : Wk} {p : Nat × Int} (g : Good N S) (h : Way S K) (hp : p ∈ K.l) (hE : K.doE S A p = 0) (h5 : p.1 = 5) :
    K.doS S A p = S.commitS K.d ∧ Good N (S.commitS K.d) ∧ (S.commitS K.d).b = S.k ∧ (S.commitS K.d).d = K.d ∧ (S.commitS K.d).is = false ∧ (S.commitS K.d).w = S.w ∧ K.doK S A p = ⟨K.next, 1 - K.sl, K.q, K.k, K.d, K.l⟩ ∧ A.writeE 0 (1 - K.sl) K.next = 0 ∧ K.doM S A p = A.writeZ 0 (1 - K.sl) K.next := by
  have hD : S.doneE = 0 := by unfold Sto.doneE; rw [h.is]; rfl
  have e0 : K.doE S A p = if A.writeE 0 (1 - K.sl) K.next = 0 then S.doneE else A.writeE 0 (1 - K.sl) K.next := by unfold Wk.doE; rw [if_neg (by omega), if_neg (by omega), if_neg (by omega)]
  have hW : A.writeE 0 (1 - K.sl) K.next = 0 := by
    rw [e0] at hE
    split at hE
    · assumption
    · rename_i q; exact absurd hE q
  have eC : S.commitS K.d = (Sto.mk S.F S.w S.k K.d S.k S.is).unmarkS := by unfold Sto.commitS; rw [if_pos h.is]
  refine ⟨?_, g.commit K.d h.d h.dw, by rw [eC]; rfl, by rw [eC]; rfl, by rw [eC]; rfl, by rw [eC]; rfl, ?_, hW, ?_⟩
  · unfold Wk.doS; rw [if_neg (by omega), if_neg (by omega), if_neg (by omega), if_pos hW]
  · unfold Wk.doK; rw [if_neg (by omega), if_neg (by omega), if_neg (by omega), if_pos ⟨hW, hD⟩]
  · unfold Wk.doM; rw [if_neg (by omega), if_neg (by omega), if_neg (by omega)]

end Go.Proofs.YtiafhcgaikapcaaGreat


/-
  A checkpoint's phases, on a memory whose power stays on: under way, committed, or given up. No program.
-/
namespace Go.Proofs.YtiafhcgaikapcaaGreat
set_option linter.unusedVariables false

/-- What is so all the while: S0 and A0 are the store and the memory when it begins. -/
structure Cm (N : Nat) (S0 : Sto) (A0 : Mm) (S : Sto) (A : Mm) : Prop where
  good : Good N S
  calm : Calm A
  n : A.n = N
  w : S.w = S0.w
  has : ∀ i, i < 49 → (S0.w i).k ≠ 0 → A.hasZ (S0.w i).l = A0.hasZ (S0.w i).l
structure Under (fr : Bool) (S0 : Sto) (K0 : Wk) (S : Sto) (K : Wk) : Prop where
  way : Way S K
  mkd : S.k = S0.w
  pre : ∃ pre, pre ++ K.l = stepsOf S0.w S0.b
  ne : K.l ≠ []
  b : S.b = S0.b
  d : S.d = S0.d
  kb : K.b = K0.b
  ksl : K.sl = K0.sl
  left : fr = true → K.l.countP isPut ≤ S.F.left
structure Ended (S0 : Sto) (K0 : Wk) (S : Sto) (K : Wk) : Prop where
  l : K.l = []
  is : S.is = false
  b : S.b = S0.w
  g : K.gen = K0.gen + 1
  sl : K.sl = 1 - K0.sl
  len : K.b.length = 4
  c : K.b.getD 3 0 = K0.b.getD 3 0
structure Gone (S0 : Sto) (K0 : Wk) (S : Sto) (K : Wk) : Prop where
  l : K.l = []
  is : S.is = false
  b : S.b = S0.b
  d : S.d = S0.d
  kb : K.b = K0.b
  ksl : K.sl = K0.sl
def Ph (N : Nat) (fr : Bool) (S0 : Sto) (A0 : Mm) (K0 : Wk) (S : Sto) (A : Mm) (K : Wk) (e : Int) (l : Nat) : Prop :=
  Cm N S0 A0 S A ∧ ((e = 0 ∧ l = K.l.length ∧ Under fr S0 K0 S K) ∨ (e = 0 ∧ l = 0 ∧ Ended S0 K0 S K) ∨ (fr = false ∧ e = 10 ∧ l = 0 ∧ Gone S0 K0 S K))
section
variable {N : Nat} {fr : Bool} {S0 : Sto} {A0 : Mm} {K0 : Wk} {S : Sto} {A : Mm} {K : Wk} {e : Int} {l : Nat}
theorem Ph.len (h : Ph N fr S0 A0 K0 S A K e l) : K.l.length = l := by
  rcases h.2 with ⟨_, h2, _⟩ | ⟨_, h2, h3⟩ | ⟨_, _, h2, h3⟩
  · exact h2.symm
  · rw [h2, h3.l]; rfl
  · rw [h2, h3.l]; rfl
theorem Ph.start {z : Int} (g : Good N S0) (hc : Calm A0) (hn : A0.n = N) (hl : K0.l = []) (hs : Sup K0) (hz : 0 ≤ z ∧ z ≤ two40) (hi : S0.is = false) (hf : fr = true → 8 ≤ S0.F.left) :
    K0.beginE S0 z = 0 ∧ Ph N fr S0 A0 K0 (K0.beginS S0 z) A0 (K0.beginK S0 z) 0 (stepsOf S0.w S0.b).length := by
  obtain ⟨e1, e2, e3, e4⟩ := way_begin g hl hs hz hi
  have eS : S0.markS = ⟨S0.F, S0.w, S0.b, S0.d, S0.w, true⟩ := by unfold Sto.markS; rw [hi]; rfl
  refine ⟨e1, ?_⟩
  rw [e2, e3]
  rw [e3] at e4
  have h1 := puts_len S0.w S0.b
  have hne : stepsOf S0.w S0.b ≠ [] := by rw [stepsOf_last]; simp
  have hpre : ∃ pre, pre ++ stepsOf S0.w S0.b = stepsOf S0.w S0.b := ⟨[], List.nil_append _⟩
  have hb : S0.markS.b = S0.b := by rw [eS]
  have hd : S0.markS.d = S0.d := by rw [eS]
  have hw : S0.markS.w = S0.w := by rw [eS]
  have hk : S0.markS.k = S0.w := by rw [eS]
  have hF : S0.markS.F = S0.F := by rw [eS]
  have g' := g.mark
  clear eS e1 e2 e3
  generalize S0.markS = S1 at *
  refine ⟨⟨g', hc, hn, hw, fun i _ _ => rfl⟩, Or.inl ⟨rfl, ?_, ⟨e4, hk, ?_, ?_, hb, hd, rfl, rfl, fun q => ?_⟩⟩⟩
  · show (stepsOf S0.w S0.b).length = (stepsOf S0.w S0.b).length
    exact Eq.refl _
  · obtain ⟨pre, h⟩ := hpre
    exact ⟨pre, h⟩
  · exact hne
  · have h2 := hf q
    rw [hF]
    show (stepsOf S0.w S0.b).countP isPut ≤ S0.F.left
    omega
theorem Ph.fine (h : Ph N fr S0 A0 K0 S A K e l) : ∀ p r, K.l = p :: r → K.fine p := by
  intro p r hl
  rcases h.2 with ⟨_, _, u⟩ | ⟨_, _, h3⟩ | ⟨_, _, _, h3⟩
  · exact way_fine h.1.good u.way (by rw [hl]; exact List.mem_cons_self)
  · rw [h3.l] at hl; cases hl
  · rw [h3.l] at hl; cases hl
theorem Ph.step (h64 : 64 ≤ N) (h : Ph N fr S0 A0 K0 S A K 0 (l + 1)) :
    (K.stepE S A = 0 ∧ K.stepD S A = decide (l = 0) ∧ Ph N fr S0 A0 K0 (K.stepS S A) (K.stepM S A) (K.stepK S A) 0 l) ∨ (fr = false ∧ K.stepE S A = 10 ∧ K.stepD S A = false ∧ Ph N fr S0 A0 K0 (K.stepS S A) (K.stepM S A) (K.stepK S A) 10 0) := by
  obtain ⟨c, h⟩ := h
  rcases h with ⟨_, hlen, u⟩ | ⟨_, h2, _⟩ | ⟨_, h2, _⟩
  · obtain ⟨p, r, hl⟩ : ∃ p r, K.l = p :: r := List.exists_cons_of_ne_nil u.ne
    have hp : p ∈ K.l := by rw [hl]; exact List.mem_cons_self
    have hrl : l = r.length := by rw [hl] at hlen; simp at hlen; exact hlen
    obtain ⟨pre, hpre⟩ := u.pre
    have hpre' := hpre
    rw [hl] at hpre'
    have hlast := last_five hpre'
    have did := way_did c.good c.calm c.n h64 u.way hp
    have hcm : ∀ S', Good N S' → S'.w = S.w → Cm N S0 A0 S' (K.doM S A p) := fun S' g' hw => ⟨g', did.calm, did.n, hw.trans c.w, fun i hi hk => by
      rw [did.has _ (by have := c.good.inv.tw i hi (by rw [c.w]; exact hk); rw [c.w] at this; exact this)]
      exact c.has i hi hk⟩
    rw [stepE_cons hl, stepM_cons hl, stepS_cons hl, stepK_cons hl, stepD_cons hl]
    rcases did.e with hE | ⟨hE, hA, hP⟩
    · rw [hE, if_neg (by decide), if_neg (by decide), if_pos rfl]
      left
      by_cases h5 : p.1 = 5
      · have hr := hlast.1 h5
        obtain ⟨f1, f2, f3, f4, f5, f6, f7, f8, f9⟩ := way_last c.good u.way hp hE h5
        rw [f1, f7]
        subst hr
        refine ⟨rfl, by simp [hrl], hcm _ f2 f6, Or.inr (Or.inl ⟨rfl, hrl, rfl, f5, ?_, ?_, ?_, rfl, ?_⟩)⟩
        · rw [f3]; exact u.mkd
        · show K.gen + 1 = K0.gen + 1
          unfold Wk.gen; rw [u.kb]
        · show 1 - K.sl = 1 - K0.sl
          rw [u.ksl]
        · show K.b.getD 3 0 = _
          rw [u.kb]
      · have hr : r ≠ [] := fun q => h5 (hlast.2 q)
        obtain ⟨f1, f2, f3, f4, f5, f6, f7, f8, f9, f10⟩ := way_step c.good u.way hl hE h5
        have hl0 : l ≠ 0 := by
          intro q
          rw [q] at hrl
          exact hr (List.eq_nil_of_length_eq_zero hrl.symm)
        refine ⟨rfl, ?_, hcm _ f2 did.w, Or.inl ⟨rfl, hrl, f1, f6.trans u.mkd, ⟨pre ++ [p], ?_⟩, hr, f3.trans u.b, f4.trans u.d, f7.trans u.kb, f8.trans u.ksl, fun q => ?_⟩⟩
        · rw [decide_eq_false hl0, decide_eq_false (fun q => hr q.2)]
        · show (pre ++ [p]) ++ r = _
          rw [← hpre']; simp
        · have h1 := u.left q
          rw [hl, List.countP_cons] at h1
          show r.countP isPut ≤ (K.doS S A p).F.left
          by_cases hi : isPut p = true
          · rw [if_pos hi] at h1 f10; omega
          · rw [if_neg hi] at h1 f10; omega
    · rw [hE, if_pos rfl, if_pos rfl]
      right
      have hfr : fr = false := by
        cases hfr : fr with
        | false => rfl
        | true =>
          exfalso
          have h1 := u.left hfr
          rw [hl, List.countP_cons, if_pos hP] at h1
          have h2 := left_none hA
          omega
      have h23 : p.1 = 2 ∨ p.1 = 3 := by unfold isPut at hP; simpa using hP
      have e2 : K.doS S A p = S := by
        unfold Wk.doS
        rw [if_neg (by omega), if_pos h23]
        unfold Sto.took
        rw [(alloc_none hA).1]
      have e3 : K.doK S A p = K := by
        have e1 : K.doE S A p = putE S A (K.line p) := by unfold Wk.doE; rw [if_neg (by omega), if_pos h23]
        unfold Wk.doK Wk.put
        rw [if_neg (by omega), if_pos h23, if_neg (by rw [← e1, hE]; decide)]
      rw [e2, e3]
      have eA : S.abortS = S.unmarkS := by unfold Sto.abortS; rw [if_pos u.way.is]
      refine ⟨hfr, rfl, decide_eq_false (fun q => absurd q.1 (by decide)), hcm _ c.good.abort (by rw [eA]; rfl), Or.inr (Or.inr ⟨hfr, rfl, rfl, rfl, by rw [eA]; rfl, ?_, ?_, u.kb, u.ksl⟩)⟩
      · rw [eA]; exact u.b
      · rw [eA]; exact u.d
  · cases h2
  · cases h2
end

end Go.Proofs.YtiafhcgaikapcaaGreat


/-
  The document's examples (steadfastlaw11.shown); a step of a checkpoint, as the laws meet it.
-/
namespace Go.Proofs.YtiafhcgaikapcaaGreat
open Go.ChangeShapes Go.WideShapes Go.ChangeAt Go.RowKit Go.Joins
set_option maxRecDepth 100000
set_option linter.unusedVariables false
set_option linter.unusedSimpArgs false

/-- What a step leaves. -/
def StPost (N : Nat) (fr : Bool) (S0 : Sto) (A0 : Mm) (K0 : Wk) (W : World) (m b x : Nat) (St : Mm → World → (Nat → Prop) → Prop) (B l : Nat) (w : World) (G : Nat → Prop) (e : Ending) (w' : World) : Prop :=
  ∃ S A K E D l', e = .returned (.tuple #[.bool D, .int .i64 E]) ∧ WHas W m b x St S A K w' G ∧ Same G w w' ∧ A.ok (B + 11) ∧ Ph N fr S0 A0 K0 S A K E l' ∧ ((E = 0 ∧ D = decide (l = 0) ∧ l' = l) ∨ (fr = false ∧ E = 10 ∧ D = false ∧ l' = 0))
theorem ph_call {N : Nat} {fr : Bool} {S0 : Sto} {A0 : Mm} {K0 : Wk} {W w : World} {m b x : Nat} {St : Mm → World → (Nat → Prop) → Prop} {S : Sto} {A : Mm} {K : Wk} {G : Nat → Prop} {l B : Nat} (h64 : 64 ≤ N) (M : MemX W m St) (h : WHas W m b x St S A K w G) (hA : A.ok B) (hB : B ≤ 900) (hp : Ph N fr S0 A0 K0 S A K 0 (l + 1)) :
    Calls Tryz.prog 28 #[.pointer (some ⟨x, 0, none⟩)] w (StPost N fr S0 A0 K0 W m b x St B l w G) := by
  refine (wstep_any M h hp.1.good.ok (ok_mono hA hB) hp.fine).mono ?_
  rintro e w' ⟨rfl, h1, h2⟩
  rcases hp.step h64 with ⟨e1, e2, e3⟩ | ⟨e0, e1, e2, e3⟩
  · exact ⟨_, _, _, _, _, l, rfl, h1, h2, wstepM_ok hA K S, by rw [e1]; exact e3, Or.inl ⟨e1, e2, rfl⟩⟩
  · exact ⟨_, _, _, _, _, 0, rfl, h1, h2, wstepM_ok hA K S, by rw [e1]; exact e3, Or.inr ⟨e0, e1, e2, rfl⟩⟩
/-- A checkpoint of which nothing is left, for which frames sufficed, is committed. -/
theorem Ph.ended {N : Nat} {S0 : Sto} {A0 : Mm} {K0 : Wk} {S : Sto} {A : Mm} {K : Wk} (h : Ph N true S0 A0 K0 S A K 0 0) : Ended S0 K0 S K := by
  rcases h.2 with ⟨_, h1, u⟩ | ⟨_, _, h1⟩ | ⟨q, _⟩
  · exact absurd (List.eq_nil_of_length_eq_zero h1.symm) u.ne
  · exact h1
  · cases q
theorem sup_wk0 : Sup wk0 := ⟨rfl, by decide, by decide, Or.inl rfl, by decide, by decide⟩
theorem steps_3 : (stepsOf (sS 3 80).w (sS 3 80).b).length = 3 := by decide +kernel
theorem left_3 : 8 ≤ (sS 3 80).F.left := by decide +kernel

set_option maxHeartbeats 16000000 in
theorem zshown_any (W : World) : Calls Tryz.prog 8 #[] W fun e w' => e = .returned (.bool true) ∧ Keeps (fun _ => False) W w' := by
  have M := hide (Has.memX W)
  have CM := hide (zmade_any W W (Keeps.refl _ _) (fun _ => False) (fun _ h => h.elim) 80 3 (by decide) (by decide) (by decide))
  go_enter Tryz.func8, Tryz.ntmps8
  go_wp2_with fail
  refine (unhide CM).mono ?_
  rintro e w1 ⟨m, b, x, rfl, hw, -⟩
  have HW0 := hide hw
  clear hw CM
  have g0 := hide (good_start 3 80 (by decide) (by decide) (by decide))
  have a0 := hide (iA_ok 3 80 (by decide) (by decide))
  have CS := hide (wstep_any (unhide M m) (unhide HW0) (unhide g0).ok (ok_mono (unhide a0) (by decide)) (fun p r h => by cases h))
  obtain ⟨i1, i2, i3, i4, i5⟩ := step_idle (K := wk0) rfl (sS 3 80) (iA 3 80)
  rw [i1, i2, i3, i4, i5] at CS
  clear i1 i2 i3 i4 i5 HW0
  go_wp2_with fail
  refine (unhide CS).mono ?_
  rintro e w2 ⟨rfl, h1, -⟩
  have HW1 := hide h1
  have CB := hide (wbegin_any (unhide M m) h1 (-1))
  have b1 : wk0.beginE (sS 3 80) (-1) = 1 := by rfl
  have b2 : wk0.beginS (sS 3 80) (-1) = sS 3 80 := by rfl
  have b3 : wk0.beginK (sS 3 80) (-1) = wk0 := by rfl
  rw [b1, b2, b3] at CB
  clear b1 b2 b3 h1 HW1 CS
  go_wp2_with fail
  refine (unhide CB).mono ?_
  rintro e w3 ⟨rfl, h1, -⟩
  obtain ⟨s1, s2⟩ := Ph.start (N := 80) (fr := true) (A0 := iA 3 80) (K0 := wk0) (z := 0) (unhide g0) (calm_new _ _) rfl rfl sup_wk0 ⟨by decide, by decide⟩ rfl (fun _ => left_3)
  rw [steps_3] at s2
  have CB2 := hide (wbegin_any (unhide M m) h1 0)
  rw [s1] at CB2
  have HP := hide s2
  clear s1 s2 h1 CB
  have g0' := g0
  clear g0 g0'
  have HS0 : Hid (wk0.gen = 1) := rfl
  have HS1 : Hid (wk0.sl = 0) := rfl
  generalize wk0.beginS (sS 3 80) 0 = S1 at *
  generalize wk0.beginK (sS 3 80) 0 = K1 at *
  generalize sS 3 80 = S0 at *
  generalize iA 3 80 = A0 at *
  generalize wk0 = K0 at *
  go_wp2_with fail
  refine (unhide CB2).mono ?_
  rintro e w4 ⟨rfl, h1, -⟩
  have HW := hide h1
  have hlen := (unhide HP).len
  obtain ⟨sl, hwh⟩ := h1
  have CL := hide (wleft_any hwh)
  rw [hlen] at CL
  clear hwh hlen CB2
  go_wp2_with fail
  refine (unhide CL).mono ?_
  rintro e w4 ⟨rfl, rfl⟩
  have CS := hide (ph_call (by decide) (unhide M m) (unhide HW) (unhide a0) (by decide) (unhide HP))
  clear CL HW HP a0
  go_wp2_with fail
  refine (unhide CS).mono ?_
  rintro e w9 ⟨S, A, K, E, D, l', rfl, h1, h2, h3, h4, h5⟩
  rcases h5 with ⟨rfl, rfl, rfl⟩ | ⟨q, _⟩
  rotate_left
  · cases q
  clear CS
  have HW := hide h1
  have HA := hide h3
  have HP := hide h4
  clear h1 h2 h3 h4
  have CS := hide (ph_call (by decide) (unhide M m) (unhide HW) (unhide HA) (by decide) (unhide HP))
  clear HW HA HP
  go_wp2_with fail
  refine (unhide CS).mono ?_
  rintro e w9 ⟨S, A, K, E, D, l', rfl, h1, h2, h3, h4, h5⟩
  rcases h5 with ⟨rfl, rfl, rfl⟩ | ⟨q, _⟩
  rotate_left
  · cases q
  clear CS
  have HW := hide h1
  have HA := hide h3
  have HP := hide h4
  clear h1 h2 h3 h4
  have CS := hide (ph_call (by decide) (unhide M m) (unhide HW) (unhide HA) (by decide) (unhide HP))
  clear HW HA HP
  go_wp2_with fail
  refine (unhide CS).mono ?_
  rintro e w9 ⟨S, A, K, E, D, l', rfl, h1, h2, h3, h4, h5⟩
  rcases h5 with ⟨rfl, rfl, rfl⟩ | ⟨q, _⟩
  rotate_left
  · cases q
  clear CS
  have HW := hide h1
  have HA := hide h3
  have HP := hide h4
  clear h1 h2 h3 h4
  have HE := hide (unhide HP).ended
  obtain ⟨sl, hwh⟩ := unhide HW
  have HWH := hide hwh
  clear hwh HW
  obtain ⟨b0, b1, b2, b3, hb⟩ : ∃ b0 b1 b2 b3, K.b = [b0, b1, b2, b3] := by
    have := (unhide HE).len
    match hK : K.b, this with
    | [b0, b1, b2, b3], _ => exact ⟨b0, b1, b2, b3, rfl⟩
  have hb0 : b0 = 2 := by
    have h1 := (unhide HE).g
    unfold Wk.gen at h1
    rw [hb] at h1
    have h2 := unhide HS0
    unfold Wk.gen at h2
    rw [h2] at h1
    exact h1
  have hs1 : K.sl = 1 := by rw [(unhide HE).sl, unhide HS1]; decide
  have CP := hide (wsuper_any (unhide M m).toMemL (unhide HWH) (unhide HE).len)
  rw [hb, hs1, hb0] at CP
  have hKL : K.l.length = 0 := by rw [(unhide HE).l]; rfl
  have KW := hide (fun (w' : World) (hb' : Below w9.heap.size w9 w') => (WH.stay (unhide M m).toMemL b x S A K sl).bl _ _ _ (unhide HWH) (Keeps.of_below hb'))
  clear hb hb0 hs1 HP HA HE HS0 HS1
  go_wp2_with fail
  refine (unhide CP).mono ?_
  rintro e w10 ⟨rfl, hbl⟩
  have HW2 := hide ((WH.stay (unhide M m).toMemL b x S A K sl).al _ _ (.cells (iv .i64 [2, b1, b2, b3]) 49) (unhide KW w10 hbl))
  have s4 := s4_sup [2, b1, b2, b3] rfl
  have X4 := hide (iv_one .i64 [2, b1, b2, b3])
  have SZ : Hid ((#[.int .i64 0, .int .i64 0, .int .i64 0, .int .i64 0] : Array Value).size = (iv .i64 [2, b1, b2, b3]).size) := rfl
  have Z4 : Hid ((Tryz.prog.info? 49).map (·.zero) = some (some (.agg #[.int .i64 0, .int .i64 0, .int .i64 0, .int .i64 0]))) := by show _ = _; kernel_rfl
  have CC : Hid ((w10.alloc (.cells (iv .i64 [2, b1, b2, b3]) 49)).cell? ⟨w10.heap.size, 0, none⟩ = some (.int .i64 2)) := by show _ = _; rw [cell_of_block (heap_new w10 _)]; rfl
  clear hbl CP KW HWH
  generalize iv .i64 [2, b1, b2, b3] = BV at *
  go_upto_region 12 with (first | (with_reducible refine wpList_allocZ (by with_unfolding_all rfl) 49 (by with_unfolding_all rfl) #[.int .i64 0, .int .i64 0, .int .i64 0, .int .i64 0] (unhide Z4) ?_) | (with_reducible refine wpList_store_row (by with_unfolding_all rfl) 49 _ _ (by with_unfolding_all rfl) w10.heap.size BV (by with_unfolding_all rfl) (by with_unfolding_all rfl) 49 #[.int .i64 0, .int .i64 0, .int .i64 0, .int .i64 0] (heap_new w10 _) s4 (unhide SZ) (unhide X4) ?_; rw [setRow_alloc]))
  obtain ⟨g, hg⟩ : ∃ g, g = w10.heap.size := ⟨_, rfl⟩
  rw [← hg] at CC ⊢
  clear hg
  generalize w10.alloc (.cells BV 49) = w11 at *
  have cg := unhide CC
  have CL := hide (wleft_any (unhide HW2))
  rw [hKL] at CL
  go_wp2_with fail
  refine (unhide CL).mono ?_
  rintro e w12 ⟨rfl, rfl⟩
  go_wp2_with fail
  go_ret
  exact ⟨rfl, (WH.stay (unhide M m).toMemL b x S A K sl).sz _ _ (unhide HW2)⟩

end Go.Proofs.YtiafhcgaikapcaaGreat


/-
  The calls among the arguments of steadfastlaw11's statements; objects and tables compared.
-/
namespace Go.Proofs.YtiafhcgaikapcaaGreat
open Go.ChangeShapes Go.WideShapes Go.ChangeAt Go.RowKit Go.Joins Go.Deep
set_option maxRecDepth 10000
set_option linter.unusedVariables false
set_option linter.unusedSimpArgs false

theorem zoop_of_trod {H : Type} {enc : TypeId × Value → H} {W : World} {fuel : Nat} {cs : List Value} {x : DataW H × List MemPlace} (h : DataW.trod enc Tryz.prog W 0 (fun _ => true) true fuel 54 cs = some x) (hl : cs.length = 4) :
    ∃ p : OOp, cs = p.cells ∧ p.fits := by
  obtain ⟨xs, k, hk, hxy, hcl, hxl, hf⟩ := DataW.trod_struct Tryz.underlying54 h
  match cs, hl with
  | [c0, c1, c2, c3], _ =>
    have hlen : xs.length = 4 := by simpa using hxl
    match xs, hlen with
    | [y0, y1, y2, y3], _ =>
      have k1 : Tryz.prog.cellsOf 3 = 1 := by kernel_rfl
      have k2 : Tryz.prog.cellsOf 52 = 1 := by kernel_rfl
      have g0 := hf 0 _ rfl
      have g1 := hf 1 _ rfl
      have g2 := hf 2 _ rfl
      have g3 := hf 3 _ rfl
      simp [k1, k2] at g0 g1 g2 g3
      obtain ⟨z0, e0, _, w0⟩ := DataW.trod_int Tryz.underlying3 g0
      obtain ⟨z1, e1, _, w1⟩ := DataW.trod_int Tryz.underlying3 g1
      obtain ⟨z2, e2, _, w2⟩ := DataW.trod_int Tryz.underlying3 g2
      obtain ⟨z3, e3, _, w3⟩ := DataW.trod_int Tryz.underlying52 g3
      simp at e0 e1 e2 e3
      subst e0 e1 e2 e3
      exact ⟨⟨z0, z1, z2, z3⟩, rfl, in64_wf w0, in64_wf w1, in64_wf w2, inU_wf w3⟩

theorem open_zops {H : Type} {enc : TypeId × Value → H} {W : World} {r : Reach} {b0 : Nat} {v : Value} {d : DataW H} {p : List MemPlace} (hv : Value.okWide Tryz.prog W r b0 23 v)
    (h : DataW.Trod enc Tryz.prog W 0 (fun _ => true) true 23 v d p) : ∃ (a : Option Addr) (n cap : Nat) (o : Nat → OOp), v = .slice a n cap ∧ OOpsAt W a n cap o := by
  obtain ⟨a, len, cap, rfl⟩ := okWide_slice Tryz.underlying23 hv
  obtain ⟨fuel, hf⟩ := h
  have k2 : Tryz.prog.cellsOf 54 = 4 := by kernel_rfl
  rcases open_slice Tryz.underlying23 hf with ⟨hcs, _⟩ | ⟨x, l, c, m, n, D, Pl, hcs, hb, hl, hm, hmm, _, hx⟩
  · simp [Value.cells] at hcs
    obtain ⟨rfl, rfl, rfl⟩ := hcs
    exact ⟨none, 0, 0, default, rfl, by decide, Or.inl rfl⟩
  · simp [Value.cells] at hcs
    obtain ⟨rfl, rfl, rfl⟩ := hcs
    rw [k2] at hx
    have hlm : len ≤ m := by rw [hmm]; simp; exact hl
    unfold maxLen at hm
    obtain ⟨o, ho⟩ := choose_lt (α := OOp) (n := len) (p := fun i q => (∀ j, j < 4 → W.cell? (x.add (i * 4 + j)) = q.cells[j]?) ∧ q.fits) (fun i hi => by
      obtain ⟨cs', h1, h2⟩ := hx i (by omega)
      obtain ⟨_, hlen, hcell⟩ := World.cells?_some h1
      obtain ⟨q, rfl, hq⟩ := zoop_of_trod h2 hlen
      refine ⟨q, fun j hj => ?_, hq⟩
      have := hcell j hj
      rw [add_add] at this
      exact this)
    refine ⟨some x, len, cap, o, rfl, by omega, ?_⟩
    by_cases h0 : len = 0
    · exact Or.inl h0
    · right
      obtain ⟨b, off, spot⟩ := x
      have hc0 := (ho 0 (by omega)).1 0 (by omega)
      have hspot : spot = none := by
        have : W.cell? ((⟨b, off, spot⟩ : Addr).add 0) = some (.int .i64 (o 0).kind) := hc0
        simpa [Addr.add] using World.cell?_spot this
      subst hspot
      refine ⟨b, off, rfl, fun i hi => ⟨fun j v hv => ?_, (ho i hi).2⟩⟩
      have hj : j < 4 := by
        rcases Nat.lt_or_ge j 4 with h' | h'
        · exact h'
        · rw [List.getElem?_eq_none (by simpa [OOp.cells] using h')] at hv; cases hv
      have := (ho i hi).1 j hj
      rw [Addr.add_mid] at this
      rw [show off + i * 4 + j = off + (i * 4 + j) by omega, this]
      exact hv

theorem zob_fields : ((Tryz.prog.fieldsOf 88).toList.map fun f => (decide (f.name = "_"), f.type, f.offset)) = [(false, 3, 0), (false, 3, 1), (false, 83, 2)] := by kernel_rfl
theorem zob_guard : Tryz.prog.eqGuardType Tryz.prog.depth 88 = false := by kernel_rfl
theorem zln_iv (f : Nat → Int) : lnV f = iv .u64 ((List.range 8).map f) := by
  refine Array.ext_getElem? fun i => ?_
  by_cases h : i < 8
  · rw [lnV_get f i h, ← Array.getElem?_toList]
    simp [iv, h]
  · rw [Array.getElem?_eq_none (by rw [lnV_size]; omega), Array.getElem?_eq_none (by rw [iv_size]; simp; omega)]
theorem zrun_part_ln (w : World) (k v : Int) (f : Nat → Int) : (part 83 (obV k v f) 2).run Tryz.prog w = .ok (.agg (lnV f)) w := by
  have hagg : (isAgg 83).run Tryz.prog w = .ok true w := by
    unfold isAgg
    rw [Sem.run_bind, run_underlying Tryz.underlying83 w]
    simp
  have hs : (sizeOf 83).run Tryz.prog w = .ok 8 w := run_sizeOf w 83 8 (by kernel_rfl)
  have he : (obV k v f).extract 2 (2 + 8) = lnV f := by
    unfold obV
    refine Array.ext_getElem? fun i => ?_
    rw [Array.getElem?_extract]
    by_cases h : i < 8
    · rw [if_pos (by rw [Array.size_append, lnV_size]; simp; omega), Array.getElem?_append_right (by simp)]
      simp
    · rw [if_neg (by rw [Array.size_append, lnV_size]; simp; omega), Array.getElem?_eq_none (by rw [lnV_size]; omega)]
  simp [part, Sem.run_bind, hagg, hs, he]
theorem zequal_ln (d : Nat) (f : Nat → Int) (w : World) : (Op.equalIn (d + 2) 83 (.agg (lnV f)) (.agg (lnV f))).run Tryz.prog w = .ok true w := by
  rw [zln_iv]
  have := run_equalIn_ints w d 83 52 .u64 8 Tryz.underlying83 Tryz.underlying52 (by kernel_rfl) ((List.range 8).map f) ((List.range 8).map f) (by simp) (by simp)
  rw [decide_eq_true rfl] at this
  exact this
theorem zob_0 (k v : Int) (f : Nat → Int) : (obV k v f)[0]? = some (.int .i64 k) := by unfold obV; rw [Array.getElem?_append_left (by simp)]; rfl
theorem zob_1 (k v : Int) (f : Nat → Int) : (obV k v f)[1]? = some (.int .i64 v) := by unfold obV; rw [Array.getElem?_append_left (by simp)]; rfl
theorem zequal_ob (k v : Int) (f : Nat → Int) (w : World) : (Op.equalIn 10000 88 (.agg (obV k v f)) (.agg (obV k v f))).run Tryz.prog w = .ok true w := by
  rw [run_equalIn_struct w 9999 88 _ _ (by kernel_rfl) (by kernel_rfl)]
  have hf := zob_fields
  generalize (Tryz.prog.fieldsOf 88).toList = fs at hf
  have hl : fs.length = 3 := by have := congrArg List.length hf; simpa using this
  match fs, hl, hf with
  | [f0, f1, f2], _, hf =>
    simp only [List.map_cons, List.map_nil, List.cons.injEq, Prod.mk.injEq, decide_eq_false_iff_not, and_true] at hf
    obtain ⟨⟨a0, b0, c0⟩, ⟨a1, b1, c1⟩, ⟨a2, b2, c2⟩⟩ := hf
    have e : (k == k && (v == v && true)) = true := by simp
    rw [← e]
    refine run_eqField w 9998 _ _ f0 _ .i64 k k a0 (by rw [b0]; exact Tryz.underlying3) (by rw [c0]; exact zob_0 _ _ _) (by rw [c0]; exact zob_0 _ _ _) _ ?_
    refine run_eqField w 9998 _ _ f1 _ .i64 v v a1 (by rw [b1]; exact Tryz.underlying3) (by rw [c1]; exact zob_1 _ _ _) (by rw [c1]; exact zob_1 _ _ _) _ ?_
    rw [Op.eqFields, if_pos a2]
    simp only [b2, c2, Sem.run_bind, zrun_part_ln, Result.andThen_ok, zequal_ln]
    simp [Op.eqFields]

theorem ztab_guard : Tryz.prog.eqGuardType Tryz.prog.depth 66 = false := by kernel_rfl
theorem zequal_tab (f : Nat → En) (w : World) : (Op.equalIn 10000 66 (.agg (tabV f)) (.agg (tabV f))).run Tryz.prog w = .ok true w := by
  unfold tabV; rw [equal_rows 66 49 Tryz.underlying66 _ _ (rowE_len _ _) (rowE_len _ _)]; simp
theorem zdir_guard : Tryz.prog.eqGuardType Tryz.prog.depth 67 = false := by kernel_rfl
theorem zequal_dir (d : Nat → Int) (w : World) : (Op.equalIn 10000 67 (.agg (dirV d)) (.agg (dirV d))).run Tryz.prog w = .ok true w := by
  have := run_equalIn_ints w 9998 67 3 .i64 8 Tryz.underlying67 Tryz.underlying3 (by kernel_rfl) (dirTo8 d) (dirTo8 d) (by simp [dirTo8]) (by simp [dirTo8])
  rw [decide_eq_true rfl] at this
  exact this

/-! ### calls of the store beside a worker -/
section
variable {W w : World} {m b x : Nat} {St : Mm → World → (Nat → Prop) → Prop} {S S' : Sto} {A A' : Mm} {K : Wk} {G : Nat → Prop}
theorem WHas.call {P : Program} {f : FuncId} {args : Array Value} {v : Value} (h : WHas W m b x St S A K w G) (hc : ∀ G', SHas W m b St S A w G' → Calls P f args w (Done (SHas W m b St S' A') w G' v)) : Calls P f args w (Done (WHas W m b x St S' A' K) w G v) := by
  obtain ⟨sl, h⟩ := h
  exact (hc _ h.st).mono fun e w' hd => ⟨(h.lift hd).1, ⟨sl, (h.lift hd).2.1⟩, (h.lift hd).2.2⟩
theorem WHas.rep (h : WHas W m b x St S A K w G) : SRep m S w b := by obtain ⟨sl, h⟩ := h; exact h.st.rep
theorem WHas.left (h : WHas W m b x St S A K w G) : Calls Tryz.prog 35 #[.pointer (some ⟨x, 0, none⟩)] w fun e w' => e = .returned (.int .i64 (K.l.length : Int)) ∧ w' = w := by
  obtain ⟨sl, h⟩ := h
  exact wleft_any h
theorem WHas.super (M : MemL W m St) (h : WHas W m b x St S A K w G) (hb : K.b.length = 4) : Calls Tryz.prog 33 #[.pointer (some ⟨x, 0, none⟩)] w fun e w' => e = .returned (.tuple #[.agg (iv .i64 K.b), .int .i64 K.sl]) ∧ Below w.heap.size w w' := by
  obtain ⟨sl, h⟩ := h
  exact wsuper_any M h hb
end

/-! ### changes -/
theorem chM_ok {S : Sto} {A : Mm} {B : Nat} (h : A.ok B) (p : OOp) (hp : InU p.v) : (chM S A p).ok (B + 8) := by
  unfold chM; split
  · exact setM_ok h _ _ _ hp
  · split
    · exact makeM_ok h _
    · exact ok_mono h (by omega)
theorem chM_n (S : Sto) (A : Mm) (p : OOp) : (chM S A p).n = A.n := by
  unfold chM; split
  · exact setM_n _ _ _ _ _
  · split
    · exact makeM_n _ _ _
    · rfl
theorem calm_ch {S : Sto} {A : Mm} (h : Inv S) (hc : Calm A) (hN : S.F.hi ≤ A.n) (p : OOp) : Calm (chM S A p) := by
  unfold chM; split
  · exact (keep_set h hc hN _ _ _).1
  · split
    · exact (keep_make h hc hN _).1
    · exact hc
/-- What stands behind some changes ahead of a checkpoint. -/
structure Chd (N : Nat) (S : Sto) (A : Mm) (i : Nat) : Prop where
  good : Good N S
  calm : Calm A
  n : A.n = N
  ok : A.ok (8 * i)
  is : S.is = false
  left : (sS 12 N).F.left ≤ S.F.left + i
  b : S.b = tblF 12
  d : S.d = dirF
theorem Chd.start (N : Nat) (h1 : 64 ≤ N) (h2 : N ≤ 1024) : Chd N (sS 12 N) (iA 12 N) 0 :=
  ⟨good_start 12 N (by decide) h1 h2, calm_new _ _, rfl, iA_ok 12 N h1 h2, rfl, Nat.le_add_right _ _, rfl, rfl⟩
theorem Chd.ch {N : Nat} {S : Sto} {A : Mm} {i : Nat} (h : Chd N S A i) (p : OOp) (hp : InU p.v) : Chd N (chS S A p) (chM S A p) (i + 1) := by
  obtain ⟨f1, f2, f3, f4⟩ := fixed_ch S A p
  have hl := left_ch S A p
  have := h.left
  exact ⟨h.good.ch A p, calm_ch h.good.inv h.calm (by rw [h.good.lh.2, h.n]; exact Nat.le_refl _) p, (chM_n _ _ _).trans h.n, ok_mono (chM_ok h.ok p hp) (by omega), f4.trans h.is, by omega, f1.trans h.b, f2.trans h.d⟩
/-- What Get tells, where table and lines are the same. -/
theorem get_same {N : Nat} {S0 : Sto} {A0 : Mm} {S : Sto} {A : Mm} (h : Cm N S0 A0 S A) (g0 : Good N S0) (hc0 : Calm A0) (hn0 : A0.n = N) (i : Nat) : getT S A (i : Int) = getT S0 A0 (i : Int) := by
  have hf : S.findE (i : Int) = S0.findE (i : Int) := by unfold Sto.findE; rw [h.w]
  have hl : S.line (i : Int) = S0.line (i : Int) := by unfold Sto.line; rw [h.w]
  by_cases c : S0.findE (i : Int) = 0
  · obtain ⟨z0, z1, hk⟩ := findE_ok c
    rw [Int.toNat_natCast] at hk
    have hi : i < 49 := by omega
    have ht := g0.inv.tw i hi hk
    have hz : A0.isZ (S0.line (i : Int)) := isZ_isF (by rw [g0.lh.2, hn0]; exact Nat.le_refl _) (by unfold Sto.line; rw [Int.toNat_natCast]; exact ht.1)
    have hz2 : A.isZ (S0.line (i : Int)) := by unfold Mm.isZ at hz ⊢; rw [h.n, ← hn0]; exact hz
    have e1 : S.getE A (i : Int) = 0 := by unfold Sto.getE; rw [if_pos (hf.trans c), hl]; exact calm_loadE h.calm hz2
    have e2 : S0.getE A0 (i : Int) = 0 := by unfold Sto.getE; rw [if_pos c]; exact calm_loadE hc0 hz
    have hh : A.hasZ (S0.line (i : Int)) = A0.hasZ (S0.line (i : Int)) := by
      unfold Sto.line
      rw [Int.toNat_natCast]
      exact h.has i hi hk
    unfold getT Sto.getV
    rw [e1, e2, if_pos rfl, if_pos rfl, hl, hh, h.w]
  · have e1 : S.getE A (i : Int) = S.findE (i : Int) := by unfold Sto.getE; rw [if_neg (by rw [hf]; exact c)]
    have e2 : S0.getE A0 (i : Int) = S0.findE (i : Int) := by unfold Sto.getE; rw [if_neg c]
    unfold getT Sto.getV
    rw [e1, e2, hf, if_neg c, if_neg c]

end Go.Proofs.YtiafhcgaikapcaaGreat


/-
  Two new blocks, written one behind the other.
-/
namespace Go.Proofs.YtiafhcgaikapcaaGreat
open Go.ChangeShapes Go.WideShapes Go.ChangeAt Go.RowKit Go.Joins
set_option linter.unusedVariables false

theorem Held.pair {W : World} {St : World → (Nat → Prop) → Prop} {w0 w : World} {G : Nat → Prop} {L : List (Nat × Obj)} (S : Stay W St) (h : Held W St w0 w G L) (ZT TB : Array Value) (T1 : TypeId) (ZD DB : Array Value) (T2 : TypeId) :
    Held W St w0 ((((w.alloc (.cells ZT T1)).alloc (.cells ZD T2)).setRow w.heap.size TB).setRow (w.heap.size + 1) DB) G ((w.heap.size + 1, .cells DB T2 (0, 0)) :: (w.heap.size, .cells TB T1 (0, 0)) :: L) ∧
    ((w.alloc (.cells ZT T1)).alloc (.cells ZD T2)).heap[w.heap.size]? = some (.cells ZT T1 (0, 0)) ∧
    (((w.alloc (.cells ZT T1)).alloc (.cells ZD T2)).setRow w.heap.size TB).heap[w.heap.size + 1]? = some (.cells ZD T2 (0, 0)) ∧
    (w.alloc (.cells ZT T1)).heap.size = w.heap.size + 1 := by
  have e9 : (w.alloc (.cells ZT T1)).heap.size = w.heap.size + 1 := by simp
  have hlt := h.lt
  have O4 := (h.alloc S (.cells ZT T1)).alloc S (.cells ZD T2)
  rw [e9] at O4
  have H8 := O4.at w.heap.size (.cells ZT T1) (by simp)
  have O5 := O4.row S w.heap.size ZT T1 (0, 0) (by simp) TB
  have M9 : ((w.heap.size + 1, Obj.cells ZD T2 (0, 0)) : Nat × Obj) ∈ (w.heap.size, Obj.cells TB T1 (0, 0)) :: ((w.heap.size + 1, Obj.cells ZD T2 (0, 0)) :: (w.heap.size, Obj.cells ZT T1 (0, 0)) :: L).filter (fun p => p.1 != w.heap.size) := List.mem_cons_of_mem _ (List.mem_filter.2 ⟨by simp, by simp⟩)
  have H9 := O5.at (w.heap.size + 1) (.cells ZD T2) M9
  have O6 := O5.row S (w.heap.size + 1) ZD T2 (0, 0) M9 DB
  refine ⟨O6.less S (fun p hp => ?_), H8, H9, e9⟩
  rcases List.mem_cons.1 hp with rfl | hp
  · exact List.mem_cons_self
  · rcases List.mem_cons.1 hp with rfl | hp
    · exact List.mem_cons_of_mem _ (List.mem_filter.2 ⟨List.mem_cons_self, by simp⟩)
    · have := hlt p hp
      refine List.mem_cons_of_mem _ (List.mem_filter.2 ⟨List.mem_cons_of_mem _ (List.mem_filter.2 ⟨by simp [hp], ?_⟩), ?_⟩)
      · simp; omega
      · simp; omega

end Go.Proofs.YtiafhcgaikapcaaGreat
