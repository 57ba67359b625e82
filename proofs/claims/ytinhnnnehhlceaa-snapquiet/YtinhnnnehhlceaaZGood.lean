
/-
  What stands of a store whatever is done: its entries may be, what is named is taken; behind Commit and Abort too. No program.
-/
import Derived.Test.YtinhnnnehhlceaaZChange
import Derived.Test.YtinhnnnehhlceaaZMath
namespace Go.Proofs.Ytinhnnnehhlceaa
set_option linter.unusedVariables false

/-! ### Commit, Abort -/
theorem tk_freed {F : Fr} (nm : Nat → Bool) {z : Int} (h : F.tk z) (hn : nm z.toNat = true) : (F.freeTo nm 1024).tk z := by
  refine ⟨h.1, ?_⟩
  show (if ((F.lo ≤ z.toNat ∧ z.toNat < F.hi) ∧ z.toNat < 1024) ∧ F.s z.toNat = 1 ∧ nm z.toNat = false then (0 : Int) else F.s z.toNat) = 1
  rw [if_neg (fun c => by rw [hn] at c; cases c.2.2)]; exact h.2
theorem freed_s2 {F : Fr} (nm : Nat → Bool) (h : ∀ i, F.s i = 0 ∨ F.s i = 1) : ∀ i, (F.freeTo nm 1024).s i = 0 ∨ (F.freeTo nm 1024).s i = 1 := fun i => by
  show (if ((F.lo ≤ i ∧ i < F.hi) ∧ i < 1024) ∧ F.s i = 1 ∧ nm i = false then (0 : Int) else F.s i) = 0 ∨ (if ((F.lo ≤ i ∧ i < F.hi) ∧ i < 1024) ∧ F.s i = 1 ∧ nm i = false then (0 : Int) else F.s i) = 1
  split
  · exact Or.inl rfl
  · exact h i
theorem tk_nat {F : Fr} {z : Int} (h : F.tk z) : ((z.toNat : Nat) : Int) = z := by have := h.1.1; omega
theorem inv_freed {S : Sto} (h : Inv S) (hk : S.k = fun _ => ze) : Inv S.freed := by
  have nd : ∀ i, i < 8 → S.nmB (S.d i).toNat = true := fun i hi => by
    unfold Sto.nmB
    rw [tk_nat (h.td i hi), (inD_iff _ _).2 ⟨i, hi, rfl⟩]; rfl
  have nb : ∀ i, i < 49 → (S.b i).k ≠ 0 → S.nmB (S.b i).l.toNat = true := fun i hi hki => by
    unfold Sto.nmB
    rw [tk_nat (h.tb i hi hki), (hasB_iff S.b _).2 ⟨i, hi, hki, rfl⟩]; simp
  have nw : ∀ i, i < 49 → (S.w i).k ≠ 0 → S.nmB (S.w i).l.toNat = true := fun i hi hki => by
    unfold Sto.nmB
    rw [tk_nat (h.tw i hi hki), (hasB_iff S.w _).2 ⟨i, hi, hki, rfl⟩]; simp
  exact ⟨freed_s2 _ h.s2, fun i hi hki => tk_freed _ (h.tb i hi hki) (nb i hi hki), fun i hi hki => by
    exfalso
    have e : S.freed.k i = S.k i := rfl
    rw [e, hk] at hki; exact hki rfl, fun i hi hki => tk_freed _ (h.tw i hi hki) (nw i hi hki), h.wd, fun i hi => tk_freed _ (h.td i hi) (nd i hi), h.dw⟩
theorem inv_unmark {S : Sto} (h : Inv S) : Inv S.unmarkS :=
  inv_freed (S := Sto.mk S.F S.w S.b S.d (fun _ => ze) false) ⟨h.s2, h.tb, fun i hi hk => absurd rfl hk, h.tw, h.wd, h.td, h.dw⟩ rfl
theorem inv_abort {S : Sto} (h : Inv S) : Inv S.abortS := by
  unfold Sto.abortS; split
  · exact inv_unmark h
  · exact h
theorem inv_commit {S : Sto} (h : Inv S) (d : Nat → Int) (hd : ∀ i, i < 8 → S.F.tk (d i)) (hdw : ∀ i j, i < 8 → j < 49 → (S.w j).k ≠ 0 → d i ≠ (S.w j).l) : Inv (S.commitS d) := by
  unfold Sto.commitS; split
  · exact inv_unmark (S := Sto.mk S.F S.w S.k d S.k S.is) ⟨h.s2, h.tm, h.tm, h.tw, h.wd, hd, hdw⟩
  · exact h
theorem lohi_unmark (S : Sto) : lohi S.unmarkS.F S.F := ⟨rfl, rfl⟩
theorem lohi_commit (S : Sto) (d : Nat → Int) : lohi (S.commitS d).F S.F := by unfold Sto.commitS; split <;> exact ⟨rfl, rfl⟩
theorem lohi_abort (S : Sto) : lohi S.abortS.F S.F := by unfold Sto.abortS; split <;> exact ⟨rfl, rfl⟩

/-! ### stores whose entries may be -/
structure Good (N : Nat) (S : Sto) : Prop where
  ok : S.ok
  inv : Inv S
  lh : S.F.lo = 10 ∧ S.F.hi = N
  hN : N ≤ 1024
  w : ∀ i, i < 49 → mayN (S.w i) = true
  b : ∀ i, i < 49 → mayN (S.b i) = true
  k : ∀ i, i < 49 → mayN (S.k i) = true
theorem may_ze : mayN ze = true := by decide
theorem may_moved {x : En} (h : mayN x = true) (hk : x.k ≠ 0) {l : Int} (h0 : 0 ≤ l) (h1 : l < 1024) : mayN (moved x l) = true := by
  have := (mayN_iff x).1 h
  refine (mayN_iff _).2 ?_
  unfold moved
  simp only
  omega
theorem may_new {x : En} (h : mayN x = true) {z l : Int} (hz : z = 1 ∨ z = 2 ∨ z = 4) (h0 : 0 ≤ l) (h1 : l < 1024) : mayN ⟨z, x.v, l⟩ = true := by
  have := (mayN_iff x).1 h
  refine (mayN_iff _).2 ?_
  simp only
  omega
theorem may_end {x : En} (h : mayN x = true) : mayN (endV x) = true := by
  unfold endV
  split
  · exact may_ze
  · have := (mayN_iff x).1 h
    refine (mayN_iff _).2 ⟨Int.le_refl _, show (0 : Int) ≤ 4 by decide, ?_, ?_, Int.le_refl _, show (0 : Int) < 1024 by decide, fun _ => rfl⟩
    · show 0 ≤ nextI x.v
      unfold nextI
      split <;> omega
    · show nextI x.v ≤ 16777215
      unfold nextI
      split <;> omega
theorem Good.alloc {N : Nat} {S : Sto} (h : Good N S) (ha : S.F.allocE = 0) : 10 ≤ S.F.allocV ∧ S.F.allocV < N := by
  have := isF_new ha
  have h1 := this.1
  have h2 := this.2
  rw [h.lh.1] at h1; rw [h.lh.2] at h2
  exact ⟨h1, h2⟩
theorem Good.took {N : Nat} {S : Sto} (h : Good N S) : Good N S.took :=
  ⟨took_ok h.ok, inv_took h.inv, ⟨(alloc_lo _).1.trans h.lh.1, (alloc_lo _).2.trans h.lh.2⟩, h.hN, h.w, h.b, h.k⟩
theorem Good.set {N : Nat} {S : Sto} (h : Good N S) (A : Mm) (z q v : Int) : Good N (S.setS A z q v) := by
  have hl := lohi_set S A z q v
  refine ⟨setS_ok h.ok _ _ _ _, inv_set h.inv _ _ _ _, ⟨hl.1.trans h.lh.1, hl.2.trans h.lh.2⟩, h.hN, ?_, ?_, ?_⟩
  · unfold Sto.setS
    split
    · rename_i c
      have hf := findE_ok c.2
      split
      · exact h.w
      · split
        · split
          · rename_i e
            have ha := h.alloc (layE_alloc e)
            intro i hi
            exact upd_lt (P := fun e : En => mayN e = true) h.w _ (may_moved (h.w z.toNat (by omega)) hf.2.2 (by omega) (by have := h.hN; omega)) i hi
          · exact h.w
        · exact h.w
    · exact h.w
  · unfold Sto.setS
    repeat' split
    all_goals exact h.b
  · unfold Sto.setS
    repeat' split
    all_goals exact h.k
theorem Good.make {N : Nat} {S : Sto} (h : Good N S) (A : Mm) (z : Int) : Good N (S.makeS A z) := by
  have hl := lohi_make S A z
  refine ⟨makeS_ok h.ok _ _, inv_make h.inv _ _, ⟨hl.1.trans h.lh.1, hl.2.trans h.lh.2⟩, h.hN, ?_, ?_, ?_⟩
  · unfold Sto.makeS
    split
    · rename_i c
      obtain ⟨k, e1, hk, _, e2, _, e3⟩ := nextE_ok c
      split
      · rename_i e
        have ha := h.alloc (layE_alloc e)
        intro i hi
        refine upd_lt (P := fun e : En => mayN e = true) h.w _ ?_ i hi
        rw [e2]
        exact may_new (h.w k hk) ((mkB_iff z).1 e3) (by omega) (by have := h.hN; omega)
      · exact h.w
    · exact h.w
  · unfold Sto.makeS
    repeat' split
    all_goals exact h.b
  · unfold Sto.makeS
    repeat' split
    all_goals exact h.k
theorem Good.end {N : Nat} {S : Sto} (h : Good N S) (z : Int) : Good N (S.endS z) := by
  have hl := lohi_end S z
  refine ⟨endS_ok h.ok _, inv_end h.inv _, ⟨hl.1.trans h.lh.1, hl.2.trans h.lh.2⟩, h.hN, ?_, ?_, ?_⟩
  · unfold Sto.endS
    split
    · rename_i c
      have hf := findE_ok c
      intro i hi
      exact upd_lt (P := fun e : En => mayN e = true) h.w _ (may_end (h.w z.toNat (by omega))) i hi
    · exact h.w
  · unfold Sto.endS; split <;> exact h.b
  · unfold Sto.endS; split <;> exact h.k
theorem Good.ch {N : Nat} {S : Sto} (h : Good N S) (A : Mm) (p : OOp) : Good N (chS S A p) := by
  unfold chS; split
  · exact h.set _ _ _ _
  · split
    · exact h.make _ _
    · exact h.end _
theorem Good.mark {N : Nat} {S : Sto} (h : Good N S) : Good N S.markS := by
  have hl := lohi_mark S
  refine ⟨markS_ok h.ok, inv_mark h.inv, ⟨hl.1.trans h.lh.1, hl.2.trans h.lh.2⟩, h.hN, ?_, ?_, ?_⟩
  all_goals unfold Sto.markS; split
  · exact h.w
  · exact h.w
  · exact h.b
  · exact h.b
  · exact h.k
  · exact h.w
theorem Good.unmark {N : Nat} {S : Sto} (h : Good N S) : Good N S.unmarkS :=
  ⟨unmarkS_ok h.ok, inv_unmark h.inv, h.lh, h.hN, h.w, h.b, fun _ _ => may_ze⟩
theorem Good.abort {N : Nat} {S : Sto} (h : Good N S) : Good N S.abortS := by
  unfold Sto.abortS; split
  · exact h.unmark
  · exact h
theorem Good.commit {N : Nat} {S : Sto} (h : Good N S) (d : Nat → Int) (hd : ∀ i, i < 8 → S.F.tk (d i)) (hdw : ∀ i j, i < 8 → j < 49 → (S.w j).k ≠ 0 → d i ≠ (S.w j).l) : Good N (S.commitS d) := by
  have hl := lohi_commit S d
  refine ⟨commitS_ok h.ok _, inv_commit h.inv d hd hdw, ⟨hl.1.trans h.lh.1, hl.2.trans h.lh.2⟩, h.hN, ?_, ?_, ?_⟩
  all_goals unfold Sto.commitS; split
  · exact h.w
  · exact h.w
  · exact h.k
  · exact h.b
  · exact fun _ _ => may_ze
  · exact h.k
theorem may_tbl (n : Nat) (hn : n < 49) : ∀ i, i < 49 → mayN (tblF n i) = true := fun i hi => by
  unfold tblF
  split
  · refine (mayN_iff _).2 ?_
    simp only
    omega
  · exact may_ze
theorem good_start (n N : Nat) (hn : n < 31) (h1 : 64 ≤ N) (h2 : N ≤ 1024) : Good N (sS n N) :=
  ⟨sS_ok n N (by omega) h2, inv_sS N h1 n hn, sS_lo n N, h2, may_tbl n (by omega), may_tbl n (by omega), fun _ _ => may_ze⟩

/-! ### how many frames are left -/
theorem left_free (F : Fr) (i : Nat) : F.left ≤ (F.put i 0).left := by
  unfold Fr.left Fr.leftTo
  show (List.range F.hi).countP F.fr ≤ (List.range F.hi).countP (F.put i 0).fr
  apply List.countP_mono_left
  intro j _ hj
  have := fr_iff.1 hj
  refine fr_iff.2 ⟨this.1, ?_⟩
  show upd F.s i 0 j = 0
  unfold upd; split
  · rfl
  · exact this.2
theorem left_took (S : Sto) : S.F.left ≤ S.took.F.left + 1 := by
  show S.F.left ≤ S.F.allocA.left + 1
  by_cases h : S.F.allocE = 0
  · rw [left_alloc h]; exact Nat.le_refl _
  · rw [(alloc_none h).1]; omega
theorem left_ch (S : Sto) (A : Mm) (p : OOp) : S.F.left ≤ (chS S A p).F.left + 1 := by
  have ht := left_took S
  unfold chS
  split
  · unfold Sto.setS
    repeat' split
    all_goals first | exact Nat.le_succ _ | exact ht
  · split
    · unfold Sto.makeS
      repeat' split
      all_goals first | exact Nat.le_succ _ | exact ht
    · unfold Sto.endS
      split
      · show S.F.left ≤ (S.endF _).left + 1
        unfold Sto.endF
        split
        · unfold Fr.turnA
          split
          · have := left_free S.F (S.line ((kindN p.id 20 : Nat) : Int)).toNat
            omega
          · omega
        · omega
      · omega

end Go.Proofs.Ytinhnnnehhlceaa
