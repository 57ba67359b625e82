
/-
  What stands of a store whatever is called: each line that is named is taken, and no two objects are in one. No program.
-/
import Derived.Test.YtiafhcgaikapcaaPkShow
namespace Go.Proofs.Ytiafhcgaikapcaa
set_option linter.unusedVariables false

theorem tk_put {F : Fr} {z y : Int} (h : F.tk y) (hz : 0 ≤ z) (hne : y ≠ z) (v : Int) : (F.put z.toNat v).tk y := by
  refine ⟨h.1, ?_⟩
  show upd F.s z.toNat v y.toNat = 1
  rw [upd_other _ _ _ _ (fun e => hne (by have := h.1.1; omega))]; exact h.2

structure Inv (S : Sto) : Prop where
  s2 : ∀ i, S.F.s i = 0 ∨ S.F.s i = 1
  tb : ∀ i, i < 49 → (S.b i).k ≠ 0 → S.F.tk (S.b i).l
  tm : ∀ i, i < 49 → (S.k i).k ≠ 0 → S.F.tk (S.k i).l
  tw : ∀ i, i < 49 → (S.w i).k ≠ 0 → S.F.tk (S.w i).l
  wd : ∀ i j, i < 49 → j < 49 → i ≠ j → (S.w i).k ≠ 0 → (S.w j).k ≠ 0 → (S.w i).l ≠ (S.w j).l
  td : ∀ i, i < 8 → S.F.tk (S.d i)
  dw : ∀ i j, i < 8 → j < 49 → (S.w j).k ≠ 0 → S.d i ≠ (S.w j).l

theorem alloc_s2 {F : Fr} (h : ∀ i, F.s i = 0 ∨ F.s i = 1) : ∀ i, F.allocA.s i = 0 ∨ F.allocA.s i = 1 := fun i => by
  unfold Fr.allocA
  split
  · show upd F.s _ 1 i = 0 ∨ upd F.s _ 1 i = 1
    unfold upd; split
    · exact Or.inr rfl
    · exact h i
  · exact h i
theorem inv_took {S : Sto} (h : Inv S) : Inv S.took :=
  ⟨alloc_s2 h.s2, fun i hi hk => tk_alloc (h.tb i hi hk), fun i hi hk => tk_alloc (h.tm i hi hk), fun i hi hk => tk_alloc (h.tw i hi hk), h.wd, fun i hi => tk_alloc (h.td i hi), h.dw⟩
/-- An object is put into the frame that was taken. -/
theorem inv_new {S : Sto} (h : Inv S) (ha : S.F.allocE = 0) (n : Nat) (x : En) (hx : x.l = S.F.allocV) : Inv (S.took.withW n x) := by
  have h' := inv_took h
  have key : ∀ i, i < 49 → ((S.took.withW n x).w i).k ≠ 0 → (i = n ∧ ((S.took.withW n x).w i).l = S.F.allocV) ∨ (i ≠ n ∧ (S.took.withW n x).w i = S.w i) := fun i hi hk => by
    by_cases e : i = n
    · left; subst e; exact ⟨rfl, by show (upd S.w i x i).l = _; rw [upd_same]; exact hx⟩
    · right; exact ⟨e, upd_other _ _ _ _ e⟩
  refine ⟨h'.s2, h'.tb, h'.tm, fun i hi hk => ?_, fun i j hi hj hij hki hkj => ?_, h'.td, fun i j hi hj hk => ?_⟩
  · rcases key i hi hk with ⟨_, e⟩ | ⟨_, e⟩
    · rw [e]; exact tk_new ha
    · rw [e]; rw [e] at hk; exact tk_alloc (h.tw i hi hk)
  · rcases key i hi hki with ⟨e1, e⟩ | ⟨e1, e⟩
    · rcases key j hj hkj with ⟨f1, f⟩ | ⟨f1, f⟩
      · exact absurd (e1.trans f1.symm) hij
      · rw [e, f]; rw [f] at hkj; exact (tk_ne ha (h.tw j hj hkj)).symm
    · rcases key j hj hkj with ⟨f1, f⟩ | ⟨f1, f⟩
      · rw [e, f]; rw [e] at hki; exact tk_ne ha (h.tw i hi hki)
      · rw [e, f]; rw [e] at hki; rw [f] at hkj; exact h.wd i j hi hj hij hki hkj
  · rcases key j hj hk with ⟨_, e⟩ | ⟨_, e⟩
    · rw [e]; exact tk_ne ha (h.td i hi)
    · rw [e]; rw [e] at hk; exact h.dw i j hi hj hk
theorem layE_alloc {S : Sto} {A : Mm} {l : Nat → Int} (h : S.layE A l = 0) : S.F.allocE = 0 := by
  unfold Sto.layE at h
  split at h
  · assumption
  · assumption
theorem inv_set {S : Sto} (h : Inv S) (A : Mm) (z q v : Int) : Inv (S.setS A z q v) := by
  unfold Sto.setS
  split
  · split
    · exact h
    · split
      · split
        · rename_i e; exact inv_new h (layE_alloc e) _ _ rfl
        · exact inv_took h
      · exact h
  · exact h
theorem inv_make {S : Sto} (h : Inv S) (A : Mm) (z : Int) : Inv (S.makeS A z) := by
  unfold Sto.makeS
  split
  · split
    · rename_i e; exact inv_new h (layE_alloc e) _ _ rfl
    · exact inv_took h
  · exact h
theorem inv_mark {S : Sto} (h : Inv S) : Inv S.markS := by
  unfold Sto.markS
  split
  · exact h
  · exact ⟨h.s2, h.tb, h.tw, h.tw, h.wd, h.td, h.dw⟩
theorem inv_end {S : Sto} (h : Inv S) (z : Int) : Inv (S.endS z) := by
  unfold Sto.endS
  split
  · rename_i hf
    obtain ⟨z0, z1, hk⟩ := findE_ok hf
    have hn : z.toNat < 49 := by omega
    generalize hi : z.toNat = n at *
    have ht := h.tw n hn hk
    have hl : S.line z = (S.w n).l := by unfold Sto.line; rw [hi]
    have key : ∀ i, (upd S.w n (endV (S.w n)) i).k ≠ 0 → i ≠ n ∧ upd S.w n (endV (S.w n)) i = S.w i := fun i hki => by
      by_cases e : i = n
      · subst e; rw [upd_same] at hki
        unfold endV at hki
        split at hki
        · exact absurd rfl hki
        · exact absurd rfl hki
      · exact ⟨e, upd_other _ _ _ _ e⟩
    have hwd : ∀ i j, i < 49 → j < 49 → i ≠ j → (upd S.w n (endV (S.w n)) i).k ≠ 0 → (upd S.w n (endV (S.w n)) j).k ≠ 0 → (upd S.w n (endV (S.w n)) i).l ≠ (upd S.w n (endV (S.w n)) j).l := fun i j h1 h2 h3 h4 h5 => by
      have e := (key i h4).2
      have f := (key j h5).2
      rw [e, f]; rw [e] at h4; rw [f] at h5; exact h.wd i j h1 h2 h3 h4 h5
    have hdw : ∀ i j, i < 8 → j < 49 → (upd S.w n (endV (S.w n)) j).k ≠ 0 → S.d i ≠ (upd S.w n (endV (S.w n)) j).l := fun i j h1 h2 h3 => by
      have f := (key j h3).2
      rw [f]; rw [f] at h3; exact h.dw i j h1 h2 h3
    unfold Sto.endF
    split
    · rename_i ho
      rw [hl] at ho
      obtain ⟨o1, o2⟩ := (own_iff _ _).1 ho
      have hE : S.F.turnE (S.w n).l 1 = 0 := turnE_zero.2 ht
      rw [hl, turnA_of hE]
      have l0 : 0 ≤ (S.w n).l := by have := ht.1.1; omega
      refine ⟨fun i => ?_, fun i hi hki => tk_put (h.tb i hi hki) l0 (hasB_no o1 i hi hki) 0, fun i hi hki => tk_put (h.tm i hi hki) l0 (hasB_no o2 i hi hki) 0, fun i hi hki => ?_, hwd, fun i hi => tk_put (h.td i hi) l0 (h.dw i n hi hn hk) 0, hdw⟩
      · show upd S.F.s (S.w n).l.toNat 0 i = 0 ∨ upd S.F.s (S.w n).l.toNat 0 i = 1
        unfold upd; split
        · exact Or.inl rfl
        · exact h.s2 i
      · have e := key i hki
        show Fr.tk _ (upd S.w n (endV (S.w n)) i).l
        have hki' : (upd S.w n (endV (S.w n)) i).k ≠ 0 := hki
        rw [e.2]; rw [e.2] at hki'
        exact tk_put (h.tw i hi hki') l0 (h.wd i n hi hn e.1 hki' hk) 0
    · refine ⟨h.s2, h.tb, h.tm, fun i hi hki => ?_, hwd, h.td, hdw⟩
      have e := key i hki
      show Fr.tk _ (upd S.w n (endV (S.w n)) i).l
      have hki' : (upd S.w n (endV (S.w n)) i).k ≠ 0 := hki
      rw [e.2]; rw [e.2] at hki'
      exact h.tw i hi hki'
  · exact h

/-! ### the frames stay the same ones -/
def lohi (F G : Fr) : Prop := F.lo = G.lo ∧ F.hi = G.hi
theorem lohi_set (S : Sto) (A : Mm) (z q v : Int) : lohi (S.setS A z q v).F S.F := by
  unfold Sto.setS
  repeat' split
  all_goals first | exact ⟨rfl, rfl⟩ | exact alloc_lo S.F
theorem lohi_make (S : Sto) (A : Mm) (z : Int) : lohi (S.makeS A z).F S.F := by
  unfold Sto.makeS
  repeat' split
  all_goals first | exact ⟨rfl, rfl⟩ | exact alloc_lo S.F
theorem lohi_end (S : Sto) (z : Int) : lohi (S.endS z).F S.F := by
  unfold Sto.endS
  split
  · show lohi (S.endF z) S.F
    unfold Sto.endF
    split
    · exact turn_lo _ _ _ _
    · exact ⟨rfl, rfl⟩
  · exact ⟨rfl, rfl⟩
theorem lohi_mark (S : Sto) : lohi S.markS.F S.F := by unfold Sto.markS; split <;> exact ⟨rfl, rfl⟩

/-! ### what is shared stays as it is -/
theorem hasB_tk {F : Fr} {f : Nat → En} (h : ∀ i, i < 49 → (f i).k ≠ 0 → F.tk (f i).l) {y : Int} (hy : hasB f y = true) : F.tk y := by
  obtain ⟨i, hi, hk, e⟩ := (hasB_iff _ _).1 hy
  rw [← e]; exact h i hi hk
def Sto.shared (S : Sto) (y : Int) : Prop := hasB S.b y = true ∨ hasB S.k y = true
theorem shared_tk {S : Sto} (h : Inv S) {y : Int} (hy : S.shared y) : S.F.tk y := hy.elim (hasB_tk h.tb) (hasB_tk h.tm)
theorem own_shared {S : Sto} {z : Int} (ho : S.own z = true) : ¬ S.shared z := by
  obtain ⟨o1, o2⟩ := (own_iff _ _).1 ho
  rintro (h | h)
  · rw [o1] at h; cases h
  · rw [o2] at h; cases h
theorem isZ_isF {F : Fr} {A : Mm} (hN : F.hi ≤ A.n) {z : Int} (h : F.isF z) : A.isZ z := ⟨by have := h.1; omega, by have := h.2; omega⟩
theorem calm_layM {S : Sto} {A : Mm} (hc : Calm A) (hN : S.F.hi ≤ A.n) (l : Nat → Int) : Calm (S.layM A l) ∧ ∀ y, S.F.tk y → (S.layM A l).hasZ y = A.hasZ y := by
  by_cases ha : S.F.allocE = 0
  · obtain ⟨_, h2, h3, _⟩ := lay_calm hc ha (isZ_isF hN (isF_new ha)) l
    exact ⟨h2, fun y hy => h3 y (isZ_isF hN hy.1) (tk_ne ha hy)⟩
  · have e := (lay_none (S := S) (A := A) ha l).2.1
    rw [e]; exact ⟨hc, fun _ _ => rfl⟩
theorem keep_set {S : Sto} {A : Mm} (h : Inv S) (hc : Calm A) (hN : S.F.hi ≤ A.n) (z q v : Int) : Calm (S.setM A z q v) ∧ ∀ y, S.shared y → (S.setM A z q v).hasZ y = A.hasZ y := by
  unfold Sto.setM
  split
  · rename_i c
    split
    · rename_i ho
      refine ⟨calm_store hc _ _ _, fun y hy => ?_⟩
      have hf := findE_ok c.2
      have hz : A.isZ (S.line z) := isZ_isF hN (h.tw z.toNat (by omega) hf.2.2).1
      have hne : y ≠ S.line z := fun e => own_shared ho (by rw [← e]; exact hy)
      rw [has_store hc hz c.1 v y (isZ_isF hN (shared_tk h hy).1), if_neg hne]
    · split
      · exact ⟨(calm_layM hc hN _).1, fun y hy => (calm_layM hc hN _).2 y (shared_tk h hy)⟩
      · exact ⟨hc, fun _ _ => rfl⟩
  · exact ⟨hc, fun _ _ => rfl⟩
theorem keep_make {S : Sto} {A : Mm} (h : Inv S) (hc : Calm A) (hN : S.F.hi ≤ A.n) (z : Int) : Calm (S.makeM A z) ∧ ∀ y, S.shared y → (S.makeM A z).hasZ y = A.hasZ y := by
  unfold Sto.makeM
  split
  · exact ⟨(calm_layM hc hN _).1, fun y hy => (calm_layM hc hN _).2 y (shared_tk h hy)⟩
  · exact ⟨hc, fun _ _ => rfl⟩

/-! ### how many are left when what nothing names is free -/
theorem freed_left (S : Sto) (h01 : ∀ i, S.F.s i = 0 ∨ S.F.s i = 1) (hn : ∀ i : Nat, S.F.lo ≤ i → i < S.F.hi → S.nmB i = true → S.F.s i = 1) (hhi : S.F.hi ≤ 1024) :
    S.freed.F.left = (List.range S.F.hi).countP fun i => decide (S.F.lo ≤ i) && !S.nmB i := by
  unfold Fr.left Fr.leftTo
  show (List.range S.F.hi).countP _ = _
  apply List.countP_congr
  intro i hi
  have hi' := List.mem_range.1 hi
  show (decide (S.F.lo ≤ i) && ((if ((S.F.lo ≤ i ∧ i < S.F.hi) ∧ i < 1024) ∧ S.F.s i = 1 ∧ S.nmB i = false then (0 : Int) else S.F.s i) == 0)) = true ↔ _
  by_cases hlo : S.F.lo ≤ i
  · rw [decide_eq_true hlo, Bool.true_and, Bool.true_and]
    cases hb : S.nmB i with
    | true =>
      rw [if_neg (fun q => by cases q.2.2), hn i hlo hi' hb]; simp
    | false =>
      rcases h01 i with e | e
      · rw [if_neg (fun q => by rw [e] at q; exact absurd q.2.1 (by decide)), e]; simp
      · rw [if_pos ⟨⟨⟨hlo, hi'⟩, by omega⟩, e, rfl⟩]; simp
  · rw [decide_eq_false hlo, Bool.false_and, Bool.false_and]
theorem inv_sS (N : Nat) (h1 : 64 ≤ N) (n : Nat) (hn : n < 31) : Inv (sS n N) := by
  have hB := ofB_tbl n N hn h1
  have hs : ∀ i : Nat, (sS n N).F.s i = if (i : Int) ∈ claimL (tblF n) dirF then 1 else 0 := fun i => takeL_s _ _ hB i
  have ht := (takesB_iff _ _).1 hB
  have tk : ∀ z, z ∈ claimL (tblF n) dirF → (sS n N).F.tk z := fun z hz => by
    have h3 := (ht.1 z hz).1
    have hlo := sS_lo n N
    refine ⟨⟨by rw [hlo.1]; exact h3.1, by rw [hlo.2]; exact h3.2⟩, ?_⟩
    have hz0 : ((z.toNat : Nat) : Int) = z := by have := h3.1; have : (10 : Int) ≤ z := h3.1; omega
    rw [hs, hz0, if_pos hz]
  have mw : ∀ i, i < 49 → (tblF n i).k ≠ 0 → (tblF n i).l ∈ claimL (tblF n) dirF := fun i hi hk => List.mem_append_right _ ((linesTo_mem _ _ _).2 ⟨i, hi, hk, rfl⟩)
  have md : ∀ i, i < 8 → dirF i ∈ claimL (tblF n) dirF := fun i hi => List.mem_append_left _ (by unfold dirTo; exact List.mem_map.2 ⟨i, List.mem_range.2 hi, rfl⟩)
  have lw : ∀ i, (tblF n i).k ≠ 0 → (tblF n i).l = 20 + (i : Int) := fun i hk => by
    unfold tblF at hk ⊢
    split
    · rfl
    · rename_i hc; rw [if_neg hc] at hk; exact absurd rfl hk
  refine ⟨fun i => ?_, fun i hi hk => tk _ (mw i hi hk), fun i hi hk => absurd rfl hk, fun i hi hk => tk _ (mw i hi hk), fun i j hi hj hij h1 h2 => ?_, fun i hi => tk _ (md i hi), fun i j hi hj hk => ?_⟩
  · rw [hs]; split
    · exact Or.inr rfl
    · exact Or.inl rfl
  · show (tblF n i).l ≠ (tblF n j).l
    rw [lw i h1, lw j h2]; omega
  · show dirF i ≠ (tblF n j).l
    rw [lw j hk]; unfold dirF; omega

end Go.Proofs.Ytiafhcgaikapcaa
