import Derived.Test.YtiafhcgaikapcaaGreatPkShow
import Derived.Test.YtiafhcgaikapcaaGreatPkNvm
import Derived.Deep.Slices

/-
  What stands of a store whatever is called: each line that is named is taken, and no two objects are in one. No program.
-/
namespace Go.Proofs.YtiafhcgaikapcaaGreat
set_option linter.unusedVariables false

theorem tk_put {F : Fr} {z y : Int} (h : F.tk y) (hz : 0 ≤ z) (hne : y ≠ z) (v : Int) : (F.put z.toNat v).tk y := by
  refine ⟨h.1, ?_⟩
  show upd F.s z.toNat v y.toNat = 1
  rw [upd_other _ _ _ _ (fun e => hne (by have := h.1.1; omega))]; exact h.2

structure Inv (S : Sto) : Prop where
  s2 : ∀ i, S.F.s i = 0 ∨ S.F.s i = 1
  tb : ∀ i, i < 49 → (S.b i).k ≠ 0 → S.F.tk (S.b i).l
  tm : ∀ i, i < 49 → (S.k i).k ≠ 0 → S.F.tk (S.k i).l
  tw : ∀ i, i < 49 → (S.w i).k ≠ 0 → S.F.tk (S.w i).l
  wd : ∀ i j, i < 49 → j < 49 → i ≠ j → (S.w i).k ≠ 0 → (S.w j).k ≠ 0 → (S.w i).l ≠ (S.w j).l
  td : ∀ i, i < 8 → S.F.tk (S.d i)
  dw : ∀ i j, i < 8 → j < 49 → (S.w j).k ≠ 0 → S.d i ≠ (S.w j).l

theorem alloc_s2 {F : Fr} (h : ∀ i, F.s i = 0 ∨ F.s i = 1) : ∀ i, F.allocA.s i = 0 ∨ F.allocA.s i = 1 := fun i => by
  unfold Fr.allocA
  split
  · show upd F.s _ 1 i = 0 ∨ upd F.s _ 1 i = 1
    unfold upd; split
    · exact Or.inr rfl
    · exact h i
  · exact h i
theorem inv_took {S : Sto} (h : Inv S) : Inv S.took :=
  ⟨alloc_s2 h.s2, fun i hi hk => tk_alloc (h.tb i hi hk), fun i hi hk => tk_alloc (h.tm i hi hk), fun i hi hk => tk_alloc (h.tw i hi hk), h.wd, fun i hi => tk_alloc (h.td i hi), h.dw⟩
/-- An object is put into the frame that was taken. -/
theorem inv_new {S : Sto} (h : Inv S) (ha : S.F.allocE = 0) (n : Nat) (x : En) (hx : x.l = S.F.allocV) : Inv (S.took.withW n x) := by
  have h' := inv_took h
  have key : ∀ i, i < 49 → ((S.took.withW n x).w i).k ≠ 0 → (i = n ∧ ((S.took.withW n x).w i).l = S.F.allocV) ∨ (i ≠ n ∧ (S.took.withW n x).w i = S.w i) := fun i hi hk => by
    by_cases e : i = n
    · left; subst e; exact ⟨rfl, by show (upd S.w i x i).l = _; rw [upd_same]; exact hx⟩
    · right; exact ⟨e, upd_other _ _ _ _ e⟩
  refine ⟨h'.s2, h'.tb, h'.tm, fun i hi hk => ?_, fun i j hi hj hij hki hkj => ?_, h'.td, fun i j hi hj hk => ?_⟩
  · rcases key i hi hk with ⟨_, e⟩ | ⟨_, e⟩
    · rw [e]; exact tk_new ha
    · rw [e]; rw [e] at hk; exact tk_alloc (h.tw i hi hk)
  · rcases key i hi hki with ⟨e1, e⟩ | ⟨e1, e⟩
    · rcases key j hj hkj with ⟨f1, f⟩ | ⟨f1, f⟩
      · exact absurd (e1.trans f1.symm) hij
      · rw [e, f]; rw [f] at hkj; exact (tk_ne ha (h.tw j hj hkj)).symm
    · rcases key j hj hkj with ⟨f1, f⟩ | ⟨f1, f⟩
      · rw [e, f]; rw [e] at hki; exact tk_ne ha (h.tw i hi hki)
      · rw [e, f]; rw [e] at hki; rw [f] at hkj; exact h.wd i j hi hj hij hki hkj
  · rcases key j hj hk with ⟨_, e⟩ | ⟨_, e⟩
    · rw [e]; exact tk_ne ha (h.td i hi)
    · rw [e]; rw [e] at hk; exact h.dw i j hi hj hk
theorem layE_alloc {S : Sto} {A : Mm} {l : Nat → Int} (h : S.layE A l = 0) : S.F.allocE = 0 := by
  unfold Sto.layE at h
  split at h
  · assumption
  · assumption
theorem inv_set {S : Sto} (h : Inv S) (A : Mm) (z q v : Int) : Inv (S.setS A z q v) := by
  unfold Sto.setS
  split
  · split
    · exact h
    · split
      · split
        · rename_i e; exact inv_new h (layE_alloc e) _ _ rfl
        · exact inv_took h
      · exact h
  · exact h
theorem inv_make {S : Sto} (h : Inv S) (A : Mm) (z : Int) : Inv (S.makeS A z) := by
  unfold Sto.makeS
  split
  · split
    · rename_i e; exact inv_new h (layE_alloc e) _ _ rfl
    · exact inv_took h
  · exact h
theorem inv_mark {S : Sto} (h : Inv S) : Inv S.markS := by
  unfold Sto.markS
  split
  · exact h
  · exact ⟨h.s2, h.tb, h.tw, h.tw, h.wd, h.td, h.dw⟩
theorem inv_end {S : Sto} (h : Inv S) (z : Int) : Inv (S.endS z) := by
  unfold Sto.endS
  split
  · rename_i hf
    obtain ⟨z0, z1, hk⟩ := findE_ok hf
    have hn : z.toNat < 49 := by omega
    generalize hi : z.toNat = n at *
    have ht := h.tw n hn hk
    have hl : S.line z = (S.w n).l := by unfold Sto.line; rw [hi]
    have key : ∀ i, (upd S.w n (endV (S.w n)) i).k ≠ 0 → i ≠ n ∧ upd S.w n (endV (S.w n)) i = S.w i := fun i hki => by
      by_cases e : i = n
      · subst e; rw [upd_same] at hki
        unfold endV at hki
        split at hki
        · exact absurd rfl hki
        · exact absurd rfl hki
      · exact ⟨e, upd_other _ _ _ _ e⟩
    have hwd : ∀ i j, i < 49 → j < 49 → i ≠ j → (upd S.w n (endV (S.w n)) i).k ≠ 0 → (upd S.w n (endV (S.w n)) j).k ≠ 0 → (upd S.w n (endV (S.w n)) i).l ≠ (upd S.w n (endV (S.w n)) j).l := fun i j h1 h2 h3 h4 h5 => by
      have e := (key i h4).2
      have f := (key j h5).2
      rw [e, f]; rw [e] at h4; rw [f] at h5; exact h.wd i j h1 h2 h3 h4 h5
    have hdw : ∀ i j, i < 8 → j < 49 → (upd S.w n (endV (S.w n)) j).k ≠ 0 → S.d i ≠ (upd S.w n (endV (S.w n)) j).l := fun i j h1 h2 h3 => by
      have f := (key j h3).2
      rw [f]; rw [f] at h3; exact h.dw i j h1 h2 h3
    unfold Sto.endF
    split
    · rename_i ho
      rw [hl] at ho
      obtain ⟨o1, o2⟩ := (own_iff _ _).1 ho
      have hE : S.F.turnE (S.w n).l 1 = 0 := turnE_zero.2 ht
      rw [hl, turnA_of hE]
      have l0 : 0 ≤ (S.w n).l := by have := ht.1.1; omega
      refine ⟨fun i => ?_, fun i hi hki => tk_put (h.tb i hi hki) l0 (hasB_no o1 i hi hki) 0, fun i hi hki => tk_put (h.tm i hi hki) l0 (hasB_no o2 i hi hki) 0, fun i hi hki => ?_, hwd, fun i hi => tk_put (h.td i hi) l0 (h.dw i n hi hn hk) 0, hdw⟩
      · show upd S.F.s (S.w n).l.toNat 0 i = 0 ∨ upd S.F.s (S.w n).l.toNat 0 i = 1
        unfold upd; split
        · exact Or.inl rfl
        · exact h.s2 i
      · have e := key i hki
        show Fr.tk _ (upd S.w n (endV (S.w n)) i).l
        have hki' : (upd S.w n (endV (S.w n)) i).k ≠ 0 := hki
        rw [e.2]; rw [e.2] at hki'
        exact tk_put (h.tw i hi hki') l0 (h.wd i n hi hn e.1 hki' hk) 0
    · refine ⟨h.s2, h.tb, h.tm, fun i hi hki => ?_, hwd, h.td, hdw⟩
      have e := key i hki
      show Fr.tk _ (upd S.w n (endV (S.w n)) i).l
      have hki' : (upd S.w n (endV (S.w n)) i).k ≠ 0 := hki
      rw [e.2]; rw [e.2] at hki'
      exact h.tw i hi hki'
  · exact h

/-! ### the frames stay the same ones -/
def lohi (F G : Fr) : Prop := F.lo = G.lo ∧ F.hi = G.hi
theorem lohi_set (S : Sto) (A : Mm) (z q v : Int) : lohi (S.setS A z q v).F S.F := by
  unfold Sto.setS
  repeat' split
  all_goals first | exact ⟨rfl, rfl⟩ | exact alloc_lo S.F
theorem lohi_make (S : Sto) (A : Mm) (z : Int) : lohi (S.makeS A z).F S.F := by
  unfold Sto.makeS
  repeat' split
  all_goals first | exact ⟨rfl, rfl⟩ | exact alloc_lo S.F
theorem lohi_end (S : Sto) (z : Int) : lohi (S.endS z).F S.F := by
  unfold Sto.endS
  split
  · show lohi (S.endF z) S.F
    unfold Sto.endF
    split
    · exact turn_lo _ _ _ _
    · exact ⟨rfl, rfl⟩
  · exact ⟨rfl, rfl⟩
theorem lohi_mark (S : Sto) : lohi S.markS.F S.F := by unfold Sto.markS; split <;> exact ⟨rfl, rfl⟩

/-! ### what is shared stays as it is -/
theorem hasB_tk {F : Fr} {f : Nat → En} (h : ∀ i, i < 49 → (f i).k ≠ 0 → F.tk (f i).l) {y : Int} (hy : hasB f y = true) : F.tk y := by
  obtain ⟨i, hi, hk, e⟩ := (hasB_iff _ _).1 hy
  rw [← e]; exact h i hi hk
def Sto.shared (S : Sto) (y : Int) : Prop := hasB S.b y = true ∨ hasB S.k y = true
theorem shared_tk {S : Sto} (h : Inv S) {y : Int} (hy : S.shared y) : S.F.tk y := hy.elim (hasB_tk h.tb) (hasB_tk h.tm)
theorem own_shared {S : Sto} {z : Int} (ho : S.own z = true) : ¬ S.shared z := by
  obtain ⟨o1, o2⟩ := (own_iff _ _).1 ho
  rintro (h | h)
  · rw [o1] at h; cases h
  · rw [o2] at h; cases h
theorem isZ_isF {F : Fr} {A : Mm} (hN : F.hi ≤ A.n) {z : Int} (h : F.isF z) : A.isZ z := ⟨by have := h.1; omega, by have := h.2; omega⟩
theorem calm_layM {S : Sto} {A : Mm} (hc : Calm A) (hN : S.F.hi ≤ A.n) (l : Nat → Int) : Calm (S.layM A l) ∧ ∀ y, S.F.tk y → (S.layM A l).hasZ y = A.hasZ y := by
  by_cases ha : S.F.allocE = 0
  · obtain ⟨_, h2, h3, _⟩ := lay_calm hc ha (isZ_isF hN (isF_new ha)) l
    exact ⟨h2, fun y hy => h3 y (isZ_isF hN hy.1) (tk_ne ha hy)⟩
  · have e := (lay_none (S := S) (A := A) ha l).2.1
    rw [e]; exact ⟨hc, fun _ _ => rfl⟩
theorem keep_set {S : Sto} {A : Mm} (h : Inv S) (hc : Calm A) (hN : S.F.hi ≤ A.n) (z q v : Int) : Calm (S.setM A z q v) ∧ ∀ y, S.shared y → (S.setM A z q v).hasZ y = A.hasZ y := by
  unfold Sto.setM
  split
  · rename_i c
    split
    · rename_i ho
      refine ⟨calm_store hc _ _ _, fun y hy => ?_⟩
      have hf := findE_ok c.2
      have hz : A.isZ (S.line z) := isZ_isF hN (h.tw z.toNat (by omega) hf.2.2).1
      have hne : y ≠ S.line z := fun e => own_shared ho (by rw [← e]; exact hy)
      rw [has_store hc hz c.1 v y (isZ_isF hN (shared_tk h hy).1), if_neg hne]
    · split
      · exact ⟨(calm_layM hc hN _).1, fun y hy => (calm_layM hc hN _).2 y (shared_tk h hy)⟩
      · exact ⟨hc, fun _ _ => rfl⟩
  · exact ⟨hc, fun _ _ => rfl⟩
theorem keep_make {S : Sto} {A : Mm} (h : Inv S) (hc : Calm A) (hN : S.F.hi ≤ A.n) (z : Int) : Calm (S.makeM A z) ∧ ∀ y, S.shared y → (S.makeM A z).hasZ y = A.hasZ y := by
  unfold Sto.makeM
  split
  · exact ⟨(calm_layM hc hN _).1, fun y hy => (calm_layM hc hN _).2 y (shared_tk h hy)⟩
  · exact ⟨hc, fun _ _ => rfl⟩

/-! ### how many are left when what nothing names is free -/
theorem freed_left (S : Sto) (h01 : ∀ i, S.F.s i = 0 ∨ S.F.s i = 1) (hn : ∀ i : Nat, S.F.lo ≤ i → i < S.F.hi → S.nmB i = true → S.F.s i = 1) (hhi : S.F.hi ≤ 1024) :
    S.freed.F.left = (List.range S.F.hi).countP fun i => decide (S.F.lo ≤ i) && !S.nmB i := by
  unfold Fr.left Fr.leftTo
  show (List.range S.F.hi).countP _ = _
  apply List.countP_congr
  intro i hi
  have hi' := List.mem_range.1 hi
  show (decide (S.F.lo ≤ i) && ((if ((S.F.lo ≤ i ∧ i < S.F.hi) ∧ i < 1024) ∧ S.F.s i = 1 ∧ S.nmB i = false then (0 : Int) else S.F.s i) == 0)) = true ↔ _
  by_cases hlo : S.F.lo ≤ i
  · rw [decide_eq_true hlo, Bool.true_and, Bool.true_and]
    cases hb : S.nmB i with
    | true =>
      rw [if_neg (fun q => by cases q.2.2), hn i hlo hi' hb]; simp
    | false =>
      rcases h01 i with e | e
      · rw [if_neg (fun q => by rw [e] at q; exact absurd q.2.1 (by decide)), e]; simp
      · rw [if_pos ⟨⟨⟨hlo, hi'⟩, by omega⟩, e, rfl⟩]; simp
  · rw [decide_eq_false hlo, Bool.false_and, Bool.false_and]
theorem inv_sS (N : Nat) (h1 : 64 ≤ N) (n : Nat) (hn : n < 31) : Inv (sS n N) := by
  have hB := ofB_tbl n N hn h1
  have hs : ∀ i : Nat, (sS n N).F.s i = if (i : Int) ∈ claimL (tblF n) dirF then 1 else 0 := fun i => takeL_s _ _ hB i
  have ht := (takesB_iff _ _).1 hB
  have tk : ∀ z, z ∈ claimL (tblF n) dirF → (sS n N).F.tk z := fun z hz => by
    have h3 := (ht.1 z hz).1
    have hlo := sS_lo n N
    refine ⟨⟨by rw [hlo.1]; exact h3.1, by rw [hlo.2]; exact h3.2⟩, ?_⟩
    have hz0 : ((z.toNat : Nat) : Int) = z := by have := h3.1; have : (10 : Int) ≤ z := h3.1; omega
    rw [hs, hz0, if_pos hz]
  have mw : ∀ i, i < 49 → (tblF n i).k ≠ 0 → (tblF n i).l ∈ claimL (tblF n) dirF := fun i hi hk => List.mem_append_right _ ((linesTo_mem _ _ _).2 ⟨i, hi, hk, rfl⟩)
  have md : ∀ i, i < 8 → dirF i ∈ claimL (tblF n) dirF := fun i hi => List.mem_append_left _ (by unfold dirTo; exact List.mem_map.2 ⟨i, List.mem_range.2 hi, rfl⟩)
  have lw : ∀ i, (tblF n i).k ≠ 0 → (tblF n i).l = 20 + (i : Int) := fun i hk => by
    unfold tblF at hk ⊢
    split
    · rfl
    · rename_i hc; rw [if_neg hc] at hk; exact absurd rfl hk
  refine ⟨fun i => ?_, fun i hi hk => tk _ (mw i hi hk), fun i hi hk => absurd rfl hk, fun i hi hk => tk _ (mw i hi hk), fun i j hi hj hij h1 h2 => ?_, fun i hi => tk _ (md i hi), fun i j hi hj hk => ?_⟩
  · rw [hs]; split
    · exact Or.inr rfl
    · exact Or.inl rfl
  · show (tblF n i).l ≠ (tblF n j).l
    rw [lw i h1, lw j h2]; omega
  · show dirF i ≠ (tblF n j).l
    rw [lw j hk]; unfold dirF; omega

end Go.Proofs.YtiafhcgaikapcaaGreat


/-
  What the statements' arguments are: rows of numbers; rows of calls (steadfastlaw10.Op: three numbers and a word each).
-/
namespace Go.Proofs.YtiafhcgaikapcaaGreat
open Go.ChangeShapes Go.WideShapes Go.ChangeAt Go.RowKit Go.Joins Go.Deep
set_option maxRecDepth 10000
set_option linter.unusedVariables false

theorem open_u64sO {H : Type} {enc : TypeId × Value → H} {W : World} {r : Reach} {b0 : Nat} {v : Value} {d : DataW H} {p : List MemPlace} (hv : Value.okWide Tryz.prog W r b0 123 v)
    (h : DataW.Trod enc Tryz.prog W 0 (fun _ => true) true 123 v d p) : ∃ (a : Option Addr) (zs : List Int) (n cap : Nat), v = .slice a n cap ∧ IsRow W .u64 a zs n cap := by
  obtain ⟨a, len, cap, rfl⟩ := okWide_slice Tryz.underlying123 hv
  obtain ⟨fuel, hf⟩ := h
  exact row_of_trod Tryz.underlying123 Tryz.underlying52 (by kernel_rfl) hf
theorem open_i64sO {H : Type} {enc : TypeId × Value → H} {W : World} {r : Reach} {b0 : Nat} {v : Value} {d : DataW H} {p : List MemPlace} (hv : Value.okWide Tryz.prog W r b0 85 v)
    (h : DataW.Trod enc Tryz.prog W 0 (fun _ => true) true 85 v d p) : ∃ (a : Option Addr) (zs : List Int) (n cap : Nat), v = .slice a n cap ∧ IsRow W .i64 a zs n cap := by
  obtain ⟨a, len, cap, rfl⟩ := okWide_slice Tryz.underlying85 hv
  obtain ⟨fuel, hf⟩ := h
  exact row_of_trod Tryz.underlying85 Tryz.underlying3 (by kernel_rfl) hf

/-! ### Calls -/
structure OOp where
  kind : Int
  id : Int
  word : Int
  v : Int
instance : Inhabited OOp := ⟨⟨0, 0, 0, 0⟩⟩
def OOp.cells (p : OOp) : List Value := [.int .i64 p.kind, .int .i64 p.id, .int .i64 p.word, .int .u64 p.v]
def OOp.fits (p : OOp) : Prop := In64 p.kind ∧ In64 p.id ∧ In64 p.word ∧ InU p.v
def OOpAt (W : World) (b o : Nat) (p : OOp) : Prop := W.rangeAt b o p.cells ∧ p.fits
def OOpsAt (W : World) (a : Option Addr) (n cap : Nat) (o : Nat → OOp) : Prop := n ≤ 9223372036854775807 ∧ (n = 0 ∨ ∃ b off, a = some ⟨b, off, none⟩ ∧ ∀ i, i < n → OOpAt W b (off + i * 4) (o i))

end Go.Proofs.YtiafhcgaikapcaaGreat


/-
  The calls that ObjectsKeep and ObjectsFree do, one behind the other. No program.
-/
namespace Go.Proofs.YtiafhcgaikapcaaGreat
set_option linter.unusedVariables false

def stepS (S : Sto) (A : Mm) (p : OOp) : Sto :=
  if kindN p.kind 3 = 0 then S.setS A (kindN p.id 20 : Nat) (kindN p.word 8 : Nat) p.v
  else if kindN p.kind 3 = 1 then S.makeS A (1 + (kindN p.word 2 : Nat) : Int) else S.endS (kindN p.id 20 : Nat)
def stepM (S : Sto) (A : Mm) (p : OOp) : Mm :=
  if kindN p.kind 3 = 0 then S.setM A (kindN p.id 20 : Nat) (kindN p.word 8 : Nat) p.v
  else if kindN p.kind 3 = 1 then S.makeM A (1 + (kindN p.word 2 : Nat) : Int) else A
theorem inv_step {S : Sto} (h : Inv S) (A : Mm) (p : OOp) : Inv (stepS S A p) := by
  unfold stepS; split
  · exact inv_set h _ _ _ _
  · split
    · exact inv_make h _ _
    · exact inv_end h _
theorem stepS_ok {S : Sto} (h : S.ok) (A : Mm) (p : OOp) : (stepS S A p).ok := by
  unfold stepS; split
  · exact setS_ok h _ _ _ _
  · split
    · exact makeS_ok h _ _
    · exact endS_ok h _
theorem lohi_trans {F G H : Fr} (h : lohi F G) (k : lohi G H) : lohi F H := ⟨h.1.trans k.1, h.2.trans k.2⟩
theorem lohi_step (S : Sto) (A : Mm) (p : OOp) : lohi (stepS S A p).F S.F := by
  unfold stepS; split
  · exact lohi_set _ _ _ _ _
  · split
    · exact lohi_make _ _ _
    · exact lohi_end _ _
theorem stepM_ok {S : Sto} {A : Mm} {B : Nat} (h : A.ok B) (p : OOp) (hp : InU p.v) : (stepM S A p).ok (B + 8) := by
  unfold stepM; split
  · exact setM_ok h _ _ _ hp
  · split
    · exact makeM_ok h _
    · exact ok_mono h (by omega)
theorem stepM_n (S : Sto) (A : Mm) (p : OOp) : (stepM S A p).n = A.n := by
  unfold stepM; split
  · exact setM_n _ _ _ _ _
  · split
    · exact makeM_n _ _ _
    · rfl
/-- What no call but Mark, Commit, Abort turns. -/
def fixed (S T : Sto) : Prop := S.b = T.b ∧ S.d = T.d ∧ S.k = T.k ∧ S.is = T.is
theorem fixed_step (S : Sto) (A : Mm) (p : OOp) : fixed (stepS S A p) S := by
  unfold stepS
  split
  · unfold Sto.setS; repeat' split
    all_goals exact ⟨rfl, rfl, rfl, rfl⟩
  · split
    · unfold Sto.makeS; repeat' split
      all_goals exact ⟨rfl, rfl, rfl, rfl⟩
    · unfold Sto.endS; split <;> exact ⟨rfl, rfl, rfl, rfl⟩
theorem keep_step {S : Sto} {A : Mm} (h : Inv S) (hc : Calm A) (hN : S.F.hi ≤ A.n) (p : OOp) : Calm (stepM S A p) ∧ ∀ y, S.shared y → (stepM S A p).hasZ y = A.hasZ y := by
  unfold stepM; split
  · exact keep_set h hc hN _ _ _
  · split
    · exact keep_make h hc hN _
    · exact ⟨hc, fun _ _ => rfl⟩

end Go.Proofs.YtiafhcgaikapcaaGreat


/-
  The row of lines that ObjectsKeep keeps; what stays true over its calls.
-/
namespace Go.Proofs.YtiafhcgaikapcaaGreat
open Go.ChangeShapes Go.WideShapes Go.ChangeAt Go.RowKit Go.Joins
set_option maxRecDepth 10000
set_option linter.unusedVariables false
set_option linter.unusedSimpArgs false

def keptV (K : Nat → Nat → Int) : Array Value := tab 800 fun c => .int .u64 (K (c / 8) (c % 8))
/-- The first k lines are the memory's. -/
def keptTo (A : Mm) (K : Nat → Nat → Int) (k : Nat) : Nat → Nat → Int := fun z q => if z < k then A.hasZ (z : Int) q else K z q
theorem keptTo_zero (A : Mm) (K : Nat → Nat → Int) : keptTo A K 0 = K := by
  funext z q; unfold keptTo; rw [if_neg (by omega)]
theorem block_sets {g : Nat} {T : TypeId} {fr : Nat × Nat} {n : Nat} : ∀ (vs : List Value) (o : Nat) (f : Nat → Value) (w : World), w.heap[g]? = some (.cells (tab n f) T fr) →
    (w.setCells g o vs).heap[g]? = some (.cells (tab n fun c => if o ≤ c ∧ c < o + vs.length then vs.getD (c - o) undef else f c) T fr)
  | [], o, f, w, h => by
    show w.heap[g]? = _
    rw [h]
    congr 2
    exact tab_ext fun i _ => (if_neg (fun c => by have := c.1; have := c.2; simp at this; omega)).symm
  | v :: vs, o, f, w, h => by
    have h1 : (w.setCell ⟨g, o, none⟩ v).heap[g]? = some (.cells (tab n (upd f o v)) T fr) := by rw [block_setCell h, tab_set]
    show ((w.setCell ⟨g, o, none⟩ v).setCells g (o + 1) vs).heap[g]? = _
    rw [block_sets vs (o + 1) _ _ h1]
    congr 2
    refine tab_ext fun i _ => ?_
    by_cases e : i = o
    · subst e
      rw [if_neg (by omega), upd_same, if_pos ⟨Nat.le_refl _, by simp⟩]
      simp
    · by_cases c : o + 1 ≤ i ∧ i < o + 1 + vs.length
      · rw [if_pos c, if_pos ⟨by omega, by simp only [List.length_cons]; omega⟩, show i - o = (i - (o + 1)) + 1 by omega]
        simp
      · rw [if_neg c, upd_other _ _ _ _ e, if_neg (by simp only [List.length_cons]; omega)]
theorem keeps_sets {g : Nat} : ∀ (vs : List Value) (o : Nat) (a w : World), Keeps (· = g) a w → Keeps (· = g) a (w.setCells g o vs)
  | [], _, _, _, h => h
  | v :: vs, o, a, w, h => keeps_sets vs (o + 1) a _ (h.setCell (p := ⟨g, o, none⟩) rfl v)
theorem kept_put {w : World} {g : Nat} {T : TypeId} {K : Nat → Nat → Int} {A : Mm} {k : Nat} (hk : k < 100) (h : w.heap[g]? = some (.cells (keptV (keptTo A K k)) T (0, 0))) :
    (w.setCells g (k * 8) (lnV (A.hasZ (k : Int))).toList).heap[g]? = some (.cells (keptV (keptTo A K (k + 1))) T (0, 0)) := by
  rw [block_sets _ _ _ _ h]
  congr 2
  refine tab_ext fun c hc => ?_
  rw [Array.length_toList, lnV_size]
  by_cases e : k * 8 ≤ c ∧ c < k * 8 + 8
  · rw [if_pos e, List.getD_eq_getElem?_getD, Array.getElem?_toList, lnV_get _ _ (by omega)]
    show Value.int .u64 _ = _
    unfold keptTo
    rw [if_pos (by omega), show c / 8 = k by omega, show c % 8 = c - k * 8 by omega]
  · rw [if_neg e]
    unfold keptTo
    by_cases e2 : c / 8 < k
    · rw [if_pos e2, if_pos (by omega)]
    · rw [if_neg e2, if_neg (by omega)]
theorem kept_there {w : World} {g : Nat} {T : TypeId} {K : Nat → Nat → Int} {k : Nat} (hk : k < 100) (h : w.heap[g]? = some (.cells (keptV K) T (0, 0))) : w.there g (k * 8) 8 := (Blk.of_tab (T := T) h).there _ _ (by omega)
theorem kept_range {w : World} {g : Nat} {T : TypeId} {K : Nat → Nat → Int} {k : Nat} (hk : k < 100) (h : w.heap[g]? = some (.cells (keptV K) T (0, 0))) : w.rangeAt g (k * 8) (lnV (K k)).toList := by
  have := (Blk.of_tab (T := T) h).range (k * 8) 8 (by omega) (fun q => .int .u64 (K k q)) (fun j hj => by
    show Value.int .u64 (K ((k * 8 + j) / 8) ((k * 8 + j) % 8)) = _
    rw [show (k * 8 + j) / 8 = k by omega, show (k * 8 + j) % 8 = j by omega])
  have e : (lnV (K k)).toList = (List.range 8).map fun q => Value.int .u64 (K k q) := by unfold lnV tab; simp
  rw [e]; exact this
theorem made_kept {w : World} {base g : Nat} {T : TypeId} (h : w.ownsRow base T 8 (.slice (some ⟨g, 0, none⟩) 100 100) 100 (madeCells (Value.agg (lnV fun _ => 0)).cells (100 * 8)).toList) :
    w.heap[g]? = some (.cells (keptV fun _ _ => 0) T (0, 0)) := by
  rcases h.2 with ⟨h', _⟩ | ⟨g', cap, cur, h', _, hg, _, _, hcs, htake⟩
  · simp at h'
  · simp only [Value.slice.injEq, Option.some.injEq, Addr.mk.injEq, and_true, true_and] at h'
    obtain ⟨rfl, rfl⟩ := h'
    have hcur : cur = keptV fun _ _ => 0 := by
      rw [List.take_of_length_le (by simp [hcs])] at htake
      have h2 : cur = madeCells (Value.agg (lnV fun _ => 0)).cells (100 * 8) := by rw [← Array.toArray_toList (xs := cur), htake, Array.toArray_toList]
      rw [h2]
      apply Array.ext_getElem?
      intro i
      by_cases hi : i < 800
      · unfold keptV
        rw [tab_get _ _ _ hi]
        simp only [madeCells, Array.getElem?_map, Array.getElem?_range, show i < 100 * 8 from hi, if_true, Option.map_some]
        show some ((lnV fun _ => 0)[i % (lnV fun _ => 0).size]!) = _
        rw [lnV_size]
        have := tab_get 8 (fun _ => Value.int .u64 0) (i % 8) (Nat.mod_lt _ (by decide))
        rw [getElem!_def, show (lnV fun _ => 0)[i % 8]? = _ from this]
      · unfold keptV
        rw [tab_none _ _ _ (by omega), Array.getElem?_eq_none (by rw [size_madeCells]; omega)]
    rw [← hcur]; exact hg
/-- A block that a grown world has where the old one ended: as if it were laid. -/
theorem keeps_made {w w' : World} {o : Obj} (hk : Keeps (fun _ => False) w w') (h : w'.heap[w.heap.size]? = some o) : Keeps (fun _ => False) (w.alloc o) w' := by
  have hlt : w.heap.size < w'.heap.size := by
    rcases Nat.lt_or_ge w.heap.size w'.heap.size with h' | h'
    · exact h'
    · rw [Array.getElem?_eq_none h'] at h; cases h
  have hs : (w.alloc o).heap.size = w.heap.size + 1 := by simp
  refine ⟨hk.os, hk.tape, hk.output, by rw [hs]; omega, fun k hk' _ => ?_⟩
  rw [hs] at hk'
  by_cases e : k = w.heap.size
  · rw [e, h]; exact (heap_new w o).symm
  · rw [Below.heap_alloc w o k (by omega)]; exact hk.block k (by omega) id

/-! ### what stays true -/
structure KInv (S : Sto) (A : Mm) (mk : Bool) (K : Nat → Nat → Int) : Prop where
  inv : Inv S
  ok : S.ok
  lh : S.F.lo = 10 ∧ S.F.hi = 100
  n : A.n = 100
  calm : Calm A
  is : S.is = mk
  base : ∀ i, i < 49 → (S.b i).k ≠ 0 → ∀ q, q < 8 → A.hasZ (S.b i).l q = 0
  kept : mk = true → ∀ i, i < 49 → (S.k i).k ≠ 0 → ∀ q, q < 8 → A.hasZ (S.k i).l q = K (S.k i).l.toNat q
theorem KInv.step {S : Sto} {A : Mm} {mk : Bool} {K : Nat → Nat → Int} (h : KInv S A mk K) (p : OOp) : KInv (stepS S A p) (stepM S A p) mk K := by
  obtain ⟨f1, f2, f3, f4⟩ := fixed_step S A p
  obtain ⟨k1, k2⟩ := keep_step h.inv h.calm (by rw [h.lh.2, h.n]; decide) p
  refine ⟨inv_step h.inv A p, stepS_ok h.ok A p, ⟨(lohi_step S A p).1.trans h.lh.1, (lohi_step S A p).2.trans h.lh.2⟩, (stepM_n S A p).trans h.n, k1, f4.trans h.is, ?_, ?_⟩
  · rw [f1]
    intro i hi hk q hq
    rw [k2 _ (Or.inl ((hasB_iff _ _).2 ⟨i, hi, hk, rfl⟩))]
    exact h.base i hi hk q hq
  · rw [f3]
    intro hm i hi hk q hq
    rw [k2 _ (Or.inr ((hasB_iff _ _).2 ⟨i, hi, hk, rfl⟩))]
    exact h.kept hm i hi hk q hq
theorem KInv.mark {S : Sto} {A : Mm} {K K' : Nat → Nat → Int} (h : KInv S A false K) (hK : ∀ z, z < 100 → ∀ q, q < 8 → K' z q = A.hasZ (z : Int) q) : S.markE = 0 ∧ KInv S.markS A true K' := by
  have hi := h.is
  have e : S.markS = ⟨S.F, S.w, S.b, S.d, S.w, true⟩ := by unfold Sto.markS; rw [hi]; rfl
  refine ⟨by unfold Sto.markE; rw [hi]; rfl, ?_⟩
  have hinv := inv_mark h.inv
  have hok := markS_ok h.ok
  rw [e] at hinv hok ⊢
  refine ⟨hinv, hok, h.lh, h.n, h.calm, rfl, h.base, fun _ i hi' hk q hq => ?_⟩
  have ht := (h.inv.tw i hi' hk).1
  have h1 := ht.1; have h2 := ht.2
  rw [h.lh.1] at h1; rw [h.lh.2] at h2
  have := hK (S.w i).l.toNat (by omega) q hq
  rw [Int.toNat_of_nonneg (by omega)] at this
  exact this.symm
theorem zero_hasZ (z : Int) (hz : 0 ≤ z ∧ z < 100) (j : Nat) : (sA 100).hasZ z j = 0 := by
  unfold Mm.hasZ
  rw [if_pos ⟨⟨hz.1, hz.2⟩, rfl⟩]; rfl
theorem KInv.start (K : Nat → Nat → Int) : KInv (sS 12 100) (sA 100) false K := by
  have hI := inv_sS 100 (by decide) 12 (by decide)
  refine ⟨hI, sS_ok 12 100 (by decide) (by decide), sS_lo 12 100, rfl, calm_new _ _, rfl, fun i hi hk q hq => ?_, fun h => by cases h⟩
  have ht := (hI.tb i hi hk).1
  have h1 := ht.1; have h2 := ht.2
  rw [(sS_lo 12 100).1] at h1; rw [(sS_lo 12 100).2] at h2
  exact zero_hasZ _ ⟨by omega, by omega⟩ q
theorem KInv.lineB {S : Sto} {A : Mm} {mk : Bool} {K : Nat → Nat → Int} (h : KInv S A mk K) (i : Nat) (hi : i < 49) (hk : (S.b i).k ≠ 0) : eqL (A.hasZ (S.b i).l) zeroL = true := (eqL_iff _ _).2 fun q hq => h.base i hi hk q hq
theorem KInv.lineK {S : Sto} {A : Mm} {K : Nat → Nat → Int} (h : KInv S A true K) (i : Nat) (hi : i < 49) (hk : (S.k i).k ≠ 0) : ∃ z : Nat, (S.k i).l = (z : Int) ∧ z < 100 ∧ eqL (A.hasZ (S.k i).l) (K z) = true := by
  have ht := (h.inv.tm i hi hk).1
  have h1 := ht.1; have h2 := ht.2
  rw [h.lh.1] at h1; rw [h.lh.2] at h2
  exact ⟨(S.k i).l.toNat, by omega, by omega, (eqL_iff _ _).2 fun q hq => h.kept rfl i hi hk q hq⟩

end Go.Proofs.YtiafhcgaikapcaaGreat
