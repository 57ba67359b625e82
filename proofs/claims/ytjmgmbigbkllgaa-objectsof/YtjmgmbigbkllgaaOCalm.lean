
/-
  A memory whose power stays on, beneath a store; frames that are taken, and how many are left. No program.
-/
import Derived.Test.YtjmgmbigbkllgaaOOk
namespace Go.Proofs.Ytjmgmbigbkllgaa
set_option linter.unusedVariables false

/-! ### a memory whose power stays on -/
def Calm (A : Mm) : Prop := A.on = true ∧ A.fuse = -1
theorem calm_may {A : Mm} (h : Calm A) : A.may = true := by unfold Mm.may; rw [h.1, h.2]; rfl
theorem calm_step {A : Mm} (h : Calm A) (l : Nat → Ln) : A.step l = A.stepped l := by unfold Mm.step; rw [if_pos (calm_may h)]
theorem calm_new (n : Nat) (s : Nat → Nat → Int) : Calm (Mm.new n s) := ⟨rfl, rfl⟩
theorem calm_store {A : Mm} (h : Calm A) (z q v : Int) : Calm (A.storeZ z q v) := by
  unfold Mm.storeZ
  split
  · unfold Mm.store; rw [calm_step h]
    exact ⟨h.1, by show (if A.fuse > 0 then A.fuse - 1 else A.fuse) = -1; rw [h.2]; rfl⟩
  · exact h
theorem calm_storeE {A : Mm} (h : Calm A) {z q : Int} (hz : A.isZ z) (hq : is8 q) : A.storeE z q = 0 := by
  unfold Mm.storeE Mm.err; rw [if_pos ⟨hz, hq⟩, if_pos (calm_may h)]
theorem calm_loadE {A : Mm} (h : Calm A) {z : Int} (hz : A.isZ z) : A.loadE z = 0 := by unfold Mm.loadE; rw [if_pos hz, if_pos h.1]
theorem isZ_store {A : Mm} (z q v y : Int) : (A.storeZ z q v).isZ y ↔ A.isZ y := by unfold Mm.isZ; rw [storeZ_n]
theorem has_store {A : Mm} (h : Calm A) {z q : Int} (hz : A.isZ z) (hq : is8 q) (v y : Int) (hy : A.isZ y) : (A.storeZ z q v).hasZ y = if y = z then upd (A.hasZ z) q.toNat v else A.hasZ y := by
  have hc := calm_store h z q v
  have e1 : (A.storeZ z q v).hasZ y = (upd A.l z.toNat ((A.l z.toNat).store q.toNat v) y.toNat).has := by
    unfold Mm.hasZ
    rw [if_pos ⟨(isZ_store z q v y).2 hy, hc.1⟩]
    unfold Mm.storeZ
    rw [if_pos ⟨hz, hq⟩]
    unfold Mm.store
    rw [calm_step h]; rfl
  have e2 : A.hasZ y = (A.l y.toNat).has := by unfold Mm.hasZ; rw [if_pos ⟨hy, h.1⟩]
  have e3 : A.hasZ z = (A.l z.toNat).has := by unfold Mm.hasZ; rw [if_pos ⟨hz, h.1⟩]
  rw [e1, e2, e3]
  by_cases e : y = z
  · subst e
    rw [upd_same, if_pos rfl]
    show runS ((A.l y.toNat).t ++ [(q.toNat, v)]) (A.l y.toNat).s = _
    rw [runS_snoc]; rfl
  · rw [if_neg e, upd_other _ _ _ _ (fun q => e (by have := hz.1; have := hy.1; omega))]
theorem calm_lay {A : Mm} (h : Calm A) {z : Int} (hz : A.isZ z) (l : Nat → Int) : ∀ k, k ≤ 8 → Calm (layP A z l k).1 ∧ (layP A z l k).2 = 0 ∧ (∀ y, A.isZ y → y ≠ z → (layP A z l k).1.hasZ y = A.hasZ y) ∧ ∀ j, (layP A z l k).1.hasZ z j = if j < k then l j else A.hasZ z j
  | 0, _ => ⟨h, rfl, fun _ _ _ => rfl, fun j => by rw [if_neg (by omega)]; rfl⟩
  | k + 1, hk => by
    obtain ⟨h1, h2, h3, h4⟩ := calm_lay h hz l k (by omega)
    have hn : ∀ y, A.isZ y → (layP A z l k).1.isZ y := fun y hy => by unfold Mm.isZ; rw [layP_n]; exact hy
    have h8 : is8 (k : Int) := ⟨by omega, by omega⟩
    rw [layP_next h2]
    refine ⟨calm_store h1 _ _ _, calm_storeE h1 (hn z hz) h8, fun y hy hyz => ?_, fun j => ?_⟩
    · rw [has_store h1 (hn z hz) h8 _ _ (hn y hy), if_neg hyz]; exact h3 y hy hyz
    · show ((layP A z l k).1.storeZ z k (l k)).hasZ z j = _
      rw [has_store h1 (hn z hz) h8 _ _ (hn z hz), if_pos rfl, Int.toNat_natCast]
      by_cases e : j = k
      · subst e; rw [upd_same, if_pos (by omega)]
      · rw [upd_other _ _ _ _ e, h4]
        by_cases e2 : j < k
        · rw [if_pos e2, if_pos (by omega)]
        · rw [if_neg e2, if_neg (by omega)]

/-! ### frames that are taken -/
def Fr.tk (F : Fr) (z : Int) : Prop := F.isF z ∧ F.s z.toNat = 1
theorem alloc_spec {F : Fr} (h : F.allocE = 0) : ∃ i : Nat, F.allocV = i ∧ F.lo ≤ i ∧ i < F.hi ∧ F.s i = 0 ∧ F.allocA = F.put i 1 ∧ ∀ j, j < i → F.fr j = false := by
  cases hf : F.first with
  | none => unfold Fr.allocE at h; rw [hf] at h; cases h
  | some i =>
    obtain ⟨h1, h2, h3⟩ := first_spec hf
    have h4 := fr_iff.1 h2
    exact ⟨i, by unfold Fr.allocV; rw [hf], h4.1, h1, h4.2, by unfold Fr.allocA; rw [hf], h3⟩
theorem alloc_none {F : Fr} (h : F.allocE ≠ 0) : F.allocA = F ∧ F.allocE = 10 ∧ ∀ i, i < F.hi → F.fr i = false := by
  cases hf : F.first with
  | none => exact ⟨by unfold Fr.allocA; rw [hf], by unfold Fr.allocE; rw [hf], first_none_iff.1 hf⟩
  | some i => unfold Fr.allocE at h; rw [hf] at h; exact absurd rfl h
theorem alloc_lo (F : Fr) : F.allocA.lo = F.lo ∧ F.allocA.hi = F.hi := by
  unfold Fr.allocA; split <;> exact ⟨rfl, rfl⟩
theorem turn_lo (F : Fr) (z was is : Int) : (F.turnA z was is).lo = F.lo ∧ (F.turnA z was is).hi = F.hi := by
  unfold Fr.turnA; split <;> exact ⟨rfl, rfl⟩
theorem tk_ne {F : Fr} (h : F.allocE = 0) {z : Int} (ht : F.tk z) : z ≠ F.allocV := by
  obtain ⟨i, e1, _, _, e4, _⟩ := alloc_spec h
  intro e
  rw [e1] at e
  have := ht.2
  rw [e, Int.toNat_natCast, e4] at this
  cases this
theorem tk_alloc {F : Fr} {z : Int} (ht : F.tk z) : F.allocA.tk z := by
  by_cases h : F.allocE = 0
  · obtain ⟨i, e1, e2, e3, e4, e5, _⟩ := alloc_spec h
    rw [e5]
    refine ⟨ht.1, ?_⟩
    show upd F.s i 1 z.toNat = 1
    by_cases e : z.toNat = i
    · rw [e, upd_same]
    · rw [upd_other _ _ _ _ e]; exact ht.2
  · rw [(alloc_none h).1]; exact ht
theorem tk_new {F : Fr} (h : F.allocE = 0) : F.allocA.tk F.allocV := by
  obtain ⟨i, e1, e2, e3, e4, e5, _⟩ := alloc_spec h
  rw [e5, e1]
  exact ⟨⟨by show (F.lo : Int) ≤ _; omega, by show _ < (F.hi : Int); omega⟩, by show upd F.s i 1 (i : Int).toNat = 1; rw [Int.toNat_natCast, upd_same]⟩
theorem isF_new {F : Fr} (h : F.allocE = 0) : F.isF F.allocV := by
  obtain ⟨i, e1, e2, e3, e4, e5, _⟩ := alloc_spec h
  rw [e1]; exact ⟨by omega, by omega⟩
theorem count_one {p q : Nat → Bool} {i : Nat} (hp : p i = true) (hq : q i = false) (h : ∀ j, j ≠ i → p j = q j) : ∀ n, (List.range n).countP p = (List.range n).countP q + (if i < n then 1 else 0)
  | 0 => by simp
  | n + 1 => by
    rw [List.range_succ, List.countP_append, List.countP_append, count_one hp hq h n]
    by_cases e : n = i
    · subst e
      rw [if_neg (show ¬ n < n by omega), if_pos (show n < n + 1 by omega)]
      simp [hp, hq]
    · simp only [List.countP_cons, List.countP_nil, h n e]
      by_cases e2 : i < n
      · rw [if_pos e2, if_pos (show i < n + 1 by omega)]; omega
      · rw [if_neg e2, if_neg (show ¬ i < n + 1 by omega)]; omega
theorem left_alloc {F : Fr} (h : F.allocE = 0) : F.left = F.allocA.left + 1 := by
  obtain ⟨i, e1, e2, e3, e4, e5, _⟩ := alloc_spec h
  rw [e5]
  unfold Fr.left Fr.leftTo
  show _ = (List.range F.hi).countP _ + 1
  have := count_one (p := F.fr) (q := (F.put i 1).fr) (i := i) (fr_iff.2 ⟨e2, e4⟩) (fr_false.2 fun q => by
    have := q.2
    have hu : upd F.s i 1 i = 0 := this
    rw [upd_same] at hu; cases hu) (fun j hj => by
    unfold Fr.fr
    show _ = (decide (F.lo ≤ j) && (upd F.s i 1 j == 0))
    rw [upd_other _ _ _ _ hj]) F.hi
  rw [if_pos e3] at this
  exact this
theorem left_none {F : Fr} (h : F.allocE ≠ 0) : F.left = 0 := by
  unfold Fr.left Fr.leftTo
  rw [List.countP_eq_zero]
  intro i hi
  rw [(alloc_none h).2.2 i (List.mem_range.1 hi)]; simp
theorem left_iff {F : Fr} : F.left = 0 ↔ F.allocE ≠ 0 := ⟨fun h e => by have := left_alloc e; omega, left_none⟩

end Go.Proofs.Ytjmgmbigbkllgaa
