
/-
  Lines taken one behind the other, in plain mathematics: all are frames, and each once, in whatever order. No program.
-/
import Derived.Test.YtjmgmbigbkllgaaOMath
namespace Go.Proofs.Ytjmgmbigbkllgaa
set_option linter.unusedVariables false

/-- The lines of a table's first j entries that are objects. -/
def linesTo (f : Nat → En) (j : Nat) : List Int := ((List.range j).filter fun i => decide ((f i).k ≠ 0)).map fun i => (f i).l
def linesL (f : Nat → En) : List Int := linesTo f 49
theorem linesTo_zero (f : Nat → En) : linesTo f 0 = [] := rfl
theorem linesTo_in (f : Nat → En) (j : Nat) (h : (f j).k ≠ 0) : linesTo f (j + 1) = linesTo f j ++ [(f j).l] := by
  unfold linesTo; rw [List.range_succ, List.filter_append, List.map_append]; simp [h]
theorem linesTo_out (f : Nat → En) (j : Nat) (h : (f j).k = 0) : linesTo f (j + 1) = linesTo f j := by
  unfold linesTo; rw [List.range_succ, List.filter_append, List.map_append]; simp [h]
theorem linesTo_mem (f : Nat → En) (j : Nat) (z : Int) : z ∈ linesTo f j ↔ ∃ i, i < j ∧ (f i).k ≠ 0 ∧ (f i).l = z := by
  unfold linesTo
  rw [List.mem_map]
  constructor
  · rintro ⟨i, hi, rfl⟩
    rw [List.mem_filter, List.mem_range, decide_eq_true_iff] at hi
    exact ⟨i, hi.1, hi.2, rfl⟩
  · rintro ⟨i, hi, hk, rfl⟩
    exact ⟨i, by rw [List.mem_filter, List.mem_range, decide_eq_true_iff]; exact ⟨hi, hk⟩, rfl⟩
theorem linesL_mem (f : Nat → En) (z : Int) : z ∈ linesL f ↔ hasB f z = true := by
  unfold linesL; rw [linesTo_mem, hasB_iff]
theorem linesTo_len (f : Nat → En) (j : Nat) : (linesTo f j).length ≤ j := by
  unfold linesTo
  rw [List.length_map]
  exact Nat.le_trans (List.length_filter_le _ _) (by rw [List.length_range]; exact Nat.le_refl _)
def dirTo (d : Nat → Int) (j : Nat) : List Int := (List.range j).map d
theorem dirTo_next (d : Nat → Int) (j : Nat) : dirTo d (j + 1) = dirTo d j ++ [d j] := by unfold dirTo; rw [List.range_succ, List.map_append]; rfl
theorem dirTo_mem (d : Nat → Int) (z : Int) : z ∈ dirTo d 8 ↔ inD d z = true := by
  unfold dirTo; rw [List.mem_map, inD_iff]
  constructor
  · rintro ⟨i, hi, h⟩; exact ⟨i, List.mem_range.1 hi, h⟩
  · rintro ⟨i, hi, h⟩; exact ⟨i, List.mem_range.2 hi, h⟩

def Fr.takeL (F : Fr) : List Int → Fr
  | [] => F
  | z :: r => (F.turnA z 0 1).takeL r
def Fr.takesB (F : Fr) : List Int → Bool
  | [] => true
  | z :: r => decide (F.turnE z 0 = 0) && (F.turnA z 0 1).takesB r
theorem takeL_snoc (l : List Int) (z : Int) : ∀ F : Fr, F.takeL (l ++ [z]) = (F.takeL l).turnA z 0 1 := by
  induction l with
  | nil => intro F; rfl
  | cons y r ih => intro F; exact ih _
theorem takesB_snoc (l : List Int) (z : Int) : ∀ F : Fr, F.takesB (l ++ [z]) = (F.takesB l && decide ((F.takeL l).turnE z 0 = 0)) := by
  induction l with
  | nil => intro F; show (decide _ && true) = (true && decide _); rw [Bool.and_true, Bool.true_and]; rfl
  | cons y r ih => intro F; show (decide _ && Fr.takesB _ (r ++ [z])) = ((decide _ && _) && _); rw [ih, Bool.and_assoc]; rfl
theorem takesB_part (l r : List Int) : ∀ F : Fr, F.takesB l = false → F.takesB (l ++ r) = false := by
  induction l with
  | nil => intro F h; cases h
  | cons y l ih =>
    intro F h
    show (decide _ && Fr.takesB _ (l ++ r)) = false
    have h' : (decide (F.turnE y 0 = 0) && (F.turnA y 0 1).takesB l) = false := h
    rw [Bool.and_eq_false_iff] at h' ⊢
    rcases h' with h' | h'
    · exact Or.inl h'
    · exact Or.inr (ih _ h')
theorem takeL_ok (l : List Int) : ∀ {F : Fr}, F.ok → (F.takeL l).ok := by
  induction l with
  | nil => intro F h; exact h
  | cons z r ih => intro F h; exact ih (turn_ok h z 0 (Or.inr (Or.inl rfl)))
theorem takeL_lo (l : List Int) : ∀ F : Fr, (F.takeL l).lo = F.lo ∧ (F.takeL l).hi = F.hi := by
  have h1 : ∀ (F : Fr) z, (F.turnA z 0 1).lo = F.lo ∧ (F.turnA z 0 1).hi = F.hi := fun F z => by unfold Fr.turnA; split <;> exact ⟨rfl, rfl⟩
  induction l with
  | nil => intro F; exact ⟨rfl, rfl⟩
  | cons z r ih => intro F; exact ⟨(ih _).1.trans (h1 F z).1, (ih _).2.trans (h1 F z).2⟩
theorem turnE_zero {F : Fr} {z was : Int} : F.turnE z was = 0 ↔ F.isF z ∧ F.s z.toNat = was := by
  unfold Fr.turnE
  split
  · rename_i h
    split
    · rename_i h2; exact ⟨fun _ => And.intro h h2, fun _ => rfl⟩
    · rename_i h2; exact ⟨fun q => absurd q (by decide), fun q => absurd (And.right q) h2⟩
  · rename_i h; exact ⟨fun q => absurd q (by decide), fun q => absurd (And.left q) h⟩
theorem turnA_of {F : Fr} {z was is : Int} (h : F.turnE z was = 0) : F.turnA z was is = F.put z.toNat is := by
  obtain ⟨h1, h2⟩ := turnE_zero.1 h
  unfold Fr.turnA
  exact if_pos (by unfold Fr.st; rw [if_pos h1]; exact h2)
/-- All are taken just if all are free frames, and each stands once. -/
theorem takesB_iff (l : List Int) : ∀ F : Fr, F.takesB l = true ↔ (∀ z ∈ l, F.isF z ∧ F.s z.toNat = 0) ∧ l.Nodup := by
  induction l with
  | nil => intro F; exact ⟨fun _ => ⟨by simp, List.nodup_nil⟩, fun _ => rfl⟩
  | cons y r ih =>
    intro F
    show (decide (F.turnE y 0 = 0) && (F.turnA y 0 1).takesB r) = true ↔ _
    rw [Bool.and_eq_true, decide_eq_true_iff, ih, List.nodup_cons]
    constructor
    · rintro ⟨h1, h2, h3⟩
      have e := turnA_of (is := 1) h1
      rw [e] at h2
      obtain ⟨f1, f2⟩ := turnE_zero.1 h1
      have key : ∀ z ∈ r, F.isF z ∧ z.toNat ≠ y.toNat ∧ F.s z.toNat = 0 := fun z hz => by
        obtain ⟨a, b⟩ := h2 z hz
        have a' : F.isF z := a
        have b' : upd F.s y.toNat 1 z.toNat = 0 := b
        by_cases e2 : z.toNat = y.toNat
        · rw [e2, upd_same] at b'; cases b'
        · rw [upd_other _ _ _ _ e2] at b'; exact ⟨a', e2, b'⟩
      refine ⟨fun z hz => ?_, fun hy => (key y hy).2.1 rfl, h3⟩
      rcases List.mem_cons.1 hz with rfl | hz
      · exact ⟨f1, f2⟩
      · exact ⟨(key z hz).1, (key z hz).2.2⟩
    · rintro ⟨h1, h2, h3⟩
      have hy := h1 y List.mem_cons_self
      have hE := turnE_zero.2 hy
      refine ⟨hE, fun z hz => ?_, h3⟩
      rw [turnA_of hE]
      have h4 := h1 z (List.mem_cons_of_mem _ hz)
      refine ⟨h4.1, ?_⟩
      show upd F.s y.toNat 1 z.toNat = 0
      have hne : z.toNat ≠ y.toNat := fun e => h2 (by
        have a1 := h4.1.1; have a2 := hy.1.1
        have : z = y := by omega
        rw [← this]; exact hz)
      rw [upd_other _ _ _ _ hne]; exact h4.2
theorem takeL_s (l : List Int) : ∀ F : Fr, F.takesB l = true → ∀ i : Nat, (F.takeL l).s i = if (i : Int) ∈ l then 1 else F.s i := by
  induction l with
  | nil => intro F _ i; rw [if_neg (by simp)]; rfl
  | cons y r ih =>
    intro F h i
    have h' : (decide (F.turnE y 0 = 0) && (F.turnA y 0 1).takesB r) = true := h
    rw [Bool.and_eq_true, decide_eq_true_iff] at h'
    show ((F.turnA y 0 1).takeL r).s i = _
    rw [ih _ h'.2 i, turnA_of h'.1]
    have hy := (turnE_zero.1 h'.1).1.1
    show (if (i : Int) ∈ r then (1 : Int) else upd F.s y.toNat 1 i) = _
    by_cases hr : (i : Int) ∈ r
    · rw [if_pos hr, if_pos (List.mem_cons_of_mem _ hr)]
    · rw [if_neg hr]
      by_cases e : i = y.toNat
      · rw [e, upd_same, if_pos (by rw [show ((y.toNat : Nat) : Int) = y by omega]; exact List.mem_cons_self)]
      · rw [upd_other _ _ _ _ e, if_neg (fun q => by
          rcases List.mem_cons.1 q with q | q
          · exact e (by omega)
          · exact hr q)]
/-- In whatever order. -/
theorem takes_perm {l r : List Int} (hp : l.Perm r) (F : Fr) : F.takesB l = F.takesB r ∧ (F.takesB l = true → F.takeL l = F.takeL r) := by
  have h1 : F.takesB l = F.takesB r := by
    rw [Bool.eq_iff_iff, takesB_iff, takesB_iff, hp.nodup_iff]
    constructor
    · intro h; exact ⟨fun z hz => h.1 z (hp.mem_iff.2 hz), h.2⟩
    · intro h; exact ⟨fun z hz => h.1 z (hp.mem_iff.1 hz), h.2⟩
  refine ⟨h1, fun h => ?_⟩
  have e1 := takeL_lo l F
  have e2 := takeL_lo r F
  have e3 := takeL_s l F h
  have e4 := takeL_s r F (h1 ▸ h)
  have : ∀ A B : Fr, A.lo = B.lo → A.hi = B.hi → (∀ i, A.s i = B.s i) → A = B := fun A B a b c => by
    cases A; cases B; simp only at a b c; rw [a, b, funext c]
  exact this _ _ (e1.1.trans e2.1.symm) (e1.2.trans e2.2.symm) fun i => by rw [e3 i, e4 i]; simp only [hp.mem_iff]

/-- What Of makes: the lines of the Dir first, then the table's. -/
def claimL (t : Nat → En) (d : Nat → Int) : List Int := dirTo d 8 ++ linesL t
def ofB (F : Fr) (t : Nat → En) (d : Nat → Int) : Bool := F.takesB (claimL t d)
def ofS (F : Fr) (t : Nat → En) (d : Nat → Int) : Sto := ⟨F.takeL (claimL t d), t, t, d, fun _ => ze, false⟩

end Go.Proofs.Ytjmgmbigbkllgaa
