
/-
  Frames in plain mathematics: which lines they are, how each stands, and what a call makes of them. No program.
-/
import Derived.Test.YtiafhcgaikapcaaGreatNMath
namespace Go.Proofs.YtiafhcgaikapcaaGreat

/-- The frames are the lines from lo on, below hi; s: how each line stands. -/
structure Fr where
  lo : Nat
  hi : Nat
  s : Nat → Int

def Fr.ok (A : Fr) : Prop := A.lo ≤ A.hi ∧ A.hi ≤ 1024 ∧ ∀ i, A.s i = 0 ∨ A.s i = 1 ∨ A.s i = 2
def Fr.isF (A : Fr) (z : Int) : Prop := (A.lo : Int) ≤ z ∧ z < (A.hi : Int)
instance (A : Fr) (z : Int) : Decidable (A.isF z) := by unfold Fr.isF; infer_instance
def Fr.st (A : Fr) (z : Int) : Int := if A.isF z then A.s z.toNat else -1
def Fr.put (A : Fr) (i : Nat) (v : Int) : Fr := ⟨A.lo, A.hi, upd A.s i v⟩
/-- A free frame. -/
def Fr.fr (A : Fr) (i : Nat) : Bool := decide (A.lo ≤ i) && (A.s i == 0)
def Fr.first (A : Fr) : Option Nat := (List.range A.hi).find? A.fr
def Fr.leftTo (A : Fr) (k : Nat) : Nat := (List.range k).countP A.fr
def Fr.left (A : Fr) : Nat := A.leftTo A.hi
def Fr.allocA (A : Fr) : Fr := match A.first with | some i => A.put i 1 | none => A
def Fr.allocV (A : Fr) : Int := match A.first with | some i => (i : Int) | none => 0
def Fr.allocE (A : Fr) : Int := match A.first with | some _ => 0 | none => 10
def Fr.turnA (A : Fr) (z was is : Int) : Fr := if A.st z = was then A.put z.toNat is else A
def Fr.turnE (A : Fr) (z was : Int) : Int := if A.isF z then if A.s z.toNat = was then 0 else 3 else 1
def Fr.settleTo (A : Fr) (k : Nat) : Fr := ⟨A.lo, A.hi, fun i => if (A.lo ≤ i ∧ i < k) ∧ A.s i = 2 then 0 else A.s i⟩
def Fr.settle (A : Fr) : Fr := A.settleTo A.hi
def Fr.new (lo hi : Nat) : Fr := ⟨lo, hi, fun _ => 0⟩

theorem find_none {α : Type} {l : List α} {p : α → Bool} (h : ∀ x ∈ l, p x = false) : l.find? p = none := List.find?_eq_none.2 fun x hx => by simp [h x hx]
theorem first_some {A : Fr} {k : Nat} (hk : k < A.hi) (hf : A.fr k = true) (hn : ∀ i, i < k → A.fr i = false) : A.first = some k := by
  unfold Fr.first
  obtain ⟨m, hm⟩ : ∃ m, A.hi = k + 1 + m := ⟨A.hi - (k + 1), by omega⟩
  rw [hm, List.range_add, List.find?_append, List.range_succ, List.find?_append, find_none (fun x hx => hn x (List.mem_range.1 hx))]
  simp [hf]
theorem first_none {A : Fr} (hn : ∀ i, i < A.hi → A.fr i = false) : A.first = none := find_none fun x hx => hn x (List.mem_range.1 hx)
theorem first_spec {A : Fr} {k : Nat} (h : A.first = some k) : k < A.hi ∧ A.fr k = true ∧ ∀ i, i < k → A.fr i = false := by
  have h1 := List.mem_of_find?_eq_some h
  have h2 := List.find?_some h
  have hk : k < A.hi := List.mem_range.1 h1
  refine ⟨hk, h2, fun i hi => ?_⟩
  rcases Bool.eq_false_or_eq_true (A.fr i) with hf | hf
  · exfalso
    let rec least (n : Nat) (hn : n < A.hi) (hfn : A.fr n = true) : ∃ m, m ≤ n ∧ A.fr m = true ∧ ∀ j, j < m → A.fr j = false := by
      by_cases hx : ∃ j, j < n ∧ A.fr j = true
      · obtain ⟨j, hj, hj2⟩ := hx
        obtain ⟨m, m1, m2, m3⟩ := least j (by omega) hj2
        exact ⟨m, by omega, m2, m3⟩
      · exact ⟨n, Nat.le_refl _, hfn, fun j hj => by
          rcases Bool.eq_false_or_eq_true (A.fr j) with h | h
          · exact absurd ⟨j, hj, h⟩ hx
          · exact h⟩
    obtain ⟨m, m1, m2, m3⟩ := least i (by omega) hf
    have := first_some (show m < A.hi by omega) m2 m3
    rw [h] at this
    simp at this
    omega
  · exact hf
theorem first_none_iff {A : Fr} : A.first = none ↔ ∀ i, i < A.hi → A.fr i = false := by
  refine ⟨fun h i hi => ?_, first_none⟩
  have := List.find?_eq_none.1 h i (List.mem_range.2 hi)
  simpa using this
theorem fr_iff {A : Fr} {i : Nat} : A.fr i = true ↔ A.lo ≤ i ∧ A.s i = 0 := by simp [Fr.fr]
theorem fr_false {A : Fr} {i : Nat} : A.fr i = false ↔ ¬ (A.lo ≤ i ∧ A.s i = 0) := by rw [← fr_iff]; simp
theorem leftTo_zero (A : Fr) : A.leftTo 0 = 0 := rfl
theorem leftTo_next (A : Fr) (k : Nat) : A.leftTo (k + 1) = A.leftTo k + (if A.fr k = true then 1 else 0) := by
  unfold Fr.leftTo
  rw [List.range_succ, List.countP_append]
  simp [List.countP_cons]
theorem leftTo_le (A : Fr) (k : Nat) : A.leftTo k ≤ k := by
  have := List.countP_le_length (p := A.fr) (l := List.range k)
  rw [List.length_range] at this
  exact this
theorem st_nat (A : Fr) (k : Nat) : A.st (k : Int) = if A.lo ≤ k ∧ k < A.hi then A.s k else -1 := by
  unfold Fr.st
  by_cases h : A.lo ≤ k ∧ k < A.hi
  · rw [if_pos (show A.isF k from ⟨by omega, by omega⟩), if_pos h]; rfl
  · rw [if_neg (fun e : A.isF k => h ⟨by have := e.1; omega, by have := e.2; omega⟩), if_neg h]
theorem st_free {A : Fr} (k : Nat) (hk : k < A.hi) : (A.st (k : Int) = 0) ↔ A.fr k = true := by
  rw [st_nat, fr_iff]
  by_cases h : A.lo ≤ k
  · rw [if_pos ⟨h, hk⟩]; simp [h]
  · rw [if_neg (by omega)]; simp [h]

/-! ### States stay states -/
theorem put_ok {A : Fr} (h : A.ok) (i : Nat) {v : Int} (hv : v = 0 ∨ v = 1 ∨ v = 2) : (A.put i v).ok :=
  ⟨h.1, h.2.1, fun j => by
    show upd A.s i v j = 0 ∨ upd A.s i v j = 1 ∨ upd A.s i v j = 2
    unfold upd; split
    · exact hv
    · exact h.2.2 j⟩
theorem alloc_ok {A : Fr} (h : A.ok) : A.allocA.ok := by
  unfold Fr.allocA
  split
  · exact put_ok h _ (Or.inr (Or.inl rfl))
  · exact h
theorem turn_ok {A : Fr} (h : A.ok) (z was : Int) {is : Int} (hv : is = 0 ∨ is = 1 ∨ is = 2) : (A.turnA z was is).ok := by
  unfold Fr.turnA
  split
  · exact put_ok h _ hv
  · exact h
theorem settleTo_ok {A : Fr} (h : A.ok) (k : Nat) : (A.settleTo k).ok := ⟨h.1, h.2.1, fun j => by
  show (if (A.lo ≤ j ∧ j < k) ∧ A.s j = 2 then (0 : Int) else A.s j) = 0 ∨ (if (A.lo ≤ j ∧ j < k) ∧ A.s j = 2 then (0 : Int) else A.s j) = 1 ∨ (if (A.lo ≤ j ∧ j < k) ∧ A.s j = 2 then (0 : Int) else A.s j) = 2
  split
  · exact Or.inl rfl
  · exact h.2.2 j⟩
theorem settle_ok {A : Fr} (h : A.ok) : A.settle.ok := settleTo_ok h _
theorem new_ok {lo hi : Nat} (h1 : lo ≤ hi) (h2 : hi ≤ 1024) : (Fr.new lo hi).ok := ⟨h1, h2, fun _ => Or.inl rfl⟩
theorem settleTo_zero (A : Fr) : A.settleTo 0 = A := by
  unfold Fr.settleTo
  cases A with | mk lo hi s =>
  simp
theorem settleTo_same {A : Fr} (k : Nat) (h : ¬ (A.lo ≤ k ∧ A.s k = 2)) : A.settleTo (k + 1) = A.settleTo k := by
  unfold Fr.settleTo
  congr 1
  funext i
  by_cases hi : i = k
  · subst hi
    rw [if_neg (by omega), if_neg (by omega)]
  · by_cases h2 : (A.lo ≤ i ∧ i < k) ∧ A.s i = 2
    · rw [if_pos h2, if_pos (by omega)]
    · rw [if_neg h2, if_neg (by omega)]
theorem settleTo_next {A : Fr} (k : Nat) (h : A.lo ≤ k ∧ A.s k = 2) : A.settleTo (k + 1) = (A.settleTo k).put k 0 := by
  unfold Fr.settleTo Fr.put
  congr 1
  funext i
  by_cases hi : i = k
  · subst hi
    rw [upd_same, if_pos (by omega)]
  · rw [upd_other _ _ _ _ hi]
    show _ = if (A.lo ≤ i ∧ i < k) ∧ A.s i = 2 then (0 : Int) else A.s i
    by_cases h2 : (A.lo ≤ i ∧ i < k) ∧ A.s i = 2
    · rw [if_pos h2, if_pos (by omega)]
    · rw [if_neg h2, if_neg (by omega)]
theorem settleTo_at (A : Fr) (k : Nat) : (A.settleTo k).s k = A.s k := by
  show (if (A.lo ≤ k ∧ k < k) ∧ A.s k = 2 then (0 : Int) else A.s k) = _
  rw [if_neg (by omega)]

end Go.Proofs.YtiafhcgaikapcaaGreat
