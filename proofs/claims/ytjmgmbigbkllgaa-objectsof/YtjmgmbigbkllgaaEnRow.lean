
/-
  Rows of entries in plain mathematics: as rows of integers, three for each. No program.
-/
import Derived.Test.YtjmgmbigbkllgaaEMath
namespace Go.Proofs.Ytjmgmbigbkllgaa
open Go.RowKit
set_option linter.unusedVariables false

/-! ### rows of entries -/
/-- The entry j of a row. -/
def enAt (zs : List Int) (j : Nat) : En := ⟨zs.getD (3 * j) 0, zs.getD (3 * j + 1) 0, zs.getD (3 * j + 2) 0⟩
def fl3 (f : Nat → En) (m : Nat) : Int := if m % 3 = 0 then (f (m / 3)).k else if m % 3 = 1 then (f (m / 3)).v else (f (m / 3)).l
/-- n entries, one behind the other. -/
def rowE (n : Nat) (f : Nat → En) : List Int := (List.range (3 * n)).map (fl3 f)
theorem rowE_len (n : Nat) (f : Nat → En) : (rowE n f).length = 3 * n := by simp [rowE]
theorem rowE_get (n : Nat) (f : Nat → En) (m : Nat) (h : m < 3 * n) : (rowE n f).getD m 0 = fl3 f m := by
  unfold rowE; rw [List.getD_eq_getElem?_getD, List.getElem?_map, List.getElem?_range h]; rfl
theorem rowE_at (n : Nat) (f : Nat → En) (j : Nat) (h : j < n) : enAt (rowE n f) j = f j := by
  unfold enAt
  rw [rowE_get _ _ _ (by omega), rowE_get _ _ _ (by omega), rowE_get _ _ _ (by omega)]
  unfold fl3
  rw [if_pos (by omega), if_neg (by omega), if_pos (by omega), if_neg (by omega), if_neg (by omega), show 3 * j / 3 = j by omega, show (3 * j + 1) / 3 = j by omega, show (3 * j + 2) / 3 = j by omega]
theorem rowE_ext {n : Nat} {f g : Nat → En} (h : ∀ i, i < n → f i = g i) : rowE n f = rowE n g := by
  unfold rowE
  apply List.map_congr_left
  intro m hm
  rw [List.mem_range] at hm
  unfold fl3
  rw [h (m / 3) (by omega)]
theorem list_ext0 {xs ys : List Int} {n : Nat} (hx : xs.length = n) (hy : ys.length = n) (h : ∀ m, m < n → xs.getD m 0 = ys.getD m 0) : xs = ys := by
  apply List.ext_getElem?
  intro i
  by_cases hi : i < n
  · have := h i hi
    rw [List.getD_eq_getElem?_getD, List.getD_eq_getElem?_getD, List.getElem?_eq_getElem (by omega), List.getElem?_eq_getElem (by omega)] at this
    rw [List.getElem?_eq_getElem (by omega), List.getElem?_eq_getElem (by omega)]
    simpa using this
  · rw [List.getElem?_eq_none (by omega), List.getElem?_eq_none (by omega)]
theorem fl3_en (zs : List Int) (m : Nat) : fl3 (enAt zs) m = zs.getD m 0 := by
  unfold fl3 enAt
  by_cases h0 : m % 3 = 0
  · rw [if_pos h0, show 3 * (m / 3) = m by omega]
  · rw [if_neg h0]
    by_cases h1 : m % 3 = 1
    · rw [if_pos h1, show 3 * (m / 3) + 1 = m by omega]
    · rw [if_neg h1, show 3 * (m / 3) + 2 = m by omega]
theorem row_en (zs : List Int) (n : Nat) (hl : zs.length = 3 * n) : rowE n (enAt zs) = zs :=
  list_ext0 (rowE_len n _) hl fun m hm => by rw [rowE_get _ _ _ hm, fl3_en]
theorem row_eq_iff (xs ys : List Int) (n : Nat) (hx : xs.length = 3 * n) (hy : ys.length = 3 * n) : xs = ys ↔ ∀ i, i < n → enAt xs i = enAt ys i := by
  constructor
  · rintro rfl i _; rfl
  · intro h; rw [← row_en xs n hx, ← row_en ys n hy]; exact rowE_ext h
def put3 (zs : List Int) (j : Nat) (c : En) : List Int := ((zs.set (3 * j) c.k).set (3 * j + 1) c.v).set (3 * j + 2) c.l
theorem put3_len (zs : List Int) (j : Nat) (c : En) : (put3 zs j c).length = zs.length := by simp [put3]
theorem getD_set (zs : List Int) (i m : Nat) (v : Int) (h : i < zs.length) : (zs.set i v).getD m 0 = if m = i then v else zs.getD m 0 := by
  rw [List.getD_eq_getElem?_getD, List.getElem?_set]
  by_cases hm : m = i
  · rw [if_pos hm.symm, if_pos (by omega), if_pos hm]; rfl
  · rw [if_neg (fun h => hm h.symm), if_neg hm, List.getD_eq_getElem?_getD]
theorem put3_get (zs : List Int) (j : Nat) (c : En) (h : 3 * j + 2 < zs.length) (m : Nat) : (put3 zs j c).getD m 0 = if m / 3 = j then fl3 (fun _ => c) m else zs.getD m 0 := by
  unfold put3
  rw [getD_set _ _ _ _ (by simp; omega), getD_set _ _ _ _ (by simp; omega), getD_set _ _ _ _ (by omega)]
  unfold fl3
  by_cases h3 : m / 3 = j
  · rw [if_pos h3]
    by_cases a : m = 3 * j + 2
    · rw [if_pos a, if_neg (by omega), if_neg (by omega)]
    · rw [if_neg a]
      by_cases b : m = 3 * j + 1
      · rw [if_pos b, if_neg (by omega), if_pos (by omega)]
      · rw [if_neg b, if_pos (by omega), if_pos (by omega)]
  · rw [if_neg h3, if_neg (by omega), if_neg (by omega), if_neg (by omega)]
theorem put3_row (n : Nat) (f : Nat → En) (j : Nat) (c : En) (h : j < n) : put3 (rowE n f) j c = rowE n (fun i => if i = j then c else f i) :=
  list_ext0 (n := 3 * n) (by rw [put3_len, rowE_len]) (rowE_len n _) fun m hm => by
    rw [put3_get _ _ _ (by rw [rowE_len]; omega), rowE_get _ _ _ hm, rowE_get _ _ _ hm]
    unfold fl3
    by_cases hj : m / 3 = j
    · simp only [if_pos hj]
    · simp only [if_neg hj]
theorem put3_at (zs : List Int) (n j : Nat) (c : En) (hl : zs.length = 3 * n) (h : j < n) (i : Nat) (hi : i < n) : enAt (put3 zs j c) i = if i = j then c else enAt zs i := by
  have : put3 zs j c = rowE n (fun i => if i = j then c else enAt zs i) := by rw [← put3_row n _ j c h, row_en zs n hl]
  rw [this, rowE_at n _ i hi]
/-- The first j entries, noughts behind. -/
def upTo (f : Nat → En) (j : Nat) : Nat → En := fun i => if i < j then f i else ze
def zrow (n : Nat) : List Int := rowE n fun _ => ze
theorem zrow_len (n : Nat) : (zrow n).length = 3 * n := rowE_len _ _
theorem zrow_zero (n : Nat) : zrow n = List.replicate (3 * n) 0 := list_ext0 (rowE_len n _) (by simp) fun m hm => by
  unfold zrow
  rw [rowE_get _ _ _ hm]
  unfold fl3 ze
  simp [List.getD_eq_getElem?_getD, hm]
theorem upTo_zero (n : Nat) (f : Nat → En) : rowE n (upTo f 0) = zrow n := rowE_ext fun i _ => by unfold upTo; rw [if_neg (by omega)]
theorem upTo_all (n : Nat) (f : Nat → En) : rowE n (upTo f n) = rowE n f := rowE_ext fun i hi => by unfold upTo; rw [if_pos hi]
theorem put3_upTo (n : Nat) (f : Nat → En) (j : Nat) (h : j < n) : put3 (rowE n (upTo f j)) j (f j) = rowE n (upTo f (j + 1)) := by
  rw [put3_row _ _ _ _ h]
  apply rowE_ext
  intro i _
  unfold upTo
  by_cases a : i = j
  · rw [if_pos a, if_pos (by omega), a]
  · rw [if_neg a]
    by_cases b : i < j
    · rw [if_pos b, if_pos (by omega)]
    · rw [if_neg b, if_neg (by omega)]

end Go.Proofs.Ytjmgmbigbkllgaa
