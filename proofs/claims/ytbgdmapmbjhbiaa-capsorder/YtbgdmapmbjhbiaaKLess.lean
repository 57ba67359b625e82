
/-
  What is diminished, and what is within what, in plain mathematics. No program.
-/
import Derived.Test.YtbgdmapmbjhbiaaKMath
namespace Go.Proofs.Ytbgdmapmbjhbiaa
set_option linter.unusedVariables false

theorem dimE_zero {w x y : Int} (h : dimE w x y = 0) : isC w = true ∧ rtB x = true ∧ bdB y = true := by
  unfold dimE at h
  cases h1 : isC w
  · rw [h1] at h; simp at h
  · cases h2 : rtB x
    · rw [h1, h2] at h; simp at h
    · cases h3 : bdB y
      · rw [h1, h2, h3] at h; simp at h
      · exact ⟨rfl, rfl, rfl⟩
theorem dimE_mk {w x y : Int} (h1 : isC w = true) (h2 : rtB x = true) (h3 : bdB y = true) : dimE w x y = 0 := by simp [dimE, h1, h2, h3]
theorem dimV_of {w x y : Int} (h : dimE w x y = 0) : dimV w x y = wordC (dimC (ofC w) x y) := by simp [dimV, h]
theorem dim_may {w x y : Int} (h : dimE w x y = 0) : mayC (dimC (ofC w) x y) = true := by
  obtain ⟨h1, h2, h3⟩ := dimE_zero h
  exact dimC_may _ x y h1 ((bdB_iff y).1 h3)
theorem dimV_bd (w x y : Int) : 0 ≤ dimV w x y ∧ dimV w x y ≤ 18446744073709551615 := by
  by_cases h : dimE w x y = 0
  · rw [dimV_of h]
    have := wordC_bd _ (dim_may h)
    omega
  · simp [dimV, h]
theorem dim_of {w x y : Int} (h : dimE w x y = 0) : isC (dimV w x y) = true ∧ ofC (dimV w x y) = dimC (ofC w) x y := by
  rw [dimV_of h]
  exact ⟨isC_word _ (dim_may h), ofC_word _ (dim_may h)⟩
/-- What is diminished is within what it was. -/
theorem dim_in {w x y : Int} (h : dimE w x y = 0) : inB (dimV w x y) w = true := by
  obtain ⟨h1, h2⟩ := dim_of h
  unfold inB
  rw [h1, h2, (dimE_zero h).1]
  have e : hasI (ofC w).r (dimC (ofC w) x y).r = true := has_less _ _
  rw [e]
  simp [dimC]
/-- To diminish twice is as once, by the rights that both have; the first badge stays. -/
theorem dim_twice {w x1 y1 x2 y2 : Int} (h1 : dimE w x1 y1 = 0) (h2 : dimE (dimV w x1 y1) x2 y2 = 0) : dimE w (bits .and .i64 x1 x2) (if y1 = 0 then y2 else y1) = 0 ∧ dimV w (bits .and .i64 x1 x2) (if y1 = 0 then y2 else y1) = dimV (dimV w x1 y1) x2 y2 := by
  obtain ⟨a1, a2, a3⟩ := dimE_zero h1
  obtain ⟨b1, b2, b3⟩ := dimE_zero h2
  have hr : rtB (bits .and .i64 x1 x2) = true := (rtB_iff _).2 (and_bd x1 x2 ((rtB_iff x1).1 a2))
  have hb : bdB (if y1 = 0 then y2 else y1) = true := by split <;> assumption
  have h3 := dimE_mk a1 hr hb
  refine ⟨h3, ?_⟩
  rw [dimV_of h3, dimV_of h2, (dim_of h1).2]
  congr 1
  apply Cp.ext'
  · rfl
  · exact (and_assoc64 _ _ _).symm
  · rfl
  · rfl
  · show (if (ofC w).b = 0 then (if y1 = 0 then y2 else y1) else (ofC w).b) = (if (if (ofC w).b = 0 then y1 else (ofC w).b) = 0 then y2 else (if (ofC w).b = 0 then y1 else (ofC w).b))
    by_cases hb0 : (ofC w).b = 0 <;> simp [hb0]

theorem inB_iff (a b : Int) : inB a b = true ↔ isC a = true ∧ isC b = true ∧ ((ofC a).k = (ofC b).k ∧ (ofC a).i = (ofC b).i ∧ (ofC a).v = (ofC b).v) ∧ hasI (ofC b).r (ofC a).r = true := by
  unfold inB
  rw [Bool.and_eq_true, Bool.and_eq_true, Bool.and_eq_true, decide_eq_true_iff]
  constructor
  · rintro ⟨⟨⟨h1, h2⟩, h3⟩, h4⟩; exact ⟨h1, h2, h3, h4⟩
  · rintro ⟨h1, h2, h3, h4⟩; exact ⟨⟨⟨h1, h2⟩, h3⟩, h4⟩
theorem in_refl (a : Int) : inB a a = isC a := by
  cases h : isC a
  · unfold inB; rw [h]; rfl
  · rw [inB_iff]; exact ⟨h, h, ⟨rfl, rfl, rfl⟩, has_refl _⟩
theorem in_trans {a b c : Int} (h1 : inB a b = true) (h2 : inB b c = true) : inB a c = true := by
  rw [inB_iff] at *
  obtain ⟨a1, a2, ⟨a3, a4, a5⟩, a6⟩ := h1
  obtain ⟨b1, b2, ⟨b3, b4, b5⟩, b6⟩ := h2
  exact ⟨a1, b2, ⟨a3.trans b3, a4.trans b4, a5.trans b5⟩, has_trans _ _ _ a6 b6⟩
theorem mayE_zero {w k x : Int} : mayE w k x = 0 ↔ isC w = true ∧ (ofC w).k = k ∧ hasI (ofC w).r x = true := by
  unfold mayE
  by_cases h1 : isC w = true ∧ (ofC w).k = k
  · rw [if_pos h1]
    cases h2 : hasI (ofC w).r x
    · simp
    · simp [h1]
  · rw [if_neg h1]
    constructor
    · intro h; omega
    · intro h; exact absurd ⟨h.1, h.2.1⟩ h1
theorem in_may {a b k x : Int} (h1 : inB a b = true) (h2 : mayE a k x = 0) : mayE b k x = 0 := by
  rw [inB_iff] at h1
  rw [mayE_zero] at *
  obtain ⟨a1, a2, ⟨a3, a4, a5⟩, a6⟩ := h1
  exact ⟨a2, a3 ▸ h2.2.1, has_trans _ _ _ h2.2.2 a6⟩
theorem in_anti {a b : Int} (h0 : 0 ≤ a) (g0 : 0 ≤ b) (h1 : inB a b = true) (h2 : inB b a = true) : (ofV a).r = (ofV b).r := by
  rw [inB_iff] at *
  rw [ofV_is a h1.1, ofV_is b h1.2.1]
  have ha := ofC_bd a h0
  have hb := ofC_bd b g0
  exact has_anti _ _ ⟨ha.2.2.1, ha.2.2.2.1⟩ ⟨hb.2.2.1, hb.2.2.2.1⟩ h1.2.2.2 h2.2.2.2

end Go.Proofs.Ytbgdmapmbjhbiaa
