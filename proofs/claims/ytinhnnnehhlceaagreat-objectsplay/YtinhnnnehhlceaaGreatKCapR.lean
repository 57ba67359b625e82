
/-
  The document's capabilities and names, as the store of objects asks them (out of KRef, KRef2, ENames under other names).
-/
import Derived.Test.YtinhnnnehhlceaaGreatPkKn
import Derived.Test.YtinhnnnehhlceaaGreatWRefs
namespace Go.Proofs.YtinhnnnehhlceaaGreat
open Go.ChangeShapes Go.WideShapes Go.ChangeAt Go.RowKit Go.Joins
set_option maxRecDepth 10000
set_option linter.unusedVariables false
set_option linter.unusedSimpArgs false


theorem low4 : lowI 4 = 15 ∧ lowI 16 = 65535 ∧ lowI 24 = 16777215 := by decide
theorem w0 (k : Int) (h1 : 0 ≤ k) (h2 : k ≤ 15) (W : World) : Calls Tryz.prog 153 #[.int .u64 0, .int .i64 0, .int .i64 4, .int .u64 k] W fun e w' => e = .returned (.tuple #[.int .u64 k, .int .i64 0]) ∧ w' = W := by
  have h := rwith_yes 0 0 4 k (by decide) (by decide) h1 (by omega) (by decide) (by decide) (by decide) (by rw [low4.1]; exact h2) W
  rw [withI_top 0 0 4 k 0 4 rfl rfl (by decide) (by decide) h1 (by simp; omega) (by decide)] at h
  simpa using h
theorem w1 (x r : Int) (h0 : 0 ≤ x) (hx : x < 16) (h1 : 0 ≤ r) (h2 : r ≤ 15) (W : World) : Calls Tryz.prog 153 #[.int .u64 x, .int .i64 4, .int .i64 4, .int .u64 r] W fun e w' => e = .returned (.tuple #[.int .u64 (x + r * 16), .int .i64 0]) ∧ w' = W := by
  have h := rwith_yes x 4 4 r h0 (by omega) h1 (by omega) (by decide) (by decide) (by decide) (by rw [low4.1]; exact h2) W
  rw [withI_top x 4 4 r 4 4 rfl rfl h0 (by simp; omega) h1 (by simp; omega) (by decide)] at h
  exact h
theorem w2 (x i : Int) (h0 : 0 ≤ x) (hx : x < 256) (h1 : 0 ≤ i) (h2 : i ≤ 65535) (W : World) : Calls Tryz.prog 153 #[.int .u64 x, .int .i64 8, .int .i64 16, .int .u64 i] W fun e w' => e = .returned (.tuple #[.int .u64 (x + i * 256), .int .i64 0]) ∧ w' = W := by
  have h := rwith_yes x 8 16 i h0 (by omega) h1 (by omega) (by decide) (by decide) (by decide) (by rw [low4.2.1]; exact h2) W
  rw [withI_top x 8 16 i 8 16 rfl rfl h0 (by simp; omega) h1 (by simp; omega) (by decide)] at h
  exact h
theorem w3 (x v : Int) (h0 : 0 ≤ x) (hx : x < 16777216) (h1 : 0 ≤ v) (h2 : v ≤ 16777215) (W : World) : Calls Tryz.prog 153 #[.int .u64 x, .int .i64 24, .int .i64 24, .int .u64 v] W fun e w' => e = .returned (.tuple #[.int .u64 (x + v * 16777216), .int .i64 0]) ∧ w' = W := by
  have h := rwith_yes x 24 24 v h0 (by omega) h1 (by omega) (by decide) (by decide) (by decide) (by rw [low4.2.2]; exact h2) W
  rw [withI_top x 24 24 v 24 24 rfl rfl h0 (by simp; omega) h1 (by simp; omega) (by decide)] at h
  exact h
theorem w4 (x b : Int) (h0 : 0 ≤ x) (hx : x < 281474976710656) (h1 : 0 ≤ b) (h2 : b ≤ 65535) (W : World) : Calls Tryz.prog 153 #[.int .u64 x, .int .i64 48, .int .i64 16, .int .u64 b] W fun e w' => e = .returned (.tuple #[.int .u64 (x + b * 281474976710656), .int .i64 0]) ∧ w' = W := by
  have h := rwith_yes x 48 16 b h0 (by omega) h1 (by omega) (by decide) (by decide) (by decide) (by rw [low4.2.1]; exact h2) W
  rw [withI_top x 48 16 b 48 16 rfl rfl h0 (by simp; omega) h1 (by simp; omega) (by decide)] at h
  exact h

theorem twelve {k r i v b : Int} (h : mayC ⟨k, r, i, v, b⟩ = false) : (¬ 1 ≤ k) ∨ (1 ≤ k ∧ ¬ k ≤ 6) ∨ ((1 ≤ k ∧ k ≤ 6) ∧ ¬ 0 ≤ r) ∨ ((1 ≤ k ∧ k ≤ 6) ∧ 0 ≤ r ∧ ¬ r ≤ 15) ∨ ((1 ≤ k ∧ k ≤ 6) ∧ (0 ≤ r ∧ r ≤ 15) ∧ ¬ 0 ≤ i) ∨ ((1 ≤ k ∧ k ≤ 6) ∧ (0 ≤ r ∧ r ≤ 15) ∧ 0 ≤ i ∧ ¬ i < 49) ∨ ((1 ≤ k ∧ k ≤ 6) ∧ (0 ≤ r ∧ r ≤ 15) ∧ (0 ≤ i ∧ i < 49) ∧ ¬ 0 ≤ v) ∨
    ((1 ≤ k ∧ k ≤ 6) ∧ (0 ≤ r ∧ r ≤ 15) ∧ (0 ≤ i ∧ i < 49) ∧ 0 ≤ v ∧ ¬ v ≤ 16777215) ∨ ((1 ≤ k ∧ k ≤ 6) ∧ (0 ≤ r ∧ r ≤ 15) ∧ (0 ≤ i ∧ i < 49) ∧ (0 ≤ v ∧ v ≤ 16777215) ∧ ¬ 0 ≤ b) ∨ ((1 ≤ k ∧ k ≤ 6) ∧ (0 ≤ r ∧ r ≤ 15) ∧ (0 ≤ i ∧ i < 49) ∧ (0 ≤ v ∧ v ≤ 16777215) ∧ 0 ≤ b ∧ ¬ b ≤ 65535) ∨
    ((1 ≤ k ∧ k ≤ 6) ∧ (0 ≤ r ∧ r ≤ 15) ∧ (0 ≤ i ∧ i < 49) ∧ (0 ≤ v ∧ v ≤ 16777215) ∧ (0 ≤ b ∧ b ≤ 65535) ∧ (k = 5 ∨ k = 6) ∧ i ≠ 0) ∨ ((1 ≤ k ∧ k ≤ 6) ∧ (0 ≤ r ∧ r ≤ 15) ∧ (0 ≤ i ∧ i < 49) ∧ (0 ≤ v ∧ v ≤ 16777215) ∧ (0 ≤ b ∧ b ≤ 65535) ∧ (k = 5 ∨ k = 6) ∧ i = 0 ∧ v ≠ 0) := by
  have h' : ¬ (1 ≤ k ∧ k ≤ 6 ∧ 0 ≤ r ∧ r ≤ 15 ∧ 0 ≤ i ∧ i < 49 ∧ 0 ≤ v ∧ v ≤ 16777215 ∧ 0 ≤ b ∧ b ≤ 65535 ∧ (5 ≤ k → i = 0 ∧ v = 0)) := fun hc => by
    have := (mayC_iff ⟨k, r, i, v, b⟩).2 hc
    rw [h] at this
    cases this
  by_cases a0 : 1 ≤ k
  case neg => exact Or.inl a0
  by_cases a1 : k ≤ 6
  case neg => exact Or.inr (Or.inl ⟨a0, a1⟩)
  by_cases a2 : 0 ≤ r
  case neg => exact Or.inr (Or.inr (Or.inl ⟨⟨a0, a1⟩, a2⟩))
  by_cases a3 : r ≤ 15
  case neg => exact Or.inr (Or.inr (Or.inr (Or.inl ⟨⟨a0, a1⟩, a2, a3⟩)))
  by_cases a4 : 0 ≤ i
  case neg => exact Or.inr (Or.inr (Or.inr (Or.inr (Or.inl ⟨⟨a0, a1⟩, ⟨a2, a3⟩, a4⟩))))
  by_cases a5 : i < 49
  case neg => exact Or.inr (Or.inr (Or.inr (Or.inr (Or.inr (Or.inl ⟨⟨a0, a1⟩, ⟨a2, a3⟩, a4, a5⟩)))))
  by_cases a6 : 0 ≤ v
  case neg => exact Or.inr (Or.inr (Or.inr (Or.inr (Or.inr (Or.inr (Or.inl ⟨⟨a0, a1⟩, ⟨a2, a3⟩, ⟨a4, a5⟩, a6⟩))))))
  by_cases a7 : v ≤ 16777215
  case neg => exact Or.inr (Or.inr (Or.inr (Or.inr (Or.inr (Or.inr (Or.inr (Or.inl ⟨⟨a0, a1⟩, ⟨a2, a3⟩, ⟨a4, a5⟩, a6, a7⟩)))))))
  by_cases a8 : 0 ≤ b
  case neg => exact Or.inr (Or.inr (Or.inr (Or.inr (Or.inr (Or.inr (Or.inr (Or.inr (Or.inl ⟨⟨a0, a1⟩, ⟨a2, a3⟩, ⟨a4, a5⟩, ⟨a6, a7⟩, a8⟩))))))))
  by_cases a9 : b ≤ 65535
  case neg => exact Or.inr (Or.inr (Or.inr (Or.inr (Or.inr (Or.inr (Or.inr (Or.inr (Or.inr (Or.inl ⟨⟨a0, a1⟩, ⟨a2, a3⟩, ⟨a4, a5⟩, ⟨a6, a7⟩, a8, a9⟩)))))))))
  have hk : k = 5 ∨ k = 6 := by omega
  by_cases hi : i = 0
  case neg => exact Or.inr (Or.inr (Or.inr (Or.inr (Or.inr (Or.inr (Or.inr (Or.inr (Or.inr (Or.inr (Or.inl ⟨⟨a0, a1⟩, ⟨a2, a3⟩, ⟨a4, a5⟩, ⟨a6, a7⟩, ⟨a8, a9⟩, hk, hi⟩))))))))))
  exact Or.inr (Or.inr (Or.inr (Or.inr (Or.inr (Or.inr (Or.inr (Or.inr (Or.inr (Or.inr (Or.inr ⟨⟨a0, a1⟩, ⟨a2, a3⟩, ⟨a4, a5⟩, ⟨a6, a7⟩, ⟨a8, a9⟩, hk, hi, by omega⟩))))))))))

set_option maxHeartbeats 4000000 in
theorem rword5 (k r i v b : Int) (w : World) : Calls Tryz.prog 152 #[.agg #[.int .i64 k, .int .i64 r, .int .i64 i, .int .i64 v, .int .i64 b]] w fun e w' => e = .returned (.tuple #[.int .u64 (wordV ⟨k, r, i, v, b⟩), .int .i64 (wordE ⟨k, r, i, v, b⟩)]) ∧ Below w.heap.size w w' := by
  cases hm : mayC ⟨k, r, i, v, b⟩ with
  | false =>
    rw [wordV_not _ hm, wordE_not _ hm]
    rcases twelve hm with h | h | h | h | h | h | h | h | h | h | ⟨⟨h1, h2⟩, ⟨h3, h4⟩, ⟨h5, h6⟩, ⟨h7, h8⟩, ⟨h9, h10⟩, hk, hi⟩ | ⟨⟨h1, h2⟩, ⟨h3, h4⟩, ⟨h5, h6⟩, ⟨h7, h8⟩, ⟨h9, h10⟩, hk, hi, hv⟩
    · clear hm
      go_enter Tryz.func152, Tryz.ntmps152
      go_wp2_with fail
      go_ret2
      exact ⟨rfl, (Below.refl _ _).alloc (Nat.le_refl _) _⟩
    · clear hm
      obtain ⟨h1, h2⟩ := h
      go_enter Tryz.func152, Tryz.ntmps152
      go_wp2_with fail
      go_ret2
      exact ⟨rfl, (Below.refl _ _).alloc (Nat.le_refl _) _⟩
    · clear hm
      obtain ⟨⟨h1, h2⟩, h3⟩ := h
      go_enter Tryz.func152, Tryz.ntmps152
      go_wp2_with fail
      go_ret2
      exact ⟨rfl, (Below.refl _ _).alloc (Nat.le_refl _) _⟩
    · clear hm
      obtain ⟨⟨h1, h2⟩, h3, h4⟩ := h
      go_enter Tryz.func152, Tryz.ntmps152
      go_wp2_with fail
      go_ret2
      exact ⟨rfl, (Below.refl _ _).alloc (Nat.le_refl _) _⟩
    · clear hm
      obtain ⟨⟨h1, h2⟩, ⟨h3, h4⟩, h5⟩ := h
      go_enter Tryz.func152, Tryz.ntmps152
      go_wp2_with fail
      go_ret2
      exact ⟨rfl, (Below.refl _ _).alloc (Nat.le_refl _) _⟩
    · clear hm
      obtain ⟨⟨h1, h2⟩, ⟨h3, h4⟩, h5, h6⟩ := h
      go_enter Tryz.func152, Tryz.ntmps152
      go_wp2_with fail
      go_ret2
      exact ⟨rfl, (Below.refl _ _).alloc (Nat.le_refl _) _⟩
    · clear hm
      obtain ⟨⟨h1, h2⟩, ⟨h3, h4⟩, ⟨h5, h6⟩, h7⟩ := h
      go_enter Tryz.func152, Tryz.ntmps152
      go_wp2_with fail
      go_ret2
      exact ⟨rfl, (Below.refl _ _).alloc (Nat.le_refl _) _⟩
    · clear hm
      obtain ⟨⟨h1, h2⟩, ⟨h3, h4⟩, ⟨h5, h6⟩, h7, h8⟩ := h
      go_enter Tryz.func152, Tryz.ntmps152
      go_wp2_with fail
      go_ret2
      exact ⟨rfl, (Below.refl _ _).alloc (Nat.le_refl _) _⟩
    · clear hm
      obtain ⟨⟨h1, h2⟩, ⟨h3, h4⟩, ⟨h5, h6⟩, ⟨h7, h8⟩, h9⟩ := h
      go_enter Tryz.func152, Tryz.ntmps152
      go_wp2_with fail
      go_ret2
      exact ⟨rfl, (Below.refl _ _).alloc (Nat.le_refl _) _⟩
    · clear hm
      obtain ⟨⟨h1, h2⟩, ⟨h3, h4⟩, ⟨h5, h6⟩, ⟨h7, h8⟩, h9, h10⟩ := h
      go_enter Tryz.func152, Tryz.ntmps152
      go_wp2_with fail
      go_ret2
      exact ⟨rfl, (Below.refl _ _).alloc (Nat.le_refl _) _⟩
    · clear hm
      have hi' : (i == 0) = false := by simpa using hi
      clear hi
      rcases hk with rfl | rfl
      · skip
        go_enter Tryz.func152, Tryz.ntmps152
        go_wp2_with fail
        go_ret2
        exact ⟨rfl, (Below.refl _ _).alloc (Nat.le_refl _) _⟩
      · skip
        go_enter Tryz.func152, Tryz.ntmps152
        go_wp2_with fail
        go_ret2
        exact ⟨rfl, (Below.refl _ _).alloc (Nat.le_refl _) _⟩
    · clear hm
      subst hi
      have hv' : (v == 0) = false := by simpa using hv
      clear hv
      rcases hk with rfl | rfl
      · skip
        go_enter Tryz.func152, Tryz.ntmps152
        go_wp2_with fail
        go_ret2
        exact ⟨rfl, (Below.refl _ _).alloc (Nat.le_refl _) _⟩
      · skip
        go_enter Tryz.func152, Tryz.ntmps152
        go_wp2_with fail
        go_ret2
        exact ⟨rfl, (Below.refl _ _).alloc (Nat.le_refl _) _⟩
  | true =>
    have h := (mayC_iff ⟨k, r, i, v, b⟩).1 hm
    obtain ⟨h1, h2, h3, h4, h5, h6, h7, h8, h9, h10, h11⟩ : 1 ≤ k ∧ k ≤ 6 ∧ 0 ≤ r ∧ r ≤ 15 ∧ 0 ≤ i ∧ i < 49 ∧ 0 ≤ v ∧ v ≤ 16777215 ∧ 0 ≤ b ∧ b ≤ 65535 ∧ (5 ≤ k → i = 0 ∧ v = 0) := h
    rw [wordV_may _ hm, wordE_may _ hm]
    have W0 := hide (w0 k (by omega) (by omega))
    have W1 := hide (w1 k r (by omega) (by omega) h3 h4)
    have W2 := hide (w2 (k + r * 16) i (by omega) (by omega) h5 (by omega))
    have W3 := hide (w3 (k + r * 16 + i * 256) v (by omega) (by omega) h7 (by omega))
    have W4 := hide (w4 (k + r * 16 + i * 256 + v * 16777216) b (by omega) (by omega) h9 (by omega))
    rw [show k + r * 16 + i * 256 + v * 16777216 + b * 281474976710656 = wordC ⟨k, r, i, v, b⟩ from rfl] at W4
    generalize wordC ⟨k, r, i, v, b⟩ = R at *
    have q1 : 0 ≤ k + r * 16 ∧ k + r * 16 ≤ 255 := by omega
    have q2 : 0 ≤ k + r * 16 + i * 256 ∧ k + r * 16 + i * 256 ≤ 16777215 := by omega
    have q3 : 0 ≤ k + r * 16 + i * 256 + v * 16777216 ∧ k + r * 16 + i * 256 + v * 16777216 ≤ 281474976710655 := by omega
    clear hm
    generalize k + r * 16 + i * 256 + v * 16777216 = x3 at *
    generalize k + r * 16 + i * 256 = x2 at *
    generalize k + r * 16 = x1 at *
    clear q1 q2 q3
    by_cases h5k : 5 ≤ k
    · obtain ⟨rfl, rfl⟩ := h11 h5k
      clear h11
      have hk : k = 5 ∨ k = 6 := by omega
      rcases hk with rfl | rfl
      · clear h5k
        go_enter Tryz.func152, Tryz.ntmps152
        go_wp2_with fail
        refine (unhide W0 _).mono ?_
        rintro e w' ⟨rfl, rfl⟩
        go_wp2_with fail
        refine (unhide W1 _).mono ?_
        rintro e w' ⟨rfl, rfl⟩
        go_wp2_with fail
        refine (unhide W2 _).mono ?_
        rintro e w' ⟨rfl, rfl⟩
        go_wp2_with fail
        refine (unhide W3 _).mono ?_
        rintro e w' ⟨rfl, rfl⟩
        go_wp2_with fail
        refine (unhide W4 _).mono ?_
        rintro e w' ⟨rfl, rfl⟩
        go_wp2_with fail
        go_ret2
        exact ⟨rfl, (Below.refl _ _).alloc (Nat.le_refl _) _⟩
      · clear h5k
        go_enter Tryz.func152, Tryz.ntmps152
        go_wp2_with fail
        refine (unhide W0 _).mono ?_
        rintro e w' ⟨rfl, rfl⟩
        go_wp2_with fail
        refine (unhide W1 _).mono ?_
        rintro e w' ⟨rfl, rfl⟩
        go_wp2_with fail
        refine (unhide W2 _).mono ?_
        rintro e w' ⟨rfl, rfl⟩
        go_wp2_with fail
        refine (unhide W3 _).mono ?_
        rintro e w' ⟨rfl, rfl⟩
        go_wp2_with fail
        refine (unhide W4 _).mono ?_
        rintro e w' ⟨rfl, rfl⟩
        go_wp2_with fail
        go_ret2
        exact ⟨rfl, (Below.refl _ _).alloc (Nat.le_refl _) _⟩
    · have e5 : (k == 5) = false := by rw [beq_eq_false_iff_ne]; omega
      have e6 : (k == 6) = false := by rw [beq_eq_false_iff_ne]; omega
      clear h5k h11
      go_enter Tryz.func152, Tryz.ntmps152
      go_wp2_with fail
      refine (unhide W0 _).mono ?_
      rintro e w' ⟨rfl, rfl⟩
      go_wp2_with fail
      refine (unhide W1 _).mono ?_
      rintro e w' ⟨rfl, rfl⟩
      go_wp2_with fail
      refine (unhide W2 _).mono ?_
      rintro e w' ⟨rfl, rfl⟩
      go_wp2_with fail
      refine (unhide W3 _).mono ?_
      rintro e w' ⟨rfl, rfl⟩
      go_wp2_with fail
      refine (unhide W4 _).mono ?_
      rintro e w' ⟨rfl, rfl⟩
      go_wp2_with fail
      go_ret2
      exact ⟨rfl, (Below.refl _ _).alloc (Nat.le_refl _) _⟩
theorem rword_any (c : Cp) (w : World) : Calls Tryz.prog 152 #[.agg (cv c)] w fun e w' => e = .returned (.tuple #[.int .u64 (wordV c), .int .i64 (wordE c)]) ∧ Below w.heap.size w w' := rword5 c.k c.r c.i c.v c.b w

theorem rcapOf_any (x : Int) (h0 : 0 ≤ x) (h1 : x ≤ 18446744073709551615) (w : World) : Calls Tryz.prog 113 #[.int .u64 x] w fun e w' => e = .returned (.tuple #[.agg (cv (ofV x)), .bool (isC x)]) ∧ Below w.heap.size w w' := by
  have F0 := hide (rfield_yes x 0 4 h0 h1 (by decide) (by decide) (by decide))
  have F1 := hide (rfield_yes x 4 4 h0 h1 (by decide) (by decide) (by decide))
  have F2 := hide (rfield_yes x 8 16 h0 h1 (by decide) (by decide) (by decide))
  have F3 := hide (rfield_yes x 24 24 h0 h1 (by decide) (by decide) (by decide))
  have F4 := hide (rfield_yes x 48 16 h0 h1 (by decide) (by decide) (by decide))
  have bd := ofC_bd x h0
  have M := hide (rword5 (fieldI x 0 4) (fieldI x 4 4) (fieldI x 8 16) (fieldI x 24 24) (fieldI x 48 16))
  have e0 : wordV ⟨fieldI x 0 4, fieldI x 4 4, fieldI x 8 16, fieldI x 24 24, fieldI x 48 16⟩ = if isC x then x else 0 := by
    show (if mayC (ofC x) then wordC (ofC x) else 0) = _
    rw [wordC_of x h0 h1]; rfl
  have e1 : wordE ⟨fieldI x 0 4, fieldI x 4 4, fieldI x 8 16, fieldI x 24 24, fieldI x 48 16⟩ = if isC x then 0 else 1 := rfl
  rw [e0, e1] at M
  clear e0 e1
  obtain ⟨b0, b1, b2, b3, b4, b5, b6, b7, b8, b9⟩ : 0 ≤ fieldI x 0 4 ∧ fieldI x 0 4 ≤ 15 ∧ 0 ≤ fieldI x 4 4 ∧ fieldI x 4 4 ≤ 15 ∧ 0 ≤ fieldI x 8 16 ∧ fieldI x 8 16 ≤ 65535 ∧ 0 ≤ fieldI x 24 24 ∧ fieldI x 24 24 ≤ 16777215 ∧ 0 ≤ fieldI x 48 16 ∧ fieldI x 48 16 ≤ 65535 := bd
  have hv : ofV x = if isC x then ⟨fieldI x 0 4, fieldI x 4 4, fieldI x 8 16, fieldI x 24 24, fieldI x 48 16⟩ else zc := rfl
  rw [hv]
  clear hv
  generalize fieldI x 0 4 = k at *
  generalize fieldI x 4 4 = r at *
  generalize fieldI x 8 16 = i at *
  generalize fieldI x 24 24 = v at *
  generalize fieldI x 48 16 = b at *
  generalize isC x = T at *
  cases T with
  | false =>
    rw [if_neg (by simp), if_neg (by simp)] at M
    rw [if_neg (by simp)]
    go_enter Tryz.func113, Tryz.ntmps113
    go_wp2_with fail
    refine (unhide F0 _).mono ?_
    rintro e w0 ⟨rfl, rfl⟩
    go_wp2_with fail
    refine (unhide F1 _).mono ?_
    rintro e w0 ⟨rfl, rfl⟩
    go_wp2_with fail
    refine (unhide F2 _).mono ?_
    rintro e w0 ⟨rfl, rfl⟩
    go_wp2_with fail
    refine (unhide F3 _).mono ?_
    rintro e w0 ⟨rfl, rfl⟩
    go_wp2_with fail
    refine (unhide F4 _).mono ?_
    rintro e w0 ⟨rfl, rfl⟩
    go_wp2_with fail
    refine (unhide M _).mono ?_
    rintro e w1 ⟨rfl, hb⟩
    have hsz : w.heap.size + 1 + 1 ≤ w1.heap.size := by have := hb.size; simpa using this
    have K0 := hide ((hb.block w.heap.size (by simp; omega)).trans (heap2 w _ _).1)
    have K1 := hide ((hb.block (w.heap.size + 1) (by simp)).trans (heap2 w _ _).2)
    have Hb := hide ((((Below.refl _ w).alloc (Nat.le_refl _) _).alloc (by simp) _).trans (hb.mono (by simp; omega)))
    clear hb M F0 F1 F2 F3 F4
    rw [zero5] at K0
    rw [show (#[.int .i64 k, .int .i64 r, .int .i64 i, .int .i64 v, .int .i64 b] : Array Value) = cv ⟨k, r, i, v, b⟩ from rfl] at K1
    have s5 : (Tryz.prog.info? 179).map (·.size) = some (cv ⟨k, r, i, v, b⟩).size := size5
    have s5z : (Tryz.prog.info? 179).map (·.size) = some (cv zc).size := size5
    go_wp2_with (first | (refine wpList_build0 rfl 179 rfl _ build5 ?_) | (refine wpList_store_row rfl 179 _ _ rfl w.heap.size (cv zc) rfl rfl _ _ (unhide K0) s5z rfl (cv_one _) ?_))
    refine bodyPost_ret (v := .tuple #[.agg (cv zc), .bool false]) (results_two Tryz.results113 _ _ w.heap.size 179 (cv zc) (0, 0) _ _ rfl rfl (setRow_heap _ _ _ _ _ _ (unhide K0)) Tryz.underlying179 rfl s5z) rfl ?_
    exact ⟨rfl, below_row (unhide Hb) (by omega) _⟩
  | true =>
    rw [if_pos rfl, if_pos rfl] at M
    rw [if_pos rfl]
    go_enter Tryz.func113, Tryz.ntmps113
    go_wp2_with fail
    refine (unhide F0 _).mono ?_
    rintro e w0 ⟨rfl, rfl⟩
    go_wp2_with fail
    refine (unhide F1 _).mono ?_
    rintro e w0 ⟨rfl, rfl⟩
    go_wp2_with fail
    refine (unhide F2 _).mono ?_
    rintro e w0 ⟨rfl, rfl⟩
    go_wp2_with fail
    refine (unhide F3 _).mono ?_
    rintro e w0 ⟨rfl, rfl⟩
    go_wp2_with fail
    refine (unhide F4 _).mono ?_
    rintro e w0 ⟨rfl, rfl⟩
    go_wp2_with fail
    refine (unhide M _).mono ?_
    rintro e w1 ⟨rfl, hb⟩
    have hsz : w.heap.size + 1 + 1 ≤ w1.heap.size := by have := hb.size; simpa using this
    have K0 := hide ((hb.block w.heap.size (by simp; omega)).trans (heap2 w _ _).1)
    have K1 := hide ((hb.block (w.heap.size + 1) (by simp)).trans (heap2 w _ _).2)
    have Hb := hide ((((Below.refl _ w).alloc (Nat.le_refl _) _).alloc (by simp) _).trans (hb.mono (by simp; omega)))
    clear hb M F0 F1 F2 F3 F4
    rw [zero5] at K0
    rw [show (#[.int .i64 k, .int .i64 r, .int .i64 i, .int .i64 v, .int .i64 b] : Array Value) = cv ⟨k, r, i, v, b⟩ from rfl] at K1
    have s5 : (Tryz.prog.info? 179).map (·.size) = some (cv ⟨k, r, i, v, b⟩).size := size5
    have s5z : (Tryz.prog.info? 179).map (·.size) = some (cv zc).size := size5
    go_wp2_with (first | (refine wpList_load_row rfl 179 _ rfl (w.heap.size + 1) rfl _ _ _ _ (unhide K1) Tryz.underlying179 rfl s5 ?_) | (refine wpList_store_row rfl 179 _ _ rfl w.heap.size (cv ⟨k, r, i, v, b⟩) rfl rfl _ _ (unhide K0) s5 rfl (cv_one _) ?_))
    refine bodyPost_ret (v := .tuple #[.agg (cv ⟨k, r, i, v, b⟩), .bool true]) (results_two Tryz.results113 _ _ w.heap.size 179 (cv ⟨k, r, i, v, b⟩) (0, 0) _ _ rfl rfl (setRow_heap _ _ _ _ _ _ (unhide K0)) Tryz.underlying179 rfl s5) rfl ?_
    exact ⟨rfl, below_row (unhide Hb) (by omega) _⟩


set_option maxHeartbeats 4000000 in
theorem rnames3 (k v l i c : Int) (h0 : 0 ≤ c) (h1 : c ≤ 18446744073709551615) (w : World) : Calls Tryz.prog 114 #[.agg #[.int .i64 k, .int .i64 v, .int .i64 l], .int .i64 i, .int .u64 c] w fun e w' => e = .returned (.int .i64 (namE ⟨k, v, l⟩ i c)) ∧ Below w.heap.size w w' := by
  have O := hide (rcapOf_any c h0 h1)
  cases hC : isC c with
  | false =>
    have eE : namE ⟨k, v, l⟩ i c = 31 := by simp [namE, hC]
    rw [eE]
    rw [hC, ofV_not c hC] at O
    clear hC eE
    have nC := cv_new zc 179
    have zC := cv_size zc
    generalize cv zc = Z at *
    go_enter Tryz.func114, Tryz.ntmps114
    go_wp2_with fail
    refine (unhide O _).mono ?_
    rintro e w1 ⟨rfl, hb⟩
    have Hb := hide ((((Below.refl _ w).alloc (Nat.le_refl _) (.cells #[.int .i64 k, .int .i64 v, .int .i64 l] 41)).trans (hb.mono (by simp))))
    have hs : w.heap.size < w1.heap.size := by have := hb.size; simp at this; omega
    have Kx := hide ((hb.block w.heap.size (by simp)).trans (heap_new w _))
    have x0 : w1.cell? ⟨w.heap.size, 0, none⟩ = some (.int .i64 k) := by rw [cell_of_block (unhide Kx)]; rfl
    have x1 : w1.cell? ⟨w.heap.size, 1, none⟩ = some (.int .i64 v) := by rw [cell_of_block (unhide Kx)]; rfl
    clear hb Kx
    go_wp2_with fail
    go_ret
    exact ⟨rfl, (unhide Hb).alloc (unhide Hb).size _⟩
  | true =>
    rw [hC, ofV_is c hC] at O
    obtain ⟨a, r, d, u, b, hc⟩ : ∃ a r d u b, ofC c = ⟨a, r, d, u, b⟩ := ⟨_, _, _, _, _, rfl⟩
    have HE : Hid (namE ⟨k, v, l⟩ i c = if a ≠ 5 ∧ a ≠ 6 then (if d = i then (if u = v then (if k = 0 then 30 else if a = k then 0 else 31) else 33) else 30) else 31) := by
      show _ = _
      unfold namE
      rw [hC, hc]
      simp
    rw [unhide HE]
    rw [hc, show (cv ⟨a, r, d, u, b⟩) = #[.int .i64 a, .int .i64 r, .int .i64 d, .int .i64 u, .int .i64 b] from rfl] at O
    clear HE hC hc
    by_cases h5 : a = 5
    · rw [if_neg (by simp [h5])]
      subst h5
      go_enter Tryz.func114, Tryz.ntmps114
      go_wp2_with fail
      refine (unhide O _).mono ?_
      rintro e w1 ⟨rfl, hb⟩
      have Hb := hide ((((Below.refl _ w).alloc (Nat.le_refl _) (.cells #[.int .i64 k, .int .i64 v, .int .i64 l] 41)).trans (hb.mono (by simp))))
      have hs : w.heap.size < w1.heap.size := by have := hb.size; simp at this; omega
      have Kx := hide ((hb.block w.heap.size (by simp)).trans (heap_new w _))
      have x0 : w1.cell? ⟨w.heap.size, 0, none⟩ = some (.int .i64 k) := by rw [cell_of_block (unhide Kx)]; rfl
      have x1 : w1.cell? ⟨w.heap.size, 1, none⟩ = some (.int .i64 v) := by rw [cell_of_block (unhide Kx)]; rfl
      clear hb Kx
      go_wp2_with fail
      go_ret
      exact ⟨rfl, (unhide Hb).alloc (unhide Hb).size _⟩
    by_cases h6 : a = 6
    · rw [if_neg (by simp [h6])]
      subst h6
      go_enter Tryz.func114, Tryz.ntmps114
      go_wp2_with fail
      refine (unhide O _).mono ?_
      rintro e w1 ⟨rfl, hb⟩
      have Hb := hide ((((Below.refl _ w).alloc (Nat.le_refl _) (.cells #[.int .i64 k, .int .i64 v, .int .i64 l] 41)).trans (hb.mono (by simp))))
      have hs : w.heap.size < w1.heap.size := by have := hb.size; simp at this; omega
      have Kx := hide ((hb.block w.heap.size (by simp)).trans (heap_new w _))
      have x0 : w1.cell? ⟨w.heap.size, 0, none⟩ = some (.int .i64 k) := by rw [cell_of_block (unhide Kx)]; rfl
      have x1 : w1.cell? ⟨w.heap.size, 1, none⟩ = some (.int .i64 v) := by rw [cell_of_block (unhide Kx)]; rfl
      clear hb Kx
      go_wp2_with fail
      go_ret
      exact ⟨rfl, (unhide Hb).alloc (unhide Hb).size _⟩
    rw [if_pos ⟨h5, h6⟩]
    have h5' : (a == 5) = false := by simpa using h5
    have h6' : (a == 6) = false := by simpa using h6
    clear h5 h6
    by_cases hd : d = i
    · rw [if_pos hd]
      have hd' : (d != i) = false := by simpa using hd
      clear hd
      by_cases hu : u = v
      · rw [if_pos hu]
        have hu' : (u != v) = false := by simpa using hu
        clear hu
        by_cases hk : k = 0
        · rw [if_pos hk]
          have hk' : (k == 0) = true := by simpa using hk
          clear hk
          go_enter Tryz.func114, Tryz.ntmps114
          go_wp2_with fail
          refine (unhide O _).mono ?_
          rintro e w1 ⟨rfl, hb⟩
          have Hb := hide ((((Below.refl _ w).alloc (Nat.le_refl _) (.cells #[.int .i64 k, .int .i64 v, .int .i64 l] 41)).trans (hb.mono (by simp))))
          have hs : w.heap.size < w1.heap.size := by have := hb.size; simp at this; omega
          have Kx := hide ((hb.block w.heap.size (by simp)).trans (heap_new w _))
          have x0 : w1.cell? ⟨w.heap.size, 0, none⟩ = some (.int .i64 k) := by rw [cell_of_block (unhide Kx)]; rfl
          have x1 : w1.cell? ⟨w.heap.size, 1, none⟩ = some (.int .i64 v) := by rw [cell_of_block (unhide Kx)]; rfl
          clear hb Kx
          go_wp2_with fail
          go_ret
          exact ⟨rfl, (unhide Hb).alloc (unhide Hb).size _⟩
        · rw [if_neg hk]
          have hk' : (k == 0) = false := by simpa using hk
          clear hk
          by_cases ha : a = k
          · rw [if_pos ha]
            have ha' : (a != k) = false := by simpa using ha
            clear ha
            go_enter Tryz.func114, Tryz.ntmps114
            go_wp2_with fail
            refine (unhide O _).mono ?_
            rintro e w1 ⟨rfl, hb⟩
            have Hb := hide ((((Below.refl _ w).alloc (Nat.le_refl _) (.cells #[.int .i64 k, .int .i64 v, .int .i64 l] 41)).trans (hb.mono (by simp))))
            have hs : w.heap.size < w1.heap.size := by have := hb.size; simp at this; omega
            have Kx := hide ((hb.block w.heap.size (by simp)).trans (heap_new w _))
            have x0 : w1.cell? ⟨w.heap.size, 0, none⟩ = some (.int .i64 k) := by rw [cell_of_block (unhide Kx)]; rfl
            have x1 : w1.cell? ⟨w.heap.size, 1, none⟩ = some (.int .i64 v) := by rw [cell_of_block (unhide Kx)]; rfl
            clear hb Kx
            go_wp2_with fail
            go_ret
            exact ⟨rfl, (unhide Hb).alloc (unhide Hb).size _⟩
          · rw [if_neg ha]
            have ha' : (a != k) = true := by simpa using ha
            clear ha
            go_enter Tryz.func114, Tryz.ntmps114
            go_wp2_with fail
            refine (unhide O _).mono ?_
            rintro e w1 ⟨rfl, hb⟩
            have Hb := hide ((((Below.refl _ w).alloc (Nat.le_refl _) (.cells #[.int .i64 k, .int .i64 v, .int .i64 l] 41)).trans (hb.mono (by simp))))
            have hs : w.heap.size < w1.heap.size := by have := hb.size; simp at this; omega
            have Kx := hide ((hb.block w.heap.size (by simp)).trans (heap_new w _))
            have x0 : w1.cell? ⟨w.heap.size, 0, none⟩ = some (.int .i64 k) := by rw [cell_of_block (unhide Kx)]; rfl
            have x1 : w1.cell? ⟨w.heap.size, 1, none⟩ = some (.int .i64 v) := by rw [cell_of_block (unhide Kx)]; rfl
            clear hb Kx
            go_wp2_with fail
            go_ret
            exact ⟨rfl, (unhide Hb).alloc (unhide Hb).size _⟩
      · rw [if_neg hu]
        have hu' : (u != v) = true := by simpa using hu
        clear hu
        go_enter Tryz.func114, Tryz.ntmps114
        go_wp2_with fail
        refine (unhide O _).mono ?_
        rintro e w1 ⟨rfl, hb⟩
        have Hb := hide ((((Below.refl _ w).alloc (Nat.le_refl _) (.cells #[.int .i64 k, .int .i64 v, .int .i64 l] 41)).trans (hb.mono (by simp))))
        have hs : w.heap.size < w1.heap.size := by have := hb.size; simp at this; omega
        have Kx := hide ((hb.block w.heap.size (by simp)).trans (heap_new w _))
        have x0 : w1.cell? ⟨w.heap.size, 0, none⟩ = some (.int .i64 k) := by rw [cell_of_block (unhide Kx)]; rfl
        have x1 : w1.cell? ⟨w.heap.size, 1, none⟩ = some (.int .i64 v) := by rw [cell_of_block (unhide Kx)]; rfl
        clear hb Kx
        go_wp2_with fail
        go_ret
        exact ⟨rfl, (unhide Hb).alloc (unhide Hb).size _⟩
    · rw [if_neg hd]
      have hd' : (d != i) = true := by simpa using hd
      clear hd
      go_enter Tryz.func114, Tryz.ntmps114
      go_wp2_with fail
      refine (unhide O _).mono ?_
      rintro e w1 ⟨rfl, hb⟩
      have Hb := hide ((((Below.refl _ w).alloc (Nat.le_refl _) (.cells #[.int .i64 k, .int .i64 v, .int .i64 l] 41)).trans (hb.mono (by simp))))
      have hs : w.heap.size < w1.heap.size := by have := hb.size; simp at this; omega
      have Kx := hide ((hb.block w.heap.size (by simp)).trans (heap_new w _))
      have x0 : w1.cell? ⟨w.heap.size, 0, none⟩ = some (.int .i64 k) := by rw [cell_of_block (unhide Kx)]; rfl
      have x1 : w1.cell? ⟨w.heap.size, 1, none⟩ = some (.int .i64 v) := by rw [cell_of_block (unhide Kx)]; rfl
      clear hb Kx
      go_wp2_with fail
      go_ret
      exact ⟨rfl, (unhide Hb).alloc (unhide Hb).size _⟩
theorem rnames_any (x : En) (i c : Int) (h0 : 0 ≤ c) (h1 : c ≤ 18446744073709551615) (w : World) : Calls Tryz.prog 114 #[.agg (ev x), .int .i64 i, .int .u64 c] w fun e w' => e = .returned (.int .i64 (namE x i c)) ∧ Below w.heap.size w w' := rnames3 x.k x.v x.l i c h0 h1 w

end Go.Proofs.YtinhnnnehhlceaaGreat
