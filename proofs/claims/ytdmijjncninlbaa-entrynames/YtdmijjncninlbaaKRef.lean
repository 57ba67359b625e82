
/-
  The document's answer for capabilities: what each call of it returns, for whatever capability, word, rights; nothing that was there turns.
-/
import Derived.Test.YtdmijjncninlbaaKCalls
import Derived.Test.YtdmijjncninlbaaWRefs
namespace Go.Proofs.Ytdmijjncninlbaa
open Go.ChangeShapes Go.WideShapes Go.ChangeAt Go.RowKit Go.Joins
set_option maxRecDepth 10000
set_option linter.unusedVariables false
set_option linter.unusedSimpArgs false

theorem low4 : lowI 4 = 15 ∧ lowI 16 = 65535 ∧ lowI 24 = 16777215 := by decide
theorem w0 (k : Int) (h1 : 0 ≤ k) (h2 : k ≤ 15) (W : World) : Calls Try.prog 22 #[.int .u64 0, .int .i64 0, .int .i64 4, .int .u64 k] W fun e w' => e = .returned (.tuple #[.int .u64 k, .int .i64 0]) ∧ w' = W := by
  have h := rwith_yes 0 0 4 k (by decide) (by decide) h1 (by omega) (by decide) (by decide) (by decide) (by rw [low4.1]; exact h2) W
  rw [withI_top 0 0 4 k 0 4 rfl rfl (by decide) (by decide) h1 (by simp; omega) (by decide)] at h
  simpa using h
theorem w1 (x r : Int) (h0 : 0 ≤ x) (hx : x < 16) (h1 : 0 ≤ r) (h2 : r ≤ 15) (W : World) : Calls Try.prog 22 #[.int .u64 x, .int .i64 4, .int .i64 4, .int .u64 r] W fun e w' => e = .returned (.tuple #[.int .u64 (x + r * 16), .int .i64 0]) ∧ w' = W := by
  have h := rwith_yes x 4 4 r h0 (by omega) h1 (by omega) (by decide) (by decide) (by decide) (by rw [low4.1]; exact h2) W
  rw [withI_top x 4 4 r 4 4 rfl rfl h0 (by simp; omega) h1 (by simp; omega) (by decide)] at h
  exact h
theorem w2 (x i : Int) (h0 : 0 ≤ x) (hx : x < 256) (h1 : 0 ≤ i) (h2 : i ≤ 65535) (W : World) : Calls Try.prog 22 #[.int .u64 x, .int .i64 8, .int .i64 16, .int .u64 i] W fun e w' => e = .returned (.tuple #[.int .u64 (x + i * 256), .int .i64 0]) ∧ w' = W := by
  have h := rwith_yes x 8 16 i h0 (by omega) h1 (by omega) (by decide) (by decide) (by decide) (by rw [low4.2.1]; exact h2) W
  rw [withI_top x 8 16 i 8 16 rfl rfl h0 (by simp; omega) h1 (by simp; omega) (by decide)] at h
  exact h
theorem w3 (x v : Int) (h0 : 0 ≤ x) (hx : x < 16777216) (h1 : 0 ≤ v) (h2 : v ≤ 16777215) (W : World) : Calls Try.prog 22 #[.int .u64 x, .int .i64 24, .int .i64 24, .int .u64 v] W fun e w' => e = .returned (.tuple #[.int .u64 (x + v * 16777216), .int .i64 0]) ∧ w' = W := by
  have h := rwith_yes x 24 24 v h0 (by omega) h1 (by omega) (by decide) (by decide) (by decide) (by rw [low4.2.2]; exact h2) W
  rw [withI_top x 24 24 v 24 24 rfl rfl h0 (by simp; omega) h1 (by simp; omega) (by decide)] at h
  exact h
theorem w4 (x b : Int) (h0 : 0 ≤ x) (hx : x < 281474976710656) (h1 : 0 ≤ b) (h2 : b ≤ 65535) (W : World) : Calls Try.prog 22 #[.int .u64 x, .int .i64 48, .int .i64 16, .int .u64 b] W fun e w' => e = .returned (.tuple #[.int .u64 (x + b * 281474976710656), .int .i64 0]) ∧ w' = W := by
  have h := rwith_yes x 48 16 b h0 (by omega) h1 (by omega) (by decide) (by decide) (by decide) (by rw [low4.2.1]; exact h2) W
  rw [withI_top x 48 16 b 48 16 rfl rfl h0 (by simp; omega) h1 (by simp; omega) (by decide)] at h
  exact h

theorem twelve {k r i v b : Int} (h : mayC ⟨k, r, i, v, b⟩ = false) : (¬ 1 ≤ k) ∨ (1 ≤ k ∧ ¬ k ≤ 6) ∨ ((1 ≤ k ∧ k ≤ 6) ∧ ¬ 0 ≤ r) ∨ ((1 ≤ k ∧ k ≤ 6) ∧ 0 ≤ r ∧ ¬ r ≤ 15) ∨ ((1 ≤ k ∧ k ≤ 6) ∧ (0 ≤ r ∧ r ≤ 15) ∧ ¬ 0 ≤ i) ∨ ((1 ≤ k ∧ k ≤ 6) ∧ (0 ≤ r ∧ r ≤ 15) ∧ 0 ≤ i ∧ ¬ i < 49) ∨ ((1 ≤ k ∧ k ≤ 6) ∧ (0 ≤ r ∧ r ≤ 15) ∧ (0 ≤ i ∧ i < 49) ∧ ¬ 0 ≤ v) ∨
    ((1 ≤ k ∧ k ≤ 6) ∧ (0 ≤ r ∧ r ≤ 15) ∧ (0 ≤ i ∧ i < 49) ∧ 0 ≤ v ∧ ¬ v ≤ 16777215) ∨ ((1 ≤ k ∧ k ≤ 6) ∧ (0 ≤ r ∧ r ≤ 15) ∧ (0 ≤ i ∧ i < 49) ∧ (0 ≤ v ∧ v ≤ 16777215) ∧ ¬ 0 ≤ b) ∨ ((1 ≤ k ∧ k ≤ 6) ∧ (0 ≤ r ∧ r ≤ 15) ∧ (0 ≤ i ∧ i < 49) ∧ (0 ≤ v ∧ v ≤ 16777215) ∧ 0 ≤ b ∧ ¬ b ≤ 65535) ∨
    ((1 ≤ k ∧ k ≤ 6) ∧ (0 ≤ r ∧ r ≤ 15) ∧ (0 ≤ i ∧ i < 49) ∧ (0 ≤ v ∧ v ≤ 16777215) ∧ (0 ≤ b ∧ b ≤ 65535) ∧ (k = 5 ∨ k = 6) ∧ i ≠ 0) ∨ ((1 ≤ k ∧ k ≤ 6) ∧ (0 ≤ r ∧ r ≤ 15) ∧ (0 ≤ i ∧ i < 49) ∧ (0 ≤ v ∧ v ≤ 16777215) ∧ (0 ≤ b ∧ b ≤ 65535) ∧ (k = 5 ∨ k = 6) ∧ i = 0 ∧ v ≠ 0) := by
  have h' : ¬ (1 ≤ k ∧ k ≤ 6 ∧ 0 ≤ r ∧ r ≤ 15 ∧ 0 ≤ i ∧ i < 49 ∧ 0 ≤ v ∧ v ≤ 16777215 ∧ 0 ≤ b ∧ b ≤ 65535 ∧ (5 ≤ k → i = 0 ∧ v = 0)) := fun hc => by
    have := (mayC_iff ⟨k, r, i, v, b⟩).2 hc
    rw [h] at this
    cases this
  by_cases a0 : 1 ≤ k
  case neg => exact Or.inl a0
  by_cases a1 : k ≤ 6
  case neg => exact Or.inr (Or.inl ⟨a0, a1⟩)
  by_cases a2 : 0 ≤ r
  case neg => exact Or.inr (Or.inr (Or.inl ⟨⟨a0, a1⟩, a2⟩))
  by_cases a3 : r ≤ 15
  case neg => exact Or.inr (Or.inr (Or.inr (Or.inl ⟨⟨a0, a1⟩, a2, a3⟩)))
  by_cases a4 : 0 ≤ i
  case neg => exact Or.inr (Or.inr (Or.inr (Or.inr (Or.inl ⟨⟨a0, a1⟩, ⟨a2, a3⟩, a4⟩))))
  by_cases a5 : i < 49
  case neg => exact Or.inr (Or.inr (Or.inr (Or.inr (Or.inr (Or.inl ⟨⟨a0, a1⟩, ⟨a2, a3⟩, a4, a5⟩)))))
  by_cases a6 : 0 ≤ v
  case neg => exact Or.inr (Or.inr (Or.inr (Or.inr (Or.inr (Or.inr (Or.inl ⟨⟨a0, a1⟩, ⟨a2, a3⟩, ⟨a4, a5⟩, a6⟩))))))
  by_cases a7 : v ≤ 16777215
  case neg => exact Or.inr (Or.inr (Or.inr (Or.inr (Or.inr (Or.inr (Or.inr (Or.inl ⟨⟨a0, a1⟩, ⟨a2, a3⟩, ⟨a4, a5⟩, a6, a7⟩)))))))
  by_cases a8 : 0 ≤ b
  case neg => exact Or.inr (Or.inr (Or.inr (Or.inr (Or.inr (Or.inr (Or.inr (Or.inr (Or.inl ⟨⟨a0, a1⟩, ⟨a2, a3⟩, ⟨a4, a5⟩, ⟨a6, a7⟩, a8⟩))))))))
  by_cases a9 : b ≤ 65535
  case neg => exact Or.inr (Or.inr (Or.inr (Or.inr (Or.inr (Or.inr (Or.inr (Or.inr (Or.inr (Or.inl ⟨⟨a0, a1⟩, ⟨a2, a3⟩, ⟨a4, a5⟩, ⟨a6, a7⟩, a8, a9⟩)))))))))
  have hk : k = 5 ∨ k = 6 := by omega
  by_cases hi : i = 0
  case neg => exact Or.inr (Or.inr (Or.inr (Or.inr (Or.inr (Or.inr (Or.inr (Or.inr (Or.inr (Or.inr (Or.inl ⟨⟨a0, a1⟩, ⟨a2, a3⟩, ⟨a4, a5⟩, ⟨a6, a7⟩, ⟨a8, a9⟩, hk, hi⟩))))))))))
  exact Or.inr (Or.inr (Or.inr (Or.inr (Or.inr (Or.inr (Or.inr (Or.inr (Or.inr (Or.inr (Or.inr ⟨⟨a0, a1⟩, ⟨a2, a3⟩, ⟨a4, a5⟩, ⟨a6, a7⟩, ⟨a8, a9⟩, hk, hi, by omega⟩))))))))))

set_option maxHeartbeats 4000000 in
theorem rword5 (k r i v b : Int) (w : World) : Calls Try.prog 32 #[.agg #[.int .i64 k, .int .i64 r, .int .i64 i, .int .i64 v, .int .i64 b]] w fun e w' => e = .returned (.tuple #[.int .u64 (wordV ⟨k, r, i, v, b⟩), .int .i64 (wordE ⟨k, r, i, v, b⟩)]) ∧ Below w.heap.size w w' := by
  cases hm : mayC ⟨k, r, i, v, b⟩ with
  | false =>
    rw [wordV_not _ hm, wordE_not _ hm]
    rcases twelve hm with h | h | h | h | h | h | h | h | h | h | ⟨⟨h1, h2⟩, ⟨h3, h4⟩, ⟨h5, h6⟩, ⟨h7, h8⟩, ⟨h9, h10⟩, hk, hi⟩ | ⟨⟨h1, h2⟩, ⟨h3, h4⟩, ⟨h5, h6⟩, ⟨h7, h8⟩, ⟨h9, h10⟩, hk, hi, hv⟩
    · clear hm
      go_enter Try.func32, Try.ntmps32
      go_wp2_with fail
      go_ret2
      exact ⟨rfl, (Below.refl _ _).alloc (Nat.le_refl _) _⟩
    · clear hm
      obtain ⟨h1, h2⟩ := h
      go_enter Try.func32, Try.ntmps32
      go_wp2_with fail
      go_ret2
      exact ⟨rfl, (Below.refl _ _).alloc (Nat.le_refl _) _⟩
    · clear hm
      obtain ⟨⟨h1, h2⟩, h3⟩ := h
      go_enter Try.func32, Try.ntmps32
      go_wp2_with fail
      go_ret2
      exact ⟨rfl, (Below.refl _ _).alloc (Nat.le_refl _) _⟩
    · clear hm
      obtain ⟨⟨h1, h2⟩, h3, h4⟩ := h
      go_enter Try.func32, Try.ntmps32
      go_wp2_with fail
      go_ret2
      exact ⟨rfl, (Below.refl _ _).alloc (Nat.le_refl _) _⟩
    · clear hm
      obtain ⟨⟨h1, h2⟩, ⟨h3, h4⟩, h5⟩ := h
      go_enter Try.func32, Try.ntmps32
      go_wp2_with fail
      go_ret2
      exact ⟨rfl, (Below.refl _ _).alloc (Nat.le_refl _) _⟩
    · clear hm
      obtain ⟨⟨h1, h2⟩, ⟨h3, h4⟩, h5, h6⟩ := h
      go_enter Try.func32, Try.ntmps32
      go_wp2_with fail
      go_ret2
      exact ⟨rfl, (Below.refl _ _).alloc (Nat.le_refl _) _⟩
    · clear hm
      obtain ⟨⟨h1, h2⟩, ⟨h3, h4⟩, ⟨h5, h6⟩, h7⟩ := h
      go_enter Try.func32, Try.ntmps32
      go_wp2_with fail
      go_ret2
      exact ⟨rfl, (Below.refl _ _).alloc (Nat.le_refl _) _⟩
    · clear hm
      obtain ⟨⟨h1, h2⟩, ⟨h3, h4⟩, ⟨h5, h6⟩, h7, h8⟩ := h
      go_enter Try.func32, Try.ntmps32
      go_wp2_with fail
      go_ret2
      exact ⟨rfl, (Below.refl _ _).alloc (Nat.le_refl _) _⟩
    · clear hm
      obtain ⟨⟨h1, h2⟩, ⟨h3, h4⟩, ⟨h5, h6⟩, ⟨h7, h8⟩, h9⟩ := h
      go_enter Try.func32, Try.ntmps32
      go_wp2_with fail
      go_ret2
      exact ⟨rfl, (Below.refl _ _).alloc (Nat.le_refl _) _⟩
    · clear hm
      obtain ⟨⟨h1, h2⟩, ⟨h3, h4⟩, ⟨h5, h6⟩, ⟨h7, h8⟩, h9, h10⟩ := h
      go_enter Try.func32, Try.ntmps32
      go_wp2_with fail
      go_ret2
      exact ⟨rfl, (Below.refl _ _).alloc (Nat.le_refl _) _⟩
    · clear hm
      have hi' : (i == 0) = false := by simpa using hi
      clear hi
      rcases hk with rfl | rfl
      · skip
        go_enter Try.func32, Try.ntmps32
        go_wp2_with fail
        go_ret2
        exact ⟨rfl, (Below.refl _ _).alloc (Nat.le_refl _) _⟩
      · skip
        go_enter Try.func32, Try.ntmps32
        go_wp2_with fail
        go_ret2
        exact ⟨rfl, (Below.refl _ _).alloc (Nat.le_refl _) _⟩
    · clear hm
      subst hi
      have hv' : (v == 0) = false := by simpa using hv
      clear hv
      rcases hk with rfl | rfl
      · skip
        go_enter Try.func32, Try.ntmps32
        go_wp2_with fail
        go_ret2
        exact ⟨rfl, (Below.refl _ _).alloc (Nat.le_refl _) _⟩
      · skip
        go_enter Try.func32, Try.ntmps32
        go_wp2_with fail
        go_ret2
        exact ⟨rfl, (Below.refl _ _).alloc (Nat.le_refl _) _⟩
  | true =>
    have h := (mayC_iff ⟨k, r, i, v, b⟩).1 hm
    obtain ⟨h1, h2, h3, h4, h5, h6, h7, h8, h9, h10, h11⟩ : 1 ≤ k ∧ k ≤ 6 ∧ 0 ≤ r ∧ r ≤ 15 ∧ 0 ≤ i ∧ i < 49 ∧ 0 ≤ v ∧ v ≤ 16777215 ∧ 0 ≤ b ∧ b ≤ 65535 ∧ (5 ≤ k → i = 0 ∧ v = 0) := h
    rw [wordV_may _ hm, wordE_may _ hm]
    have W0 := hide (w0 k (by omega) (by omega))
    have W1 := hide (w1 k r (by omega) (by omega) h3 h4)
    have W2 := hide (w2 (k + r * 16) i (by omega) (by omega) h5 (by omega))
    have W3 := hide (w3 (k + r * 16 + i * 256) v (by omega) (by omega) h7 (by omega))
    have W4 := hide (w4 (k + r * 16 + i * 256 + v * 16777216) b (by omega) (by omega) h9 (by omega))
    rw [show k + r * 16 + i * 256 + v * 16777216 + b * 281474976710656 = wordC ⟨k, r, i, v, b⟩ from rfl] at W4
    generalize wordC ⟨k, r, i, v, b⟩ = R at *
    have q1 : 0 ≤ k + r * 16 ∧ k + r * 16 ≤ 255 := by omega
    have q2 : 0 ≤ k + r * 16 + i * 256 ∧ k + r * 16 + i * 256 ≤ 16777215 := by omega
    have q3 : 0 ≤ k + r * 16 + i * 256 + v * 16777216 ∧ k + r * 16 + i * 256 + v * 16777216 ≤ 281474976710655 := by omega
    clear hm
    generalize k + r * 16 + i * 256 + v * 16777216 = x3 at *
    generalize k + r * 16 + i * 256 = x2 at *
    generalize k + r * 16 = x1 at *
    clear q1 q2 q3
    by_cases h5k : 5 ≤ k
    · obtain ⟨rfl, rfl⟩ := h11 h5k
      clear h11
      have hk : k = 5 ∨ k = 6 := by omega
      rcases hk with rfl | rfl
      · clear h5k
        go_enter Try.func32, Try.ntmps32
        go_wp2_with fail
        refine (unhide W0 _).mono ?_
        rintro e w' ⟨rfl, rfl⟩
        go_wp2_with fail
        refine (unhide W1 _).mono ?_
        rintro e w' ⟨rfl, rfl⟩
        go_wp2_with fail
        refine (unhide W2 _).mono ?_
        rintro e w' ⟨rfl, rfl⟩
        go_wp2_with fail
        refine (unhide W3 _).mono ?_
        rintro e w' ⟨rfl, rfl⟩
        go_wp2_with fail
        refine (unhide W4 _).mono ?_
        rintro e w' ⟨rfl, rfl⟩
        go_wp2_with fail
        go_ret2
        exact ⟨rfl, (Below.refl _ _).alloc (Nat.le_refl _) _⟩
      · clear h5k
        go_enter Try.func32, Try.ntmps32
        go_wp2_with fail
        refine (unhide W0 _).mono ?_
        rintro e w' ⟨rfl, rfl⟩
        go_wp2_with fail
        refine (unhide W1 _).mono ?_
        rintro e w' ⟨rfl, rfl⟩
        go_wp2_with fail
        refine (unhide W2 _).mono ?_
        rintro e w' ⟨rfl, rfl⟩
        go_wp2_with fail
        refine (unhide W3 _).mono ?_
        rintro e w' ⟨rfl, rfl⟩
        go_wp2_with fail
        refine (unhide W4 _).mono ?_
        rintro e w' ⟨rfl, rfl⟩
        go_wp2_with fail
        go_ret2
        exact ⟨rfl, (Below.refl _ _).alloc (Nat.le_refl _) _⟩
    · have e5 : (k == 5) = false := by rw [beq_eq_false_iff_ne]; omega
      have e6 : (k == 6) = false := by rw [beq_eq_false_iff_ne]; omega
      clear h5k h11
      go_enter Try.func32, Try.ntmps32
      go_wp2_with fail
      refine (unhide W0 _).mono ?_
      rintro e w' ⟨rfl, rfl⟩
      go_wp2_with fail
      refine (unhide W1 _).mono ?_
      rintro e w' ⟨rfl, rfl⟩
      go_wp2_with fail
      refine (unhide W2 _).mono ?_
      rintro e w' ⟨rfl, rfl⟩
      go_wp2_with fail
      refine (unhide W3 _).mono ?_
      rintro e w' ⟨rfl, rfl⟩
      go_wp2_with fail
      refine (unhide W4 _).mono ?_
      rintro e w' ⟨rfl, rfl⟩
      go_wp2_with fail
      go_ret2
      exact ⟨rfl, (Below.refl _ _).alloc (Nat.le_refl _) _⟩
theorem rword_any (c : Cp) (w : World) : Calls Try.prog 32 #[.agg (cv c)] w fun e w' => e = .returned (.tuple #[.int .u64 (wordV c), .int .i64 (wordE c)]) ∧ Below w.heap.size w w' := rword5 c.k c.r c.i c.v c.b w

end Go.Proofs.Ytdmijjncninlbaa
