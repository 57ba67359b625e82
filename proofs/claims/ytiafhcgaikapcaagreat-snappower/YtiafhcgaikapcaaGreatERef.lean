
/-
  The document's answer for entries: what its Word, Of, End and Open return, for whatever entry and word; nothing that was there turns.
-/
import Derived.Test.YtiafhcgaikapcaaGreatPkEn
import Derived.Test.YtiafhcgaikapcaaGreatWRefs
namespace Go.Proofs.YtiafhcgaikapcaaGreat
open Go.ChangeShapes Go.WideShapes Go.ChangeAt Go.RowKit Go.Joins
set_option maxRecDepth 10000
set_option linter.unusedVariables false
set_option linter.unusedSimpArgs false

theorem elow : lowI 4 = 15 ∧ lowI 16 = 65535 ∧ lowI 24 = 16777215 := by decide
theorem e0 (k : Int) (h1 : 0 ≤ k) (h2 : k ≤ 15) (W : World) : Calls Tryz.prog 181 #[.int .u64 0, .int .i64 0, .int .i64 4, .int .u64 k] W fun e w' => e = .returned (.tuple #[.int .u64 k, .int .i64 0]) ∧ w' = W := by
  have h := rwith_yes 0 0 4 k (by decide) (by decide) h1 (by omega) (by decide) (by decide) (by decide) (by rw [elow.1]; exact h2) W
  rw [withI_top 0 0 4 k 0 4 rfl rfl (by decide) (by decide) h1 (by simp; omega) (by decide)] at h
  simpa using h
theorem e1 (x v : Int) (h0 : 0 ≤ x) (hx : x < 16) (h1 : 0 ≤ v) (h2 : v ≤ 16777215) (W : World) : Calls Tryz.prog 181 #[.int .u64 x, .int .i64 4, .int .i64 24, .int .u64 v] W fun e w' => e = .returned (.tuple #[.int .u64 (x + v * 16), .int .i64 0]) ∧ w' = W := by
  have h := rwith_yes x 4 24 v h0 (by omega) h1 (by omega) (by decide) (by decide) (by decide) (by rw [elow.2.2]; exact h2) W
  rw [withI_top x 4 24 v 4 24 rfl rfl h0 (by simp; omega) h1 (by simp; omega) (by decide)] at h
  exact h
theorem e2 (x l : Int) (h0 : 0 ≤ x) (hx : x < 268435456) (h1 : 0 ≤ l) (h2 : l ≤ 65535) (W : World) : Calls Tryz.prog 181 #[.int .u64 x, .int .i64 28, .int .i64 16, .int .u64 l] W fun e w' => e = .returned (.tuple #[.int .u64 (x + l * 268435456), .int .i64 0]) ∧ w' = W := by
  have h := rwith_yes x 28 16 l h0 (by omega) h1 (by omega) (by decide) (by decide) (by decide) (by rw [elow.2.1]; exact h2) W
  rw [withI_top x 28 16 l 28 16 rfl rfl h0 (by simp; omega) h1 (by simp; omega) (by decide)] at h
  exact h

theorem seven {k v l : Int} (h : mayN ⟨k, v, l⟩ = false) : (k < 0) ∨ (¬ k < 0 ∧ k > 4) ∨ ((¬ k < 0 ∧ ¬ k > 4) ∧ v < 0) ∨ ((¬ k < 0 ∧ ¬ k > 4) ∧ ¬ v < 0 ∧ v > 16777215) ∨ ((¬ k < 0 ∧ ¬ k > 4) ∧ (¬ v < 0 ∧ ¬ v > 16777215) ∧ l < 0) ∨ ((¬ k < 0 ∧ ¬ k > 4) ∧ (¬ v < 0 ∧ ¬ v > 16777215) ∧ ¬ l < 0 ∧ l ≥ 1024) ∨ ((¬ k < 0 ∧ ¬ k > 4) ∧ (¬ v < 0 ∧ ¬ v > 16777215) ∧ (¬ l < 0 ∧ ¬ l ≥ 1024) ∧ k = 0 ∧ l ≠ 0) := by
  have h' : ¬ (0 ≤ k ∧ k ≤ 4 ∧ 0 ≤ v ∧ v ≤ 16777215 ∧ 0 ≤ l ∧ l < 1024 ∧ (k = 0 → l = 0)) := fun hc => by
    have := (mayN_iff ⟨k, v, l⟩).2 hc
    rw [h] at this
    cases this
  by_cases a0 : k < 0
  case pos => exact Or.inl a0
  by_cases a1 : k > 4
  case pos => exact Or.inr (Or.inl ⟨a0, a1⟩)
  by_cases a2 : v < 0
  case pos => exact Or.inr (Or.inr (Or.inl ⟨⟨a0, a1⟩, a2⟩))
  by_cases a3 : v > 16777215
  case pos => exact Or.inr (Or.inr (Or.inr (Or.inl ⟨⟨a0, a1⟩, a2, a3⟩)))
  by_cases a4 : l < 0
  case pos => exact Or.inr (Or.inr (Or.inr (Or.inr (Or.inl ⟨⟨a0, a1⟩, ⟨a2, a3⟩, a4⟩))))
  by_cases a5 : l ≥ 1024
  case pos => exact Or.inr (Or.inr (Or.inr (Or.inr (Or.inr (Or.inl ⟨⟨a0, a1⟩, ⟨a2, a3⟩, a4, a5⟩)))))
  exact Or.inr (Or.inr (Or.inr (Or.inr (Or.inr (Or.inr ⟨⟨a0, a1⟩, ⟨a2, a3⟩, ⟨a4, a5⟩, by omega⟩)))))

set_option maxHeartbeats 4000000 in
theorem reword3 (k v l : Int) (w : World) : Calls Tryz.prog 129 #[.agg #[.int .i64 k, .int .i64 v, .int .i64 l]] w fun e w' => e = .returned (.tuple #[.int .u64 (wnV ⟨k, v, l⟩), .int .i64 (wnE ⟨k, v, l⟩)]) ∧ Below w.heap.size w w' := by
  cases hm : mayN ⟨k, v, l⟩ with
  | false =>
    rw [wnV_not _ hm, wnE_not _ hm]
    rcases seven hm with h | h | h | h | h | h | ⟨⟨h1, h2⟩, ⟨h3, h4⟩, ⟨h5, h6⟩, hk, hl⟩
    · clear hm
      go_enter Tryz.func129, Tryz.ntmps129
      go_wp2_with fail
      go_ret2
      exact ⟨rfl, (Below.refl _ _).alloc (Nat.le_refl _) _⟩
    · clear hm
      obtain ⟨h1, h2⟩ := h
      go_enter Tryz.func129, Tryz.ntmps129
      go_wp2_with fail
      go_ret2
      exact ⟨rfl, (Below.refl _ _).alloc (Nat.le_refl _) _⟩
    · clear hm
      obtain ⟨⟨h1, h2⟩, h3⟩ := h
      go_enter Tryz.func129, Tryz.ntmps129
      go_wp2_with fail
      go_ret2
      exact ⟨rfl, (Below.refl _ _).alloc (Nat.le_refl _) _⟩
    · clear hm
      obtain ⟨⟨h1, h2⟩, h3, h4⟩ := h
      go_enter Tryz.func129, Tryz.ntmps129
      go_wp2_with fail
      go_ret2
      exact ⟨rfl, (Below.refl _ _).alloc (Nat.le_refl _) _⟩
    · clear hm
      obtain ⟨⟨h1, h2⟩, ⟨h3, h4⟩, h5⟩ := h
      go_enter Tryz.func129, Tryz.ntmps129
      go_wp2_with fail
      go_ret2
      exact ⟨rfl, (Below.refl _ _).alloc (Nat.le_refl _) _⟩
    · clear hm
      obtain ⟨⟨h1, h2⟩, ⟨h3, h4⟩, h5, h6⟩ := h
      go_enter Tryz.func129, Tryz.ntmps129
      go_wp2_with fail
      go_ret2
      exact ⟨rfl, (Below.refl _ _).alloc (Nat.le_refl _) _⟩
    · clear hm
      subst hk
      have hl' : (l != 0) = true := by simpa using hl
      clear hl
      go_enter Tryz.func129, Tryz.ntmps129
      go_wp2_with fail
      go_ret2
      exact ⟨rfl, (Below.refl _ _).alloc (Nat.le_refl _) _⟩
  | true =>
    obtain ⟨h1, h2, h3, h4, h5, h6, h7⟩ : 0 ≤ k ∧ k ≤ 4 ∧ 0 ≤ v ∧ v ≤ 16777215 ∧ 0 ≤ l ∧ l < 1024 ∧ (k = 0 → l = 0) := (mayN_iff ⟨k, v, l⟩).1 hm
    rw [wnV_may _ hm, wnE_may _ hm]
    have W0 := hide (e0 k (by omega) (by omega))
    have W1 := hide (e1 k v (by omega) (by omega) h3 h4)
    have W2 := hide (e2 (k + v * 16) l (by omega) (by omega) h5 (by omega))
    rw [show k + v * 16 + l * 268435456 = wordN ⟨k, v, l⟩ from rfl] at W2
    generalize wordN ⟨k, v, l⟩ = R at *
    generalize k + v * 16 = x1 at *
    clear hm
    by_cases hk : k = 0
    · have hl := h7 hk
      subst hk hl
      clear h7
      go_enter Tryz.func129, Tryz.ntmps129
      go_wp2_with fail
      refine (unhide W0 _).mono ?_
      rintro e w' ⟨rfl, rfl⟩
      go_wp2_with fail
      refine (unhide W1 _).mono ?_
      rintro e w' ⟨rfl, rfl⟩
      go_wp2_with fail
      refine (unhide W2 _).mono ?_
      rintro e w' ⟨rfl, rfl⟩
      go_wp2_with fail
      go_ret2
      exact ⟨rfl, (Below.refl _ _).alloc (Nat.le_refl _) _⟩
    · have hk' : (k == 0) = false := by simpa using hk
      clear h7 hk
      go_enter Tryz.func129, Tryz.ntmps129
      go_wp2_with fail
      refine (unhide W0 _).mono ?_
      rintro e w' ⟨rfl, rfl⟩
      go_wp2_with fail
      refine (unhide W1 _).mono ?_
      rintro e w' ⟨rfl, rfl⟩
      go_wp2_with fail
      refine (unhide W2 _).mono ?_
      rintro e w' ⟨rfl, rfl⟩
      go_wp2_with fail
      go_ret2
      exact ⟨rfl, (Below.refl _ _).alloc (Nat.le_refl _) _⟩
theorem reword_any (c : En) (w : World) : Calls Tryz.prog 129 #[.agg (ev c)] w fun e w' => e = .returned (.tuple #[.int .u64 (wnV c), .int .i64 (wnE c)]) ∧ Below w.heap.size w w' := reword3 c.k c.v c.l w

/-! ### Of -/
set_option maxHeartbeats 4000000 in
theorem reof_any (x : Int) (h0 : 0 ≤ x) (h1 : x ≤ 18446744073709551615) (w : World) : Calls Tryz.prog 199 #[.int .u64 x] w fun e w' => e = .returned (.tuple #[.agg (ev (onV x)), .bool (isN x)]) ∧ Below w.heap.size w w' := by
  have bd : 0 ≤ fieldI x 0 4 ∧ fieldI x 0 4 ≤ 15 ∧ 0 ≤ fieldI x 4 24 ∧ fieldI x 4 24 ≤ 16777215 ∧ 0 ≤ fieldI x 28 16 ∧ fieldI x 28 16 ≤ 65535 := ofN_bd x h0
  obtain ⟨b0, b1, b2, b3, b4, b5⟩ := bd
  have F0 := hide (rfield_yes x 0 4 h0 h1 (by decide) (by decide) (by decide))
  have F1 := hide (rfield_yes x 4 24 h0 h1 (by decide) (by decide) (by decide))
  have F2 := hide (rfield_yes x 28 16 h0 h1 (by decide) (by decide) (by decide))
  have M := hide (reword3 (fieldI x 0 4) (fieldI x 4 24) (fieldI x 28 16))
  have hv : onV x = if isN x then ⟨fieldI x 0 4, fieldI x 4 24, fieldI x 28 16⟩ else ze := rfl
  rw [hv]
  have hi : isN x = (mayN ⟨fieldI x 0 4, fieldI x 4 24, fieldI x 28 16⟩ && decide (wordN ⟨fieldI x 0 4, fieldI x 4 24, fieldI x 28 16⟩ = x)) := rfl
  rw [hi]
  clear hv hi
  generalize fieldI x 0 4 = k at *
  generalize fieldI x 4 24 = v at *
  generalize fieldI x 28 16 = l at *
  cases hm : mayN ⟨k, v, l⟩ with
  | false =>
    rw [wnV_not _ hm, wnE_not _ hm] at M
    rw [show (if (false && decide (wordN ⟨k, v, l⟩ = x)) = true then (⟨k, v, l⟩ : En) else ze) = ze from rfl, Bool.false_and]
    clear hm
    go_enter Tryz.func199, Tryz.ntmps199
    go_wp2_with fail
    refine (unhide F0 _).mono ?_
    rintro e w0 ⟨rfl, rfl⟩
    go_wp2_with fail
    refine (unhide F1 _).mono ?_
    rintro e w0 ⟨rfl, rfl⟩
    go_wp2_with fail
    refine (unhide F2 _).mono ?_
    rintro e w0 ⟨rfl, rfl⟩
    go_wp2_with fail
    refine (unhide M _).mono ?_
    rintro e w1 ⟨rfl, hb⟩
    have hsz : w.heap.size + 1 + 1 ≤ w1.heap.size := by have := hb.size; simpa using this
    have K0 := hide ((hb.block w.heap.size (by simp; omega)).trans (heap2 w _ _).1)
    have K1 := hide ((hb.block (w.heap.size + 1) (by simp)).trans (heap2 w _ _).2)
    have Hb := hide ((((Below.refl _ w).alloc (Nat.le_refl _) _).alloc (by simp) _).trans (hb.mono (by simp; omega)))
    clear hb M F0 F1 F2
    rw [zero3] at K0
    rw [show (#[.int .i64 k, .int .i64 v, .int .i64 l] : Array Value) = ev ⟨k, v, l⟩ from rfl] at K1
    have s3 : (Tryz.prog.info? 41).map (·.size) = some (ev ⟨k, v, l⟩).size := size3
    have s3z : (Tryz.prog.info? 41).map (·.size) = some (ev ze).size := size3
    go_wp2_with (first | (refine wpList_build0 rfl 41 rfl _ build3 ?_) | (refine wpList_store_row rfl 41 _ _ rfl w.heap.size (ev ze) rfl rfl _ _ (unhide K0) s3z rfl (ev_one _) ?_))
    refine bodyPost_ret (v := .tuple #[.agg (ev ze), .bool false]) (results_two Tryz.results199 _ _ w.heap.size 41 (ev ze) (0, 0) _ _ rfl rfl (setRow_heap _ _ _ _ _ _ (unhide K0)) Tryz.underlying41 rfl s3z) rfl ?_
    exact ⟨rfl, below_row (unhide Hb) (by omega) _⟩
  | true =>
    rw [wnV_may _ hm, wnE_may _ hm] at M
    by_cases hq : wordN ⟨k, v, l⟩ = x
    · rw [show (if (true && decide (wordN ⟨k, v, l⟩ = x)) = true then (⟨k, v, l⟩ : En) else ze) = ⟨k, v, l⟩ by simp [hq], show (true && decide (wordN ⟨k, v, l⟩ = x)) = true by simp [hq]]
      rw [hq] at M
      clear hm hq
      have hx : (x != x) = false := by simp
      go_enter Tryz.func199, Tryz.ntmps199
      go_wp2_with fail
      refine (unhide F0 _).mono ?_
      rintro e w0 ⟨rfl, rfl⟩
      go_wp2_with fail
      refine (unhide F1 _).mono ?_
      rintro e w0 ⟨rfl, rfl⟩
      go_wp2_with fail
      refine (unhide F2 _).mono ?_
      rintro e w0 ⟨rfl, rfl⟩
      go_wp2_with fail
      refine (unhide M _).mono ?_
      rintro e w1 ⟨rfl, hb⟩
      have hsz : w.heap.size + 1 + 1 ≤ w1.heap.size := by have := hb.size; simpa using this
      have K0 := hide ((hb.block w.heap.size (by simp; omega)).trans (heap2 w _ _).1)
      have K1 := hide ((hb.block (w.heap.size + 1) (by simp)).trans (heap2 w _ _).2)
      have Hb := hide ((((Below.refl _ w).alloc (Nat.le_refl _) _).alloc (by simp) _).trans (hb.mono (by simp; omega)))
      clear hb M F0 F1 F2
      rw [zero3] at K0
      rw [show (#[.int .i64 k, .int .i64 v, .int .i64 l] : Array Value) = ev ⟨k, v, l⟩ from rfl] at K1
      have s3 : (Tryz.prog.info? 41).map (·.size) = some (ev ⟨k, v, l⟩).size := size3
      have s3z : (Tryz.prog.info? 41).map (·.size) = some (ev ze).size := size3
      go_wp2_with (first | (refine wpList_load_row rfl 41 _ rfl (w.heap.size + 1) rfl _ _ _ _ (unhide K1) Tryz.underlying41 rfl s3 ?_) | (refine wpList_store_row rfl 41 _ _ rfl w.heap.size (ev ⟨k, v, l⟩) rfl rfl _ _ (unhide K0) s3 rfl (ev_one _) ?_))
      refine bodyPost_ret (v := .tuple #[.agg (ev ⟨k, v, l⟩), .bool true]) (results_two Tryz.results199 _ _ w.heap.size 41 (ev ⟨k, v, l⟩) (0, 0) _ _ rfl rfl (setRow_heap _ _ _ _ _ _ (unhide K0)) Tryz.underlying41 rfl s3) rfl ?_
      exact ⟨rfl, below_row (unhide Hb) (by omega) _⟩
    · rw [show (if (true && decide (wordN ⟨k, v, l⟩ = x)) = true then (⟨k, v, l⟩ : En) else ze) = ze by simp [hq], show (true && decide (wordN ⟨k, v, l⟩ = x)) = false by simp [hq]]
      have hx : (wordN ⟨k, v, l⟩ != x) = true := by simpa using hq
      generalize wordN ⟨k, v, l⟩ = R at *
      clear hm hq
      go_enter Tryz.func199, Tryz.ntmps199
      go_wp2_with fail
      refine (unhide F0 _).mono ?_
      rintro e w0 ⟨rfl, rfl⟩
      go_wp2_with fail
      refine (unhide F1 _).mono ?_
      rintro e w0 ⟨rfl, rfl⟩
      go_wp2_with fail
      refine (unhide F2 _).mono ?_
      rintro e w0 ⟨rfl, rfl⟩
      go_wp2_with fail
      refine (unhide M _).mono ?_
      rintro e w1 ⟨rfl, hb⟩
      have hsz : w.heap.size + 1 + 1 ≤ w1.heap.size := by have := hb.size; simpa using this
      have K0 := hide ((hb.block w.heap.size (by simp; omega)).trans (heap2 w _ _).1)
      have K1 := hide ((hb.block (w.heap.size + 1) (by simp)).trans (heap2 w _ _).2)
      have Hb := hide ((((Below.refl _ w).alloc (Nat.le_refl _) _).alloc (by simp) _).trans (hb.mono (by simp; omega)))
      clear hb M F0 F1 F2
      rw [zero3] at K0
      rw [show (#[.int .i64 k, .int .i64 v, .int .i64 l] : Array Value) = ev ⟨k, v, l⟩ from rfl] at K1
      have s3 : (Tryz.prog.info? 41).map (·.size) = some (ev ⟨k, v, l⟩).size := size3
      have s3z : (Tryz.prog.info? 41).map (·.size) = some (ev ze).size := size3
      go_wp2_with (first | (refine wpList_build0 rfl 41 rfl _ build3 ?_) | (refine wpList_store_row rfl 41 _ _ rfl w.heap.size (ev ze) rfl rfl _ _ (unhide K0) s3z rfl (ev_one _) ?_))
      refine bodyPost_ret (v := .tuple #[.agg (ev ze), .bool false]) (results_two Tryz.results199 _ _ w.heap.size 41 (ev ze) (0, 0) _ _ rfl rfl (setRow_heap _ _ _ _ _ _ (unhide K0)) Tryz.underlying41 rfl s3z) rfl ?_
      exact ⟨rfl, below_row (unhide Hb) (by omega) _⟩

/-! ### End and Open -/
theorem reopen3 (k v l : Int) (w : World) : Calls Tryz.prog 145 #[.agg #[.int .i64 k, .int .i64 v, .int .i64 l]] w fun e w' => e = .returned (.bool (opB ⟨k, v, l⟩)) ∧ Below w.heap.size w w' := by
  have e0 : opB ⟨k, v, l⟩ = ((k == 0) && decide (v < 16777215)) := by
    unfold opB; rw [Bool.eq_iff_iff]; simp
  rw [e0]
  clear e0
  by_cases hk : k = 0
  · subst hk
    go_enter Tryz.func145, Tryz.ntmps145
    go_wp2_with fail
    go_ret
    exact ⟨rfl, (Below.refl _ _).alloc (Nat.le_refl _) _⟩
  · have hk1 : (k == 0) = false := by simpa using hk
    rw [hk1]
    clear hk
    go_enter Tryz.func145, Tryz.ntmps145
    go_wp2_with fail
    go_ret
    exact ⟨rfl, (Below.refl _ _).alloc (Nat.le_refl _) _⟩
theorem reopen_any (c : En) (w : World) : Calls Tryz.prog 145 #[.agg (ev c)] w fun e w' => e = .returned (.bool (opB c)) ∧ Below w.heap.size w w' := reopen3 c.k c.v c.l w
theorem reend3 (k v l : Int) (hv0 : -9223372036854775808 ≤ v) (hv1 : v < 9223372036854775807) (w : World) : Calls Tryz.prog 85 #[.agg #[.int .i64 k, .int .i64 v, .int .i64 l]] w fun e w' => e = .returned (.tuple #[.agg (ev (endV ⟨k, v, l⟩)), .int .i64 (endE ⟨k, v, l⟩)]) ∧ Below w.heap.size w w' := by
  by_cases hk : k = 0
  · rw [show endV ⟨k, v, l⟩ = ze by simp [endV, hk], show endE ⟨k, v, l⟩ = 30 by simp [endE, hk]]
    subst hk
    go_enter Tryz.func85, Tryz.ntmps85
    go_wp2_with fail
    exact bodyPost_ret (v := .tuple #[.agg (ev ze), .int .i64 30]) (results_two Tryz.results85 _ _ (w.heap.size + 1) 41 (ev ze) (0, 0) _ _ rfl rfl (heap2 w _ _).2 Tryz.underlying41 rfl size3) rfl ⟨rfl, ((Below.refl _ w).alloc (Nat.le_refl _) _).alloc (by simp) _⟩
  · have hk1 : (k == 0) = false := by simpa using hk
    by_cases hv : v = 16777215
    · rw [show endV ⟨k, v, l⟩ = ⟨0, 16777215, 0⟩ by simp [endV, hk, nextI, hv], show endE ⟨k, v, l⟩ = 0 by simp [endE, hk]]
      subst hv
      clear hk
      go_enter Tryz.func85, Tryz.ntmps85
      go_wp2_with fail
      exact bodyPost_ret (v := .tuple #[.agg (ev ⟨0, 16777215, 0⟩), .int .i64 0]) (results_two Tryz.results85 _ _ (w.heap.size + 1) 41 (ev ⟨0, 16777215, 0⟩) (0, 0) _ _ rfl rfl (heap2 w _ _).2 Tryz.underlying41 rfl size3) rfl ⟨rfl, ((Below.refl _ w).alloc (Nat.le_refl _) _).alloc (by simp) _⟩
    · rw [show endV ⟨k, v, l⟩ = ⟨0, v + 1, 0⟩ by simp [endV, hk, nextI, hv], show endE ⟨k, v, l⟩ = 0 by simp [endE, hk]]
      have hv1 : (v != 16777215) = true := by simpa using hv
      clear hk hv
      go_enter Tryz.func85, Tryz.ntmps85
      go_wp2_with fail
      exact bodyPost_ret (v := .tuple #[.agg (ev ⟨0, v + 1, 0⟩), .int .i64 0]) (results_two Tryz.results85 _ _ (w.heap.size + 1) 41 (ev ⟨0, v + 1, 0⟩) (0, 0) _ _ rfl rfl (heap2 w _ _).2 Tryz.underlying41 rfl size3) rfl ⟨rfl, ((Below.refl _ w).alloc (Nat.le_refl _) _).alloc (by simp) _⟩
theorem reend_any (c : En) (hv0 : -9223372036854775808 ≤ c.v) (hv1 : c.v < 9223372036854775807) (w : World) : Calls Tryz.prog 85 #[.agg (ev c)] w fun e w' => e = .returned (.tuple #[.agg (ev (endV c)), .int .i64 (endE c)]) ∧ Below w.heap.size w w' := reend3 c.k c.v c.l hv0 hv1 w
end Go.Proofs.YtiafhcgaikapcaaGreat
