
/-
  The document's Of, Diminish, May and Within: what each returns, for whatever word, rights; nothing that was there turns.
-/
import Derived.Test.YtbgdmapmbjhbiaaKRef
namespace Go.Proofs.Ytbgdmapmbjhbiaa
open Go.ChangeShapes Go.WideShapes Go.ChangeAt Go.RowKit Go.Joins
set_option maxRecDepth 10000
set_option linter.unusedVariables false
set_option linter.unusedSimpArgs false

theorem rof_any (x : Int) (h0 : 0 ≤ x) (h1 : x ≤ 18446744073709551615) (w : World) : Calls Try.prog 13 #[.int .u64 x] w fun e w' => e = .returned (.tuple #[.agg (cv (ofV x)), .bool (isC x)]) ∧ Below w.heap.size w w' := by
  have F0 := hide (rfield_yes x 0 4 h0 h1 (by decide) (by decide) (by decide))
  have F1 := hide (rfield_yes x 4 4 h0 h1 (by decide) (by decide) (by decide))
  have F2 := hide (rfield_yes x 8 16 h0 h1 (by decide) (by decide) (by decide))
  have F3 := hide (rfield_yes x 24 24 h0 h1 (by decide) (by decide) (by decide))
  have F4 := hide (rfield_yes x 48 16 h0 h1 (by decide) (by decide) (by decide))
  have bd := ofC_bd x h0
  have M := hide (rword5 (fieldI x 0 4) (fieldI x 4 4) (fieldI x 8 16) (fieldI x 24 24) (fieldI x 48 16))
  have e0 : wordV ⟨fieldI x 0 4, fieldI x 4 4, fieldI x 8 16, fieldI x 24 24, fieldI x 48 16⟩ = if isC x then x else 0 := by
    show (if mayC (ofC x) then wordC (ofC x) else 0) = _
    rw [wordC_of x h0 h1]; rfl
  have e1 : wordE ⟨fieldI x 0 4, fieldI x 4 4, fieldI x 8 16, fieldI x 24 24, fieldI x 48 16⟩ = if isC x then 0 else 1 := rfl
  rw [e0, e1] at M
  clear e0 e1
  obtain ⟨b0, b1, b2, b3, b4, b5, b6, b7, b8, b9⟩ : 0 ≤ fieldI x 0 4 ∧ fieldI x 0 4 ≤ 15 ∧ 0 ≤ fieldI x 4 4 ∧ fieldI x 4 4 ≤ 15 ∧ 0 ≤ fieldI x 8 16 ∧ fieldI x 8 16 ≤ 65535 ∧ 0 ≤ fieldI x 24 24 ∧ fieldI x 24 24 ≤ 16777215 ∧ 0 ≤ fieldI x 48 16 ∧ fieldI x 48 16 ≤ 65535 := bd
  have hv : ofV x = if isC x then ⟨fieldI x 0 4, fieldI x 4 4, fieldI x 8 16, fieldI x 24 24, fieldI x 48 16⟩ else zc := rfl
  rw [hv]
  clear hv
  generalize fieldI x 0 4 = k at *
  generalize fieldI x 4 4 = r at *
  generalize fieldI x 8 16 = i at *
  generalize fieldI x 24 24 = v at *
  generalize fieldI x 48 16 = b at *
  generalize isC x = T at *
  cases T with
  | false =>
    rw [if_neg (by simp), if_neg (by simp)] at M
    rw [if_neg (by simp)]
    go_enter Try.func13, Try.ntmps13
    go_wp2_with fail
    refine (unhide F0 _).mono ?_
    rintro e w0 ⟨rfl, rfl⟩
    go_wp2_with fail
    refine (unhide F1 _).mono ?_
    rintro e w0 ⟨rfl, rfl⟩
    go_wp2_with fail
    refine (unhide F2 _).mono ?_
    rintro e w0 ⟨rfl, rfl⟩
    go_wp2_with fail
    refine (unhide F3 _).mono ?_
    rintro e w0 ⟨rfl, rfl⟩
    go_wp2_with fail
    refine (unhide F4 _).mono ?_
    rintro e w0 ⟨rfl, rfl⟩
    go_wp2_with fail
    refine (unhide M _).mono ?_
    rintro e w1 ⟨rfl, hb⟩
    have hsz : w.heap.size + 1 + 1 ≤ w1.heap.size := by have := hb.size; simpa using this
    have K0 := hide ((hb.block w.heap.size (by simp; omega)).trans (heap2 w _ _).1)
    have K1 := hide ((hb.block (w.heap.size + 1) (by simp)).trans (heap2 w _ _).2)
    have Hb := hide ((((Below.refl _ w).alloc (Nat.le_refl _) _).alloc (by simp) _).trans (hb.mono (by simp; omega)))
    clear hb M F0 F1 F2 F3 F4
    rw [zero5] at K0
    rw [show (#[.int .i64 k, .int .i64 r, .int .i64 i, .int .i64 v, .int .i64 b] : Array Value) = cv ⟨k, r, i, v, b⟩ from rfl] at K1
    have s5 : (Try.prog.info? 23).map (·.size) = some (cv ⟨k, r, i, v, b⟩).size := size5
    have s5z : (Try.prog.info? 23).map (·.size) = some (cv zc).size := size5
    go_wp2_with (first | (refine wpList_build0 rfl 23 rfl _ build5 ?_) | (refine wpList_store_row rfl 23 _ _ rfl w.heap.size (cv zc) rfl rfl _ _ (unhide K0) s5z rfl (cv_one _) ?_))
    refine bodyPost_ret (v := .tuple #[.agg (cv zc), .bool false]) (results_two Try.results13 _ _ w.heap.size 23 (cv zc) (0, 0) _ _ rfl rfl (setRow_heap _ _ _ _ _ _ (unhide K0)) Try.underlying23 rfl s5z) rfl ?_
    exact ⟨rfl, below_row (unhide Hb) (by omega) _⟩
  | true =>
    rw [if_pos rfl, if_pos rfl] at M
    rw [if_pos rfl]
    go_enter Try.func13, Try.ntmps13
    go_wp2_with fail
    refine (unhide F0 _).mono ?_
    rintro e w0 ⟨rfl, rfl⟩
    go_wp2_with fail
    refine (unhide F1 _).mono ?_
    rintro e w0 ⟨rfl, rfl⟩
    go_wp2_with fail
    refine (unhide F2 _).mono ?_
    rintro e w0 ⟨rfl, rfl⟩
    go_wp2_with fail
    refine (unhide F3 _).mono ?_
    rintro e w0 ⟨rfl, rfl⟩
    go_wp2_with fail
    refine (unhide F4 _).mono ?_
    rintro e w0 ⟨rfl, rfl⟩
    go_wp2_with fail
    refine (unhide M _).mono ?_
    rintro e w1 ⟨rfl, hb⟩
    have hsz : w.heap.size + 1 + 1 ≤ w1.heap.size := by have := hb.size; simpa using this
    have K0 := hide ((hb.block w.heap.size (by simp; omega)).trans (heap2 w _ _).1)
    have K1 := hide ((hb.block (w.heap.size + 1) (by simp)).trans (heap2 w _ _).2)
    have Hb := hide ((((Below.refl _ w).alloc (Nat.le_refl _) _).alloc (by simp) _).trans (hb.mono (by simp; omega)))
    clear hb M F0 F1 F2 F3 F4
    rw [zero5] at K0
    rw [show (#[.int .i64 k, .int .i64 r, .int .i64 i, .int .i64 v, .int .i64 b] : Array Value) = cv ⟨k, r, i, v, b⟩ from rfl] at K1
    have s5 : (Try.prog.info? 23).map (·.size) = some (cv ⟨k, r, i, v, b⟩).size := size5
    have s5z : (Try.prog.info? 23).map (·.size) = some (cv zc).size := size5
    go_wp2_with (first | (refine wpList_load_row rfl 23 _ rfl (w.heap.size + 1) rfl _ _ _ _ (unhide K1) Try.underlying23 rfl s5 ?_) | (refine wpList_store_row rfl 23 _ _ rfl w.heap.size (cv ⟨k, r, i, v, b⟩) rfl rfl _ _ (unhide K0) s5 rfl (cv_one _) ?_))
    refine bodyPost_ret (v := .tuple #[.agg (cv ⟨k, r, i, v, b⟩), .bool true]) (results_two Try.results13 _ _ w.heap.size 23 (cv ⟨k, r, i, v, b⟩) (0, 0) _ _ rfl rfl (setRow_heap _ _ _ _ _ _ (unhide K0)) Try.underlying23 rfl s5) rfl ?_
    exact ⟨rfl, below_row (unhide Hb) (by omega) _⟩

theorem dim_out {y z : Int} (h : ¬ (rtB y = true ∧ bdB z = true)) : (¬ 0 ≤ y) ∨ (0 ≤ y ∧ ¬ y ≤ 15) ∨ ((0 ≤ y ∧ y ≤ 15) ∧ ¬ 0 ≤ z) ∨ ((0 ≤ y ∧ y ≤ 15) ∧ 0 ≤ z ∧ ¬ z ≤ 65535) := by
  rw [rtB_iff, bdB_iff] at h
  omega
theorem rdim_any (x y z : Int) (h0 : 0 ≤ x) (h1 : x ≤ 18446744073709551615) (w : World) : Calls Try.prog 15 #[.int .u64 x, .int .i64 y, .int .i64 z] w fun e w' => e = .returned (.tuple #[.int .u64 (dimV x y z), .int .i64 (dimE x y z)]) ∧ Below w.heap.size w w' := by
  have O := hide (rof_any x h0 h1)
  cases hC : isC x with
  | false =>
    have eE : dimE x y z = 31 := by simp [dimE, hC]
    have eV : dimV x y z = 0 := by simp [dimV, eE]
    rw [eE, eV]
    rw [hC, ofV_not x hC] at O
    clear hC eE eV
    have nC := cv_new zc 23
    have zC := cv_size zc
    generalize cv zc = Z at *
    go_enter Try.func15, Try.ntmps15
    go_wp2_with fail
    refine (unhide O _).mono ?_
    rintro e w1 ⟨rfl, hb⟩
    go_wp2_with fail
    go_ret2
    exact ⟨rfl, hb.alloc hb.size _⟩
  | true =>
    rw [hC, ofV_is x hC] at O
    obtain ⟨k, r, i, v, b, hc⟩ : ∃ k r i v b, ofC x = ⟨k, r, i, v, b⟩ := ⟨_, _, _, _, _, rfl⟩
    have hm : mayC ⟨k, r, i, v, b⟩ = true := by rw [← hc]; exact hC
    have hr := (mayC_iff _).1 hm
    have HV : Hid (dimV x y z = if rtB y && bdB z then wordC (dimC ⟨k, r, i, v, b⟩ y z) else 0) := by
      show _ = _
      unfold dimV dimE
      rw [hC, hc]
      cases rtB y && bdB z <;> simp
    have HE : Hid (dimE x y z = if rtB y && bdB z then 0 else 1) := by
      show _ = _
      unfold dimE
      rw [hC]
      simp
    rw [unhide HV, unhide HE]
    rw [hc, show (cv ⟨k, r, i, v, b⟩) = #[.int .i64 k, .int .i64 r, .int .i64 i, .int .i64 v, .int .i64 b] from rfl] at O
    obtain ⟨q1, q2⟩ : 0 ≤ r ∧ r ≤ 15 := ⟨hr.2.2.1, hr.2.2.2.1⟩
    clear HV HE hC hc hr
    by_cases hin : rtB y = true ∧ bdB z = true
    · have hd := dimC_may ⟨k, r, i, v, b⟩ y z hm ((bdB_iff z).1 hin.2)
      have D := hide (rword_any (dimC ⟨k, r, i, v, b⟩ y z))
      rw [wordV_may _ hd, wordE_may _ hd] at D
      rw [hin.1, hin.2, Bool.and_true, if_pos rfl, if_pos rfl]
      obtain ⟨y0, y1⟩ := (rtB_iff y).1 hin.1
      obtain ⟨z0, z1⟩ := (bdB_iff z).1 hin.2
      clear hd hm hin
      by_cases hb0 : b = 0
      · have e7 : cv (dimC ⟨k, r, i, v, b⟩ y z) = #[.int .i64 k, .int .i64 (bits .and .i64 r y), .int .i64 i, .int .i64 v, .int .i64 z] := by simp [dimC, cv, hb0]
        rw [e7] at D
        clear e7
        generalize wordC (dimC ⟨k, r, i, v, b⟩ y z) = R at *
        subst hb0
        go_enter Try.func15, Try.ntmps15
        go_wp2_with fail
        refine (unhide O _).mono ?_
        rintro e w1 ⟨rfl, hb⟩
        go_wp2_with fail
        refine (unhide D _).mono ?_
        rintro e w2 ⟨rfl, hb2⟩
        go_wp2_with fail
        go_ret2
        exact ⟨rfl, (hb.alloc hb.size _).trans (hb2.mono (by have := hb.size; simp; omega))⟩
      · have e7 : cv (dimC ⟨k, r, i, v, b⟩ y z) = #[.int .i64 k, .int .i64 (bits .and .i64 r y), .int .i64 i, .int .i64 v, .int .i64 b] := by simp [dimC, cv, hb0]
        rw [e7] at D
        clear e7
        generalize wordC (dimC ⟨k, r, i, v, b⟩ y z) = R at *
        have hb1 : (b == 0) = false := by simpa using hb0
        clear hb0
        go_enter Try.func15, Try.ntmps15
        go_wp2_with fail
        refine (unhide O _).mono ?_
        rintro e w1 ⟨rfl, hb⟩
        go_wp2_with fail
        refine (unhide D _).mono ?_
        rintro e w2 ⟨rfl, hb2⟩
        go_wp2_with fail
        go_ret2
        exact ⟨rfl, (hb.alloc hb.size _).trans (hb2.mono (by have := hb.size; simp; omega))⟩
    · have e2 : (rtB y && bdB z) = false := by rw [Bool.eq_false_iff]; intro hc; exact hin (by simpa using hc)
      rw [e2, if_neg (by simp), if_neg (by simp)]
      rcases dim_out hin with h2 | ⟨h2, h3⟩ | ⟨⟨h2, h3⟩, h4⟩ | ⟨⟨h2, h3⟩, h4, h5⟩
      all_goals
        clear e2 hin hm
        go_enter Try.func15, Try.ntmps15
        go_wp2_with fail
        refine (unhide O _).mono ?_
        rintro e w1 ⟨rfl, hb⟩
        go_wp2_with fail
        go_ret2
        exact ⟨rfl, hb.alloc hb.size _⟩
theorem rmay_any (x y z : Int) (h0 : 0 ≤ x) (h1 : x ≤ 18446744073709551615) (hz : -9223372036854775808 ≤ z ∧ z ≤ 9223372036854775807) (w : World) : Calls Try.prog 18 #[.int .u64 x, .int .i64 y, .int .i64 z] w fun e w' => e = .returned (.int .i64 (mayE x y z)) ∧ Below w.heap.size w w' := by
  have O := hide (rof_any x h0 h1)
  cases hC : isC x with
  | false =>
    have eE : mayE x y z = 31 := by simp [mayE, hC]
    rw [eE]
    rw [hC, ofV_not x hC] at O
    clear hC eE
    have nC := cv_new zc 23
    have zC := cv_size zc
    generalize cv zc = Z at *
    go_enter Try.func18, Try.ntmps18
    go_wp2_with fail
    refine (unhide O _).mono ?_
    rintro e w1 ⟨rfl, hb⟩
    go_wp2_with fail
    go_ret
    exact ⟨rfl, hb.alloc hb.size _⟩
  | true =>
    rw [hC, ofV_is x hC] at O
    obtain ⟨k, r, i, v, b, hc⟩ : ∃ k r i v b, ofC x = ⟨k, r, i, v, b⟩ := ⟨_, _, _, _, _, rfl⟩
    have HE : Hid (mayE x y z = if k = y then (if hasI r z then 0 else 32) else 31) := by
      show _ = _
      unfold mayE
      rw [hC, hc]
      simp
    rw [unhide HE]
    rw [hc, show (cv ⟨k, r, i, v, b⟩) = #[.int .i64 k, .int .i64 r, .int .i64 i, .int .i64 v, .int .i64 b] from rfl] at O
    clear HE hC hc
    have hs := has_and r z hz
    by_cases hk : k = y
    · rw [if_pos hk]
      subst hk
      cases hh : hasI r z with
      | false =>
        rw [hh] at hs
        clear hh
        go_enter Try.func18, Try.ntmps18
        go_wp2_with fail
        refine (unhide O _).mono ?_
        rintro e w1 ⟨rfl, hb⟩
        go_wp2_with fail
        go_ret
        exact ⟨rfl, hb.alloc hb.size _⟩
      | true =>
        rw [hh] at hs
        clear hh
        go_enter Try.func18, Try.ntmps18
        go_wp2_with fail
        refine (unhide O _).mono ?_
        rintro e w1 ⟨rfl, hb⟩
        go_wp2_with fail
        go_ret
        exact ⟨rfl, hb.alloc hb.size _⟩
    · rw [if_neg hk]
      have hk1 : (k == y) = false := by simpa using hk
      clear hk hs
      go_enter Try.func18, Try.ntmps18
      go_wp2_with fail
      refine (unhide O _).mono ?_
      rintro e w1 ⟨rfl, hb⟩
      go_wp2_with fail
      go_ret
      exact ⟨rfl, hb.alloc hb.size _⟩

theorem rin_any (a b : Int) (h0 : 0 ≤ a) (h1 : a ≤ 18446744073709551615) (g0 : 0 ≤ b) (g1 : b ≤ 18446744073709551615) (w : World) : Calls Try.prog 19 #[.int .u64 a, .int .u64 b] w fun e w' => e = .returned (.bool (inB a b)) ∧ Below w.heap.size w w' := by
  have O1 := hide (rof_any a h0 h1)
  have O2 := hide (rof_any b g0 g1)
  have nA := cv_new (ofV a) 23
  have zA := cv_size (ofV a)
  have nB := cv_new (ofV b) 23
  have zB := cv_size (ofV b)
  unfold inB
  cases hA : isC a with
  | false =>
    rw [Bool.false_and, Bool.false_and, Bool.false_and]
    rw [hA] at O1
    generalize cv (ofV a) = A at *
    generalize cv (ofV b) = B at *
    generalize isC b = T at *
    go_enter Try.func19, Try.ntmps19
    go_wp2_with fail
    refine (unhide O1 _).mono ?_
    rintro e w1 ⟨rfl, hb1⟩
    go_wp2_with fail
    refine (unhide O2 _).mono ?_
    rintro e w2 ⟨rfl, hb2⟩
    have O3 := hide (((((Own.start w).call hb1).alloc (.cells A 23)).call hb2).alloc (.cells B 23))
    clear hb1 hb2
    go_wp2_with fail
    go_ret
    exact ⟨rfl, (unhide O3).below⟩
  | true =>
    cases hB : isC b with
    | false =>
      rw [Bool.and_false, Bool.false_and, Bool.false_and]
      rw [hA] at O1
      rw [hB] at O2
      generalize cv (ofV a) = A at *
      generalize cv (ofV b) = B at *
      go_enter Try.func19, Try.ntmps19
      go_wp2_with fail
      refine (unhide O1 _).mono ?_
      rintro e w1 ⟨rfl, hb1⟩
      go_wp2_with fail
      refine (unhide O2 _).mono ?_
      rintro e w2 ⟨rfl, hb2⟩
      have O3 := hide (((((Own.start w).call hb1).alloc (.cells A 23)).call hb2).alloc (.cells B 23))
      clear hb1 hb2
      go_wp2_with fail
      go_ret
      exact ⟨rfl, (unhide O3).below⟩
    | true =>
      rw [Bool.and_true, Bool.true_and]
      have hr := ofC_bd a h0
      rw [hA] at O1
      rw [hB] at O2
      rw [ofV_is a hA] at O1 nA zA
      rw [ofV_is b hB] at O2 nB zB
      obtain ⟨k, r, i, v, z, hc⟩ : ∃ k r i v b, ofC a = ⟨k, r, i, v, b⟩ := ⟨_, _, _, _, _, rfl⟩
      obtain ⟨k', r', i', v', z', hd⟩ : ∃ k r i v z, ofC b = ⟨k, r, i, v, z⟩ := ⟨_, _, _, _, _, rfl⟩
      rw [hc] at hr
      have hs := has_and' r' r ⟨by have := hr.2.2.1; simp at this; omega, by have := hr.2.2.2.1; simp at this; omega⟩
      rw [hc] at O1 nA zA ⊢
      rw [hd] at O2 nB zB ⊢
      show Calls Try.prog 19 #[.int .u64 a, .int .u64 b] w fun e w' => e = .returned (.bool (decide (k = k' ∧ i = i' ∧ v = v') && hasI r' r)) ∧ Below w.heap.size w w'
      obtain ⟨A, hA⟩ : ∃ A, Hid (A = cv ⟨k, r, i, v, z⟩) := ⟨_, hide rfl⟩
      obtain ⟨B, hB⟩ : ∃ B, Hid (B = cv ⟨k', r', i', v', z'⟩) := ⟨_, hide rfl⟩
      rw [← unhide hA] at O1 nA zA
      rw [← unhide hB] at O2 nB zB
      clear hc hd hr
      by_cases hk : k = k'
      · have hk' : (k == k') = true := by simpa using hk
        by_cases hi : i = i'
        · have hi' : (i == i') = true := by simpa using hi
          by_cases hv : v = v'
          · have hv' : (v == v') = true := by simpa using hv
            rw [decide_eq_true ⟨hk, hi, hv⟩, Bool.true_and]
            generalize hasI r' r = H at *
            clear hk hi hv
            go_enter Try.func19, Try.ntmps19
            go_wp2_with fail
            refine (unhide O1 _).mono ?_
            rintro e w1 ⟨rfl, hb1⟩
            go_wp2_with fail
            refine (unhide O2 _).mono ?_
            rintro e w2 ⟨rfl, hb2⟩
            have O3 := hide (((((Own.start w).call hb1).alloc (.cells A 23)).call hb2).alloc (.cells B 23))
            clear hb1 hb2
            have KA := hide ((unhide O3).at w1.heap.size (.cells A 23) (by simp))
            have KB := hide ((unhide O3).at w2.heap.size (.cells B 23) (by simp))
            have a0 : (w2.alloc (.cells B 23)).cell? ⟨w1.heap.size, 0, none⟩ = some (.int .i64 k) := by rw [cell_of_block (unhide KA), unhide hA]; rfl
            have a1 : (w2.alloc (.cells B 23)).cell? ⟨w1.heap.size, 1, none⟩ = some (.int .i64 r) := by rw [cell_of_block (unhide KA), unhide hA]; rfl
            have a2 : (w2.alloc (.cells B 23)).cell? ⟨w1.heap.size, 2, none⟩ = some (.int .i64 i) := by rw [cell_of_block (unhide KA), unhide hA]; rfl
            have a3 : (w2.alloc (.cells B 23)).cell? ⟨w1.heap.size, 3, none⟩ = some (.int .i64 v) := by rw [cell_of_block (unhide KA), unhide hA]; rfl
            have b0 : (w2.alloc (.cells B 23)).cell? ⟨w2.heap.size, 0, none⟩ = some (.int .i64 k') := by rw [cell_of_block (unhide KB), unhide hB]; rfl
            have b1 : (w2.alloc (.cells B 23)).cell? ⟨w2.heap.size, 1, none⟩ = some (.int .i64 r') := by rw [cell_of_block (unhide KB), unhide hB]; rfl
            have b2 : (w2.alloc (.cells B 23)).cell? ⟨w2.heap.size, 2, none⟩ = some (.int .i64 i') := by rw [cell_of_block (unhide KB), unhide hB]; rfl
            have b3 : (w2.alloc (.cells B 23)).cell? ⟨w2.heap.size, 3, none⟩ = some (.int .i64 v') := by rw [cell_of_block (unhide KB), unhide hB]; rfl
            clear KA KB
            go_wp2_with fail
            go_ret
            exact ⟨rfl, (unhide O3).below⟩
          · rw [decide_eq_false (by simp [hv]), Bool.false_and]
            have hv' : (v == v') = false := by simpa using hv
            clear hk hi hv hs
            go_enter Try.func19, Try.ntmps19
            go_wp2_with fail
            refine (unhide O1 _).mono ?_
            rintro e w1 ⟨rfl, hb1⟩
            go_wp2_with fail
            refine (unhide O2 _).mono ?_
            rintro e w2 ⟨rfl, hb2⟩
            have O3 := hide (((((Own.start w).call hb1).alloc (.cells A 23)).call hb2).alloc (.cells B 23))
            clear hb1 hb2
            have KA := hide ((unhide O3).at w1.heap.size (.cells A 23) (by simp))
            have KB := hide ((unhide O3).at w2.heap.size (.cells B 23) (by simp))
            have a0 : (w2.alloc (.cells B 23)).cell? ⟨w1.heap.size, 0, none⟩ = some (.int .i64 k) := by rw [cell_of_block (unhide KA), unhide hA]; rfl
            have a1 : (w2.alloc (.cells B 23)).cell? ⟨w1.heap.size, 1, none⟩ = some (.int .i64 r) := by rw [cell_of_block (unhide KA), unhide hA]; rfl
            have a2 : (w2.alloc (.cells B 23)).cell? ⟨w1.heap.size, 2, none⟩ = some (.int .i64 i) := by rw [cell_of_block (unhide KA), unhide hA]; rfl
            have a3 : (w2.alloc (.cells B 23)).cell? ⟨w1.heap.size, 3, none⟩ = some (.int .i64 v) := by rw [cell_of_block (unhide KA), unhide hA]; rfl
            have b0 : (w2.alloc (.cells B 23)).cell? ⟨w2.heap.size, 0, none⟩ = some (.int .i64 k') := by rw [cell_of_block (unhide KB), unhide hB]; rfl
            have b1 : (w2.alloc (.cells B 23)).cell? ⟨w2.heap.size, 1, none⟩ = some (.int .i64 r') := by rw [cell_of_block (unhide KB), unhide hB]; rfl
            have b2 : (w2.alloc (.cells B 23)).cell? ⟨w2.heap.size, 2, none⟩ = some (.int .i64 i') := by rw [cell_of_block (unhide KB), unhide hB]; rfl
            have b3 : (w2.alloc (.cells B 23)).cell? ⟨w2.heap.size, 3, none⟩ = some (.int .i64 v') := by rw [cell_of_block (unhide KB), unhide hB]; rfl
            clear KA KB
            go_wp2_with fail
            go_ret
            exact ⟨rfl, (unhide O3).below⟩
        · rw [decide_eq_false (by simp [hi]), Bool.false_and]
          have hi' : (i == i') = false := by simpa using hi
          clear hk hi hs
          go_enter Try.func19, Try.ntmps19
          go_wp2_with fail
          refine (unhide O1 _).mono ?_
          rintro e w1 ⟨rfl, hb1⟩
          go_wp2_with fail
          refine (unhide O2 _).mono ?_
          rintro e w2 ⟨rfl, hb2⟩
          have O3 := hide (((((Own.start w).call hb1).alloc (.cells A 23)).call hb2).alloc (.cells B 23))
          clear hb1 hb2
          have KA := hide ((unhide O3).at w1.heap.size (.cells A 23) (by simp))
          have KB := hide ((unhide O3).at w2.heap.size (.cells B 23) (by simp))
          have a0 : (w2.alloc (.cells B 23)).cell? ⟨w1.heap.size, 0, none⟩ = some (.int .i64 k) := by rw [cell_of_block (unhide KA), unhide hA]; rfl
          have a1 : (w2.alloc (.cells B 23)).cell? ⟨w1.heap.size, 1, none⟩ = some (.int .i64 r) := by rw [cell_of_block (unhide KA), unhide hA]; rfl
          have a2 : (w2.alloc (.cells B 23)).cell? ⟨w1.heap.size, 2, none⟩ = some (.int .i64 i) := by rw [cell_of_block (unhide KA), unhide hA]; rfl
          have a3 : (w2.alloc (.cells B 23)).cell? ⟨w1.heap.size, 3, none⟩ = some (.int .i64 v) := by rw [cell_of_block (unhide KA), unhide hA]; rfl
          have b0 : (w2.alloc (.cells B 23)).cell? ⟨w2.heap.size, 0, none⟩ = some (.int .i64 k') := by rw [cell_of_block (unhide KB), unhide hB]; rfl
          have b1 : (w2.alloc (.cells B 23)).cell? ⟨w2.heap.size, 1, none⟩ = some (.int .i64 r') := by rw [cell_of_block (unhide KB), unhide hB]; rfl
          have b2 : (w2.alloc (.cells B 23)).cell? ⟨w2.heap.size, 2, none⟩ = some (.int .i64 i') := by rw [cell_of_block (unhide KB), unhide hB]; rfl
          have b3 : (w2.alloc (.cells B 23)).cell? ⟨w2.heap.size, 3, none⟩ = some (.int .i64 v') := by rw [cell_of_block (unhide KB), unhide hB]; rfl
          clear KA KB
          go_wp2_with fail
          go_ret
          exact ⟨rfl, (unhide O3).below⟩
      · rw [decide_eq_false (by simp [hk]), Bool.false_and]
        have hk' : (k == k') = false := by simpa using hk
        clear hk hs
        go_enter Try.func19, Try.ntmps19
        go_wp2_with fail
        refine (unhide O1 _).mono ?_
        rintro e w1 ⟨rfl, hb1⟩
        go_wp2_with fail
        refine (unhide O2 _).mono ?_
        rintro e w2 ⟨rfl, hb2⟩
        have O3 := hide (((((Own.start w).call hb1).alloc (.cells A 23)).call hb2).alloc (.cells B 23))
        clear hb1 hb2
        have KA := hide ((unhide O3).at w1.heap.size (.cells A 23) (by simp))
        have KB := hide ((unhide O3).at w2.heap.size (.cells B 23) (by simp))
        have a0 : (w2.alloc (.cells B 23)).cell? ⟨w1.heap.size, 0, none⟩ = some (.int .i64 k) := by rw [cell_of_block (unhide KA), unhide hA]; rfl
        have a1 : (w2.alloc (.cells B 23)).cell? ⟨w1.heap.size, 1, none⟩ = some (.int .i64 r) := by rw [cell_of_block (unhide KA), unhide hA]; rfl
        have a2 : (w2.alloc (.cells B 23)).cell? ⟨w1.heap.size, 2, none⟩ = some (.int .i64 i) := by rw [cell_of_block (unhide KA), unhide hA]; rfl
        have a3 : (w2.alloc (.cells B 23)).cell? ⟨w1.heap.size, 3, none⟩ = some (.int .i64 v) := by rw [cell_of_block (unhide KA), unhide hA]; rfl
        have b0 : (w2.alloc (.cells B 23)).cell? ⟨w2.heap.size, 0, none⟩ = some (.int .i64 k') := by rw [cell_of_block (unhide KB), unhide hB]; rfl
        have b1 : (w2.alloc (.cells B 23)).cell? ⟨w2.heap.size, 1, none⟩ = some (.int .i64 r') := by rw [cell_of_block (unhide KB), unhide hB]; rfl
        have b2 : (w2.alloc (.cells B 23)).cell? ⟨w2.heap.size, 2, none⟩ = some (.int .i64 i') := by rw [cell_of_block (unhide KB), unhide hB]; rfl
        have b3 : (w2.alloc (.cells B 23)).cell? ⟨w2.heap.size, 3, none⟩ = some (.int .i64 v') := by rw [cell_of_block (unhide KB), unhide hB]; rfl
        clear KA KB
        go_wp2_with fail
        go_ret
        exact ⟨rfl, (unhide O3).below⟩

end Go.Proofs.Ytbgdmapmbjhbiaa
