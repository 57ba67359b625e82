
/-
  caps' functions: what each call returns, for whatever capability, word, rights; nothing that was there turns.
-/
import Derived.Test.YtjmgmbigbkllgabKMath
import Derived.Test.YtjmgmbigbkllgabEqS
import Derived.Test.YtjmgmbigbkllgabWCalls
import Derived.Test.YtjmgmbigbkllgabOwn
namespace Go.Proofs.Ytjmgmbigbkllgab
open Go.ChangeShapes Go.WideShapes Go.ChangeAt Go.RowKit Go.Joins
set_option maxRecDepth 10000
set_option linter.unusedVariables false
set_option linter.unusedSimpArgs false

theorem zero5 : (#[.int .i64 0, .int .i64 0, .int .i64 0, .int .i64 0, .int .i64 0] : Array Value) = cv zc := rfl
theorem build5 : Try.prog.built 51 [] = some (cv zc) := by kernel_rfl
theorem size5 : (Try.prog.info? 51).map (·.size) = some 5 := by kernel_rfl
theorem cv_new (c : Cp) (T : TypeId) : ∀ (W : World) (C : Array Value), C.size = 5 → Sem.run Try.prog (storeCells ⟨W.heap.size, 0, none⟩ (cv c).toList) (W.alloc (.cells C T)) = .ok () (W.alloc (.cells (cv c) T)) :=
  fun W C hC => run_store_new _ _ rfl C _ _ (by rw [hC, cv_size]) (cv_one _)

/-! ### '==' on capabilities -/
theorem cap_guard : Try.prog.eqGuardType Try.prog.depth 51 = false := by kernel_rfl
theorem cap_fields : ((Try.prog.fieldsOf 51).toList.map fun f => (decide (f.name = "_"), f.type, f.offset)) = [(false, 3, 0), (false, 3, 1), (false, 3, 2), (false, 3, 3), (false, 3, 4)] := by kernel_rfl
theorem cap_eq (r t : Cp) : (r.k == t.k && (r.r == t.r && (r.i == t.i && (r.v == t.v && (r.b == t.b && true))))) = decide (r = t) := by
  by_cases h : r = t
  · subst h; simp
  · rw [decide_eq_false h]
    rw [Bool.eq_false_iff]
    intro hc
    simp only [Bool.and_eq_true, beq_iff_eq] at hc
    exact h (Cp.ext' hc.1 hc.2.1 hc.2.2.1 hc.2.2.2.1 hc.2.2.2.2.1)
theorem equal_cap (r t : Cp) (w : World) : (Op.equalIn 10000 51 (.agg (cv r)) (.agg (cv t))).run Try.prog w = .ok (decide (r = t)) w := by
  rw [run_equalIn_struct w 9999 51 _ _ (by kernel_rfl) (by kernel_rfl)]
  have hf := cap_fields
  generalize (Try.prog.fieldsOf 51).toList = fs at hf
  have hl : fs.length = 5 := by have := congrArg List.length hf; simpa using this
  match fs, hl, hf with
  | [f0, f1, f2, f3, f4], _, hf =>
    simp only [List.map_cons, List.map_nil, List.cons.injEq, Prod.mk.injEq, decide_eq_false_iff_not, and_true] at hf
    obtain ⟨⟨a0, b0, c0⟩, ⟨a1, b1, c1⟩, ⟨a2, b2, c2⟩, ⟨a3, b3, c3⟩, ⟨a4, b4, c4⟩⟩ := hf
    rw [← cap_eq]
    refine run_eqField w 9998 _ _ f0 _ .i64 r.k t.k a0 (by rw [b0]; exact Try.underlying3) (by rw [c0]; rfl) (by rw [c0]; rfl) _ ?_
    refine run_eqField w 9998 _ _ f1 _ .i64 r.r t.r a1 (by rw [b1]; exact Try.underlying3) (by rw [c1]; rfl) (by rw [c1]; rfl) _ ?_
    refine run_eqField w 9998 _ _ f2 _ .i64 r.i t.i a2 (by rw [b2]; exact Try.underlying3) (by rw [c2]; rfl) (by rw [c2]; rfl) _ ?_
    refine run_eqField w 9998 _ _ f3 _ .i64 r.v t.v a3 (by rw [b3]; exact Try.underlying3) (by rw [c3]; rfl) (by rw [c3]; rfl) _ ?_
    refine run_eqField w 9998 _ _ f4 _ .i64 r.b t.b a4 (by rw [b4]; exact Try.underlying3) (by rw [c4]; rfl) (by rw [c4]; rfl) _ ?_
    simp [Op.eqFields]

/-! ### the small ones -/
theorem areRights_any (x : Int) (w : World) : Calls Try.prog 40 #[.int .i64 x] w fun e w' => e = .returned (.bool (rtB x)) ∧ w' = w := by
  go_enter Try.func40, Try.ntmps40
  go_wp2
  all_goals go_ret
  all_goals refine ⟨ret_bool ?_, rfl⟩
  all_goals unfold rtB
  · refine decide_eq_decide.2 ?_; omega
  all_goals (symm; rw [decide_eq_false_iff_not]; omega)
theorem isBadge_any (x : Int) (w : World) : Calls Try.prog 41 #[.int .i64 x] w fun e w' => e = .returned (.bool (bdB x)) ∧ w' = w := by
  go_enter Try.func41, Try.ntmps41
  go_wp2
  all_goals go_ret
  all_goals refine ⟨ret_bool ?_, rfl⟩
  all_goals unfold bdB
  · refine decide_eq_decide.2 ?_; omega
  all_goals (symm; rw [decide_eq_false_iff_not]; omega)
theorem isTarget5 (k r i v b : Int) (h1 : 1 ≤ k) (h6 : k ≤ 6) (w : World) : Calls Try.prog 42 #[.agg #[.int .i64 k, .int .i64 r, .int .i64 i, .int .i64 v, .int .i64 b]] w fun e w' => e = .returned (.bool (tgC k i v)) ∧ Below w.heap.size w w' := by
  go_enter Try.func42, Try.ntmps42
  go_wp2
  all_goals go_ret
  all_goals refine ⟨ret_bool ?_, (Below.refl _ _).alloc (Nat.le_refl _) _⟩
  all_goals try simp only [beq_iff_eq, beq_eq_false_iff_ne, ne_eq] at *
  all_goals (rw [Bool.eq_iff_iff]; simp only [tgC_iff, beq_iff_eq, decide_eq_true_iff, Bool.false_eq_true, false_iff]; omega)

theorem mayBe5 (k r i v b : Int) (w : World) : Calls Try.prog 28 #[.agg #[.int .i64 k, .int .i64 r, .int .i64 i, .int .i64 v, .int .i64 b]] w fun e w' => e = .returned (.bool (mayC ⟨k, r, i, v, b⟩)) ∧ Below w.heap.size w w' := by
  rw [mayC_parts]
  by_cases h1 : 1 ≤ k
  · by_cases h6 : k ≤ 6
    · have CT := hide (isTarget5 k r i v b h1 h6)
      have e1 : decide (1 ≤ k ∧ k ≤ 6) = true := by simp [h1, h6]
      rw [e1]
      clear e1
      cases h2 : rtB r with
      | false =>
        go_enter Try.func28, Try.ntmps28
        go_wp2_with (first | (go_at_call 40; refine (areRights_any _ _).mono ?_; rintro e w' ⟨rfl, rfl⟩))
        go_ret
        exact ⟨rfl, (Below.refl _ _).alloc (Nat.le_refl _) _⟩
      | true =>
        cases h3 : bdB b with
        | false =>
          go_enter Try.func28, Try.ntmps28
          go_wp2_with (first | (go_at_call 40; refine (areRights_any _ _).mono ?_; rintro e w' ⟨rfl, rfl⟩) | (go_at_call 41; refine (isBadge_any _ _).mono ?_; rintro e w' ⟨rfl, rfl⟩))
          go_ret
          exact ⟨rfl, (Below.refl _ _).alloc (Nat.le_refl _) _⟩
        | true =>
          generalize tgC k i v = T at *
          go_enter Try.func28, Try.ntmps28
          go_wp2_with (first | (go_at_call 40; refine (areRights_any _ _).mono ?_; rintro e w' ⟨rfl, rfl⟩) | (go_at_call 41; refine (isBadge_any _ _).mono ?_; rintro e w' ⟨rfl, rfl⟩) | (go_at_call 42; refine (unhide CT _).mono ?_; rintro e w1 ⟨rfl, hb⟩))
          go_ret
          exact ⟨rfl, ((Below.refl _ _).alloc (Nat.le_refl _) _).trans (hb.mono (by simp))⟩
    · have e1 : decide (1 ≤ k ∧ k ≤ 6) = false := by simp; omega
      rw [e1]
      clear e1
      go_enter Try.func28, Try.ntmps28
      go_wp2_with fail
      go_ret
      exact ⟨rfl, (Below.refl _ _).alloc (Nat.le_refl _) _⟩
  · have e1 : decide (1 ≤ k ∧ k ≤ 6) = false := by simp; omega
    rw [e1]
    clear e1
    go_enter Try.func28, Try.ntmps28
    go_wp2_with fail
    go_ret
    exact ⟨rfl, (Below.refl _ _).alloc (Nat.le_refl _) _⟩

theorem word5 (k r i v b : Int) (w : World) : Calls Try.prog 13 #[.agg #[.int .i64 k, .int .i64 r, .int .i64 i, .int .i64 v, .int .i64 b]] w fun e w' => e = .returned (.tuple #[.int .u64 (wordV ⟨k, r, i, v, b⟩), .int .i64 (wordE ⟨k, r, i, v, b⟩)]) ∧ Below w.heap.size w w' := by
  have M := hide (mayBe5 k r i v b)
  cases hm : mayC ⟨k, r, i, v, b⟩ with
  | false =>
    rw [wordV_not _ hm, wordE_not _ hm]
    rw [hm] at M
    clear hm
    go_enter Try.func13, Try.ntmps13
    go_wp2_with fail
    refine (unhide M _).mono ?_
    rintro e w1 ⟨rfl, hb⟩
    go_wp2_with fail
    go_ret2
    exact ⟨rfl, ((Below.refl _ _).alloc (Nat.le_refl _) _).trans (hb.mono (by simp))⟩
  | true =>
    have h := (mayC_iff ⟨k, r, i, v, b⟩).1 hm
    obtain ⟨h1, h2, h3, h4, h5, h6, h7, h8, h9, h10, -⟩ : 1 ≤ k ∧ k ≤ 6 ∧ 0 ≤ r ∧ r ≤ 15 ∧ 0 ≤ i ∧ i < 49 ∧ 0 ≤ v ∧ v ≤ 16777215 ∧ 0 ≤ b ∧ b ≤ 65535 ∧ True := ⟨h.1, h.2.1, h.2.2.1, h.2.2.2.1, h.2.2.2.2.1, h.2.2.2.2.2.1, h.2.2.2.2.2.2.1, h.2.2.2.2.2.2.2.1, h.2.2.2.2.2.2.2.2.1, h.2.2.2.2.2.2.2.2.2.1, trivial⟩
    rw [wordV_may _ hm, wordE_may _ hm]
    rw [hm] at M
    clear hm h
    go_enter Try.func13, Try.ntmps13
    go_wp2_with fail
    refine (unhide M _).mono ?_
    rintro e w1 ⟨rfl, hb⟩
    have K := hide ((hb.block w.heap.size (by simp)).trans (heap_new w _))
    have c0 : w1.cell? ⟨w.heap.size, 0, none⟩ = some (.int .i64 k) := by rw [cell_of_block (unhide K)]; rfl
    have c1 : w1.cell? ⟨w.heap.size, 1, none⟩ = some (.int .i64 r) := by rw [cell_of_block (unhide K)]; rfl
    have c2 : w1.cell? ⟨w.heap.size, 2, none⟩ = some (.int .i64 i) := by rw [cell_of_block (unhide K)]; rfl
    have c3 : w1.cell? ⟨w.heap.size, 3, none⟩ = some (.int .i64 v) := by rw [cell_of_block (unhide K)]; rfl
    have c4 : w1.cell? ⟨w.heap.size, 4, none⟩ = some (.int .i64 b) := by rw [cell_of_block (unhide K)]; rfl
    have Hb := hide (((Below.refl _ w).alloc (Nat.le_refl _) _).trans (hb.mono (by simp)))
    clear hb K
    go_wp2_with fail
    go_ret2
    exact ⟨ret_two (word_or k r i v b h1 h2 h3 h4 h5 h6 h7 h8 h9 h10), unhide Hb⟩
theorem word_any (c : Cp) (w : World) : Calls Try.prog 13 #[.agg (cv c)] w fun e w' => e = .returned (.tuple #[.int .u64 (wordV c), .int .i64 (wordE c)]) ∧ Below w.heap.size w w' := word5 c.k c.r c.i c.v c.b w

/-! ### Of -/
theorem isF5 : isF 0 4 = true ∧ isF 4 4 = true ∧ isF 8 16 = true ∧ isF 24 24 = true ∧ isF 48 16 = true := by decide
theorem capOf_any (x : Int) (h0 : 0 ≤ x) (h1 : x ≤ 18446744073709551615) (w : World) : Calls Try.prog 26 #[.int .u64 x] w fun e w' => e = .returned (.tuple #[.agg (cv (ofV x)), .bool (isC x)]) ∧ Below w.heap.size w w' := by
  have F0 := hide (field_yes x 0 4 h0 h1 (by decide) (by decide) (by decide))
  have F1 := hide (field_yes x 4 4 h0 h1 (by decide) (by decide) (by decide))
  have F2 := hide (field_yes x 8 16 h0 h1 (by decide) (by decide) (by decide))
  have F3 := hide (field_yes x 24 24 h0 h1 (by decide) (by decide) (by decide))
  have F4 := hide (field_yes x 48 16 h0 h1 (by decide) (by decide) (by decide))
  have bd := ofC_bd x h0
  have M := hide (mayBe5 (fieldI x 0 4) (fieldI x 4 4) (fieldI x 8 16) (fieldI x 24 24) (fieldI x 48 16))
  have e0 : mayC ⟨fieldI x 0 4, fieldI x 4 4, fieldI x 8 16, fieldI x 24 24, fieldI x 48 16⟩ = isC x := rfl
  rw [e0] at M
  clear e0
  obtain ⟨b0, b1, b2, b3, b4, b5, b6, b7, b8, b9⟩ : 0 ≤ fieldI x 0 4 ∧ fieldI x 0 4 ≤ 15 ∧ 0 ≤ fieldI x 4 4 ∧ fieldI x 4 4 ≤ 15 ∧ 0 ≤ fieldI x 8 16 ∧ fieldI x 8 16 ≤ 65535 ∧ 0 ≤ fieldI x 24 24 ∧ fieldI x 24 24 ≤ 16777215 ∧ 0 ≤ fieldI x 48 16 ∧ fieldI x 48 16 ≤ 65535 := bd
  have hv : ofV x = if isC x then ⟨fieldI x 0 4, fieldI x 4 4, fieldI x 8 16, fieldI x 24 24, fieldI x 48 16⟩ else zc := rfl
  rw [hv]
  clear hv
  generalize fieldI x 0 4 = k at *
  generalize fieldI x 4 4 = r at *
  generalize fieldI x 8 16 = i at *
  generalize fieldI x 24 24 = v at *
  generalize fieldI x 48 16 = b at *
  generalize isC x = T at *
  go_enter Try.func26, Try.ntmps26
  go_wp2_with fail
  refine (unhide F0 _).mono ?_
  rintro e w0 ⟨rfl, rfl⟩
  go_wp2_with fail
  refine (unhide F1 _).mono ?_
  rintro e w0 ⟨rfl, rfl⟩
  go_wp2_with fail
  refine (unhide F2 _).mono ?_
  rintro e w0 ⟨rfl, rfl⟩
  go_wp2_with fail
  refine (unhide F3 _).mono ?_
  rintro e w0 ⟨rfl, rfl⟩
  go_wp2_with fail
  refine (unhide F4 _).mono ?_
  rintro e w0 ⟨rfl, rfl⟩
  go_wp2_with fail
  refine (unhide M _).mono ?_
  rintro e w1 ⟨rfl, hb⟩
  have hsz : w.heap.size + 1 + 1 ≤ w1.heap.size := by have := hb.size; simpa using this
  have K0 := hide ((hb.block w.heap.size (by simp; omega)).trans (heap2 w _ _).1)
  have K1 := hide ((hb.block (w.heap.size + 1) (by simp)).trans (heap2 w _ _).2)
  have Hb := hide ((((Below.refl _ w).alloc (Nat.le_refl _) _).alloc (by simp) _).trans (hb.mono (by simp; omega)))
  clear hb M F0 F1 F2 F3 F4
  rw [zero5] at K0
  rw [show (#[.int .i64 k, .int .i64 r, .int .i64 i, .int .i64 v, .int .i64 b] : Array Value) = cv ⟨k, r, i, v, b⟩ from rfl] at K1
  have s5 : (Try.prog.info? 51).map (·.size) = some (cv ⟨k, r, i, v, b⟩).size := size5
  have s5z : (Try.prog.info? 51).map (·.size) = some (cv zc).size := size5
  cases T with
  | false =>
    go_wp2_with (first | (refine wpList_build0 rfl 51 rfl _ build5 ?_) | (refine wpList_store_row rfl 51 _ _ rfl w.heap.size (cv zc) rfl rfl _ _ (unhide K0) s5z rfl (cv_one _) ?_))
    refine bodyPost_ret (v := .tuple #[.agg (cv zc), .bool false]) (results_two Try.results26 _ _ w.heap.size 51 (cv zc) (0, 0) _ _ rfl rfl (setRow_heap _ _ _ _ _ _ (unhide K0)) Try.underlying51 rfl s5z) rfl ?_
    exact ⟨rfl, below_row (unhide Hb) (by omega) _⟩
  | true =>
    go_wp2_with (first | (refine wpList_load_row rfl 51 _ rfl (w.heap.size + 1) rfl _ _ _ _ (unhide K1) Try.underlying51 rfl s5 ?_) | (refine wpList_store_row rfl 51 _ _ rfl w.heap.size (cv ⟨k, r, i, v, b⟩) rfl rfl _ _ (unhide K0) s5 rfl (cv_one _) ?_))
    refine bodyPost_ret (v := .tuple #[.agg (cv ⟨k, r, i, v, b⟩), .bool true]) (results_two Try.results26 _ _ w.heap.size 51 (cv ⟨k, r, i, v, b⟩) (0, 0) _ _ rfl rfl (setRow_heap _ _ _ _ _ _ (unhide K0)) Try.underlying51 rfl s5) rfl ?_
    exact ⟨rfl, below_row (unhide Hb) (by omega) _⟩

/-! ### target, Diminish, May, Within -/

end Go.Proofs.Ytjmgmbigbkllgab
