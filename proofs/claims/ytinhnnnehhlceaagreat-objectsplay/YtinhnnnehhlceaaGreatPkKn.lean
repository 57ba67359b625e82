import Derived.Test.YtinhnnnehhlceaaGreatKMath
import Derived.Test.YtinhnnnehhlceaaGreatEqS
import Derived.Test.YtinhnnnehhlceaaGreatWCalls
import Derived.Test.YtinhnnnehhlceaaGreatOwn
import Derived.Test.YtinhnnnehhlceaaGreatPkSto
import Derived.Test.YtinhnnnehhlceaaGreatPkEn

/-
  caps' functions: what each call returns, for whatever capability, word, rights; nothing that was there turns.
-/
namespace Go.Proofs.YtinhnnnehhlceaaGreat
open Go.ChangeShapes Go.WideShapes Go.ChangeAt Go.RowKit Go.Joins
set_option maxRecDepth 10000
set_option linter.unusedVariables false
set_option linter.unusedSimpArgs false

theorem zero5 : (#[.int .i64 0, .int .i64 0, .int .i64 0, .int .i64 0, .int .i64 0] : Array Value) = cv zc := rfl
theorem build5 : Tryz.prog.built 179 [] = some (cv zc) := by kernel_rfl
theorem size5 : (Tryz.prog.info? 179).map (·.size) = some 5 := by kernel_rfl
theorem cv_new (c : Cp) (T : TypeId) : ∀ (W : World) (C : Array Value), C.size = 5 → Sem.run Tryz.prog (storeCells ⟨W.heap.size, 0, none⟩ (cv c).toList) (W.alloc (.cells C T)) = .ok () (W.alloc (.cells (cv c) T)) :=
  fun W C hC => run_store_new _ _ rfl C _ _ (by rw [hC, cv_size]) (cv_one _)

/-! ### '==' on capabilities -/
theorem cap_guard : Tryz.prog.eqGuardType Tryz.prog.depth 179 = false := by kernel_rfl
theorem cap_fields : ((Tryz.prog.fieldsOf 179).toList.map fun f => (decide (f.name = "_"), f.type, f.offset)) = [(false, 3, 0), (false, 3, 1), (false, 3, 2), (false, 3, 3), (false, 3, 4)] := by kernel_rfl
theorem cap_eq (r t : Cp) : (r.k == t.k && (r.r == t.r && (r.i == t.i && (r.v == t.v && (r.b == t.b && true))))) = decide (r = t) := by
  by_cases h : r = t
  · subst h; simp
  · rw [decide_eq_false h]
    rw [Bool.eq_false_iff]
    intro hc
    simp only [Bool.and_eq_true, beq_iff_eq] at hc
    exact h (Cp.ext' hc.1 hc.2.1 hc.2.2.1 hc.2.2.2.1 hc.2.2.2.2.1)
theorem equal_cap (r t : Cp) (w : World) : (Op.equalIn 10000 179 (.agg (cv r)) (.agg (cv t))).run Tryz.prog w = .ok (decide (r = t)) w := by
  rw [run_equalIn_struct w 9999 179 _ _ (by kernel_rfl) (by kernel_rfl)]
  have hf := cap_fields
  generalize (Tryz.prog.fieldsOf 179).toList = fs at hf
  have hl : fs.length = 5 := by have := congrArg List.length hf; simpa using this
  match fs, hl, hf with
  | [f0, f1, f2, f3, f4], _, hf =>
    simp only [List.map_cons, List.map_nil, List.cons.injEq, Prod.mk.injEq, decide_eq_false_iff_not, and_true] at hf
    obtain ⟨⟨a0, b0, c0⟩, ⟨a1, b1, c1⟩, ⟨a2, b2, c2⟩, ⟨a3, b3, c3⟩, ⟨a4, b4, c4⟩⟩ := hf
    rw [← cap_eq]
    refine run_eqField w 9998 _ _ f0 _ .i64 r.k t.k a0 (by rw [b0]; exact Tryz.underlying3) (by rw [c0]; rfl) (by rw [c0]; rfl) _ ?_
    refine run_eqField w 9998 _ _ f1 _ .i64 r.r t.r a1 (by rw [b1]; exact Tryz.underlying3) (by rw [c1]; rfl) (by rw [c1]; rfl) _ ?_
    refine run_eqField w 9998 _ _ f2 _ .i64 r.i t.i a2 (by rw [b2]; exact Tryz.underlying3) (by rw [c2]; rfl) (by rw [c2]; rfl) _ ?_
    refine run_eqField w 9998 _ _ f3 _ .i64 r.v t.v a3 (by rw [b3]; exact Tryz.underlying3) (by rw [c3]; rfl) (by rw [c3]; rfl) _ ?_
    refine run_eqField w 9998 _ _ f4 _ .i64 r.b t.b a4 (by rw [b4]; exact Tryz.underlying3) (by rw [c4]; rfl) (by rw [c4]; rfl) _ ?_
    simp [Op.eqFields]

/-! ### the small ones -/
theorem areRights_any (x : Int) (w : World) : Calls Tryz.prog 172 #[.int .i64 x] w fun e w' => e = .returned (.bool (rtB x)) ∧ w' = w := by
  go_enter Tryz.func172, Tryz.ntmps172
  go_wp2
  all_goals go_ret
  all_goals refine ⟨ret_bool ?_, rfl⟩
  all_goals unfold rtB
  · refine decide_eq_decide.2 ?_; omega
  all_goals (symm; rw [decide_eq_false_iff_not]; omega)
theorem isBadge_any (x : Int) (w : World) : Calls Tryz.prog 173 #[.int .i64 x] w fun e w' => e = .returned (.bool (bdB x)) ∧ w' = w := by
  go_enter Tryz.func173, Tryz.ntmps173
  go_wp2
  all_goals go_ret
  all_goals refine ⟨ret_bool ?_, rfl⟩
  all_goals unfold bdB
  · refine decide_eq_decide.2 ?_; omega
  all_goals (symm; rw [decide_eq_false_iff_not]; omega)
theorem isTarget5 (k r i v b : Int) (h1 : 1 ≤ k) (h6 : k ≤ 6) (w : World) : Calls Tryz.prog 174 #[.agg #[.int .i64 k, .int .i64 r, .int .i64 i, .int .i64 v, .int .i64 b]] w fun e w' => e = .returned (.bool (tgC k i v)) ∧ Below w.heap.size w w' := by
  go_enter Tryz.func174, Tryz.ntmps174
  go_wp2
  all_goals go_ret
  all_goals refine ⟨ret_bool ?_, (Below.refl _ _).alloc (Nat.le_refl _) _⟩
  all_goals try simp only [beq_iff_eq, beq_eq_false_iff_ne, ne_eq] at *
  all_goals (rw [Bool.eq_iff_iff]; simp only [tgC_iff, beq_iff_eq, decide_eq_true_iff, Bool.false_eq_true, false_iff]; omega)

theorem mayBe5 (k r i v b : Int) (w : World) : Calls Tryz.prog 150 #[.agg #[.int .i64 k, .int .i64 r, .int .i64 i, .int .i64 v, .int .i64 b]] w fun e w' => e = .returned (.bool (mayC ⟨k, r, i, v, b⟩)) ∧ Below w.heap.size w w' := by
  rw [mayC_parts]
  by_cases h1 : 1 ≤ k
  · by_cases h6 : k ≤ 6
    · have CT := hide (isTarget5 k r i v b h1 h6)
      have e1 : decide (1 ≤ k ∧ k ≤ 6) = true := by simp [h1, h6]
      rw [e1]
      clear e1
      cases h2 : rtB r with
      | false =>
        go_enter Tryz.func150, Tryz.ntmps150
        go_wp2_with (first | (go_at_call 172; refine (areRights_any _ _).mono ?_; rintro e w' ⟨rfl, rfl⟩))
        go_ret
        exact ⟨rfl, (Below.refl _ _).alloc (Nat.le_refl _) _⟩
      | true =>
        cases h3 : bdB b with
        | false =>
          go_enter Tryz.func150, Tryz.ntmps150
          go_wp2_with (first | (go_at_call 172; refine (areRights_any _ _).mono ?_; rintro e w' ⟨rfl, rfl⟩) | (go_at_call 173; refine (isBadge_any _ _).mono ?_; rintro e w' ⟨rfl, rfl⟩))
          go_ret
          exact ⟨rfl, (Below.refl _ _).alloc (Nat.le_refl _) _⟩
        | true =>
          generalize tgC k i v = T at *
          go_enter Tryz.func150, Tryz.ntmps150
          go_wp2_with (first | (go_at_call 172; refine (areRights_any _ _).mono ?_; rintro e w' ⟨rfl, rfl⟩) | (go_at_call 173; refine (isBadge_any _ _).mono ?_; rintro e w' ⟨rfl, rfl⟩) | (go_at_call 174; refine (unhide CT _).mono ?_; rintro e w1 ⟨rfl, hb⟩))
          go_ret
          exact ⟨rfl, ((Below.refl _ _).alloc (Nat.le_refl _) _).trans (hb.mono (by simp))⟩
    · have e1 : decide (1 ≤ k ∧ k ≤ 6) = false := by simp; omega
      rw [e1]
      clear e1
      go_enter Tryz.func150, Tryz.ntmps150
      go_wp2_with fail
      go_ret
      exact ⟨rfl, (Below.refl _ _).alloc (Nat.le_refl _) _⟩
  · have e1 : decide (1 ≤ k ∧ k ≤ 6) = false := by simp; omega
    rw [e1]
    clear e1
    go_enter Tryz.func150, Tryz.ntmps150
    go_wp2_with fail
    go_ret
    exact ⟨rfl, (Below.refl _ _).alloc (Nat.le_refl _) _⟩

/-! ### Of -/
theorem isF5 : isF 0 4 = true ∧ isF 4 4 = true ∧ isF 8 16 = true ∧ isF 24 24 = true ∧ isF 48 16 = true := by decide
theorem capOf_any (x : Int) (h0 : 0 ≤ x) (h1 : x ≤ 18446744073709551615) (w : World) : Calls Tryz.prog 111 #[.int .u64 x] w fun e w' => e = .returned (.tuple #[.agg (cv (ofV x)), .bool (isC x)]) ∧ Below w.heap.size w w' := by
  have F0 := hide (field_yes x 0 4 h0 h1 (by decide) (by decide) (by decide))
  have F1 := hide (field_yes x 4 4 h0 h1 (by decide) (by decide) (by decide))
  have F2 := hide (field_yes x 8 16 h0 h1 (by decide) (by decide) (by decide))
  have F3 := hide (field_yes x 24 24 h0 h1 (by decide) (by decide) (by decide))
  have F4 := hide (field_yes x 48 16 h0 h1 (by decide) (by decide) (by decide))
  have bd := ofC_bd x h0
  have M := hide (mayBe5 (fieldI x 0 4) (fieldI x 4 4) (fieldI x 8 16) (fieldI x 24 24) (fieldI x 48 16))
  have e0 : mayC ⟨fieldI x 0 4, fieldI x 4 4, fieldI x 8 16, fieldI x 24 24, fieldI x 48 16⟩ = isC x := rfl
  rw [e0] at M
  clear e0
  obtain ⟨b0, b1, b2, b3, b4, b5, b6, b7, b8, b9⟩ : 0 ≤ fieldI x 0 4 ∧ fieldI x 0 4 ≤ 15 ∧ 0 ≤ fieldI x 4 4 ∧ fieldI x 4 4 ≤ 15 ∧ 0 ≤ fieldI x 8 16 ∧ fieldI x 8 16 ≤ 65535 ∧ 0 ≤ fieldI x 24 24 ∧ fieldI x 24 24 ≤ 16777215 ∧ 0 ≤ fieldI x 48 16 ∧ fieldI x 48 16 ≤ 65535 := bd
  have hv : ofV x = if isC x then ⟨fieldI x 0 4, fieldI x 4 4, fieldI x 8 16, fieldI x 24 24, fieldI x 48 16⟩ else zc := rfl
  rw [hv]
  clear hv
  generalize fieldI x 0 4 = k at *
  generalize fieldI x 4 4 = r at *
  generalize fieldI x 8 16 = i at *
  generalize fieldI x 24 24 = v at *
  generalize fieldI x 48 16 = b at *
  generalize isC x = T at *
  go_enter Tryz.func111, Tryz.ntmps111
  go_wp2_with fail
  refine (unhide F0 _).mono ?_
  rintro e w0 ⟨rfl, rfl⟩
  go_wp2_with fail
  refine (unhide F1 _).mono ?_
  rintro e w0 ⟨rfl, rfl⟩
  go_wp2_with fail
  refine (unhide F2 _).mono ?_
  rintro e w0 ⟨rfl, rfl⟩
  go_wp2_with fail
  refine (unhide F3 _).mono ?_
  rintro e w0 ⟨rfl, rfl⟩
  go_wp2_with fail
  refine (unhide F4 _).mono ?_
  rintro e w0 ⟨rfl, rfl⟩
  go_wp2_with fail
  refine (unhide M _).mono ?_
  rintro e w1 ⟨rfl, hb⟩
  have hsz : w.heap.size + 1 + 1 ≤ w1.heap.size := by have := hb.size; simpa using this
  have K0 := hide ((hb.block w.heap.size (by simp; omega)).trans (heap2 w _ _).1)
  have K1 := hide ((hb.block (w.heap.size + 1) (by simp)).trans (heap2 w _ _).2)
  have Hb := hide ((((Below.refl _ w).alloc (Nat.le_refl _) _).alloc (by simp) _).trans (hb.mono (by simp; omega)))
  clear hb M F0 F1 F2 F3 F4
  rw [zero5] at K0
  rw [show (#[.int .i64 k, .int .i64 r, .int .i64 i, .int .i64 v, .int .i64 b] : Array Value) = cv ⟨k, r, i, v, b⟩ from rfl] at K1
  have s5 : (Tryz.prog.info? 179).map (·.size) = some (cv ⟨k, r, i, v, b⟩).size := size5
  have s5z : (Tryz.prog.info? 179).map (·.size) = some (cv zc).size := size5
  cases T with
  | false =>
    go_wp2_with (first | (refine wpList_build0 rfl 179 rfl _ build5 ?_) | (refine wpList_store_row rfl 179 _ _ rfl w.heap.size (cv zc) rfl rfl _ _ (unhide K0) s5z rfl (cv_one _) ?_))
    refine bodyPost_ret (v := .tuple #[.agg (cv zc), .bool false]) (results_two Tryz.results111 _ _ w.heap.size 179 (cv zc) (0, 0) _ _ rfl rfl (setRow_heap _ _ _ _ _ _ (unhide K0)) Tryz.underlying179 rfl s5z) rfl ?_
    exact ⟨rfl, below_row (unhide Hb) (by omega) _⟩
  | true =>
    go_wp2_with (first | (refine wpList_load_row rfl 179 _ rfl (w.heap.size + 1) rfl _ _ _ _ (unhide K1) Tryz.underlying179 rfl s5 ?_) | (refine wpList_store_row rfl 179 _ _ rfl w.heap.size (cv ⟨k, r, i, v, b⟩) rfl rfl _ _ (unhide K0) s5 rfl (cv_one _) ?_))
    refine bodyPost_ret (v := .tuple #[.agg (cv ⟨k, r, i, v, b⟩), .bool true]) (results_two Tryz.results111 _ _ w.heap.size 179 (cv ⟨k, r, i, v, b⟩) (0, 0) _ _ rfl rfl (setRow_heap _ _ _ _ _ _ (unhide K0)) Tryz.underlying179 rfl s5) rfl ?_
    exact ⟨rfl, below_row (unhide Hb) (by omega) _⟩

/-! ### target, Diminish, May, Within -/

end Go.Proofs.YtinhnnnehhlceaaGreat


/-
  The store's Names: which object a capability's word is; nothing turns.
-/
namespace Go.Proofs.YtinhnnnehhlceaaGreat
open Go.ChangeShapes Go.WideShapes Go.ChangeAt Go.RowKit Go.Joins
set_option maxRecDepth 10000
set_option linter.unusedVariables false
set_option linter.unusedSimpArgs false

set_option maxHeartbeats 4000000 in
theorem names3 (k v l i c : Int) (h0 : 0 ≤ c) (h1 : c ≤ 18446744073709551615) (w : World) : Calls Tryz.prog 112 #[.agg #[.int .i64 k, .int .i64 v, .int .i64 l], .int .i64 i, .int .u64 c] w fun e w' => e = .returned (.int .i64 (namE ⟨k, v, l⟩ i c)) ∧ Below w.heap.size w w' := by
  have O := hide (capOf_any c h0 h1)
  cases hC : isC c with
  | false =>
    have eE : namE ⟨k, v, l⟩ i c = 31 := by simp [namE, hC]
    rw [eE]
    rw [hC, ofV_not c hC] at O
    clear hC eE
    have nC := cv_new zc 179
    have zC := cv_size zc
    generalize cv zc = Z at *
    go_enter Tryz.func112, Tryz.ntmps112
    go_wp2_with fail
    refine (unhide O _).mono ?_
    rintro e w1 ⟨rfl, hb⟩
    have Hb := hide ((((Below.refl _ w).alloc (Nat.le_refl _) (.cells #[.int .i64 k, .int .i64 v, .int .i64 l] 41)).trans (hb.mono (by simp))))
    have hs : w.heap.size < w1.heap.size := by have := hb.size; simp at this; omega
    have Kx := hide ((hb.block w.heap.size (by simp)).trans (heap_new w _))
    have x0 : w1.cell? ⟨w.heap.size, 0, none⟩ = some (.int .i64 k) := by rw [cell_of_block (unhide Kx)]; rfl
    have x1 : w1.cell? ⟨w.heap.size, 1, none⟩ = some (.int .i64 v) := by rw [cell_of_block (unhide Kx)]; rfl
    clear hb Kx
    go_wp2_with fail
    go_ret
    exact ⟨rfl, (unhide Hb).alloc (unhide Hb).size _⟩
  | true =>
    rw [hC, ofV_is c hC] at O
    obtain ⟨a, r, d, u, b, hc⟩ : ∃ a r d u b, ofC c = ⟨a, r, d, u, b⟩ := ⟨_, _, _, _, _, rfl⟩
    have HE : Hid (namE ⟨k, v, l⟩ i c = if a ≠ 5 ∧ a ≠ 6 then (if d = i then (if u = v then (if k = 0 then 30 else if a = k then 0 else 31) else 33) else 30) else 31) := by
      show _ = _
      unfold namE
      rw [hC, hc]
      simp
    rw [unhide HE]
    rw [hc, show (cv ⟨a, r, d, u, b⟩) = #[.int .i64 a, .int .i64 r, .int .i64 d, .int .i64 u, .int .i64 b] from rfl] at O
    clear HE hC hc
    by_cases h5 : a = 5
    · rw [if_neg (by simp [h5])]
      subst h5
      go_enter Tryz.func112, Tryz.ntmps112
      go_wp2_with fail
      refine (unhide O _).mono ?_
      rintro e w1 ⟨rfl, hb⟩
      have Hb := hide ((((Below.refl _ w).alloc (Nat.le_refl _) (.cells #[.int .i64 k, .int .i64 v, .int .i64 l] 41)).trans (hb.mono (by simp))))
      have hs : w.heap.size < w1.heap.size := by have := hb.size; simp at this; omega
      have Kx := hide ((hb.block w.heap.size (by simp)).trans (heap_new w _))
      have x0 : w1.cell? ⟨w.heap.size, 0, none⟩ = some (.int .i64 k) := by rw [cell_of_block (unhide Kx)]; rfl
      have x1 : w1.cell? ⟨w.heap.size, 1, none⟩ = some (.int .i64 v) := by rw [cell_of_block (unhide Kx)]; rfl
      clear hb Kx
      go_wp2_with fail
      go_ret
      exact ⟨rfl, (unhide Hb).alloc (unhide Hb).size _⟩
    by_cases h6 : a = 6
    · rw [if_neg (by simp [h6])]
      subst h6
      go_enter Tryz.func112, Tryz.ntmps112
      go_wp2_with fail
      refine (unhide O _).mono ?_
      rintro e w1 ⟨rfl, hb⟩
      have Hb := hide ((((Below.refl _ w).alloc (Nat.le_refl _) (.cells #[.int .i64 k, .int .i64 v, .int .i64 l] 41)).trans (hb.mono (by simp))))
      have hs : w.heap.size < w1.heap.size := by have := hb.size; simp at this; omega
      have Kx := hide ((hb.block w.heap.size (by simp)).trans (heap_new w _))
      have x0 : w1.cell? ⟨w.heap.size, 0, none⟩ = some (.int .i64 k) := by rw [cell_of_block (unhide Kx)]; rfl
      have x1 : w1.cell? ⟨w.heap.size, 1, none⟩ = some (.int .i64 v) := by rw [cell_of_block (unhide Kx)]; rfl
      clear hb Kx
      go_wp2_with fail
      go_ret
      exact ⟨rfl, (unhide Hb).alloc (unhide Hb).size _⟩
    rw [if_pos ⟨h5, h6⟩]
    have h5' : (a == 5) = false := by simpa using h5
    have h6' : (a == 6) = false := by simpa using h6
    clear h5 h6
    by_cases hd : d = i
    · rw [if_pos hd]
      have hd' : (d != i) = false := by simpa using hd
      clear hd
      by_cases hu : u = v
      · rw [if_pos hu]
        have hu' : (u != v) = false := by simpa using hu
        clear hu
        by_cases hk : k = 0
        · rw [if_pos hk]
          have hk' : (k == 0) = true := by simpa using hk
          clear hk
          go_enter Tryz.func112, Tryz.ntmps112
          go_wp2_with fail
          refine (unhide O _).mono ?_
          rintro e w1 ⟨rfl, hb⟩
          have Hb := hide ((((Below.refl _ w).alloc (Nat.le_refl _) (.cells #[.int .i64 k, .int .i64 v, .int .i64 l] 41)).trans (hb.mono (by simp))))
          have hs : w.heap.size < w1.heap.size := by have := hb.size; simp at this; omega
          have Kx := hide ((hb.block w.heap.size (by simp)).trans (heap_new w _))
          have x0 : w1.cell? ⟨w.heap.size, 0, none⟩ = some (.int .i64 k) := by rw [cell_of_block (unhide Kx)]; rfl
          have x1 : w1.cell? ⟨w.heap.size, 1, none⟩ = some (.int .i64 v) := by rw [cell_of_block (unhide Kx)]; rfl
          clear hb Kx
          go_wp2_with fail
          go_ret
          exact ⟨rfl, (unhide Hb).alloc (unhide Hb).size _⟩
        · rw [if_neg hk]
          have hk' : (k == 0) = false := by simpa using hk
          clear hk
          by_cases ha : a = k
          · rw [if_pos ha]
            have ha' : (a != k) = false := by simpa using ha
            clear ha
            go_enter Tryz.func112, Tryz.ntmps112
            go_wp2_with fail
            refine (unhide O _).mono ?_
            rintro e w1 ⟨rfl, hb⟩
            have Hb := hide ((((Below.refl _ w).alloc (Nat.le_refl _) (.cells #[.int .i64 k, .int .i64 v, .int .i64 l] 41)).trans (hb.mono (by simp))))
            have hs : w.heap.size < w1.heap.size := by have := hb.size; simp at this; omega
            have Kx := hide ((hb.block w.heap.size (by simp)).trans (heap_new w _))
            have x0 : w1.cell? ⟨w.heap.size, 0, none⟩ = some (.int .i64 k) := by rw [cell_of_block (unhide Kx)]; rfl
            have x1 : w1.cell? ⟨w.heap.size, 1, none⟩ = some (.int .i64 v) := by rw [cell_of_block (unhide Kx)]; rfl
            clear hb Kx
            go_wp2_with fail
            go_ret
            exact ⟨rfl, (unhide Hb).alloc (unhide Hb).size _⟩
          · rw [if_neg ha]
            have ha' : (a != k) = true := by simpa using ha
            clear ha
            go_enter Tryz.func112, Tryz.ntmps112
            go_wp2_with fail
            refine (unhide O _).mono ?_
            rintro e w1 ⟨rfl, hb⟩
            have Hb := hide ((((Below.refl _ w).alloc (Nat.le_refl _) (.cells #[.int .i64 k, .int .i64 v, .int .i64 l] 41)).trans (hb.mono (by simp))))
            have hs : w.heap.size < w1.heap.size := by have := hb.size; simp at this; omega
            have Kx := hide ((hb.block w.heap.size (by simp)).trans (heap_new w _))
            have x0 : w1.cell? ⟨w.heap.size, 0, none⟩ = some (.int .i64 k) := by rw [cell_of_block (unhide Kx)]; rfl
            have x1 : w1.cell? ⟨w.heap.size, 1, none⟩ = some (.int .i64 v) := by rw [cell_of_block (unhide Kx)]; rfl
            clear hb Kx
            go_wp2_with fail
            go_ret
            exact ⟨rfl, (unhide Hb).alloc (unhide Hb).size _⟩
      · rw [if_neg hu]
        have hu' : (u != v) = true := by simpa using hu
        clear hu
        go_enter Tryz.func112, Tryz.ntmps112
        go_wp2_with fail
        refine (unhide O _).mono ?_
        rintro e w1 ⟨rfl, hb⟩
        have Hb := hide ((((Below.refl _ w).alloc (Nat.le_refl _) (.cells #[.int .i64 k, .int .i64 v, .int .i64 l] 41)).trans (hb.mono (by simp))))
        have hs : w.heap.size < w1.heap.size := by have := hb.size; simp at this; omega
        have Kx := hide ((hb.block w.heap.size (by simp)).trans (heap_new w _))
        have x0 : w1.cell? ⟨w.heap.size, 0, none⟩ = some (.int .i64 k) := by rw [cell_of_block (unhide Kx)]; rfl
        have x1 : w1.cell? ⟨w.heap.size, 1, none⟩ = some (.int .i64 v) := by rw [cell_of_block (unhide Kx)]; rfl
        clear hb Kx
        go_wp2_with fail
        go_ret
        exact ⟨rfl, (unhide Hb).alloc (unhide Hb).size _⟩
    · rw [if_neg hd]
      have hd' : (d != i) = true := by simpa using hd
      clear hd
      go_enter Tryz.func112, Tryz.ntmps112
      go_wp2_with fail
      refine (unhide O _).mono ?_
      rintro e w1 ⟨rfl, hb⟩
      have Hb := hide ((((Below.refl _ w).alloc (Nat.le_refl _) (.cells #[.int .i64 k, .int .i64 v, .int .i64 l] 41)).trans (hb.mono (by simp))))
      have hs : w.heap.size < w1.heap.size := by have := hb.size; simp at this; omega
      have Kx := hide ((hb.block w.heap.size (by simp)).trans (heap_new w _))
      have x0 : w1.cell? ⟨w.heap.size, 0, none⟩ = some (.int .i64 k) := by rw [cell_of_block (unhide Kx)]; rfl
      have x1 : w1.cell? ⟨w.heap.size, 1, none⟩ = some (.int .i64 v) := by rw [cell_of_block (unhide Kx)]; rfl
      clear hb Kx
      go_wp2_with fail
      go_ret
      exact ⟨rfl, (unhide Hb).alloc (unhide Hb).size _⟩
theorem names_any (x : En) (i c : Int) (h0 : 0 ≤ c) (h1 : c ≤ 18446744073709551615) (w : World) : Calls Tryz.prog 112 #[.agg (ev x), .int .i64 i, .int .u64 c] w fun e w' => e = .returned (.int .i64 (namE x i c)) ∧ Below w.heap.size w w' := names3 x.k x.v x.l i c h0 h1 w

def Sto.nameE (S : Sto) (c : Int) : Int := if isC c = true then namE (S.w (ofC c).i.toNat) (ofC c).i c else 31
def Sto.nameI (S : Sto) (c : Int) : Int := if S.nameE c = 0 then (ofC c).i else 0
set_option maxHeartbeats 4000000 in
theorem onames_any {m : Nat} {S : Sto} {w : World} {b : Nat} (h : SRep m S w b) (c : Int) (h0 : 0 ≤ c) (h1 : c ≤ 18446744073709551615) :
    Calls Tryz.prog 59 #[.pointer (some ⟨b, 0, none⟩), .int .u64 c] w fun e w' => e = .returned (.tuple #[.int .i64 (S.nameI c), .int .i64 (S.nameE c)]) ∧ Below w.heap.size w w' := by
  have O := hide (capOf_any c h0 h1)
  cases hC : isC c with
  | false =>
    have eE : S.nameE c = 31 := by simp [Sto.nameE, hC]
    have eI : S.nameI c = 0 := by simp [Sto.nameI, eE]
    rw [eE, eI]
    rw [hC, ofV_not c hC] at O
    clear hC eE eI h
    have nC := cv_new zc 179
    have zC := cv_size zc
    generalize cv zc = Z at *
    go_enter Tryz.func59, Tryz.ntmps59
    go_wp2_with fail
    refine (unhide O _).mono ?_
    rintro e w1 ⟨rfl, hb⟩
    have Hb := hide (((Own.start w).call hb).alloc (.cells Z 179))
    clear hb O
    go_wp2_with fail
    go_ret2
    exact ⟨rfl, (unhide Hb).below⟩
  | true =>
    rw [hC, ofV_is c hC] at O
    have eE : S.nameE c = namE (S.w (ofC c).i.toNat) (ofC c).i c := by simp [Sto.nameE, hC]
    have eI : S.nameI c = if namE (S.w (ofC c).i.toNat) (ofC c).i c = 0 then (ofC c).i else 0 := by simp [Sto.nameI, eE]
    rw [eE, eI]
    have hm := (mayC_iff _).1 (show mayC (ofC c) = true from hC)
    clear hC eE eI
    obtain ⟨a, r, d, u, z, hc⟩ : ∃ a r d u b, ofC c = ⟨a, r, d, u, b⟩ := ⟨_, _, _, _, _, rfl⟩
    rw [hc] at O hm ⊢
    clear hc
    obtain ⟨i, rfl⟩ : ∃ i : Nat, d = (i : Int) := ⟨d.toNat, (Int.toNat_of_nonneg hm.2.2.2.2.1).symm⟩
    have hi : i < 49 := by have := hm.2.2.2.2.2.1; simp at this; omega
    simp only [Int.toNat_natCast]
    clear hm
    have CN := hide (fun W => names_any (S.w i) (i : Int) c h0 h1 W)
    have RE : Hid (∀ w', Below w.heap.size w w' → w'.rangeAt b (1027 + i * 3) (ev (S.w i)).toList) := fun w' hb => (h.below hb).en i hi
    generalize namE (S.w i) (i : Int) c = E at *
    obtain ⟨X, hX⟩ : ∃ X, X = S.w i := ⟨_, rfl⟩
    rw [← hX] at CN RE
    clear hX h h0 h1
    have s3 : (Tryz.prog.info? 41).map (·.size) = some (ev X).toList.length := size3
    have KC : Hid (∀ w' g, Own w w' [(g, .cells (cv ⟨a, r, (i : Int), u, z⟩) 179)] → w'.cell? ⟨g, 2, none⟩ = some (.int .i64 (i : Int))) := fun w' g h => by rw [cell_of_block (h.at g (.cells (cv ⟨a, r, (i : Int), u, z⟩) 179) (by simp))]; rfl
    have nC := cv_new ⟨a, r, (i : Int), u, z⟩ 179
    have zC := cv_size ⟨a, r, (i : Int), u, z⟩
    generalize cv ⟨a, r, (i : Int), u, z⟩ = Z at *
    by_cases hE : E = 0
    · rw [if_pos hE]
      subst hE
      go_enter Tryz.func59, Tryz.ntmps59
      go_wp2_with fail
      refine (unhide O _).mono ?_
      rintro e w1 ⟨rfl, hb⟩
      have O1 := hide (((Own.start w).call hb).alloc (.cells Z 179))
      clear hb O
      go_upto_region 4 with fail
      obtain ⟨g, hg⟩ : ∃ g, g = w1.heap.size := ⟨_, rfl⟩
      rw [← hg] at O1 ⊢
      clear hg
      generalize w1.alloc (.cells Z 179) = w2 at *
      have HS := (unhide O1).drew
      clear O1
      refine wp_region_noPanic ?_
      refine wp_region_held_drew (S := fun w' => Own w w' [(g, .cells Z 179)]) (by kernel_rfl) HS (fun hHeld => ?_)
      clear HS
      refine take_at 0 16 (v := ?_) rfl rfl (by kernel_rfl) (by kernel_rfl) (by kernel_rfl) (Or.inl ⟨by rfl, ?_⟩) hHeld ?_
      rotate_left
      · intro w hSw; go_simp; with_reducible rfl
      simp only [Act.put, List.setIfInBounds_toArray, List.set_cons_zero, List.set_cons_succ]
      refine take_at 1 17 (v := ?_) rfl rfl (by kernel_rfl) (by kernel_rfl) (by kernel_rfl) (Or.inl ⟨by rfl, ?_⟩) hHeld ?_
      rotate_left
      · intro w hSw; go_simp; with_reducible rfl
      simp only [Act.put, List.setIfInBounds_toArray, List.set_cons_zero, List.set_cons_succ]
      refine take_at 2 18 (v := ?_) rfl rfl (by kernel_rfl) (by kernel_rfl) (by kernel_rfl) (Or.inl ⟨by rfl, ?_⟩) hHeld ?_
      rotate_left
      · intro w hSw; have c2 := unhide KC _ _ hSw; go_simp; with_reducible rfl
      simp only [Act.put, List.setIfInBounds_toArray, List.set_cons_zero, List.set_cons_succ]
      refine take_at 3 19 (v := ?_) rfl rfl (by kernel_rfl) (by kernel_rfl) (by kernel_rfl) (Or.inl ⟨by rfl, ?_⟩) hHeld ?_
      rotate_left
      · intro w hSw; go_simp; with_reducible rfl
      simp only [Act.put, List.setIfInBounds_toArray, List.set_cons_zero, List.set_cons_succ]
      refine take_at 4 20 (v := ?_) rfl rfl (by kernel_rfl) (by kernel_rfl) (by kernel_rfl) (Or.inl ⟨by rfl, ?_⟩) hHeld ?_
      rotate_left
      · intro w hSw; go_simp; with_reducible rfl
      simp only [Act.put, List.setIfInBounds_toArray, List.set_cons_zero, List.set_cons_succ]
      refine take_at 5 21 (v := .pointer (some ⟨b, 1027 + i * 3, none⟩)) rfl rfl (by kernel_rfl) (by kernel_rfl) (by kernel_rfl) (Or.inl ⟨by rfl, ?_⟩) hHeld ?_
      · intro w hSw; have hi1 : (i : Int) < 49 := by omega
        first | (go_simp; done) | (go_simp; rfl)
      simp only [Act.put, List.setIfInBounds_toArray, List.set_cons_zero, List.set_cons_succ]
      refine take_at 6 22 rfl rfl (by kernel_rfl) (by kernel_rfl) (by kernel_rfl) (yieldsIf_load_mid (by rfl) 41 _ rfl b (1027 + i * 3) rfl (ev X).toList _ (fun w' h => unhide RE w' h.below) Tryz.underlying41 rfl s3) hHeld ?_
      simp only [Act.put, List.setIfInBounds_toArray, List.set_cons_zero, List.set_cons_succ]
      refine take_at 7 23 (v := ?_) rfl rfl (by kernel_rfl) (by kernel_rfl) (by kernel_rfl) (Or.inl ⟨by rfl, ?_⟩) hHeld ?_
      rotate_left
      · intro w hSw; go_simp; with_reducible rfl
      simp only [Act.put, List.setIfInBounds_toArray, List.set_cons_zero, List.set_cons_succ]
      refine take_at 8 24 (v := ?_) rfl rfl (by kernel_rfl) (by kernel_rfl) (by kernel_rfl) (Or.inl ⟨by rfl, ?_⟩) hHeld ?_
      rotate_left
      · intro w hSw; have c2 := unhide KC _ _ hSw; go_simp; with_reducible rfl
      simp only [Act.put, List.setIfInBounds_toArray, List.set_cons_zero, List.set_cons_succ]
      refine take_at 9 25 (v := ?_) rfl rfl (by kernel_rfl) (by kernel_rfl) (by kernel_rfl) (Or.inl ⟨by rfl, ?_⟩) hHeld ?_
      rotate_left
      · intro w hSw; go_simp; with_reducible rfl
      simp only [Act.put, List.setIfInBounds_toArray, List.set_cons_zero, List.set_cons_succ]
      refine wpAnyH_ready (rs := [10]) (by kernel_rfl) (by simp) ?_
      refine AllReadyH.cons rfl (fun K hK => ?_) AllReadyH.nil
      go_simp
      refine (unhide CN _).mono ?_
      rintro e w' ⟨rfl, hbx⟩
      go_wp2_with fail
      refine hK.out _ _ (hHeld.call hbx) (fun hNew => ?_)
      clear hK K hHeld hbx
      have hHeld := hNew
      clear hNew
      refine take_at 11 8 (v := ?_) rfl rfl (by kernel_rfl) (by kernel_rfl) (by kernel_rfl) (Or.inl ⟨by rfl, ?_⟩) hHeld ?_
      rotate_left
      · intro w hSw; go_simp; with_reducible rfl
      simp only [Act.put, List.setIfInBounds_toArray, List.set_cons_zero, List.set_cons_succ]
      refine wpAnyH_done (by kernel_rfl) ?_ _
      refine NoPanic.normal ?_
      have c2 := unhide KC _ _ hHeld
      go_wp2_with fail
      go_ret2
      exact ⟨rfl, hHeld.below⟩
    · rw [if_neg hE]
      have hE1 : (E != 0) = true := by simpa using hE
      clear hE
      go_enter Tryz.func59, Tryz.ntmps59
      go_wp2_with fail
      refine (unhide O _).mono ?_
      rintro e w1 ⟨rfl, hb⟩
      have O1 := hide (((Own.start w).call hb).alloc (.cells Z 179))
      clear hb O
      go_upto_region 4 with fail
      obtain ⟨g, hg⟩ : ∃ g, g = w1.heap.size := ⟨_, rfl⟩
      rw [← hg] at O1 ⊢
      clear hg
      generalize w1.alloc (.cells Z 179) = w2 at *
      have HS := (unhide O1).drew
      clear O1
      refine wp_region_noPanic ?_
      refine wp_region_held_drew (S := fun w' => Own w w' [(g, .cells Z 179)]) (by kernel_rfl) HS (fun hHeld => ?_)
      clear HS
      refine take_at 0 16 (v := ?_) rfl rfl (by kernel_rfl) (by kernel_rfl) (by kernel_rfl) (Or.inl ⟨by rfl, ?_⟩) hHeld ?_
      rotate_left
      · intro w hSw; go_simp; with_reducible rfl
      simp only [Act.put, List.setIfInBounds_toArray, List.set_cons_zero, List.set_cons_succ]
      refine take_at 1 17 (v := ?_) rfl rfl (by kernel_rfl) (by kernel_rfl) (by kernel_rfl) (Or.inl ⟨by rfl, ?_⟩) hHeld ?_
      rotate_left
      · intro w hSw; go_simp; with_reducible rfl
      simp only [Act.put, List.setIfInBounds_toArray, List.set_cons_zero, List.set_cons_succ]
      refine take_at 2 18 (v := ?_) rfl rfl (by kernel_rfl) (by kernel_rfl) (by kernel_rfl) (Or.inl ⟨by rfl, ?_⟩) hHeld ?_
      rotate_left
      · intro w hSw; have c2 := unhide KC _ _ hSw; go_simp; with_reducible rfl
      simp only [Act.put, List.setIfInBounds_toArray, List.set_cons_zero, List.set_cons_succ]
      refine take_at 3 19 (v := ?_) rfl rfl (by kernel_rfl) (by kernel_rfl) (by kernel_rfl) (Or.inl ⟨by rfl, ?_⟩) hHeld ?_
      rotate_left
      · intro w hSw; go_simp; with_reducible rfl
      simp only [Act.put, List.setIfInBounds_toArray, List.set_cons_zero, List.set_cons_succ]
      refine take_at 4 20 (v := ?_) rfl rfl (by kernel_rfl) (by kernel_rfl) (by kernel_rfl) (Or.inl ⟨by rfl, ?_⟩) hHeld ?_
      rotate_left
      · intro w hSw; go_simp; with_reducible rfl
      simp only [Act.put, List.setIfInBounds_toArray, List.set_cons_zero, List.set_cons_succ]
      refine take_at 5 21 (v := .pointer (some ⟨b, 1027 + i * 3, none⟩)) rfl rfl (by kernel_rfl) (by kernel_rfl) (by kernel_rfl) (Or.inl ⟨by rfl, ?_⟩) hHeld ?_
      · intro w hSw; have hi1 : (i : Int) < 49 := by omega
        first | (go_simp; done) | (go_simp; rfl)
      simp only [Act.put, List.setIfInBounds_toArray, List.set_cons_zero, List.set_cons_succ]
      refine take_at 6 22 rfl rfl (by kernel_rfl) (by kernel_rfl) (by kernel_rfl) (yieldsIf_load_mid (by rfl) 41 _ rfl b (1027 + i * 3) rfl (ev X).toList _ (fun w' h => unhide RE w' h.below) Tryz.underlying41 rfl s3) hHeld ?_
      simp only [Act.put, List.setIfInBounds_toArray, List.set_cons_zero, List.set_cons_succ]
      refine take_at 7 23 (v := ?_) rfl rfl (by kernel_rfl) (by kernel_rfl) (by kernel_rfl) (Or.inl ⟨by rfl, ?_⟩) hHeld ?_
      rotate_left
      · intro w hSw; go_simp; with_reducible rfl
      simp only [Act.put, List.setIfInBounds_toArray, List.set_cons_zero, List.set_cons_succ]
      refine take_at 8 24 (v := ?_) rfl rfl (by kernel_rfl) (by kernel_rfl) (by kernel_rfl) (Or.inl ⟨by rfl, ?_⟩) hHeld ?_
      rotate_left
      · intro w hSw; have c2 := unhide KC _ _ hSw; go_simp; with_reducible rfl
      simp only [Act.put, List.setIfInBounds_toArray, List.set_cons_zero, List.set_cons_succ]
      refine take_at 9 25 (v := ?_) rfl rfl (by kernel_rfl) (by kernel_rfl) (by kernel_rfl) (Or.inl ⟨by rfl, ?_⟩) hHeld ?_
      rotate_left
      · intro w hSw; go_simp; with_reducible rfl
      simp only [Act.put, List.setIfInBounds_toArray, List.set_cons_zero, List.set_cons_succ]
      refine wpAnyH_ready (rs := [10]) (by kernel_rfl) (by simp) ?_
      refine AllReadyH.cons rfl (fun K hK => ?_) AllReadyH.nil
      go_simp
      refine (unhide CN _).mono ?_
      rintro e w' ⟨rfl, hbx⟩
      go_wp2_with fail
      refine hK.out _ _ (hHeld.call hbx) (fun hNew => ?_)
      clear hK K hHeld hbx
      have hHeld := hNew
      clear hNew
      refine take_at 11 8 (v := ?_) rfl rfl (by kernel_rfl) (by kernel_rfl) (by kernel_rfl) (Or.inl ⟨by rfl, ?_⟩) hHeld ?_
      rotate_left
      · intro w hSw; go_simp; with_reducible rfl
      simp only [Act.put, List.setIfInBounds_toArray, List.set_cons_zero, List.set_cons_succ]
      refine wpAnyH_done (by kernel_rfl) ?_ _
      refine NoPanic.normal ?_
      go_wp2_with fail
      go_ret2
      exact ⟨rfl, hHeld.below⟩

end Go.Proofs.YtinhnnnehhlceaaGreat
