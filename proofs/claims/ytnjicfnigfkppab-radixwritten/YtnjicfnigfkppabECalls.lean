
/-
  entry's functions: what each call returns, for whatever entry, word, number; nothing that was there turns.
-/
import Derived.Test.YtnjicfnigfkppabEMath
import Derived.Test.YtnjicfnigfkppabEqS
import Derived.Test.YtnjicfnigfkppabWCalls
import Derived.Test.YtnjicfnigfkppabOwn
namespace Go.Proofs.Ytnjicfnigfkppab
open Go.ChangeShapes Go.WideShapes Go.ChangeAt Go.RowKit Go.Joins
set_option maxRecDepth 10000
set_option linter.unusedVariables false
set_option linter.unusedSimpArgs false

theorem zero3 : (#[.int .i64 0, .int .i64 0, .int .i64 0] : Array Value) = ev ze := rfl
theorem build3 : Try.prog.built 25 [] = some (ev ze) := by kernel_rfl
theorem size3 : (Try.prog.info? 25).map (·.size) = some 3 := by kernel_rfl
theorem ev_new (c : En) (T : TypeId) : ∀ (W : World) (C : Array Value), C.size = 3 → Sem.run Try.prog (storeCells ⟨W.heap.size, 0, none⟩ (ev c).toList) (W.alloc (.cells C T)) = .ok () (W.alloc (.cells (ev c) T)) :=
  fun W C hC => run_store_new _ _ rfl C _ _ (by rw [hC, ev_size]) (ev_one _)

/-! ### '==' on entries -/
theorem en_guard : Try.prog.eqGuardType Try.prog.depth 25 = false := by kernel_rfl
theorem en_fields : ((Try.prog.fieldsOf 25).toList.map fun f => (decide (f.name = "_"), f.type, f.offset)) = [(false, 3, 0), (false, 3, 1), (false, 3, 2)] := by kernel_rfl
theorem en_eq (r t : En) : (r.k == t.k && (r.v == t.v && (r.l == t.l && true))) = decide (r = t) := by
  by_cases h : r = t
  · subst h; simp
  · rw [decide_eq_false h]
    rw [Bool.eq_false_iff]
    intro hc
    simp only [Bool.and_eq_true, beq_iff_eq] at hc
    exact h (En.ext' hc.1 hc.2.1 hc.2.2.1)
theorem equal_en (r t : En) (w : World) : (Op.equalIn 10000 25 (.agg (ev r)) (.agg (ev t))).run Try.prog w = .ok (decide (r = t)) w := by
  rw [run_equalIn_struct w 9999 25 _ _ (by kernel_rfl) (by kernel_rfl)]
  have hf := en_fields
  generalize (Try.prog.fieldsOf 25).toList = fs at hf
  have hl : fs.length = 3 := by have := congrArg List.length hf; simpa using this
  match fs, hl, hf with
  | [f0, f1, f2], _, hf =>
    simp only [List.map_cons, List.map_nil, List.cons.injEq, Prod.mk.injEq, decide_eq_false_iff_not, and_true] at hf
    obtain ⟨⟨a0, b0, c0⟩, ⟨a1, b1, c1⟩, ⟨a2, b2, c2⟩⟩ := hf
    rw [← en_eq]
    refine run_eqField w 9998 _ _ f0 _ .i64 r.k t.k a0 (by rw [b0]; exact Try.underlying3) (by rw [c0]; rfl) (by rw [c0]; rfl) _ ?_
    refine run_eqField w 9998 _ _ f1 _ .i64 r.v t.v a1 (by rw [b1]; exact Try.underlying3) (by rw [c1]; rfl) (by rw [c1]; rfl) _ ?_
    refine run_eqField w 9998 _ _ f2 _ .i64 r.l t.l a2 (by rw [b2]; exact Try.underlying3) (by rw [c2]; rfl) (by rw [c2]; rfl) _ ?_
    simp [Op.eqFields]

/-! ### mayBe -/
theorem mayBe3 (k v l : Int) (w : World) : Calls Try.prog 25 #[.agg #[.int .i64 k, .int .i64 v, .int .i64 l]] w fun e w' => e = .returned (.bool (mayN ⟨k, v, l⟩)) ∧ Below w.heap.size w w' := by
  go_enter Try.func25, Try.ntmps25
  go_wp2
  all_goals go_ret
  all_goals refine ⟨ret_bool ?_, (Below.refl _ _).alloc (Nat.le_refl _) _⟩
  all_goals try simp only [beq_iff_eq, beq_eq_false_iff_ne, bne_iff_ne, bne_eq_false_iff_eq, ne_eq] at *
  all_goals (rw [Bool.eq_iff_iff]; simp only [mayN_iff, beq_iff_eq, decide_eq_true_iff, Bool.false_eq_true, false_iff]; omega)

/-! ### Word's closure: a part is laid behind what there is -/
theorem own_put {W w : World} {X A B : Nat} {bx : Obj} {T U : TypeId} {c d c' d' : Value} (hA : W.heap.size ≤ A) (hB : W.heap.size ≤ B) (hAB : A ≠ B) (hXA : X ≠ A) (hXB : X ≠ B) (h : Own W w [(X, bx), (A, .cells #[c] T (0, 0)), (B, .cells #[d] U (0, 0))]) :
    Own W ((w.setCell ⟨A, 0, none⟩ c').setCell ⟨B, 0, none⟩ d') [(X, bx), (A, .cells #[c'] T (0, 0)), (B, .cells #[d'] U (0, 0))] := by
  have eX := h.at X bx (by simp)
  have eA := h.at A (.cells #[c] T (0, 0)) (by simp)
  have eB := h.at B (.cells #[d] U (0, 0)) (by simp)
  refine ⟨(h.1.setCell (p := ⟨A, 0, none⟩) hA _).setCell (p := ⟨B, 0, none⟩) hB _, ?_⟩
  intro p hp
  simp only [List.mem_cons, List.not_mem_nil, or_false] at hp
  rcases hp with rfl | rfl | rfl
  · rw [Below.heap_setCell _ _ _ _ hXB, Below.heap_setCell _ _ _ _ hXA]; exact eX
  · rw [Below.heap_setCell _ _ _ _ hAB, block_setCell eA]; rfl
  · rw [block_setCell ((Below.heap_setCell _ _ _ _ (Ne.symm hAB)).trans eB)]; rfl
theorem put4 {W w : World} {X A B : Nat} {bx : Obj} {x p : Int} (h0 : 0 ≤ x) (h1 : x < 16) (p0 : 0 ≤ p) (p1 : p ≤ 16777215) (hA : W.heap.size ≤ A) (hB : W.heap.size ≤ B) (hAB : A ≠ B) (hXA : X ≠ A) (hXB : X ≠ B)
    (h : Own W w [(X, bx), (A, .cells #[.int .u64 x] 30 (0, 0)), (B, .cells #[.int .i64 4] 3 (0, 0))]) :
    Calls Try.prog 26 (#[.int .i64 p, .int .i64 24] ++ #[.pointer (some ⟨A, 0, none⟩), .pointer (some ⟨B, 0, none⟩)]) w fun e w' => e = .returned (.tuple #[]) ∧
      Own W w' [(X, bx), (A, .cells #[.int .u64 (x + p * 16)] 30 (0, 0)), (B, .cells #[.int .i64 28] 3 (0, 0))] := by
  have eA := h.at A (.cells #[.int .u64 x] 30 (0, 0)) (by simp)
  have eB := h.at B (.cells #[.int .i64 4] 3 (0, 0)) (by simp)
  have cA : w.cell? ⟨A, 0, none⟩ = some (.int .u64 x) := by rw [cell_of_block eA]; rfl
  have cB : w.cell? ⟨B, 0, none⟩ = some (.int .i64 4) := by rw [cell_of_block eB]; rfl
  have fA : w.frozen? ⟨A, 0, none⟩ = false := unfrozen_of_block eA _
  have fB : w.frozen? ⟨B, 0, none⟩ = false := unfrozen_of_block eB _
  have H := hide (own_put (c' := .int .u64 (x + p * 16)) (d' := .int .i64 28) hA hB hAB hXA hXB h)
  have hor := or_top x p 16 4 rfl h0 h1 p0 (by omega) (by omega)
  have R := hide hor
  clear h eA eB hor
  have hBA : B ≠ A := Ne.symm hAB
  go_enter Try.func26, Try.ntmps26
  go_wp2_with fail
  go_end0
  rw [unhide R]
  exact ⟨rfl, unhide H⟩
theorem put28 {W w : World} {X A B : Nat} {bx : Obj} {x p : Int} (h0 : 0 ≤ x) (h1 : x < 268435456) (p0 : 0 ≤ p) (p1 : p ≤ 16777215) (hA : W.heap.size ≤ A) (hB : W.heap.size ≤ B) (hAB : A ≠ B) (hXA : X ≠ A) (hXB : X ≠ B)
    (h : Own W w [(X, bx), (A, .cells #[.int .u64 x] 30 (0, 0)), (B, .cells #[.int .i64 28] 3 (0, 0))]) :
    Calls Try.prog 26 (#[.int .i64 p, .int .i64 16] ++ #[.pointer (some ⟨A, 0, none⟩), .pointer (some ⟨B, 0, none⟩)]) w fun e w' => e = .returned (.tuple #[]) ∧
      Own W w' [(X, bx), (A, .cells #[.int .u64 (x + p * 268435456)] 30 (0, 0)), (B, .cells #[.int .i64 44] 3 (0, 0))] := by
  have eA := h.at A (.cells #[.int .u64 x] 30 (0, 0)) (by simp)
  have eB := h.at B (.cells #[.int .i64 28] 3 (0, 0)) (by simp)
  have cA : w.cell? ⟨A, 0, none⟩ = some (.int .u64 x) := by rw [cell_of_block eA]; rfl
  have cB : w.cell? ⟨B, 0, none⟩ = some (.int .i64 28) := by rw [cell_of_block eB]; rfl
  have fA : w.frozen? ⟨A, 0, none⟩ = false := unfrozen_of_block eA _
  have fB : w.frozen? ⟨B, 0, none⟩ = false := unfrozen_of_block eB _
  have H := hide (own_put (c' := .int .u64 (x + p * 268435456)) (d' := .int .i64 44) hA hB hAB hXA hXB h)
  have hor := or_top x p 268435456 28 rfl h0 h1 p0 (by omega) (by omega)
  have R := hide hor
  clear h eA eB hor
  have hBA : B ≠ A := Ne.symm hAB
  go_enter Try.func26, Try.ntmps26
  go_wp2_with fail
  go_end0
  rw [unhide R]
  exact ⟨rfl, unhide H⟩
theorem put0 {W w : World} {X A B : Nat} {bx : Obj} {p : Int} (p0 : 0 ≤ p) (p1 : p ≤ 16777215) (hA : W.heap.size ≤ A) (hB : W.heap.size ≤ B) (hAB : A ≠ B) (hXA : X ≠ A) (hXB : X ≠ B)
    (h : Own W w [(X, bx), (A, .cells #[.int .u64 0] 30 (0, 0)), (B, .cells #[.int .i64 0] 3 (0, 0))]) :
    Calls Try.prog 26 (#[.int .i64 p, .int .i64 4] ++ #[.pointer (some ⟨A, 0, none⟩), .pointer (some ⟨B, 0, none⟩)]) w fun e w' => e = .returned (.tuple #[]) ∧
      Own W w' [(X, bx), (A, .cells #[.int .u64 p] 30 (0, 0)), (B, .cells #[.int .i64 4] 3 (0, 0))] := by
  have eA := h.at A (.cells #[.int .u64 0] 30 (0, 0)) (by simp)
  have eB := h.at B (.cells #[.int .i64 0] 3 (0, 0)) (by simp)
  have cA : w.cell? ⟨A, 0, none⟩ = some (.int .u64 0) := by rw [cell_of_block eA]; rfl
  have cB : w.cell? ⟨B, 0, none⟩ = some (.int .i64 0) := by rw [cell_of_block eB]; rfl
  have fA : w.frozen? ⟨A, 0, none⟩ = false := unfrozen_of_block eA _
  have fB : w.frozen? ⟨B, 0, none⟩ = false := unfrozen_of_block eB _
  have H := hide (own_put (c' := .int .u64 p) (d' := .int .i64 4) hA hB hAB hXA hXB h)
  have hor := or_top 0 p 1 0 rfl (by omega) (by omega) p0 (by omega) (by omega)
  rw [Int.mul_one, Int.zero_add] at hor
  have R := hide hor
  clear h eA eB hor
  have hBA : B ≠ A := Ne.symm hAB
  go_enter Try.func26, Try.ntmps26
  go_wp2_with fail
  go_end0
  rw [unhide R]
  exact ⟨rfl, unhide H⟩

/-! ### Word -/
theorem heap3own (W w : World) (X : Nat) (bx : Obj) (h : Own W w [(X, bx)]) (a b : Obj) : Own W ((w.alloc a).alloc b) [(X, bx), (w.heap.size, a), (w.heap.size + 1, b)] := by
  have h2 := (h.alloc a).alloc b
  refine h2.less ?_
  intro p hp
  simp only [List.mem_cons, List.not_mem_nil, or_false] at hp ⊢
  rcases hp with rfl | rfl | rfl
  · exact Or.inr (Or.inr rfl)
  · exact Or.inr (Or.inl rfl)
  · exact Or.inl (by simp)
theorem eword3 (k v l : Int) (w : World) : Calls Try.prog 19 #[.agg #[.int .i64 k, .int .i64 v, .int .i64 l]] w fun e w' => e = .returned (.tuple #[.int .u64 (wnV ⟨k, v, l⟩), .int .i64 (wnE ⟨k, v, l⟩)]) ∧ Below w.heap.size w w' := by
  have M := hide (mayBe3 k v l)
  cases hm : mayN ⟨k, v, l⟩ with
  | false =>
    rw [wnV_not _ hm, wnE_not _ hm]
    rw [hm] at M
    clear hm
    go_enter Try.func19, Try.ntmps19
    go_wp2_with fail
    refine (unhide M _).mono ?_
    rintro e w1 ⟨rfl, hb⟩
    go_wp2_with fail
    go_ret2
    exact ⟨rfl, ((Below.refl _ _).alloc (Nat.le_refl _) _).trans (hb.mono (by simp))⟩
  | true =>
    obtain ⟨h1, h2, h3, h4, h5, h6, -⟩ : 0 ≤ k ∧ k ≤ 4 ∧ 0 ≤ v ∧ v ≤ 16777215 ∧ 0 ≤ l ∧ l < 1024 ∧ (k = 0 → l = 0) := (mayN_iff ⟨k, v, l⟩).1 hm
    rw [wnV_may _ hm, wnE_may _ hm]
    rw [hm] at M
    clear hm
    have O := hide ((Own.start w).alloc (.cells #[.int .i64 k, .int .i64 v, .int .i64 l] 25))
    go_enter Try.func19, Try.ntmps19
    go_wp2_with fail
    refine (unhide M _).mono ?_
    rintro e w1 ⟨rfl, hb⟩
    have U1 := hide ((unhide O).call hb)
    have O1 := hide (heap3own _ _ _ _ (unhide U1) (.cells #[.int .u64 0] 30) (.cells #[.int .i64 0] 3))
    have hs : w.heap.size < w1.heap.size := by have := hb.size; simp at this; omega
    have c0 : w1.cell? ⟨w.heap.size, 0, none⟩ = some (.int .i64 k) := by rw [cell_of_block ((unhide U1).at w.heap.size (.cells #[.int .i64 k, .int .i64 v, .int .i64 l] 25) (by simp))]; rfl
    clear hb O M U1
    go_wp2_with fail
    refine (put0 h1 (by omega) (by omega) (by omega) (by omega) (by omega) (by omega) (unhide O1)).mono ?_
    rintro e w2 ⟨rfl, o2⟩
    have O2 := hide o2
    have c1 : w2.cell? ⟨w.heap.size, 1, none⟩ = some (.int .i64 v) := by rw [cell_of_block (o2.at w.heap.size (.cells #[.int .i64 k, .int .i64 v, .int .i64 l] 25) (by simp))]; rfl
    clear o2 O1 c0
    go_wp2_with fail
    refine (put4 h1 (by omega) h3 (by omega) (by omega) (by omega) (by omega) (by omega) (by omega) (unhide O2)).mono ?_
    rintro e w3 ⟨rfl, o3⟩
    have O3 := hide o3
    have c2 : w3.cell? ⟨w.heap.size, 2, none⟩ = some (.int .i64 l) := by rw [cell_of_block (o3.at w.heap.size (.cells #[.int .i64 k, .int .i64 v, .int .i64 l] 25) (by simp))]; rfl
    clear o3 O2 c1
    go_wp2_with fail
    refine (put28 (by omega) (by omega) h5 (by omega) (by omega) (by omega) (by omega) (by omega) (by omega) (unhide O3)).mono ?_
    rintro e w4 ⟨rfl, o4⟩
    have Hb := hide o4.below
    have c3 : w4.cell? ⟨w1.heap.size, 0, none⟩ = some (.int .u64 (wordN ⟨k, v, l⟩)) := by rw [cell_of_block (o4.at w1.heap.size (.cells #[.int .u64 (k + v * 16 + l * 268435456)] 30 (0, 0)) (by simp))]; rfl
    clear o4 O3 c2
    go_wp2_with fail
    go_ret2
    exact ⟨rfl, unhide Hb⟩
theorem eword_any (c : En) (w : World) : Calls Try.prog 19 #[.agg (ev c)] w fun e w' => e = .returned (.tuple #[.int .u64 (wnV c), .int .i64 (wnE c)]) ∧ Below w.heap.size w w' := eword3 c.k c.v c.l w

/-! ### Of: its closure hands out what a word has, part by part -/
theorem part_any {w : World} {A B : Nat} {x a n : Int} (h0 : 0 ≤ x) (h1 : x ≤ 18446744073709551615) (hF : isF a n = true) (ha : 0 ≤ a ∧ a ≤ 63) (hn : 1 ≤ n ∧ n ≤ 24) (hr : 0 ≤ fieldI x a n ∧ fieldI x a n ≤ 16777215)
    (eA : w.heap[A]? = some (.cells #[.int .u64 x] 30 (0, 0))) (eB : w.heap[B]? = some (.cells #[.int .i64 a] 3 (0, 0))) :
    Calls Try.prog 30 (#[.int .i64 n] ++ #[.pointer (some ⟨A, 0, none⟩), .pointer (some ⟨B, 0, none⟩)]) w fun e w' => e = .returned (.int .i64 (fieldI x a n)) ∧ w' = w.setCell ⟨B, 0, none⟩ (.int .i64 (a + n)) := by
  have cA : w.cell? ⟨A, 0, none⟩ = some (.int .u64 x) := by rw [cell_of_block eA]; rfl
  have cB : w.cell? ⟨B, 0, none⟩ = some (.int .i64 a) := by rw [cell_of_block eB]; rfl
  have fB : w.frozen? ⟨B, 0, none⟩ = false := unfrozen_of_block eB _
  have F0 := hide (field_yes x a n h0 h1 (wf_i64 (by omega) (by omega)) (wf_i64 (by omega) (by omega)) hF)
  clear eA eB hF
  generalize fieldI x a n = R at *
  go_enter Try.func30, Try.ntmps30
  go_wp2_with fail
  refine (unhide F0 _).mono ?_
  rintro e w1 ⟨rfl, rfl⟩
  go_wp2_with fail
  go_ret
  exact ⟨rfl, rfl⟩
theorem parts_any (x : Int) (w : World) : Calls Try.prog 24 #[.int .u64 x] w fun e w' => e = .returned (.func (.func 30) #[] #[.pointer (some ⟨w.heap.size, 0, none⟩), .pointer (some ⟨w.heap.size + 1, 0, none⟩)]) ∧ w' = (w.alloc (.cells #[.int .u64 x] 30)).alloc (.cells #[.int .i64 0] 3) := by
  go_enter Try.func24, Try.ntmps24
  go_wp2_with fail
  go_ret
  exact ⟨rfl, rfl⟩
/-- Four new blocks. -/
theorem heap4 (w : World) (A B C D : Obj) : ((((w.alloc A).alloc B).alloc C).alloc D).heap[w.heap.size]? = some A ∧ ((((w.alloc A).alloc B).alloc C).alloc D).heap[w.heap.size + 1]? = some B ∧ ((((w.alloc A).alloc B).alloc C).alloc D).heap[w.heap.size + 1 + 1]? = some C ∧ ((((w.alloc A).alloc B).alloc C).alloc D).heap[w.heap.size + 1 + 1 + 1]? = some D := by
  obtain ⟨h1, h2, h3⟩ := heap3 w A B C
  refine ⟨?_, ?_, ?_, ?_⟩
  · rw [Below.heap_alloc _ _ _ (by simp <;> omega)]; exact h1
  · rw [Below.heap_alloc _ _ _ (by simp <;> omega)]; exact h2
  · rw [Below.heap_alloc _ _ _ (by simp)]; exact h3
  · have := heap_new (((w.alloc A).alloc B).alloc C) D
    simpa using this
set_option maxHeartbeats 4000000 in
theorem eof_any (x : Int) (h0 : 0 ≤ x) (h1 : x ≤ 18446744073709551615) (w : World) : Calls Try.prog 18 #[.int .u64 x] w fun e w' => e = .returned (.tuple #[.agg (ev (onV x)), .bool (isN x)]) ∧ Below w.heap.size w w' := by
  have bd : 0 ≤ fieldI x 0 4 ∧ fieldI x 0 4 ≤ 15 ∧ 0 ≤ fieldI x 4 24 ∧ fieldI x 4 24 ≤ 16777215 ∧ 0 ≤ fieldI x 28 16 ∧ fieldI x 28 16 ≤ 65535 := ofN_bd x h0
  obtain ⟨b0, b1, b2, b3, b4, b5⟩ := bd
  have P0 := hide (parts_any x)
  have P1 := hide (fun w A B eA eB => part_any (w := w) (A := A) (B := B) h0 h1 (a := 0) (n := 4) (by decide) (by decide) (by decide) (by omega) eA eB)
  have P2 := hide (fun w A B eA eB => part_any (w := w) (A := A) (B := B) h0 h1 (a := 4) (n := 24) (by decide) (by decide) (by decide) (by omega) eA eB)
  have P3 := hide (fun w A B eA eB => part_any (w := w) (A := A) (B := B) h0 h1 (a := 28) (n := 16) (by decide) (by decide) (by decide) (by omega) eA eB)
  have M := hide (eword3 (fieldI x 0 4) (fieldI x 4 24) (fieldI x 28 16))
  have hv : onV x = if isN x then ⟨fieldI x 0 4, fieldI x 4 24, fieldI x 28 16⟩ else ze := rfl
  rw [hv]
  have hi : isN x = (mayN ⟨fieldI x 0 4, fieldI x 4 24, fieldI x 28 16⟩ && decide (wordN ⟨fieldI x 0 4, fieldI x 4 24, fieldI x 28 16⟩ = x)) := rfl
  rw [hi]
  clear hv hi
  generalize fieldI x 0 4 = k at *
  generalize fieldI x 4 24 = v at *
  generalize fieldI x 28 16 = l at *
  cases hm : mayN ⟨k, v, l⟩ with
  | false =>
    rw [wnV_not _ hm, wnE_not _ hm] at M
    rw [show (if (false && decide (wordN ⟨k, v, l⟩ = x)) = true then (⟨k, v, l⟩ : En) else ze) = ze from rfl, Bool.false_and]
    clear hm
    go_enter Try.func18, Try.ntmps18
    go_wp2_with fail
    refine (unhide P0 _).mono ?_
    rintro e w1 ⟨rfl, rfl⟩
    go_wp2_with fail
    refine (unhide P1 _ _ _ (heap4 _ _ _ _ _).2.1 (heap4 _ _ _ _ _).2.2.1).mono ?_
    rintro e w1 ⟨rfl, rfl⟩
    go_wp2_with fail
    refine (unhide P2 _ _ _ (heap4 _ _ _ _ _).2.1 (heap4 _ _ _ _ _).2.2.1).mono ?_
    rintro e w1 ⟨rfl, rfl⟩
    go_wp2_with fail
    refine (unhide P3 _ _ _ (heap4 _ _ _ _ _).2.1 (heap4 _ _ _ _ _).2.2.1).mono ?_
    rintro e w1 ⟨rfl, rfl⟩
    go_wp2_with fail
    refine (unhide M _).mono ?_
    rintro e w1 ⟨rfl, hb⟩
    have hsz : w.heap.size + 1 + 1 + 1 + 1 ≤ w1.heap.size := by have := hb.size; simpa using this
    have K0 := hide ((hb.block w.heap.size (by simp <;> omega)).trans (heap4 w _ _ _ _).1)
    have K3 := hide ((hb.block (w.heap.size + 1 + 1 + 1) (by simp <;> omega)).trans (heap4 w _ _ _ _).2.2.2)
    have Hb := hide ((((((Below.refl _ w).alloc (Nat.le_refl _) _).alloc (by simp <;> omega) _).alloc (by simp <;> omega) _).alloc (by simp <;> omega) _).trans (hb.mono (by simp <;> omega)))
    clear hb M P0 P1 P2 P3
    rw [zero3] at K0
    rw [show (#[.int .i64 k, .int .i64 v, .int .i64 l] : Array Value) = ev ⟨k, v, l⟩ from rfl] at K3
    have s3 : (Try.prog.info? 25).map (·.size) = some (ev ⟨k, v, l⟩).size := size3
    have s3z : (Try.prog.info? 25).map (·.size) = some (ev ze).size := size3
    go_wp2_with (first | (refine wpList_build0 rfl 25 rfl _ build3 ?_) | (refine wpList_store_row rfl 25 _ _ rfl w.heap.size (ev ze) rfl rfl _ _ (unhide K0) s3z rfl (ev_one _) ?_))
    refine bodyPost_ret (v := .tuple #[.agg (ev ze), .bool false]) (results_two Try.results18 _ _ w.heap.size 25 (ev ze) (0, 0) _ _ rfl rfl (setRow_heap _ _ _ _ _ _ (unhide K0)) Try.underlying25 rfl s3z) rfl ?_
    exact ⟨rfl, below_row (unhide Hb) (by omega) _⟩
  | true =>
    rw [wnV_may _ hm, wnE_may _ hm] at M
    by_cases hq : wordN ⟨k, v, l⟩ = x
    · rw [show (if (true && decide (wordN ⟨k, v, l⟩ = x)) = true then (⟨k, v, l⟩ : En) else ze) = ⟨k, v, l⟩ by simp [hq], show (true && decide (wordN ⟨k, v, l⟩ = x)) = true by simp [hq]]
      rw [hq] at M
      clear hm hq
      have hx : (x != x) = false := by simp
      go_enter Try.func18, Try.ntmps18
      go_wp2_with fail
      refine (unhide P0 _).mono ?_
      rintro e w1 ⟨rfl, rfl⟩
      go_wp2_with fail
      refine (unhide P1 _ _ _ (heap4 _ _ _ _ _).2.1 (heap4 _ _ _ _ _).2.2.1).mono ?_
      rintro e w1 ⟨rfl, rfl⟩
      go_wp2_with fail
      refine (unhide P2 _ _ _ (heap4 _ _ _ _ _).2.1 (heap4 _ _ _ _ _).2.2.1).mono ?_
      rintro e w1 ⟨rfl, rfl⟩
      go_wp2_with fail
      refine (unhide P3 _ _ _ (heap4 _ _ _ _ _).2.1 (heap4 _ _ _ _ _).2.2.1).mono ?_
      rintro e w1 ⟨rfl, rfl⟩
      go_wp2_with fail
      refine (unhide M _).mono ?_
      rintro e w1 ⟨rfl, hb⟩
      have hsz : w.heap.size + 1 + 1 + 1 + 1 ≤ w1.heap.size := by have := hb.size; simpa using this
      have K0 := hide ((hb.block w.heap.size (by simp <;> omega)).trans (heap4 w _ _ _ _).1)
      have K3 := hide ((hb.block (w.heap.size + 1 + 1 + 1) (by simp <;> omega)).trans (heap4 w _ _ _ _).2.2.2)
      have Hb := hide ((((((Below.refl _ w).alloc (Nat.le_refl _) _).alloc (by simp <;> omega) _).alloc (by simp <;> omega) _).alloc (by simp <;> omega) _).trans (hb.mono (by simp <;> omega)))
      clear hb M P0 P1 P2 P3
      rw [zero3] at K0
      rw [show (#[.int .i64 k, .int .i64 v, .int .i64 l] : Array Value) = ev ⟨k, v, l⟩ from rfl] at K3
      have s3 : (Try.prog.info? 25).map (·.size) = some (ev ⟨k, v, l⟩).size := size3
      have s3z : (Try.prog.info? 25).map (·.size) = some (ev ze).size := size3
      go_wp2_with (first | (refine wpList_load_row rfl 25 _ rfl (w.heap.size + 1 + 1 + 1) rfl _ _ _ _ (unhide K3) Try.underlying25 rfl s3 ?_) | (refine wpList_store_row rfl 25 _ _ rfl w.heap.size (ev ⟨k, v, l⟩) rfl rfl _ _ (unhide K0) s3 rfl (ev_one _) ?_))
      refine bodyPost_ret (v := .tuple #[.agg (ev ⟨k, v, l⟩), .bool true]) (results_two Try.results18 _ _ w.heap.size 25 (ev ⟨k, v, l⟩) (0, 0) _ _ rfl rfl (setRow_heap _ _ _ _ _ _ (unhide K0)) Try.underlying25 rfl s3) rfl ?_
      exact ⟨rfl, below_row (unhide Hb) (by omega) _⟩
    · rw [show (if (true && decide (wordN ⟨k, v, l⟩ = x)) = true then (⟨k, v, l⟩ : En) else ze) = ze by simp [hq], show (true && decide (wordN ⟨k, v, l⟩ = x)) = false by simp [hq]]
      have hx : (wordN ⟨k, v, l⟩ != x) = true := by simpa using hq
      generalize wordN ⟨k, v, l⟩ = R at *
      clear hm hq
      go_enter Try.func18, Try.ntmps18
      go_wp2_with fail
      refine (unhide P0 _).mono ?_
      rintro e w1 ⟨rfl, rfl⟩
      go_wp2_with fail
      refine (unhide P1 _ _ _ (heap4 _ _ _ _ _).2.1 (heap4 _ _ _ _ _).2.2.1).mono ?_
      rintro e w1 ⟨rfl, rfl⟩
      go_wp2_with fail
      refine (unhide P2 _ _ _ (heap4 _ _ _ _ _).2.1 (heap4 _ _ _ _ _).2.2.1).mono ?_
      rintro e w1 ⟨rfl, rfl⟩
      go_wp2_with fail
      refine (unhide P3 _ _ _ (heap4 _ _ _ _ _).2.1 (heap4 _ _ _ _ _).2.2.1).mono ?_
      rintro e w1 ⟨rfl, rfl⟩
      go_wp2_with fail
      refine (unhide M _).mono ?_
      rintro e w1 ⟨rfl, hb⟩
      have hsz : w.heap.size + 1 + 1 + 1 + 1 ≤ w1.heap.size := by have := hb.size; simpa using this
      have K0 := hide ((hb.block w.heap.size (by simp <;> omega)).trans (heap4 w _ _ _ _).1)
      have K3 := hide ((hb.block (w.heap.size + 1 + 1 + 1) (by simp <;> omega)).trans (heap4 w _ _ _ _).2.2.2)
      have Hb := hide ((((((Below.refl _ w).alloc (Nat.le_refl _) _).alloc (by simp <;> omega) _).alloc (by simp <;> omega) _).alloc (by simp <;> omega) _).trans (hb.mono (by simp <;> omega)))
      clear hb M P0 P1 P2 P3
      rw [zero3] at K0
      rw [show (#[.int .i64 k, .int .i64 v, .int .i64 l] : Array Value) = ev ⟨k, v, l⟩ from rfl] at K3
      have s3 : (Try.prog.info? 25).map (·.size) = some (ev ⟨k, v, l⟩).size := size3
      have s3z : (Try.prog.info? 25).map (·.size) = some (ev ze).size := size3
      go_wp2_with (first | (refine wpList_build0 rfl 25 rfl _ build3 ?_) | (refine wpList_store_row rfl 25 _ _ rfl w.heap.size (ev ze) rfl rfl _ _ (unhide K0) s3z rfl (ev_one _) ?_))
      refine bodyPost_ret (v := .tuple #[.agg (ev ze), .bool false]) (results_two Try.results18 _ _ w.heap.size 25 (ev ze) (0, 0) _ _ rfl rfl (setRow_heap _ _ _ _ _ _ (unhide K0)) Try.underlying25 rfl s3z) rfl ?_
      exact ⟨rfl, below_row (unhide Hb) (by omega) _⟩

/-! ### End and Open -/
end Go.Proofs.Ytnjicfnigfkppab
