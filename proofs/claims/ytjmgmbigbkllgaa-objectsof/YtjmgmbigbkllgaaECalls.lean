
/-
  entry's functions: what each call returns, for whatever entry, word, number; nothing that was there turns.
-/
import Derived.Test.YtjmgmbigbkllgaaEMath
import Derived.Test.YtjmgmbigbkllgaaEqS
import Derived.Test.YtjmgmbigbkllgaaWCalls
import Derived.Test.YtjmgmbigbkllgaaOwn
namespace Go.Proofs.Ytjmgmbigbkllgaa
open Go.ChangeShapes Go.WideShapes Go.ChangeAt Go.RowKit Go.Joins
set_option maxRecDepth 10000
set_option linter.unusedVariables false
set_option linter.unusedSimpArgs false

theorem zero3 : (#[.int .i64 0, .int .i64 0, .int .i64 0] : Array Value) = ev ze := rfl
theorem build3 : Try.prog.built 23 [] = some (ev ze) := by kernel_rfl
theorem size3 : (Try.prog.info? 23).map (·.size) = some 3 := by kernel_rfl
theorem ev_new (c : En) (T : TypeId) : ∀ (W : World) (C : Array Value), C.size = 3 → Sem.run Try.prog (storeCells ⟨W.heap.size, 0, none⟩ (ev c).toList) (W.alloc (.cells C T)) = .ok () (W.alloc (.cells (ev c) T)) :=
  fun W C hC => run_store_new _ _ rfl C _ _ (by rw [hC, ev_size]) (ev_one _)

/-! ### '==' on entries -/
theorem en_guard : Try.prog.eqGuardType Try.prog.depth 23 = false := by kernel_rfl
theorem en_fields : ((Try.prog.fieldsOf 23).toList.map fun f => (decide (f.name = "_"), f.type, f.offset)) = [(false, 3, 0), (false, 3, 1), (false, 3, 2)] := by kernel_rfl
theorem en_eq (r t : En) : (r.k == t.k && (r.v == t.v && (r.l == t.l && true))) = decide (r = t) := by
  by_cases h : r = t
  · subst h; simp
  · rw [decide_eq_false h]
    rw [Bool.eq_false_iff]
    intro hc
    simp only [Bool.and_eq_true, beq_iff_eq] at hc
    exact h (En.ext' hc.1 hc.2.1 hc.2.2.1)
theorem equal_en (r t : En) (w : World) : (Op.equalIn 10000 23 (.agg (ev r)) (.agg (ev t))).run Try.prog w = .ok (decide (r = t)) w := by
  rw [run_equalIn_struct w 9999 23 _ _ (by kernel_rfl) (by kernel_rfl)]
  have hf := en_fields
  generalize (Try.prog.fieldsOf 23).toList = fs at hf
  have hl : fs.length = 3 := by have := congrArg List.length hf; simpa using this
  match fs, hl, hf with
  | [f0, f1, f2], _, hf =>
    simp only [List.map_cons, List.map_nil, List.cons.injEq, Prod.mk.injEq, decide_eq_false_iff_not, and_true] at hf
    obtain ⟨⟨a0, b0, c0⟩, ⟨a1, b1, c1⟩, ⟨a2, b2, c2⟩⟩ := hf
    rw [← en_eq]
    refine run_eqField w 9998 _ _ f0 _ .i64 r.k t.k a0 (by rw [b0]; exact Try.underlying3) (by rw [c0]; rfl) (by rw [c0]; rfl) _ ?_
    refine run_eqField w 9998 _ _ f1 _ .i64 r.v t.v a1 (by rw [b1]; exact Try.underlying3) (by rw [c1]; rfl) (by rw [c1]; rfl) _ ?_
    refine run_eqField w 9998 _ _ f2 _ .i64 r.l t.l a2 (by rw [b2]; exact Try.underlying3) (by rw [c2]; rfl) (by rw [c2]; rfl) _ ?_
    simp [Op.eqFields]

/-! ### mayBe -/
/-! ### Word's closure: a part is laid behind what there is -/
theorem own_put {W w : World} {X A B : Nat} {bx : Obj} {T U : TypeId} {c d c' d' : Value} (hA : W.heap.size ≤ A) (hB : W.heap.size ≤ B) (hAB : A ≠ B) (hXA : X ≠ A) (hXB : X ≠ B) (h : Own W w [(X, bx), (A, .cells #[c] T (0, 0)), (B, .cells #[d] U (0, 0))]) :
    Own W ((w.setCell ⟨A, 0, none⟩ c').setCell ⟨B, 0, none⟩ d') [(X, bx), (A, .cells #[c'] T (0, 0)), (B, .cells #[d'] U (0, 0))] := by
  have eX := h.at X bx (by simp)
  have eA := h.at A (.cells #[c] T (0, 0)) (by simp)
  have eB := h.at B (.cells #[d] U (0, 0)) (by simp)
  refine ⟨(h.1.setCell (p := ⟨A, 0, none⟩) hA _).setCell (p := ⟨B, 0, none⟩) hB _, ?_⟩
  intro p hp
  simp only [List.mem_cons, List.not_mem_nil, or_false] at hp
  rcases hp with rfl | rfl | rfl
  · rw [Below.heap_setCell _ _ _ _ hXB, Below.heap_setCell _ _ _ _ hXA]; exact eX
  · rw [Below.heap_setCell _ _ _ _ hAB, block_setCell eA]; rfl
  · rw [block_setCell ((Below.heap_setCell _ _ _ _ (Ne.symm hAB)).trans eB)]; rfl
/-! ### Word -/
theorem heap3own (W w : World) (X : Nat) (bx : Obj) (h : Own W w [(X, bx)]) (a b : Obj) : Own W ((w.alloc a).alloc b) [(X, bx), (w.heap.size, a), (w.heap.size + 1, b)] := by
  have h2 := (h.alloc a).alloc b
  refine h2.less ?_
  intro p hp
  simp only [List.mem_cons, List.not_mem_nil, or_false] at hp ⊢
  rcases hp with rfl | rfl | rfl
  · exact Or.inr (Or.inr rfl)
  · exact Or.inr (Or.inl rfl)
  · exact Or.inl (by simp)
/-! ### Of: its closure hands out what a word has, part by part -/
/-- Four new blocks. -/
theorem heap4 (w : World) (A B C D : Obj) : ((((w.alloc A).alloc B).alloc C).alloc D).heap[w.heap.size]? = some A ∧ ((((w.alloc A).alloc B).alloc C).alloc D).heap[w.heap.size + 1]? = some B ∧ ((((w.alloc A).alloc B).alloc C).alloc D).heap[w.heap.size + 1 + 1]? = some C ∧ ((((w.alloc A).alloc B).alloc C).alloc D).heap[w.heap.size + 1 + 1 + 1]? = some D := by
  obtain ⟨h1, h2, h3⟩ := heap3 w A B C
  refine ⟨?_, ?_, ?_, ?_⟩
  · rw [Below.heap_alloc _ _ _ (by simp <;> omega)]; exact h1
  · rw [Below.heap_alloc _ _ _ (by simp <;> omega)]; exact h2
  · rw [Below.heap_alloc _ _ _ (by simp)]; exact h3
  · have := heap_new (((w.alloc A).alloc B).alloc C) D
    simpa using this
/-! ### End and Open -/
theorem open3 (k v l : Int) (w : World) : Calls Try.prog 53 #[.agg #[.int .i64 k, .int .i64 v, .int .i64 l]] w fun e w' => e = .returned (.bool (opB ⟨k, v, l⟩)) ∧ Below w.heap.size w w' := by
  have e0 : opB ⟨k, v, l⟩ = ((k == 0) && decide (v < 16777215)) := by
    unfold opB; rw [Bool.eq_iff_iff]; simp
  rw [e0]
  clear e0
  by_cases hk : k = 0
  · subst hk
    go_enter Try.func53, Try.ntmps53
    go_wp2_with fail
    go_ret
    exact ⟨rfl, (Below.refl _ _).alloc (Nat.le_refl _) _⟩
  · have hk1 : (k == 0) = false := by simpa using hk
    rw [hk1]
    clear hk
    go_enter Try.func53, Try.ntmps53
    go_wp2_with fail
    go_ret
    exact ⟨rfl, (Below.refl _ _).alloc (Nat.le_refl _) _⟩
theorem open_any (c : En) (w : World) : Calls Try.prog 53 #[.agg (ev c)] w fun e w' => e = .returned (.bool (opB c)) ∧ Below w.heap.size w w' := open3 c.k c.v c.l w
theorem end3 (k v l : Int) (hv0 : -9223372036854775808 ≤ v) (hv1 : v < 9223372036854775807) (w : World) : Calls Try.prog 47 #[.agg #[.int .i64 k, .int .i64 v, .int .i64 l]] w fun e w' => e = .returned (.tuple #[.agg (ev (endV ⟨k, v, l⟩)), .int .i64 (endE ⟨k, v, l⟩)]) ∧ Below w.heap.size w w' := by
  by_cases hk : k = 0
  · rw [show endV ⟨k, v, l⟩ = ze by simp [endV, hk], show endE ⟨k, v, l⟩ = 30 by simp [endE, hk]]
    subst hk
    go_enter Try.func47, Try.ntmps47
    go_wp2_with fail
    exact bodyPost_ret (v := .tuple #[.agg (ev ze), .int .i64 30]) (results_two Try.results47 _ _ (w.heap.size + 1) 23 (ev ze) (0, 0) _ _ rfl rfl (heap2 w _ _).2 Try.underlying23 rfl size3) rfl ⟨rfl, ((Below.refl _ w).alloc (Nat.le_refl _) _).alloc (by simp) _⟩
  · have hk1 : (k == 0) = false := by simpa using hk
    by_cases hv : v = 16777215
    · rw [show endV ⟨k, v, l⟩ = ⟨0, 16777215, 0⟩ by simp [endV, hk, nextI, hv], show endE ⟨k, v, l⟩ = 0 by simp [endE, hk]]
      subst hv
      clear hk
      go_enter Try.func47, Try.ntmps47
      go_wp2_with fail
      exact bodyPost_ret (v := .tuple #[.agg (ev ⟨0, 16777215, 0⟩), .int .i64 0]) (results_two Try.results47 _ _ (w.heap.size + 1) 23 (ev ⟨0, 16777215, 0⟩) (0, 0) _ _ rfl rfl (heap2 w _ _).2 Try.underlying23 rfl size3) rfl ⟨rfl, ((Below.refl _ w).alloc (Nat.le_refl _) _).alloc (by simp) _⟩
    · rw [show endV ⟨k, v, l⟩ = ⟨0, v + 1, 0⟩ by simp [endV, hk, nextI, hv], show endE ⟨k, v, l⟩ = 0 by simp [endE, hk]]
      have hv1 : (v == 16777215) = false := by simpa using hv
      clear hk hv
      go_enter Try.func47, Try.ntmps47
      go_wp2_with fail
      exact bodyPost_ret (v := .tuple #[.agg (ev ⟨0, v + 1, 0⟩), .int .i64 0]) (results_two Try.results47 _ _ (w.heap.size + 1) 23 (ev ⟨0, v + 1, 0⟩) (0, 0) _ _ rfl rfl (heap2 w _ _).2 Try.underlying23 rfl size3) rfl ⟨rfl, ((Below.refl _ w).alloc (Nat.le_refl _) _).alloc (by simp) _⟩
theorem end_any (c : En) (hv0 : -9223372036854775808 ≤ c.v) (hv1 : c.v < 9223372036854775807) (w : World) : Calls Try.prog 47 #[.agg (ev c)] w fun e w' => e = .returned (.tuple #[.agg (ev (endV c)), .int .i64 (endE c)]) ∧ Below w.heap.size w w' := end3 c.k c.v c.l hv0 hv1 w
end Go.Proofs.Ytjmgmbigbkllgaa
