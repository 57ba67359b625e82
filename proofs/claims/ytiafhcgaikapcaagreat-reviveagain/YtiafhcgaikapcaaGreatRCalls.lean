
/-
  rlog's Line, Read and Place, and the document's: what each call returns for whatever record, whatever line; nothing that was there turns.
-/
import Derived.Test.YtiafhcgaikapcaaGreatPkSu
import Derived.Test.YtiafhcgaikapcaaGreatRMath
namespace Go.Proofs.YtiafhcgaikapcaaGreat
open Go.ChangeShapes Go.WideShapes Go.ChangeAt Go.RowKit Go.Joins
set_option maxRecDepth 10000
set_option linter.unusedVariables false
set_option linter.unusedSimpArgs false

theorem six (g r q : Int) : ((1 ≤ g ∧ g ≤ 1099511627776) ∧ (0 ≤ r ∧ r < 49) ∧ 0 ≤ q ∧ q < 8) ∨ (¬ 1 ≤ g) ∨ (1 ≤ g ∧ ¬ g ≤ 1099511627776) ∨ ((1 ≤ g ∧ g ≤ 1099511627776) ∧ ¬ 0 ≤ r) ∨ ((1 ≤ g ∧ g ≤ 1099511627776) ∧ 0 ≤ r ∧ ¬ r < 49) ∨
    ((1 ≤ g ∧ g ≤ 1099511627776) ∧ (0 ≤ r ∧ r < 49) ∧ ¬ 0 ≤ q) ∨ ((1 ≤ g ∧ g ≤ 1099511627776) ∧ (0 ≤ r ∧ r < 49) ∧ 0 ≤ q ∧ ¬ q < 8) := by omega

theorem may4R (g r q c : Int) (w : World) : Calls Tryz.prog 175 #[.agg #[.int .i64 g, .int .i64 r, .int .i64 q, .int .u64 c]] w fun e w' => e = .returned (.bool (mayR ⟨g, r, q, c⟩)) ∧ Below w.heap.size w w' := by
  go_enter Tryz.func175, Tryz.ntmps175
  rcases six g r q with ⟨⟨h0, h1⟩, ⟨h2, h3⟩, h4, h5⟩ | h0 | ⟨h0, h1⟩ | ⟨⟨h0, h1⟩, h2⟩ | ⟨⟨h0, h1⟩, h2, h3⟩ | ⟨⟨h0, h1⟩, ⟨h2, h3⟩, h4⟩ | ⟨⟨h0, h1⟩, ⟨h2, h3⟩, h4, h5⟩
  all_goals
    go_wp2_with fail
    go_ret
    first
    | have e : mayR ⟨g, r, q, c⟩ = true := by simp [mayR]; omega
      rw [e]
      exact ⟨rfl, (Below.refl _ _).alloc (Nat.le_refl _) _⟩
    | have e : mayR ⟨g, r, q, c⟩ = false := by simp [mayR]; omega
      rw [e]
      exact ⟨rfl, (Below.refl _ _).alloc (Nat.le_refl _) _⟩

theorem seal_rawR (s : Rc) (hv : s.ok) (hm : mayR s = true) (cs : Array Value) (hcs : cs = iv .u64 (rawR s)) (W : World) : Calls Tryz.prog 176 #[.agg cs] W fun e w' => e = .returned (.agg (iv .u64 (lineR s))) ∧ Below W.heap.size W w' := by
  subst hcs; exact seal_any (rawR s) rfl (rawR_wf s hv hm) W
theorem zero4R : (#[.int .i64 0, .int .i64 0, .int .i64 0, .int .u64 0] : Array Value) = rv zr := rfl
theorem build4R : Tryz.prog.built 126 [] = some (rv zr) := by kernel_rfl
theorem rv_new (r : Rc) (T : TypeId) : ∀ (W : World) (C : Array Value), C.size = 4 → Sem.run Tryz.prog (storeCells ⟨W.heap.size, 0, none⟩ (rv r).toList) (W.alloc (.cells C T)) = .ok () (W.alloc (.cells (rv r) T)) :=
  fun W C hC => run_store_new _ _ rfl C _ _ (by rw [hC, rv_size]) (rv_one _)

theorem line4R (g r q c : Int) (hv : 0 ≤ c ∧ c ≤ 18446744073709551615) (w : World) : Calls Tryz.prog 123 #[.agg #[.int .i64 g, .int .i64 r, .int .i64 q, .int .u64 c]] w fun e w' => e = .returned (.tuple #[.agg (iv .u64 (lineRV ⟨g, r, q, c⟩)), .int .i64 (lineRE ⟨g, r, q, c⟩)]) ∧ Below w.heap.size w w' := by
  have M := hide (may4R g r q c)
  have G0 := hide (fun B : Obj => heap2 w (.cells #[.int .i64 g, .int .i64 r, .int .i64 q, .int .u64 c] 126) B)
  have s8 : (Tryz.prog.info? 83).map (·.size) = some (iv .u64 (lineRV ⟨g, r, q, c⟩)).size := by rw [iv_size, lineRV_len]; exact size8
  cases hm : mayR ⟨g, r, q, c⟩ with
  | false =>
    have eL : lineRV ⟨g, r, q, c⟩ = zs8 := by simp [lineRV, hm]
    have eE : lineRE ⟨g, r, q, c⟩ = 1 := by simp [lineRE, hm]
    rw [eL] at s8
    rw [eL, eE]
    rw [hm] at M
    clear hm eL eE
    go_enter Tryz.func123, Tryz.ntmps123
    go_wp2_with fail
    refine (unhide M _).mono ?_
    rintro e w1 ⟨rfl, hb1⟩
    have hsz : w.heap.size + 1 + 1 ≤ w1.heap.size := by have := hb1.size; simpa using this
    have K0 := hide ((hb1.block w.heap.size (by simp; omega)).trans (unhide G0 _).1)
    have K1 := hide ((hb1.block (w.heap.size + 1) (by simp)).trans (unhide G0 _).2)
    have Hb := hide ((below_alloc2 w _ _).trans (hb1.mono (by simp; omega)))
    clear hb1 G0
    rw [zero8] at K1
    go_wp2_with (first | (refine wpList_build0 rfl 83 rfl _ build8 ?_) | (refine wpList_store_row rfl 83 _ _ rfl (w.heap.size + 1) (iv .u64 zs8) rfl rfl _ _ (unhide K1) s8 rfl (iv_one _ _) ?_))
    refine bodyPost_ret (v := .tuple #[.agg (iv .u64 zs8), .int .i64 1]) (results_two Tryz.results123 _ _ (w.heap.size + 1) 83 (iv .u64 zs8) (0, 0) _ _ rfl rfl (setRow_heap _ _ _ _ _ _ (unhide K1)) Tryz.underlying83 rfl s8) rfl ?_
    exact ⟨rfl, below_row (unhide Hb) (by omega) _⟩
  | true =>
    have eL : lineRV ⟨g, r, q, c⟩ = lineR ⟨g, r, q, c⟩ := by simp [lineRV, hm]
    have eE : lineRE ⟨g, r, q, c⟩ = 0 := by simp [lineRE, hm]
    rw [eL] at s8
    rw [eL, eE]
    rw [hm] at M
    have S := hide (seal_rawR ⟨g, r, q, c⟩ hv hm)
    have hq := (mayR_iff ⟨g, r, q, c⟩).1 hm
    obtain ⟨h0, h1, h2, h3, h4, h5⟩ : 1 ≤ g ∧ g ≤ 1099511627776 ∧ 0 ≤ r ∧ r < 49 ∧ 0 ≤ q ∧ q < 8 := by simpa using hq
    obtain ⟨h6, h7⟩ := hv
    clear eL eE hq hm
    go_enter Tryz.func123, Tryz.ntmps123
    go_wp2_with fail
    refine (unhide M _).mono ?_
    rintro e w1 ⟨rfl, hb1⟩
    have hsz : w.heap.size + 1 + 1 ≤ w1.heap.size := by have := hb1.size; simpa using this
    have K0 := hide ((hb1.block w.heap.size (by simp; omega)).trans (unhide G0 _).1)
    have K1 := hide ((hb1.block (w.heap.size + 1) (by simp)).trans (unhide G0 _).2)
    have Hb := hide ((below_alloc2 w _ _).trans (hb1.mono (by simp; omega)))
    clear hb1 G0
    rw [zero8] at K1
    have c0 : w1.cell? ⟨w.heap.size, 0, none⟩ = some (.int .i64 g) := by rw [cell_of_block (unhide K0)]; rfl
    have c1 : w1.cell? ⟨w.heap.size, 1, none⟩ = some (.int .i64 r) := by rw [cell_of_block (unhide K0)]; rfl
    have c2 : w1.cell? ⟨w.heap.size, 2, none⟩ = some (.int .i64 q) := by rw [cell_of_block (unhide K0)]; rfl
    have c3 : w1.cell? ⟨w.heap.size, 3, none⟩ = some (.int .u64 c) := by rw [cell_of_block (unhide K0)]; rfl
    go_wp2_with fail
    refine (unhide S _ (by first | rfl | (show _ = _; simp [iv, rawR])) _).mono ?_
    rintro e w2 ⟨rfl, hb2⟩
    have K2 := hide ((hb2.block (w.heap.size + 1) (by omega)).trans (unhide K1))
    have Hb2 := hide ((unhide Hb).trans (hb2.mono (by omega)))
    clear hb2 c0 c1 c2 c3 K0 K1 Hb
    go_wp2_with (refine wpList_store_row rfl 83 _ _ rfl (w.heap.size + 1) (iv .u64 (lineR ⟨g, r, q, c⟩)) rfl rfl _ _ (unhide K2) s8 (by rw [iv_size, iv_size, lineR_len]; rfl) (iv_one _ _) ?_)
    refine bodyPost_ret (v := .tuple #[.agg (iv .u64 (lineR ⟨g, r, q, c⟩)), .int .i64 0]) (results_two Tryz.results123 _ _ (w.heap.size + 1) 83 (iv .u64 (lineR ⟨g, r, q, c⟩)) (0, 0) _ _ rfl rfl (setRow_heap _ _ _ _ _ _ (unhide K2)) Tryz.underlying83 rfl s8) rfl ?_
    exact ⟨rfl, below_row (unhide Hb2) (by omega) _⟩

theorem rseal_rawR (s : Rc) (hv : s.ok) (hm : mayR s = true) (cs : Array Value) (hcs : cs = iv .u64 (rawR s)) (W : World) : Calls Tryz.prog 130 #[.agg cs] W fun e w' => e = .returned (.agg (iv .u64 (lineR s))) ∧ Below W.heap.size W w' := by
  subst hcs; exact rseal_any (rawR s) rfl (rawR_wf s hv hm) W
set_option maxHeartbeats 4000000 in
theorem rline4R (g r q c : Int) (hv : 0 ≤ c ∧ c ≤ 18446744073709551615) (w : World) : Calls Tryz.prog 201 #[.agg #[.int .i64 g, .int .i64 r, .int .i64 q, .int .u64 c]] w fun e w' => e = .returned (.tuple #[.agg (iv .u64 (lineRV ⟨g, r, q, c⟩)), .int .i64 (lineRE ⟨g, r, q, c⟩)]) ∧ Below w.heap.size w w' := by
  have G0 := hide (fun B : Obj => heap2 w (.cells #[.int .i64 g, .int .i64 r, .int .i64 q, .int .u64 c] 126) B)
  have s8 : (Tryz.prog.info? 83).map (·.size) = some (iv .u64 (lineRV ⟨g, r, q, c⟩)).size := by rw [iv_size, lineRV_len]; exact size8
  have Hb := hide (fun A B : Obj => below_alloc2 w A B)
  rcases six g r q with ⟨⟨h0, h1⟩, ⟨h2, h3⟩, h4, h5⟩ | h0 | ⟨h0, h1⟩ | ⟨⟨h0, h1⟩, h2⟩ | ⟨⟨h0, h1⟩, h2, h3⟩ | ⟨⟨h0, h1⟩, ⟨h2, h3⟩, h4⟩ | ⟨⟨h0, h1⟩, ⟨h2, h3⟩, h4, h5⟩
  · have hm : mayR ⟨g, r, q, c⟩ = true := by simp [mayR]; omega
    have eL : lineRV ⟨g, r, q, c⟩ = lineR ⟨g, r, q, c⟩ := by simp [lineRV, hm]
    have eE : lineRE ⟨g, r, q, c⟩ = 0 := by simp [lineRE, hm]
    rw [eL] at s8
    rw [eL, eE]
    have S := hide (rseal_rawR ⟨g, r, q, c⟩ hv hm)
    obtain ⟨h6, h7⟩ := hv
    clear eL eE hm
    go_enter Tryz.func201, Tryz.ntmps201
    go_wp2_with fail
    refine (unhide S _ (by first | rfl | (show _ = _; simp [iv, rawR])) _).mono ?_
    rintro e w2 ⟨rfl, hb2⟩
    have K2 := hide ((hb2.block (w.heap.size + 1) (by simp)).trans (unhide G0 _).2)
    have Hb2 := hide ((unhide Hb _ _).trans (hb2.mono (by simp; omega)))
    clear hb2 G0 Hb
    rw [zero8] at K2
    go_wp2_with (refine wpList_store_row rfl 83 _ _ rfl (w.heap.size + 1) (iv .u64 (lineR ⟨g, r, q, c⟩)) rfl rfl _ _ (unhide K2) s8 (by rw [iv_size, iv_size, lineR_len]; rfl) (iv_one _ _) ?_)
    refine bodyPost_ret (v := .tuple #[.agg (iv .u64 (lineR ⟨g, r, q, c⟩)), .int .i64 0]) (results_two Tryz.results201 _ _ (w.heap.size + 1) 83 (iv .u64 (lineR ⟨g, r, q, c⟩)) (0, 0) _ _ rfl rfl (setRow_heap _ _ _ _ _ _ (unhide K2)) Tryz.underlying83 rfl s8) rfl ?_
    exact ⟨rfl, below_row (unhide Hb2) (by omega) _⟩
  all_goals
    have hm : mayR ⟨g, r, q, c⟩ = false := by simp [mayR]; omega
    have eL : lineRV ⟨g, r, q, c⟩ = zs8 := by simp [lineRV, hm]
    have eE : lineRE ⟨g, r, q, c⟩ = 1 := by simp [lineRE, hm]
    rw [eL] at s8
    rw [eL, eE]
    clear hm eL eE
    go_enter Tryz.func201, Tryz.ntmps201
    go_wp2_with (first | (refine wpList_build0 rfl 83 rfl _ build8 ?_) | (refine wpList_store_row rfl 83 _ _ rfl (w.heap.size + 1) (iv .u64 zs8) rfl rfl _ _ (unhide G0 _).2 s8 rfl (iv_one _ _) ?_))
    refine bodyPost_ret (v := .tuple #[.agg (iv .u64 zs8), .int .i64 1]) (results_two Tryz.results201 _ _ (w.heap.size + 1) 83 (iv .u64 zs8) (0, 0) _ _ rfl rfl (setRow_heap _ _ _ _ _ _ (unhide G0 _).2) Tryz.underlying83 rfl s8) rfl ?_
    exact ⟨rfl, below_row (unhide Hb _ _) (by omega) _⟩

theorem lineR_any (s : Rc) (hv : s.ok) (w : World) : Calls Tryz.prog 123 #[.agg (rv s)] w fun e w' => e = .returned (.tuple #[.agg (iv .u64 (lineRV s)), .int .i64 (lineRE s)]) ∧ Below w.heap.size w w' := line4R s.q s.d s.o s.v hv w
theorem rlineR_any (s : Rc) (hv : s.ok) (w : World) : Calls Tryz.prog 201 #[.agg (rv s)] w fun e w' => e = .returned (.tuple #[.agg (iv .u64 (lineRV s)), .int .i64 (lineRE s)]) ∧ Below w.heap.size w w' := rline4R s.q s.d s.o s.v hv w

/-! ### Read -/
theorem size4R : (Tryz.prog.info? 126).map (·.size) = some 4 := by kernel_rfl
theorem readR_any (l : List Int) (hl : l.length = 8) (hw : ∀ z ∈ l, (Lit.int .u64 z).wf = true) (w : World) : Calls Tryz.prog 203 #[.agg (iv .u64 l)] w fun e w' => e = .returned (.tuple #[.agg (rv (readRV l)), .bool (isR l)]) ∧ Below w.heap.size w w' := by
  obtain ⟨s, hs⟩ : ∃ s, s = readR l := ⟨_, rfl⟩
  obtain ⟨L, hLv⟩ : ∃ L, L = lineRV s := ⟨_, rfl⟩
  obtain ⟨E, hE⟩ : ∃ E, E = lineRE s := ⟨_, rfl⟩
  have LN : Hid (∀ w, Calls Tryz.prog 123 #[.agg (rv s)] w fun e w' => e = .returned (.tuple #[.agg (iv .u64 L), .int .i64 E]) ∧ Below w.heap.size w w') := fun w => by rw [hLv, hE]; exact lineR_any s (by rw [hs]; exact readR_ok l hw) w
  have RS : Hid (rv s = #[Value.int .i64 (wrap64 (l.getD 1 0)), .int .i64 (wrap64 (l.getD 2 0)), .int .i64 (wrap64 (l.getD 3 0)), .int .u64 (l.getD 4 0)]) := by rw [hs]; rfl
  have HL : Hid (L.length = 8) := by rw [hLv]; exact lineRV_len s
  cases hm : mayR s with
  | false =>
    have e1 : isR l = false := by simp [isR, ← hs, hm]
    have e2 : readRV l = zr := by simp [readRV, e1]
    have HE : Hid (E = 1) := hide (by rw [hE]; simp [lineRE, hm])
    have s4 : (Tryz.prog.info? 126).map (·.size) = some (rv zr).size := size4R
    rw [e1, e2]
    clear e1 e2 hm hs hLv hE
    have G0 := hide (fun B : Obj => heap2 w (.cells (iv .u64 l) 83) B)
    have G3 := hide (fun A B C : Obj => heap3 w A B C)
    have GB := hide (fun A B C : Obj => below_alloc3 w A B C)
    have c1 : ((w.alloc (.cells (iv .u64 l) 83)).alloc (.cells #[.int .i64 0, .int .i64 0, .int .i64 0, .int .u64 0] 126)).cell? ⟨w.heap.size, 1, none⟩ = some (.int .u64 (l.getD 1 0)) := by rw [cell_of_block (heap2 w _ _).1, iv_get _ _ _ (by omega)]
    have c2 : ((w.alloc (.cells (iv .u64 l) 83)).alloc (.cells #[.int .i64 0, .int .i64 0, .int .i64 0, .int .u64 0] 126)).cell? ⟨w.heap.size, 2, none⟩ = some (.int .u64 (l.getD 2 0)) := by rw [cell_of_block (heap2 w _ _).1, iv_get _ _ _ (by omega)]
    have c3 : ((w.alloc (.cells (iv .u64 l) 83)).alloc (.cells #[.int .i64 0, .int .i64 0, .int .i64 0, .int .u64 0] 126)).cell? ⟨w.heap.size, 3, none⟩ = some (.int .u64 (l.getD 3 0)) := by rw [cell_of_block (heap2 w _ _).1, iv_get _ _ _ (by omega)]
    have c4 : ((w.alloc (.cells (iv .u64 l) 83)).alloc (.cells #[.int .i64 0, .int .i64 0, .int .i64 0, .int .u64 0] 126)).cell? ⟨w.heap.size, 4, none⟩ = some (.int .u64 (l.getD 4 0)) := by rw [cell_of_block (heap2 w _ _).1, iv_get _ _ _ (by omega)]
    have u1 : 0 ≤ l.getD 1 0 ∧ l.getD 1 0 ≤ 18446744073709551615 := by simpa using range_u64 hw 1
    have u2 : 0 ≤ l.getD 2 0 ∧ l.getD 2 0 ≤ 18446744073709551615 := by simpa using range_u64 hw 2
    have u3 : 0 ≤ l.getD 3 0 ∧ l.getD 3 0 ≤ 18446744073709551615 := by simpa using range_u64 hw 3
    have u4 : 0 ≤ l.getD 4 0 ∧ l.getD 4 0 ≤ 18446744073709551615 := by simpa using range_u64 hw 4
    generalize l.getD 1 0 = x1 at *
    generalize l.getD 2 0 = x2 at *
    generalize l.getD 3 0 = x3 at *
    generalize l.getD 4 0 = x4 at *
    clear hw
    go_enter Tryz.func203, Tryz.ntmps203
    go_wp2_with fail
    clear c1 c2 c3 c4 u1 u2 u3 u4
    rw [show (#[Value.int .i64 (wrap64 x1), .int .i64 (wrap64 x2), .int .i64 (wrap64 x3), .int .u64 x4] : Array Value) = rv s from (unhide RS).symm]
    refine (unhide LN _).mono ?_
    rintro e w1 ⟨rfl, hb1⟩
    have hsz : w.heap.size + 1 + 1 + 1 ≤ w1.heap.size := by have := hb1.size; simpa using this
    have K0 := hide ((hb1.block w.heap.size (by simp; omega)).trans (unhide G3 _ _ _).1)
    have K1 := hide ((hb1.block (w.heap.size + 1) (by simp)).trans (unhide G3 _ _ _).2.1)
    have K2 := hide ((hb1.block (w.heap.size + 1 + 1) (by simp)).trans (unhide G3 _ _ _).2.2)
    have Hb := hide ((unhide GB _ _ _).trans (hb1.mono (by simp; omega)))
    clear hb1 G0 G3 GB
    rw [zero4R] at K1
    have hL : (iv .u64 L).size = 8 := by rw [iv_size, unhide HL]
    have hst : ∀ (W : World) (C : Array Value), C.size = 8 → Sem.run Tryz.prog (storeCells ⟨W.heap.size, 0, none⟩ (iv .u64 L).toList) (W.alloc (.cells C 83)) = .ok () (W.alloc (.cells (iv .u64 L) 83)) :=
      fun W C hC => run_store_new _ _ rfl C _ _ (by rw [hC, hL]) (iv_one _ _)
    rw [unhide HE]
    have K1' := hide ((Below.heap_alloc w1 (.cells (iv .u64 L) 83) (w.heap.size + 1) (by omega)).trans (unhide K1))
    have Hb' := hide ((unhide Hb).alloc (by omega) (.cells (iv .u64 L) 83))
    go_wp2_with (first | (refine wpList_build0 rfl 126 rfl _ build4R ?_) | (refine wpList_store_row rfl 126 _ _ rfl (w.heap.size + 1) (rv zr) rfl rfl _ _ (unhide K1') s4 rfl (rv_one _) ?_))
    refine bodyPost_ret (v := .tuple #[.agg (rv zr), .bool false]) (results_two Tryz.results203 _ _ (w.heap.size + 1) 126 (rv zr) (0, 0) _ _ rfl rfl (setRow_heap _ _ _ _ _ _ (unhide K1')) Tryz.underlying126 rfl s4) rfl ?_
    exact ⟨rfl, below_row (unhide Hb') (by omega) _⟩
  | true =>
    have HE : Hid (E = 0) := hide (by rw [hE]; simp [lineRE, hm])
    have eL : L = lineR s := by rw [hLv]; simp [lineRV, hm]
    have EQ : Hid (∀ w, (Op.equalIn 10000 83 (.agg (iv .u64 L)) (.agg (iv .u64 l))).run Tryz.prog w = .ok (decide (L = l)) w) := fun w => equal_line L l (unhide HL) hl w
    have s8a : (Tryz.prog.info? 83).map (·.size) = some (iv .u64 L).size := by rw [iv_size, unhide HL]; exact size8
    have s8b : (Tryz.prog.info? 83).map (·.size) = some (iv .u64 l).size := by rw [iv_size, hl]; exact size8
    by_cases hq : L = l
    · have e1 : isR l = true := by simp [isR, ← hs, hm, ← eL, hq]
      have e2 : readRV l = s := by simp [readRV, e1, hs]
      have s4 : (Tryz.prog.info? 126).map (·.size) = some (rv s).size := size4R
      have hd : decide (L = l) = true := by simpa using hq
      rw [hd] at EQ
      rw [e1, e2]
      clear e1 e2 hm hs hLv hE eL hq hd
      have G0 := hide (fun B : Obj => heap2 w (.cells (iv .u64 l) 83) B)
      have G3 := hide (fun A B C : Obj => heap3 w A B C)
      have GB := hide (fun A B C : Obj => below_alloc3 w A B C)
      have c1 : ((w.alloc (.cells (iv .u64 l) 83)).alloc (.cells #[.int .i64 0, .int .i64 0, .int .i64 0, .int .u64 0] 126)).cell? ⟨w.heap.size, 1, none⟩ = some (.int .u64 (l.getD 1 0)) := by rw [cell_of_block (heap2 w _ _).1, iv_get _ _ _ (by omega)]
      have c2 : ((w.alloc (.cells (iv .u64 l) 83)).alloc (.cells #[.int .i64 0, .int .i64 0, .int .i64 0, .int .u64 0] 126)).cell? ⟨w.heap.size, 2, none⟩ = some (.int .u64 (l.getD 2 0)) := by rw [cell_of_block (heap2 w _ _).1, iv_get _ _ _ (by omega)]
      have c3 : ((w.alloc (.cells (iv .u64 l) 83)).alloc (.cells #[.int .i64 0, .int .i64 0, .int .i64 0, .int .u64 0] 126)).cell? ⟨w.heap.size, 3, none⟩ = some (.int .u64 (l.getD 3 0)) := by rw [cell_of_block (heap2 w _ _).1, iv_get _ _ _ (by omega)]
      have c4 : ((w.alloc (.cells (iv .u64 l) 83)).alloc (.cells #[.int .i64 0, .int .i64 0, .int .i64 0, .int .u64 0] 126)).cell? ⟨w.heap.size, 4, none⟩ = some (.int .u64 (l.getD 4 0)) := by rw [cell_of_block (heap2 w _ _).1, iv_get _ _ _ (by omega)]
      have u1 : 0 ≤ l.getD 1 0 ∧ l.getD 1 0 ≤ 18446744073709551615 := by simpa using range_u64 hw 1
      have u2 : 0 ≤ l.getD 2 0 ∧ l.getD 2 0 ≤ 18446744073709551615 := by simpa using range_u64 hw 2
      have u3 : 0 ≤ l.getD 3 0 ∧ l.getD 3 0 ≤ 18446744073709551615 := by simpa using range_u64 hw 3
      have u4 : 0 ≤ l.getD 4 0 ∧ l.getD 4 0 ≤ 18446744073709551615 := by simpa using range_u64 hw 4
      generalize l.getD 1 0 = x1 at *
      generalize l.getD 2 0 = x2 at *
      generalize l.getD 3 0 = x3 at *
      generalize l.getD 4 0 = x4 at *
      clear hw
      go_enter Tryz.func203, Tryz.ntmps203
      go_wp2_with fail
      clear c1 c2 c3 c4 u1 u2 u3 u4
      rw [show (#[Value.int .i64 (wrap64 x1), .int .i64 (wrap64 x2), .int .i64 (wrap64 x3), .int .u64 x4] : Array Value) = rv s from (unhide RS).symm]
      refine (unhide LN _).mono ?_
      rintro e w1 ⟨rfl, hb1⟩
      have hsz : w.heap.size + 1 + 1 + 1 ≤ w1.heap.size := by have := hb1.size; simpa using this
      have K0 := hide ((hb1.block w.heap.size (by simp; omega)).trans (unhide G3 _ _ _).1)
      have K1 := hide ((hb1.block (w.heap.size + 1) (by simp)).trans (unhide G3 _ _ _).2.1)
      have K2 := hide ((hb1.block (w.heap.size + 1 + 1) (by simp)).trans (unhide G3 _ _ _).2.2)
      have Hb := hide ((unhide GB _ _ _).trans (hb1.mono (by simp; omega)))
      clear hb1 G0 G3 GB
      rw [zero4R] at K1
      have hL : (iv .u64 L).size = 8 := by rw [iv_size, unhide HL]
      have hst : ∀ (W : World) (C : Array Value), C.size = 8 → Sem.run Tryz.prog (storeCells ⟨W.heap.size, 0, none⟩ (iv .u64 L).toList) (W.alloc (.cells C 83)) = .ok () (W.alloc (.cells (iv .u64 L) 83)) :=
        fun W C hC => run_store_new _ _ rfl C _ _ (by rw [hC, hL]) (iv_one _ _)
      rw [unhide HE]
      have K0' := hide ((Below.heap_alloc w1 (.cells (iv .u64 L) 83) w.heap.size (by omega)).trans (unhide K0))
      have K1' := hide ((Below.heap_alloc w1 (.cells (iv .u64 L) 83) (w.heap.size + 1) (by omega)).trans (unhide K1))
      have K2' := hide ((Below.heap_alloc w1 (.cells (iv .u64 L) 83) (w.heap.size + 1 + 1) (by omega)).trans (unhide K2))
      have K3' := hide (heap_new w1 (.cells (iv .u64 L) 83))
      have Hb' := hide ((unhide Hb).alloc (by omega) (.cells (iv .u64 L) 83))
      go_wp2_with (first | (refine wpList_load_row_g (by rfl) 83 (.tmp 5) rfl w1.heap.size rfl _ _ _ _ (unhide K3') Tryz.underlying83 rfl s8a ?_) | (refine wpList_load_row_g (by rfl) 83 (.tmp 1) rfl w.heap.size rfl _ _ _ _ (unhide K0') Tryz.underlying83 rfl s8b ?_) | (refine wpList_neqA (by rfl) 83 83 (.tmp 27) (.tmp 28) rfl (iv .u64 L) (iv .u64 l) rfl rfl line_guard2 _ (unhide EQ) ?_) | (refine wpList_load_row rfl 126 _ rfl (w.heap.size + 1 + 1) rfl _ _ _ _ (unhide K2') Tryz.underlying126 rfl s4 ?_) | (refine wpList_store_row rfl 126 _ _ rfl (w.heap.size + 1) (rv s) rfl rfl _ _ (unhide K1') s4 rfl (rv_one _) ?_))
      refine bodyPost_ret (v := .tuple #[.agg (rv s), .bool true]) (results_two Tryz.results203 _ _ (w.heap.size + 1) 126 (rv s) (0, 0) _ _ rfl rfl (setRow_heap _ _ _ _ _ _ (unhide K1')) Tryz.underlying126 rfl s4) rfl ?_
      exact ⟨rfl, below_row (unhide Hb') (by omega) _⟩
    · have e1 : isR l = false := by simp [isR, ← hs, hm, ← eL, hq]
      have e2 : readRV l = zr := by simp [readRV, e1]
      have s4 : (Tryz.prog.info? 126).map (·.size) = some (rv zr).size := size4R
      have hd : decide (L = l) = false := by simpa using hq
      rw [hd] at EQ
      rw [e1, e2]
      clear e1 e2 hm hs hLv hE eL hq hd
      have G0 := hide (fun B : Obj => heap2 w (.cells (iv .u64 l) 83) B)
      have G3 := hide (fun A B C : Obj => heap3 w A B C)
      have GB := hide (fun A B C : Obj => below_alloc3 w A B C)
      have c1 : ((w.alloc (.cells (iv .u64 l) 83)).alloc (.cells #[.int .i64 0, .int .i64 0, .int .i64 0, .int .u64 0] 126)).cell? ⟨w.heap.size, 1, none⟩ = some (.int .u64 (l.getD 1 0)) := by rw [cell_of_block (heap2 w _ _).1, iv_get _ _ _ (by omega)]
      have c2 : ((w.alloc (.cells (iv .u64 l) 83)).alloc (.cells #[.int .i64 0, .int .i64 0, .int .i64 0, .int .u64 0] 126)).cell? ⟨w.heap.size, 2, none⟩ = some (.int .u64 (l.getD 2 0)) := by rw [cell_of_block (heap2 w _ _).1, iv_get _ _ _ (by omega)]
      have c3 : ((w.alloc (.cells (iv .u64 l) 83)).alloc (.cells #[.int .i64 0, .int .i64 0, .int .i64 0, .int .u64 0] 126)).cell? ⟨w.heap.size, 3, none⟩ = some (.int .u64 (l.getD 3 0)) := by rw [cell_of_block (heap2 w _ _).1, iv_get _ _ _ (by omega)]
      have c4 : ((w.alloc (.cells (iv .u64 l) 83)).alloc (.cells #[.int .i64 0, .int .i64 0, .int .i64 0, .int .u64 0] 126)).cell? ⟨w.heap.size, 4, none⟩ = some (.int .u64 (l.getD 4 0)) := by rw [cell_of_block (heap2 w _ _).1, iv_get _ _ _ (by omega)]
      have u1 : 0 ≤ l.getD 1 0 ∧ l.getD 1 0 ≤ 18446744073709551615 := by simpa using range_u64 hw 1
      have u2 : 0 ≤ l.getD 2 0 ∧ l.getD 2 0 ≤ 18446744073709551615 := by simpa using range_u64 hw 2
      have u3 : 0 ≤ l.getD 3 0 ∧ l.getD 3 0 ≤ 18446744073709551615 := by simpa using range_u64 hw 3
      have u4 : 0 ≤ l.getD 4 0 ∧ l.getD 4 0 ≤ 18446744073709551615 := by simpa using range_u64 hw 4
      generalize l.getD 1 0 = x1 at *
      generalize l.getD 2 0 = x2 at *
      generalize l.getD 3 0 = x3 at *
      generalize l.getD 4 0 = x4 at *
      clear hw
      go_enter Tryz.func203, Tryz.ntmps203
      go_wp2_with fail
      clear c1 c2 c3 c4 u1 u2 u3 u4
      rw [show (#[Value.int .i64 (wrap64 x1), .int .i64 (wrap64 x2), .int .i64 (wrap64 x3), .int .u64 x4] : Array Value) = rv s from (unhide RS).symm]
      refine (unhide LN _).mono ?_
      rintro e w1 ⟨rfl, hb1⟩
      have hsz : w.heap.size + 1 + 1 + 1 ≤ w1.heap.size := by have := hb1.size; simpa using this
      have K0 := hide ((hb1.block w.heap.size (by simp; omega)).trans (unhide G3 _ _ _).1)
      have K1 := hide ((hb1.block (w.heap.size + 1) (by simp)).trans (unhide G3 _ _ _).2.1)
      have K2 := hide ((hb1.block (w.heap.size + 1 + 1) (by simp)).trans (unhide G3 _ _ _).2.2)
      have Hb := hide ((unhide GB _ _ _).trans (hb1.mono (by simp; omega)))
      clear hb1 G0 G3 GB
      rw [zero4R] at K1
      have hL : (iv .u64 L).size = 8 := by rw [iv_size, unhide HL]
      have hst : ∀ (W : World) (C : Array Value), C.size = 8 → Sem.run Tryz.prog (storeCells ⟨W.heap.size, 0, none⟩ (iv .u64 L).toList) (W.alloc (.cells C 83)) = .ok () (W.alloc (.cells (iv .u64 L) 83)) :=
        fun W C hC => run_store_new _ _ rfl C _ _ (by rw [hC, hL]) (iv_one _ _)
      rw [unhide HE]
      have K0' := hide ((Below.heap_alloc w1 (.cells (iv .u64 L) 83) w.heap.size (by omega)).trans (unhide K0))
      have K1' := hide ((Below.heap_alloc w1 (.cells (iv .u64 L) 83) (w.heap.size + 1) (by omega)).trans (unhide K1))
      have K3' := hide (heap_new w1 (.cells (iv .u64 L) 83))
      have Hb' := hide ((unhide Hb).alloc (by omega) (.cells (iv .u64 L) 83))
      go_wp2_with (first | (refine wpList_load_row_g (by rfl) 83 (.tmp 5) rfl w1.heap.size rfl _ _ _ _ (unhide K3') Tryz.underlying83 rfl s8a ?_) | (refine wpList_load_row_g (by rfl) 83 (.tmp 1) rfl w.heap.size rfl _ _ _ _ (unhide K0') Tryz.underlying83 rfl s8b ?_) | (refine wpList_neqA (by rfl) 83 83 (.tmp 27) (.tmp 28) rfl (iv .u64 L) (iv .u64 l) rfl rfl line_guard2 _ (unhide EQ) ?_) | (refine wpList_build0 rfl 126 rfl _ build4R ?_) | (refine wpList_store_row rfl 126 _ _ rfl (w.heap.size + 1) (rv zr) rfl rfl _ _ (unhide K1') s4 rfl (rv_one _) ?_))
      refine bodyPost_ret (v := .tuple #[.agg (rv zr), .bool false]) (results_two Tryz.results203 _ _ (w.heap.size + 1) 126 (rv zr) (0, 0) _ _ rfl rfl (setRow_heap _ _ _ _ _ _ (unhide K1')) Tryz.underlying126 rfl s4) rfl ?_
      exact ⟨rfl, below_row (unhide Hb') (by omega) _⟩
theorem rreadR_any (l : List Int) (hl : l.length = 8) (hw : ∀ z ∈ l, (Lit.int .u64 z).wf = true) (w : World) : Calls Tryz.prog 172 #[.agg (iv .u64 l)] w fun e w' => e = .returned (.tuple #[.agg (rv (readRV l)), .bool (isR l)]) ∧ Below w.heap.size w w' := by
  obtain ⟨s, hs⟩ : ∃ s, s = readR l := ⟨_, rfl⟩
  obtain ⟨L, hLv⟩ : ∃ L, L = lineRV s := ⟨_, rfl⟩
  obtain ⟨E, hE⟩ : ∃ E, E = lineRE s := ⟨_, rfl⟩
  have LN : Hid (∀ w, Calls Tryz.prog 201 #[.agg (rv s)] w fun e w' => e = .returned (.tuple #[.agg (iv .u64 L), .int .i64 E]) ∧ Below w.heap.size w w') := fun w => by rw [hLv, hE]; exact rlineR_any s (by rw [hs]; exact readR_ok l hw) w
  have RS : Hid (rv s = #[Value.int .i64 (wrap64 (l.getD 1 0)), .int .i64 (wrap64 (l.getD 2 0)), .int .i64 (wrap64 (l.getD 3 0)), .int .u64 (l.getD 4 0)]) := by rw [hs]; rfl
  have HL : Hid (L.length = 8) := by rw [hLv]; exact lineRV_len s
  cases hm : mayR s with
  | false =>
    have e1 : isR l = false := by simp [isR, ← hs, hm]
    have e2 : readRV l = zr := by simp [readRV, e1]
    have HE : Hid (E = 1) := hide (by rw [hE]; simp [lineRE, hm])
    have s4 : (Tryz.prog.info? 126).map (·.size) = some (rv zr).size := size4R
    rw [e1, e2]
    clear e1 e2 hm hs hLv hE
    have G0 := hide (fun B : Obj => heap2 w (.cells (iv .u64 l) 83) B)
    have G3 := hide (fun A B C : Obj => heap3 w A B C)
    have GB := hide (fun A B C : Obj => below_alloc3 w A B C)
    have c1 : ((w.alloc (.cells (iv .u64 l) 83)).alloc (.cells #[.int .i64 0, .int .i64 0, .int .i64 0, .int .u64 0] 126)).cell? ⟨w.heap.size, 1, none⟩ = some (.int .u64 (l.getD 1 0)) := by rw [cell_of_block (heap2 w _ _).1, iv_get _ _ _ (by omega)]
    have c2 : ((w.alloc (.cells (iv .u64 l) 83)).alloc (.cells #[.int .i64 0, .int .i64 0, .int .i64 0, .int .u64 0] 126)).cell? ⟨w.heap.size, 2, none⟩ = some (.int .u64 (l.getD 2 0)) := by rw [cell_of_block (heap2 w _ _).1, iv_get _ _ _ (by omega)]
    have c3 : ((w.alloc (.cells (iv .u64 l) 83)).alloc (.cells #[.int .i64 0, .int .i64 0, .int .i64 0, .int .u64 0] 126)).cell? ⟨w.heap.size, 3, none⟩ = some (.int .u64 (l.getD 3 0)) := by rw [cell_of_block (heap2 w _ _).1, iv_get _ _ _ (by omega)]
    have c4 : ((w.alloc (.cells (iv .u64 l) 83)).alloc (.cells #[.int .i64 0, .int .i64 0, .int .i64 0, .int .u64 0] 126)).cell? ⟨w.heap.size, 4, none⟩ = some (.int .u64 (l.getD 4 0)) := by rw [cell_of_block (heap2 w _ _).1, iv_get _ _ _ (by omega)]
    have u1 : 0 ≤ l.getD 1 0 ∧ l.getD 1 0 ≤ 18446744073709551615 := by simpa using range_u64 hw 1
    have u2 : 0 ≤ l.getD 2 0 ∧ l.getD 2 0 ≤ 18446744073709551615 := by simpa using range_u64 hw 2
    have u3 : 0 ≤ l.getD 3 0 ∧ l.getD 3 0 ≤ 18446744073709551615 := by simpa using range_u64 hw 3
    have u4 : 0 ≤ l.getD 4 0 ∧ l.getD 4 0 ≤ 18446744073709551615 := by simpa using range_u64 hw 4
    generalize l.getD 1 0 = x1 at *
    generalize l.getD 2 0 = x2 at *
    generalize l.getD 3 0 = x3 at *
    generalize l.getD 4 0 = x4 at *
    clear hw
    go_enter Tryz.func172, Tryz.ntmps172
    go_wp2_with fail
    clear c1 c2 c3 c4 u1 u2 u3 u4
    rw [show (#[Value.int .i64 (wrap64 x1), .int .i64 (wrap64 x2), .int .i64 (wrap64 x3), .int .u64 x4] : Array Value) = rv s from (unhide RS).symm]
    refine (unhide LN _).mono ?_
    rintro e w1 ⟨rfl, hb1⟩
    have hsz : w.heap.size + 1 + 1 + 1 ≤ w1.heap.size := by have := hb1.size; simpa using this
    have K0 := hide ((hb1.block w.heap.size (by simp; omega)).trans (unhide G3 _ _ _).1)
    have K1 := hide ((hb1.block (w.heap.size + 1) (by simp)).trans (unhide G3 _ _ _).2.1)
    have K2 := hide ((hb1.block (w.heap.size + 1 + 1) (by simp)).trans (unhide G3 _ _ _).2.2)
    have Hb := hide ((unhide GB _ _ _).trans (hb1.mono (by simp; omega)))
    clear hb1 G0 G3 GB
    rw [zero4R] at K1
    have hL : (iv .u64 L).size = 8 := by rw [iv_size, unhide HL]
    have hst : ∀ (W : World) (C : Array Value), C.size = 8 → Sem.run Tryz.prog (storeCells ⟨W.heap.size, 0, none⟩ (iv .u64 L).toList) (W.alloc (.cells C 83)) = .ok () (W.alloc (.cells (iv .u64 L) 83)) :=
      fun W C hC => run_store_new _ _ rfl C _ _ (by rw [hC, hL]) (iv_one _ _)
    rw [unhide HE]
    have K1' := hide ((Below.heap_alloc w1 (.cells (iv .u64 L) 83) (w.heap.size + 1) (by omega)).trans (unhide K1))
    have Hb' := hide ((unhide Hb).alloc (by omega) (.cells (iv .u64 L) 83))
    go_wp2_with (first | (refine wpList_build0 rfl 126 rfl _ build4R ?_) | (refine wpList_store_row rfl 126 _ _ rfl (w.heap.size + 1) (rv zr) rfl rfl _ _ (unhide K1') s4 rfl (rv_one _) ?_))
    refine bodyPost_ret (v := .tuple #[.agg (rv zr), .bool false]) (results_two Tryz.results172 _ _ (w.heap.size + 1) 126 (rv zr) (0, 0) _ _ rfl rfl (setRow_heap _ _ _ _ _ _ (unhide K1')) Tryz.underlying126 rfl s4) rfl ?_
    exact ⟨rfl, below_row (unhide Hb') (by omega) _⟩
  | true =>
    have HE : Hid (E = 0) := hide (by rw [hE]; simp [lineRE, hm])
    have eL : L = lineR s := by rw [hLv]; simp [lineRV, hm]
    have EQ : Hid (∀ w, (Op.equalIn 10000 83 (.agg (iv .u64 L)) (.agg (iv .u64 l))).run Tryz.prog w = .ok (decide (L = l)) w) := fun w => equal_line L l (unhide HL) hl w
    have s8a : (Tryz.prog.info? 83).map (·.size) = some (iv .u64 L).size := by rw [iv_size, unhide HL]; exact size8
    have s8b : (Tryz.prog.info? 83).map (·.size) = some (iv .u64 l).size := by rw [iv_size, hl]; exact size8
    by_cases hq : L = l
    · have e1 : isR l = true := by simp [isR, ← hs, hm, ← eL, hq]
      have e2 : readRV l = s := by simp [readRV, e1, hs]
      have s4 : (Tryz.prog.info? 126).map (·.size) = some (rv s).size := size4R
      have hd : decide (L = l) = true := by simpa using hq
      rw [hd] at EQ
      rw [e1, e2]
      clear e1 e2 hm hs hLv hE eL hq hd
      have G0 := hide (fun B : Obj => heap2 w (.cells (iv .u64 l) 83) B)
      have G3 := hide (fun A B C : Obj => heap3 w A B C)
      have GB := hide (fun A B C : Obj => below_alloc3 w A B C)
      have c1 : ((w.alloc (.cells (iv .u64 l) 83)).alloc (.cells #[.int .i64 0, .int .i64 0, .int .i64 0, .int .u64 0] 126)).cell? ⟨w.heap.size, 1, none⟩ = some (.int .u64 (l.getD 1 0)) := by rw [cell_of_block (heap2 w _ _).1, iv_get _ _ _ (by omega)]
      have c2 : ((w.alloc (.cells (iv .u64 l) 83)).alloc (.cells #[.int .i64 0, .int .i64 0, .int .i64 0, .int .u64 0] 126)).cell? ⟨w.heap.size, 2, none⟩ = some (.int .u64 (l.getD 2 0)) := by rw [cell_of_block (heap2 w _ _).1, iv_get _ _ _ (by omega)]
      have c3 : ((w.alloc (.cells (iv .u64 l) 83)).alloc (.cells #[.int .i64 0, .int .i64 0, .int .i64 0, .int .u64 0] 126)).cell? ⟨w.heap.size, 3, none⟩ = some (.int .u64 (l.getD 3 0)) := by rw [cell_of_block (heap2 w _ _).1, iv_get _ _ _ (by omega)]
      have c4 : ((w.alloc (.cells (iv .u64 l) 83)).alloc (.cells #[.int .i64 0, .int .i64 0, .int .i64 0, .int .u64 0] 126)).cell? ⟨w.heap.size, 4, none⟩ = some (.int .u64 (l.getD 4 0)) := by rw [cell_of_block (heap2 w _ _).1, iv_get _ _ _ (by omega)]
      have u1 : 0 ≤ l.getD 1 0 ∧ l.getD 1 0 ≤ 18446744073709551615 := by simpa using range_u64 hw 1
      have u2 : 0 ≤ l.getD 2 0 ∧ l.getD 2 0 ≤ 18446744073709551615 := by simpa using range_u64 hw 2
      have u3 : 0 ≤ l.getD 3 0 ∧ l.getD 3 0 ≤ 18446744073709551615 := by simpa using range_u64 hw 3
      have u4 : 0 ≤ l.getD 4 0 ∧ l.getD 4 0 ≤ 18446744073709551615 := by simpa using range_u64 hw 4
      generalize l.getD 1 0 = x1 at *
      generalize l.getD 2 0 = x2 at *
      generalize l.getD 3 0 = x3 at *
      generalize l.getD 4 0 = x4 at *
      clear hw
      go_enter Tryz.func172, Tryz.ntmps172
      go_wp2_with fail
      clear c1 c2 c3 c4 u1 u2 u3 u4
      rw [show (#[Value.int .i64 (wrap64 x1), .int .i64 (wrap64 x2), .int .i64 (wrap64 x3), .int .u64 x4] : Array Value) = rv s from (unhide RS).symm]
      refine (unhide LN _).mono ?_
      rintro e w1 ⟨rfl, hb1⟩
      have hsz : w.heap.size + 1 + 1 + 1 ≤ w1.heap.size := by have := hb1.size; simpa using this
      have K0 := hide ((hb1.block w.heap.size (by simp; omega)).trans (unhide G3 _ _ _).1)
      have K1 := hide ((hb1.block (w.heap.size + 1) (by simp)).trans (unhide G3 _ _ _).2.1)
      have K2 := hide ((hb1.block (w.heap.size + 1 + 1) (by simp)).trans (unhide G3 _ _ _).2.2)
      have Hb := hide ((unhide GB _ _ _).trans (hb1.mono (by simp; omega)))
      clear hb1 G0 G3 GB
      rw [zero4R] at K1
      have hL : (iv .u64 L).size = 8 := by rw [iv_size, unhide HL]
      have hst : ∀ (W : World) (C : Array Value), C.size = 8 → Sem.run Tryz.prog (storeCells ⟨W.heap.size, 0, none⟩ (iv .u64 L).toList) (W.alloc (.cells C 83)) = .ok () (W.alloc (.cells (iv .u64 L) 83)) :=
        fun W C hC => run_store_new _ _ rfl C _ _ (by rw [hC, hL]) (iv_one _ _)
      rw [unhide HE]
      have K0' := hide ((Below.heap_alloc w1 (.cells (iv .u64 L) 83) w.heap.size (by omega)).trans (unhide K0))
      have K1' := hide ((Below.heap_alloc w1 (.cells (iv .u64 L) 83) (w.heap.size + 1) (by omega)).trans (unhide K1))
      have K2' := hide ((Below.heap_alloc w1 (.cells (iv .u64 L) 83) (w.heap.size + 1 + 1) (by omega)).trans (unhide K2))
      have K3' := hide (heap_new w1 (.cells (iv .u64 L) 83))
      have Hb' := hide ((unhide Hb).alloc (by omega) (.cells (iv .u64 L) 83))
      go_wp2_with (first | (refine wpList_load_row_g (by rfl) 83 (.tmp 5) rfl w1.heap.size rfl _ _ _ _ (unhide K3') Tryz.underlying83 rfl s8a ?_) | (refine wpList_load_row_g (by rfl) 83 (.tmp 1) rfl w.heap.size rfl _ _ _ _ (unhide K0') Tryz.underlying83 rfl s8b ?_) | (refine wpList_neqA (by rfl) 83 83 (.tmp 27) (.tmp 28) rfl (iv .u64 L) (iv .u64 l) rfl rfl line_guard2 _ (unhide EQ) ?_) | (refine wpList_load_row rfl 126 _ rfl (w.heap.size + 1 + 1) rfl _ _ _ _ (unhide K2') Tryz.underlying126 rfl s4 ?_) | (refine wpList_store_row rfl 126 _ _ rfl (w.heap.size + 1) (rv s) rfl rfl _ _ (unhide K1') s4 rfl (rv_one _) ?_))
      refine bodyPost_ret (v := .tuple #[.agg (rv s), .bool true]) (results_two Tryz.results172 _ _ (w.heap.size + 1) 126 (rv s) (0, 0) _ _ rfl rfl (setRow_heap _ _ _ _ _ _ (unhide K1')) Tryz.underlying126 rfl s4) rfl ?_
      exact ⟨rfl, below_row (unhide Hb') (by omega) _⟩
    · have e1 : isR l = false := by simp [isR, ← hs, hm, ← eL, hq]
      have e2 : readRV l = zr := by simp [readRV, e1]
      have s4 : (Tryz.prog.info? 126).map (·.size) = some (rv zr).size := size4R
      have hd : decide (L = l) = false := by simpa using hq
      rw [hd] at EQ
      rw [e1, e2]
      clear e1 e2 hm hs hLv hE eL hq hd
      have G0 := hide (fun B : Obj => heap2 w (.cells (iv .u64 l) 83) B)
      have G3 := hide (fun A B C : Obj => heap3 w A B C)
      have GB := hide (fun A B C : Obj => below_alloc3 w A B C)
      have c1 : ((w.alloc (.cells (iv .u64 l) 83)).alloc (.cells #[.int .i64 0, .int .i64 0, .int .i64 0, .int .u64 0] 126)).cell? ⟨w.heap.size, 1, none⟩ = some (.int .u64 (l.getD 1 0)) := by rw [cell_of_block (heap2 w _ _).1, iv_get _ _ _ (by omega)]
      have c2 : ((w.alloc (.cells (iv .u64 l) 83)).alloc (.cells #[.int .i64 0, .int .i64 0, .int .i64 0, .int .u64 0] 126)).cell? ⟨w.heap.size, 2, none⟩ = some (.int .u64 (l.getD 2 0)) := by rw [cell_of_block (heap2 w _ _).1, iv_get _ _ _ (by omega)]
      have c3 : ((w.alloc (.cells (iv .u64 l) 83)).alloc (.cells #[.int .i64 0, .int .i64 0, .int .i64 0, .int .u64 0] 126)).cell? ⟨w.heap.size, 3, none⟩ = some (.int .u64 (l.getD 3 0)) := by rw [cell_of_block (heap2 w _ _).1, iv_get _ _ _ (by omega)]
      have c4 : ((w.alloc (.cells (iv .u64 l) 83)).alloc (.cells #[.int .i64 0, .int .i64 0, .int .i64 0, .int .u64 0] 126)).cell? ⟨w.heap.size, 4, none⟩ = some (.int .u64 (l.getD 4 0)) := by rw [cell_of_block (heap2 w _ _).1, iv_get _ _ _ (by omega)]
      have u1 : 0 ≤ l.getD 1 0 ∧ l.getD 1 0 ≤ 18446744073709551615 := by simpa using range_u64 hw 1
      have u2 : 0 ≤ l.getD 2 0 ∧ l.getD 2 0 ≤ 18446744073709551615 := by simpa using range_u64 hw 2
      have u3 : 0 ≤ l.getD 3 0 ∧ l.getD 3 0 ≤ 18446744073709551615 := by simpa using range_u64 hw 3
      have u4 : 0 ≤ l.getD 4 0 ∧ l.getD 4 0 ≤ 18446744073709551615 := by simpa using range_u64 hw 4
      generalize l.getD 1 0 = x1 at *
      generalize l.getD 2 0 = x2 at *
      generalize l.getD 3 0 = x3 at *
      generalize l.getD 4 0 = x4 at *
      clear hw
      go_enter Tryz.func172, Tryz.ntmps172
      go_wp2_with fail
      clear c1 c2 c3 c4 u1 u2 u3 u4
      rw [show (#[Value.int .i64 (wrap64 x1), .int .i64 (wrap64 x2), .int .i64 (wrap64 x3), .int .u64 x4] : Array Value) = rv s from (unhide RS).symm]
      refine (unhide LN _).mono ?_
      rintro e w1 ⟨rfl, hb1⟩
      have hsz : w.heap.size + 1 + 1 + 1 ≤ w1.heap.size := by have := hb1.size; simpa using this
      have K0 := hide ((hb1.block w.heap.size (by simp; omega)).trans (unhide G3 _ _ _).1)
      have K1 := hide ((hb1.block (w.heap.size + 1) (by simp)).trans (unhide G3 _ _ _).2.1)
      have K2 := hide ((hb1.block (w.heap.size + 1 + 1) (by simp)).trans (unhide G3 _ _ _).2.2)
      have Hb := hide ((unhide GB _ _ _).trans (hb1.mono (by simp; omega)))
      clear hb1 G0 G3 GB
      rw [zero4R] at K1
      have hL : (iv .u64 L).size = 8 := by rw [iv_size, unhide HL]
      have hst : ∀ (W : World) (C : Array Value), C.size = 8 → Sem.run Tryz.prog (storeCells ⟨W.heap.size, 0, none⟩ (iv .u64 L).toList) (W.alloc (.cells C 83)) = .ok () (W.alloc (.cells (iv .u64 L) 83)) :=
        fun W C hC => run_store_new _ _ rfl C _ _ (by rw [hC, hL]) (iv_one _ _)
      rw [unhide HE]
      have K0' := hide ((Below.heap_alloc w1 (.cells (iv .u64 L) 83) w.heap.size (by omega)).trans (unhide K0))
      have K1' := hide ((Below.heap_alloc w1 (.cells (iv .u64 L) 83) (w.heap.size + 1) (by omega)).trans (unhide K1))
      have K3' := hide (heap_new w1 (.cells (iv .u64 L) 83))
      have Hb' := hide ((unhide Hb).alloc (by omega) (.cells (iv .u64 L) 83))
      go_wp2_with (first | (refine wpList_load_row_g (by rfl) 83 (.tmp 5) rfl w1.heap.size rfl _ _ _ _ (unhide K3') Tryz.underlying83 rfl s8a ?_) | (refine wpList_load_row_g (by rfl) 83 (.tmp 1) rfl w.heap.size rfl _ _ _ _ (unhide K0') Tryz.underlying83 rfl s8b ?_) | (refine wpList_neqA (by rfl) 83 83 (.tmp 27) (.tmp 28) rfl (iv .u64 L) (iv .u64 l) rfl rfl line_guard2 _ (unhide EQ) ?_) | (refine wpList_build0 rfl 126 rfl _ build4R ?_) | (refine wpList_store_row rfl 126 _ _ rfl (w.heap.size + 1) (rv zr) rfl rfl _ _ (unhide K1') s4 rfl (rv_one _) ?_))
      refine bodyPost_ret (v := .tuple #[.agg (rv zr), .bool false]) (results_two Tryz.results172 _ _ (w.heap.size + 1) 126 (rv zr) (0, 0) _ _ rfl rfl (setRow_heap _ _ _ _ _ _ (unhide K1')) Tryz.underlying126 rfl s4) rfl ?_
      exact ⟨rfl, below_row (unhide Hb') (by omega) _⟩

end Go.Proofs.YtiafhcgaikapcaaGreat
