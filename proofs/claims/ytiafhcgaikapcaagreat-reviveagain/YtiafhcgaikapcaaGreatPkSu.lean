import Derived.Test.YtiafhcgaikapcaaGreatPkCs
import Derived.Test.YtiafhcgaikapcaaGreatPkCr
import Derived.Test.YtiafhcgaikapcaaGreatPkNvm

/-
  super's Line, Read and Best, and the document's: what each call returns for whatever superblock, whatever lines; nothing that was there turns.
-/
namespace Go.Proofs.YtiafhcgaikapcaaGreat
open Go.ChangeShapes Go.WideShapes Go.ChangeAt Go.RowKit Go.Joins
set_option maxRecDepth 10000
set_option linter.unusedVariables false
set_option linter.unusedSimpArgs false

theorem iv_new (k : IntKind) (zs : List Int) (n : Nat) (h : zs.length = n) (T : TypeId) : ∀ (W : World) (C : Array Value), C.size = n → Sem.run Tryz.prog (storeCells ⟨W.heap.size, 0, none⟩ (iv k zs).toList) (W.alloc (.cells C T)) = .ok () (W.alloc (.cells (iv k zs) T)) :=
  fun W C hC => run_store_new _ _ rfl C _ _ (by rw [hC, iv_size, h]) (iv_one _ _)
theorem eight (g r q c : Int) : ((1 ≤ g ∧ g ≤ 1099511627776) ∧ (0 ≤ r ∧ r < 1024) ∧ (0 ≤ q ∧ q ≤ 1099511627776) ∧ 1 ≤ c ∧ c ≤ 8) ∨ (¬ 1 ≤ g) ∨ (1 ≤ g ∧ ¬ g ≤ 1099511627776) ∨ ((1 ≤ g ∧ g ≤ 1099511627776) ∧ ¬ 0 ≤ r) ∨ ((1 ≤ g ∧ g ≤ 1099511627776) ∧ 0 ≤ r ∧ ¬ r < 1024) ∨
    ((1 ≤ g ∧ g ≤ 1099511627776) ∧ (0 ≤ r ∧ r < 1024) ∧ ¬ 0 ≤ q) ∨ ((1 ≤ g ∧ g ≤ 1099511627776) ∧ (0 ≤ r ∧ r < 1024) ∧ 0 ≤ q ∧ ¬ q ≤ 1099511627776) ∨ ((1 ≤ g ∧ g ≤ 1099511627776) ∧ (0 ≤ r ∧ r < 1024) ∧ (0 ≤ q ∧ q ≤ 1099511627776) ∧ ¬ 1 ≤ c) ∨
    ((1 ≤ g ∧ g ≤ 1099511627776) ∧ (0 ≤ r ∧ r < 1024) ∧ (0 ≤ q ∧ q ≤ 1099511627776) ∧ 1 ≤ c ∧ ¬ c ≤ 8) := by omega

theorem may4 (g r q c : Int) (w : World) : Calls Tryz.prog 193 #[.agg #[.int .i64 g, .int .i64 r, .int .i64 q, .int .i64 c]] w fun e w' => e = .returned (.bool (mayS [g, r, q, c])) ∧ Below w.heap.size w w' := by
  go_enter Tryz.func193, Tryz.ntmps193
  rcases eight g r q c with ⟨⟨h0, h1⟩, ⟨h2, h3⟩, ⟨h4, h5⟩, h6, h7⟩ | h0 | ⟨h0, h1⟩ | ⟨⟨h0, h1⟩, h2⟩ | ⟨⟨h0, h1⟩, h2, h3⟩ | ⟨⟨h0, h1⟩, ⟨h2, h3⟩, h4⟩ | ⟨⟨h0, h1⟩, ⟨h2, h3⟩, h4, h5⟩ | ⟨⟨h0, h1⟩, ⟨h2, h3⟩, ⟨h4, h5⟩, h6⟩ | ⟨⟨h0, h1⟩, ⟨h2, h3⟩, ⟨h4, h5⟩, h6, h7⟩
  all_goals
    go_wp2_with fail
    go_ret
    first
    | have e : mayS [g, r, q, c] = true := by simp [mayS]; omega
      rw [e]
      exact ⟨rfl, (Below.refl _ _).alloc (Nat.le_refl _) _⟩
    | have e : mayS [g, r, q, c] = false := by simp [mayS]; omega
      rw [e]
      exact ⟨rfl, (Below.refl _ _).alloc (Nat.le_refl _) _⟩

theorem seal_raw (s : List Int) (hm : mayS s = true) (cs : Array Value) (hcs : cs = iv .u64 (rawS s)) (W : World) : Calls Tryz.prog 176 #[.agg cs] W fun e w' => e = .returned (.agg (iv .u64 (lineS s))) ∧ Below W.heap.size W w' := by
  subst hcs; exact seal_any (rawS s) rfl (rawS_wf s hm) W
theorem zero8 : (#[.int .u64 0, .int .u64 0, .int .u64 0, .int .u64 0, .int .u64 0, .int .u64 0, .int .u64 0, .int .u64 0] : Array Value) = iv .u64 zs8 := rfl
theorem zero4 : (#[.int .i64 0, .int .i64 0, .int .i64 0, .int .i64 0] : Array Value) = iv .i64 zs4 := rfl
theorem build8 : Tryz.prog.built 83 [] = some (iv .u64 zs8) := by kernel_rfl
theorem build4 : Tryz.prog.built 49 [] = some (iv .i64 zs4) := by kernel_rfl

theorem line4 (g r q c : Int) (w : World) : Calls Tryz.prog 165 #[.agg #[.int .i64 g, .int .i64 r, .int .i64 q, .int .i64 c]] w fun e w' => e = .returned (.tuple #[.agg (iv .u64 (lineV [g, r, q, c])), .int .i64 (lineE [g, r, q, c])]) ∧ Below w.heap.size w w' := by
  have M := hide (may4 g r q c)
  have G0 := hide (fun B : Obj => heap2 w (.cells #[.int .i64 g, .int .i64 r, .int .i64 q, .int .i64 c] 49) B)
  have s8 : (Tryz.prog.info? 83).map (·.size) = some (iv .u64 (lineV [g, r, q, c])).size := by rw [iv_size, lineV_len]; exact size8
  cases hm : mayS [g, r, q, c] with
  | false =>
    have eL : lineV [g, r, q, c] = zs8 := by simp [lineV, hm]
    have eE : lineE [g, r, q, c] = 1 := by simp [lineE, hm]
    rw [eL] at s8
    rw [eL, eE]
    rw [hm] at M
    clear hm eL eE
    go_enter Tryz.func165, Tryz.ntmps165
    go_wp2_with fail
    refine (unhide M _).mono ?_
    rintro e w1 ⟨rfl, hb1⟩
    have hsz : w.heap.size + 1 + 1 ≤ w1.heap.size := by have := hb1.size; simpa using this
    have K0 := hide ((hb1.block w.heap.size (by simp; omega)).trans (unhide G0 _).1)
    have K1 := hide ((hb1.block (w.heap.size + 1) (by simp)).trans (unhide G0 _).2)
    have Hb := hide ((below_alloc2 w _ _).trans (hb1.mono (by simp; omega)))
    clear hb1 G0
    rw [zero8] at K1
    go_wp2_with (first | (refine wpList_build0 rfl 83 rfl _ build8 ?_) | (refine wpList_store_row rfl 83 _ _ rfl (w.heap.size + 1) (iv .u64 zs8) rfl rfl _ _ (unhide K1) s8 rfl (iv_one _ _) ?_))
    refine bodyPost_ret (v := .tuple #[.agg (iv .u64 zs8), .int .i64 1]) (results_two Tryz.results165 _ _ (w.heap.size + 1) 83 (iv .u64 zs8) (0, 0) _ _ rfl rfl (setRow_heap _ _ _ _ _ _ (unhide K1)) Tryz.underlying83 rfl s8) rfl ?_
    exact ⟨rfl, below_row (unhide Hb) (by omega) _⟩
  | true =>
    have eL : lineV [g, r, q, c] = lineS [g, r, q, c] := by simp [lineV, hm]
    have eE : lineE [g, r, q, c] = 0 := by simp [lineE, hm]
    rw [eL] at s8
    rw [eL, eE]
    rw [hm] at M
    have S := hide (seal_raw [g, r, q, c] hm)
    have hq := (mayS_iff [g, r, q, c]).1 hm
    obtain ⟨h0, h1, h2, h3, h4, h5, h6, h7⟩ : 1 ≤ g ∧ g ≤ 1099511627776 ∧ 0 ≤ r ∧ r < 1024 ∧ 0 ≤ q ∧ q ≤ 1099511627776 ∧ 1 ≤ c ∧ c ≤ 8 := by simpa using hq
    clear eL eE hq hm
    go_enter Tryz.func165, Tryz.ntmps165
    go_wp2_with fail
    refine (unhide M _).mono ?_
    rintro e w1 ⟨rfl, hb1⟩
    have hsz : w.heap.size + 1 + 1 ≤ w1.heap.size := by have := hb1.size; simpa using this
    have K0 := hide ((hb1.block w.heap.size (by simp; omega)).trans (unhide G0 _).1)
    have K1 := hide ((hb1.block (w.heap.size + 1) (by simp)).trans (unhide G0 _).2)
    have Hb := hide ((below_alloc2 w _ _).trans (hb1.mono (by simp; omega)))
    clear hb1 G0
    rw [zero8] at K1
    have c0 : w1.cell? ⟨w.heap.size, 0, none⟩ = some (.int .i64 g) := by rw [cell_of_block (unhide K0)]; rfl
    have c1 : w1.cell? ⟨w.heap.size, 1, none⟩ = some (.int .i64 r) := by rw [cell_of_block (unhide K0)]; rfl
    have c2 : w1.cell? ⟨w.heap.size, 2, none⟩ = some (.int .i64 q) := by rw [cell_of_block (unhide K0)]; rfl
    have c3 : w1.cell? ⟨w.heap.size, 3, none⟩ = some (.int .i64 c) := by rw [cell_of_block (unhide K0)]; rfl
    go_wp2_with fail
    refine (unhide S _ (by first | rfl | (show _ = _; simp [iv, rawS])) _).mono ?_
    rintro e w2 ⟨rfl, hb2⟩
    have K2 := hide ((hb2.block (w.heap.size + 1) (by omega)).trans (unhide K1))
    have Hb2 := hide ((unhide Hb).trans (hb2.mono (by omega)))
    clear hb2 c0 c1 c2 c3 K0 K1 Hb
    go_wp2_with (refine wpList_store_row rfl 83 _ _ rfl (w.heap.size + 1) (iv .u64 (lineS [g, r, q, c])) rfl rfl _ _ (unhide K2) s8 (by rw [iv_size, iv_size, lineS_len]; rfl) (iv_one _ _) ?_)
    refine bodyPost_ret (v := .tuple #[.agg (iv .u64 (lineS [g, r, q, c])), .int .i64 0]) (results_two Tryz.results165 _ _ (w.heap.size + 1) 83 (iv .u64 (lineS [g, r, q, c])) (0, 0) _ _ rfl rfl (setRow_heap _ _ _ _ _ _ (unhide K2)) Tryz.underlying83 rfl s8) rfl ?_
    exact ⟨rfl, below_row (unhide Hb2) (by omega) _⟩

theorem rseal_raw (s : List Int) (hm : mayS s = true) (cs : Array Value) (hcs : cs = iv .u64 (rawS s)) (W : World) : Calls Tryz.prog 130 #[.agg cs] W fun e w' => e = .returned (.agg (iv .u64 (lineS s))) ∧ Below W.heap.size W w' := by
  subst hcs; exact rseal_any (rawS s) rfl (rawS_wf s hm) W
set_option maxHeartbeats 4000000 in
theorem rline4 (g r q c : Int) (w : World) : Calls Tryz.prog 167 #[.agg #[.int .i64 g, .int .i64 r, .int .i64 q, .int .i64 c]] w fun e w' => e = .returned (.tuple #[.agg (iv .u64 (lineV [g, r, q, c])), .int .i64 (lineE [g, r, q, c])]) ∧ Below w.heap.size w w' := by
  have G0 := hide (fun B : Obj => heap2 w (.cells #[.int .i64 g, .int .i64 r, .int .i64 q, .int .i64 c] 49) B)
  have s8 : (Tryz.prog.info? 83).map (·.size) = some (iv .u64 (lineV [g, r, q, c])).size := by rw [iv_size, lineV_len]; exact size8
  have Hb := hide (fun A B : Obj => below_alloc2 w A B)
  rcases eight g r q c with ⟨⟨h0, h1⟩, ⟨h2, h3⟩, ⟨h4, h5⟩, h6, h7⟩ | h0 | ⟨h0, h1⟩ | ⟨⟨h0, h1⟩, h2⟩ | ⟨⟨h0, h1⟩, h2, h3⟩ | ⟨⟨h0, h1⟩, ⟨h2, h3⟩, h4⟩ | ⟨⟨h0, h1⟩, ⟨h2, h3⟩, h4, h5⟩ | ⟨⟨h0, h1⟩, ⟨h2, h3⟩, ⟨h4, h5⟩, h6⟩ | ⟨⟨h0, h1⟩, ⟨h2, h3⟩, ⟨h4, h5⟩, h6, h7⟩
  · have hm : mayS [g, r, q, c] = true := by simp [mayS]; omega
    have eL : lineV [g, r, q, c] = lineS [g, r, q, c] := by simp [lineV, hm]
    have eE : lineE [g, r, q, c] = 0 := by simp [lineE, hm]
    rw [eL] at s8
    rw [eL, eE]
    have S := hide (rseal_raw [g, r, q, c] hm)
    clear eL eE hm
    go_enter Tryz.func167, Tryz.ntmps167
    go_wp2_with fail
    refine (unhide S _ (by first | rfl | (show _ = _; simp [iv, rawS])) _).mono ?_
    rintro e w2 ⟨rfl, hb2⟩
    have K2 := hide ((hb2.block (w.heap.size + 1) (by simp)).trans (unhide G0 _).2)
    have Hb2 := hide ((unhide Hb _ _).trans (hb2.mono (by simp; omega)))
    clear hb2 G0 Hb
    rw [zero8] at K2
    go_wp2_with (refine wpList_store_row rfl 83 _ _ rfl (w.heap.size + 1) (iv .u64 (lineS [g, r, q, c])) rfl rfl _ _ (unhide K2) s8 (by rw [iv_size, iv_size, lineS_len]; rfl) (iv_one _ _) ?_)
    refine bodyPost_ret (v := .tuple #[.agg (iv .u64 (lineS [g, r, q, c])), .int .i64 0]) (results_two Tryz.results167 _ _ (w.heap.size + 1) 83 (iv .u64 (lineS [g, r, q, c])) (0, 0) _ _ rfl rfl (setRow_heap _ _ _ _ _ _ (unhide K2)) Tryz.underlying83 rfl s8) rfl ?_
    exact ⟨rfl, below_row (unhide Hb2) (by omega) _⟩
  all_goals
    have hm : mayS [g, r, q, c] = false := by simp [mayS]; omega
    have eL : lineV [g, r, q, c] = zs8 := by simp [lineV, hm]
    have eE : lineE [g, r, q, c] = 1 := by simp [lineE, hm]
    rw [eL] at s8
    rw [eL, eE]
    clear hm eL eE
    go_enter Tryz.func167, Tryz.ntmps167
    go_wp2_with (first | (refine wpList_build0 rfl 83 rfl _ build8 ?_) | (refine wpList_store_row rfl 83 _ _ rfl (w.heap.size + 1) (iv .u64 zs8) rfl rfl _ _ (unhide G0 _).2 s8 rfl (iv_one _ _) ?_))
    refine bodyPost_ret (v := .tuple #[.agg (iv .u64 zs8), .int .i64 1]) (results_two Tryz.results167 _ _ (w.heap.size + 1) 83 (iv .u64 zs8) (0, 0) _ _ rfl rfl (setRow_heap _ _ _ _ _ _ (unhide G0 _).2) Tryz.underlying83 rfl s8) rfl ?_
    exact ⟨rfl, below_row (unhide Hb _ _) (by omega) _⟩

theorem line_any (s : List Int) (hl : s.length = 4) (w : World) : Calls Tryz.prog 165 #[.agg (iv .i64 s)] w fun e w' => e = .returned (.tuple #[.agg (iv .u64 (lineV s)), .int .i64 (lineE s)]) ∧ Below w.heap.size w w' := by
  match s, hl with
  | [g, r, q, c], _ => exact line4 g r q c w
theorem rline_any (s : List Int) (hl : s.length = 4) (w : World) : Calls Tryz.prog 167 #[.agg (iv .i64 s)] w fun e w' => e = .returned (.tuple #[.agg (iv .u64 (lineV s)), .int .i64 (lineE s)]) ∧ Below w.heap.size w w' := by
  match s, hl with
  | [g, r, q, c], _ => exact rline4 g r q c w

/-! ### Read -/
theorem size4 : (Tryz.prog.info? 49).map (·.size) = some 4 := by kernel_rfl
theorem read_any (l : List Int) (hl : l.length = 8) (hw : ∀ z ∈ l, (Lit.int .u64 z).wf = true) (w : World) : Calls Tryz.prog 158 #[.agg (iv .u64 l)] w fun e w' => e = .returned (.tuple #[.agg (iv .i64 (readV l)), .bool (isS l)]) ∧ Below w.heap.size w w' := by
  obtain ⟨s, hs⟩ : ∃ s, s = readS l := ⟨_, rfl⟩
  obtain ⟨L, hLv⟩ : ∃ L, L = lineV s := ⟨_, rfl⟩
  obtain ⟨E, hE⟩ : ∃ E, E = lineE s := ⟨_, rfl⟩
  have LN : Hid (∀ w, Calls Tryz.prog 165 #[.agg (iv .i64 s)] w fun e w' => e = .returned (.tuple #[.agg (iv .u64 L), .int .i64 E]) ∧ Below w.heap.size w w') := fun w => by rw [hLv, hE]; exact line_any s (by rw [hs]; rfl) w
  have RS : Hid (iv .i64 s = #[Value.int .i64 (wrap64 (l.getD 1 0)), .int .i64 (wrap64 (l.getD 2 0)), .int .i64 (wrap64 (l.getD 3 0)), .int .i64 (wrap64 (l.getD 4 0))]) := by rw [hs]; rfl
  have HL : Hid (L.length = 8) := by rw [hLv]; exact lineV_len s
  cases hm : mayS s with
  | false =>
    have e1 : isS l = false := by simp [isS, ← hs, hm]
    have e2 : readV l = zs4 := by simp [readV, e1]
    have HE : Hid (E = 1) := hide (by rw [hE]; simp [lineE, hm])
    have s4 : (Tryz.prog.info? 49).map (·.size) = some (iv .i64 zs4).size := size4
    rw [e1, e2]
    clear e1 e2 hm hs hLv hE
    have G0 := hide (fun B : Obj => heap2 w (.cells (iv .u64 l) 83) B)
    have G3 := hide (fun A B C : Obj => heap3 w A B C)
    have GB := hide (fun A B C : Obj => below_alloc3 w A B C)
    have c1 : ((w.alloc (.cells (iv .u64 l) 83)).alloc (.cells #[.int .i64 0, .int .i64 0, .int .i64 0, .int .i64 0] 49)).cell? ⟨w.heap.size, 1, none⟩ = some (.int .u64 (l.getD 1 0)) := by rw [cell_of_block (heap2 w _ _).1, iv_get _ _ _ (by omega)]
    have c2 : ((w.alloc (.cells (iv .u64 l) 83)).alloc (.cells #[.int .i64 0, .int .i64 0, .int .i64 0, .int .i64 0] 49)).cell? ⟨w.heap.size, 2, none⟩ = some (.int .u64 (l.getD 2 0)) := by rw [cell_of_block (heap2 w _ _).1, iv_get _ _ _ (by omega)]
    have c3 : ((w.alloc (.cells (iv .u64 l) 83)).alloc (.cells #[.int .i64 0, .int .i64 0, .int .i64 0, .int .i64 0] 49)).cell? ⟨w.heap.size, 3, none⟩ = some (.int .u64 (l.getD 3 0)) := by rw [cell_of_block (heap2 w _ _).1, iv_get _ _ _ (by omega)]
    have c4 : ((w.alloc (.cells (iv .u64 l) 83)).alloc (.cells #[.int .i64 0, .int .i64 0, .int .i64 0, .int .i64 0] 49)).cell? ⟨w.heap.size, 4, none⟩ = some (.int .u64 (l.getD 4 0)) := by rw [cell_of_block (heap2 w _ _).1, iv_get _ _ _ (by omega)]
    have u1 : 0 ≤ l.getD 1 0 ∧ l.getD 1 0 ≤ 18446744073709551615 := by simpa using range_u64 hw 1
    have u2 : 0 ≤ l.getD 2 0 ∧ l.getD 2 0 ≤ 18446744073709551615 := by simpa using range_u64 hw 2
    have u3 : 0 ≤ l.getD 3 0 ∧ l.getD 3 0 ≤ 18446744073709551615 := by simpa using range_u64 hw 3
    have u4 : 0 ≤ l.getD 4 0 ∧ l.getD 4 0 ≤ 18446744073709551615 := by simpa using range_u64 hw 4
    generalize l.getD 1 0 = x1 at *
    generalize l.getD 2 0 = x2 at *
    generalize l.getD 3 0 = x3 at *
    generalize l.getD 4 0 = x4 at *
    clear hw
    go_enter Tryz.func158, Tryz.ntmps158
    go_wp2_with fail
    clear c1 c2 c3 c4 u1 u2 u3 u4
    rw [show (#[Value.int .i64 (wrap64 x1), .int .i64 (wrap64 x2), .int .i64 (wrap64 x3), .int .i64 (wrap64 x4)] : Array Value) = iv .i64 s from (unhide RS).symm]
    refine (unhide LN _).mono ?_
    rintro e w1 ⟨rfl, hb1⟩
    have hsz : w.heap.size + 1 + 1 + 1 ≤ w1.heap.size := by have := hb1.size; simpa using this
    have K0 := hide ((hb1.block w.heap.size (by simp; omega)).trans (unhide G3 _ _ _).1)
    have K1 := hide ((hb1.block (w.heap.size + 1) (by simp)).trans (unhide G3 _ _ _).2.1)
    have K2 := hide ((hb1.block (w.heap.size + 1 + 1) (by simp)).trans (unhide G3 _ _ _).2.2)
    have Hb := hide ((unhide GB _ _ _).trans (hb1.mono (by simp; omega)))
    clear hb1 G0 G3 GB
    rw [zero4] at K1
    have hL : (iv .u64 L).size = 8 := by rw [iv_size, unhide HL]
    have hst : ∀ (W : World) (C : Array Value), C.size = 8 → Sem.run Tryz.prog (storeCells ⟨W.heap.size, 0, none⟩ (iv .u64 L).toList) (W.alloc (.cells C 83)) = .ok () (W.alloc (.cells (iv .u64 L) 83)) :=
      fun W C hC => run_store_new _ _ rfl C _ _ (by rw [hC, hL]) (iv_one _ _)
    rw [unhide HE]
    have K1' := hide ((Below.heap_alloc w1 (.cells (iv .u64 L) 83) (w.heap.size + 1) (by omega)).trans (unhide K1))
    have Hb' := hide ((unhide Hb).alloc (by omega) (.cells (iv .u64 L) 83))
    go_wp2_with (first | (refine wpList_build0 rfl 49 rfl _ build4 ?_) | (refine wpList_store_row rfl 49 _ _ rfl (w.heap.size + 1) (iv .i64 zs4) rfl rfl _ _ (unhide K1') s4 rfl (iv_one _ _) ?_))
    refine bodyPost_ret (v := .tuple #[.agg (iv .i64 zs4), .bool false]) (results_two Tryz.results158 _ _ (w.heap.size + 1) 49 (iv .i64 zs4) (0, 0) _ _ rfl rfl (setRow_heap _ _ _ _ _ _ (unhide K1')) Tryz.underlying49 rfl s4) rfl ?_
    exact ⟨rfl, below_row (unhide Hb') (by omega) _⟩
  | true =>
    have HE : Hid (E = 0) := hide (by rw [hE]; simp [lineE, hm])
    have eL : L = lineS s := by rw [hLv]; simp [lineV, hm]
    have EQ : Hid (∀ w, (Op.equalIn 10000 83 (.agg (iv .u64 L)) (.agg (iv .u64 l))).run Tryz.prog w = .ok (decide (L = l)) w) := fun w => equal_line L l (unhide HL) hl w
    have s8a : (Tryz.prog.info? 83).map (·.size) = some (iv .u64 L).size := by rw [iv_size, unhide HL]; exact size8
    have s8b : (Tryz.prog.info? 83).map (·.size) = some (iv .u64 l).size := by rw [iv_size, hl]; exact size8
    by_cases hq : L = l
    · have e1 : isS l = true := by simp [isS, ← hs, hm, ← eL, hq]
      have e2 : readV l = s := by simp [readV, e1, hs]
      have s4 : (Tryz.prog.info? 49).map (·.size) = some (iv .i64 s).size := by rw [iv_size, hs]; exact size4
      have h4 : s.length = 4 := by rw [hs]; rfl
      have hd : decide (L = l) = true := by simpa using hq
      rw [hd] at EQ
      rw [e1, e2]
      clear e1 e2 hm hs hLv hE eL hq hd
      have G0 := hide (fun B : Obj => heap2 w (.cells (iv .u64 l) 83) B)
      have G3 := hide (fun A B C : Obj => heap3 w A B C)
      have GB := hide (fun A B C : Obj => below_alloc3 w A B C)
      have c1 : ((w.alloc (.cells (iv .u64 l) 83)).alloc (.cells #[.int .i64 0, .int .i64 0, .int .i64 0, .int .i64 0] 49)).cell? ⟨w.heap.size, 1, none⟩ = some (.int .u64 (l.getD 1 0)) := by rw [cell_of_block (heap2 w _ _).1, iv_get _ _ _ (by omega)]
      have c2 : ((w.alloc (.cells (iv .u64 l) 83)).alloc (.cells #[.int .i64 0, .int .i64 0, .int .i64 0, .int .i64 0] 49)).cell? ⟨w.heap.size, 2, none⟩ = some (.int .u64 (l.getD 2 0)) := by rw [cell_of_block (heap2 w _ _).1, iv_get _ _ _ (by omega)]
      have c3 : ((w.alloc (.cells (iv .u64 l) 83)).alloc (.cells #[.int .i64 0, .int .i64 0, .int .i64 0, .int .i64 0] 49)).cell? ⟨w.heap.size, 3, none⟩ = some (.int .u64 (l.getD 3 0)) := by rw [cell_of_block (heap2 w _ _).1, iv_get _ _ _ (by omega)]
      have c4 : ((w.alloc (.cells (iv .u64 l) 83)).alloc (.cells #[.int .i64 0, .int .i64 0, .int .i64 0, .int .i64 0] 49)).cell? ⟨w.heap.size, 4, none⟩ = some (.int .u64 (l.getD 4 0)) := by rw [cell_of_block (heap2 w _ _).1, iv_get _ _ _ (by omega)]
      have u1 : 0 ≤ l.getD 1 0 ∧ l.getD 1 0 ≤ 18446744073709551615 := by simpa using range_u64 hw 1
      have u2 : 0 ≤ l.getD 2 0 ∧ l.getD 2 0 ≤ 18446744073709551615 := by simpa using range_u64 hw 2
      have u3 : 0 ≤ l.getD 3 0 ∧ l.getD 3 0 ≤ 18446744073709551615 := by simpa using range_u64 hw 3
      have u4 : 0 ≤ l.getD 4 0 ∧ l.getD 4 0 ≤ 18446744073709551615 := by simpa using range_u64 hw 4
      generalize l.getD 1 0 = x1 at *
      generalize l.getD 2 0 = x2 at *
      generalize l.getD 3 0 = x3 at *
      generalize l.getD 4 0 = x4 at *
      clear hw
      go_enter Tryz.func158, Tryz.ntmps158
      go_wp2_with fail
      clear c1 c2 c3 c4 u1 u2 u3 u4
      rw [show (#[Value.int .i64 (wrap64 x1), .int .i64 (wrap64 x2), .int .i64 (wrap64 x3), .int .i64 (wrap64 x4)] : Array Value) = iv .i64 s from (unhide RS).symm]
      refine (unhide LN _).mono ?_
      rintro e w1 ⟨rfl, hb1⟩
      have hsz : w.heap.size + 1 + 1 + 1 ≤ w1.heap.size := by have := hb1.size; simpa using this
      have K0 := hide ((hb1.block w.heap.size (by simp; omega)).trans (unhide G3 _ _ _).1)
      have K1 := hide ((hb1.block (w.heap.size + 1) (by simp)).trans (unhide G3 _ _ _).2.1)
      have K2 := hide ((hb1.block (w.heap.size + 1 + 1) (by simp)).trans (unhide G3 _ _ _).2.2)
      have Hb := hide ((unhide GB _ _ _).trans (hb1.mono (by simp; omega)))
      clear hb1 G0 G3 GB
      rw [zero4] at K1
      have hL : (iv .u64 L).size = 8 := by rw [iv_size, unhide HL]
      have hst : ∀ (W : World) (C : Array Value), C.size = 8 → Sem.run Tryz.prog (storeCells ⟨W.heap.size, 0, none⟩ (iv .u64 L).toList) (W.alloc (.cells C 83)) = .ok () (W.alloc (.cells (iv .u64 L) 83)) :=
        fun W C hC => run_store_new _ _ rfl C _ _ (by rw [hC, hL]) (iv_one _ _)
      rw [unhide HE]
      have K0' := hide ((Below.heap_alloc w1 (.cells (iv .u64 L) 83) w.heap.size (by omega)).trans (unhide K0))
      have K1' := hide ((Below.heap_alloc w1 (.cells (iv .u64 L) 83) (w.heap.size + 1) (by omega)).trans (unhide K1))
      have K2' := hide ((Below.heap_alloc w1 (.cells (iv .u64 L) 83) (w.heap.size + 1 + 1) (by omega)).trans (unhide K2))
      have K3' := hide (heap_new w1 (.cells (iv .u64 L) 83))
      have Hb' := hide ((unhide Hb).alloc (by omega) (.cells (iv .u64 L) 83))
      go_wp2_with (first | (refine wpList_load_row_g (by rfl) 83 (.tmp 5) rfl w1.heap.size rfl _ _ _ _ (unhide K3') Tryz.underlying83 rfl s8a ?_) | (refine wpList_load_row_g (by rfl) 83 (.tmp 1) rfl w.heap.size rfl _ _ _ _ (unhide K0') Tryz.underlying83 rfl s8b ?_) | (refine wpList_neqA (by rfl) 83 83 (.tmp 28) (.tmp 29) rfl (iv .u64 L) (iv .u64 l) rfl rfl line_guard2 _ (unhide EQ) ?_) | (refine wpList_load_row rfl 49 _ rfl (w.heap.size + 1 + 1) rfl _ _ _ _ (unhide K2') Tryz.underlying49 rfl s4 ?_) | (refine wpList_store_row rfl 49 _ _ rfl (w.heap.size + 1) (iv .i64 s) rfl rfl _ _ (unhide K1') s4 (by rw [iv_size, iv_size, h4]; rfl) (iv_one _ _) ?_))
      refine bodyPost_ret (v := .tuple #[.agg (iv .i64 s), .bool true]) (results_two Tryz.results158 _ _ (w.heap.size + 1) 49 (iv .i64 s) (0, 0) _ _ rfl rfl (setRow_heap _ _ _ _ _ _ (unhide K1')) Tryz.underlying49 rfl s4) rfl ?_
      exact ⟨rfl, below_row (unhide Hb') (by omega) _⟩
    · have e1 : isS l = false := by simp [isS, ← hs, hm, ← eL, hq]
      have e2 : readV l = zs4 := by simp [readV, e1]
      have s4 : (Tryz.prog.info? 49).map (·.size) = some (iv .i64 zs4).size := size4
      have hd : decide (L = l) = false := by simpa using hq
      rw [hd] at EQ
      rw [e1, e2]
      clear e1 e2 hm hs hLv hE eL hq hd
      have G0 := hide (fun B : Obj => heap2 w (.cells (iv .u64 l) 83) B)
      have G3 := hide (fun A B C : Obj => heap3 w A B C)
      have GB := hide (fun A B C : Obj => below_alloc3 w A B C)
      have c1 : ((w.alloc (.cells (iv .u64 l) 83)).alloc (.cells #[.int .i64 0, .int .i64 0, .int .i64 0, .int .i64 0] 49)).cell? ⟨w.heap.size, 1, none⟩ = some (.int .u64 (l.getD 1 0)) := by rw [cell_of_block (heap2 w _ _).1, iv_get _ _ _ (by omega)]
      have c2 : ((w.alloc (.cells (iv .u64 l) 83)).alloc (.cells #[.int .i64 0, .int .i64 0, .int .i64 0, .int .i64 0] 49)).cell? ⟨w.heap.size, 2, none⟩ = some (.int .u64 (l.getD 2 0)) := by rw [cell_of_block (heap2 w _ _).1, iv_get _ _ _ (by omega)]
      have c3 : ((w.alloc (.cells (iv .u64 l) 83)).alloc (.cells #[.int .i64 0, .int .i64 0, .int .i64 0, .int .i64 0] 49)).cell? ⟨w.heap.size, 3, none⟩ = some (.int .u64 (l.getD 3 0)) := by rw [cell_of_block (heap2 w _ _).1, iv_get _ _ _ (by omega)]
      have c4 : ((w.alloc (.cells (iv .u64 l) 83)).alloc (.cells #[.int .i64 0, .int .i64 0, .int .i64 0, .int .i64 0] 49)).cell? ⟨w.heap.size, 4, none⟩ = some (.int .u64 (l.getD 4 0)) := by rw [cell_of_block (heap2 w _ _).1, iv_get _ _ _ (by omega)]
      have u1 : 0 ≤ l.getD 1 0 ∧ l.getD 1 0 ≤ 18446744073709551615 := by simpa using range_u64 hw 1
      have u2 : 0 ≤ l.getD 2 0 ∧ l.getD 2 0 ≤ 18446744073709551615 := by simpa using range_u64 hw 2
      have u3 : 0 ≤ l.getD 3 0 ∧ l.getD 3 0 ≤ 18446744073709551615 := by simpa using range_u64 hw 3
      have u4 : 0 ≤ l.getD 4 0 ∧ l.getD 4 0 ≤ 18446744073709551615 := by simpa using range_u64 hw 4
      generalize l.getD 1 0 = x1 at *
      generalize l.getD 2 0 = x2 at *
      generalize l.getD 3 0 = x3 at *
      generalize l.getD 4 0 = x4 at *
      clear hw
      go_enter Tryz.func158, Tryz.ntmps158
      go_wp2_with fail
      clear c1 c2 c3 c4 u1 u2 u3 u4
      rw [show (#[Value.int .i64 (wrap64 x1), .int .i64 (wrap64 x2), .int .i64 (wrap64 x3), .int .i64 (wrap64 x4)] : Array Value) = iv .i64 s from (unhide RS).symm]
      refine (unhide LN _).mono ?_
      rintro e w1 ⟨rfl, hb1⟩
      have hsz : w.heap.size + 1 + 1 + 1 ≤ w1.heap.size := by have := hb1.size; simpa using this
      have K0 := hide ((hb1.block w.heap.size (by simp; omega)).trans (unhide G3 _ _ _).1)
      have K1 := hide ((hb1.block (w.heap.size + 1) (by simp)).trans (unhide G3 _ _ _).2.1)
      have K2 := hide ((hb1.block (w.heap.size + 1 + 1) (by simp)).trans (unhide G3 _ _ _).2.2)
      have Hb := hide ((unhide GB _ _ _).trans (hb1.mono (by simp; omega)))
      clear hb1 G0 G3 GB
      rw [zero4] at K1
      have hL : (iv .u64 L).size = 8 := by rw [iv_size, unhide HL]
      have hst : ∀ (W : World) (C : Array Value), C.size = 8 → Sem.run Tryz.prog (storeCells ⟨W.heap.size, 0, none⟩ (iv .u64 L).toList) (W.alloc (.cells C 83)) = .ok () (W.alloc (.cells (iv .u64 L) 83)) :=
        fun W C hC => run_store_new _ _ rfl C _ _ (by rw [hC, hL]) (iv_one _ _)
      rw [unhide HE]
      have K0' := hide ((Below.heap_alloc w1 (.cells (iv .u64 L) 83) w.heap.size (by omega)).trans (unhide K0))
      have K1' := hide ((Below.heap_alloc w1 (.cells (iv .u64 L) 83) (w.heap.size + 1) (by omega)).trans (unhide K1))
      have K3' := hide (heap_new w1 (.cells (iv .u64 L) 83))
      have Hb' := hide ((unhide Hb).alloc (by omega) (.cells (iv .u64 L) 83))
      go_wp2_with (first | (refine wpList_load_row_g (by rfl) 83 (.tmp 5) rfl w1.heap.size rfl _ _ _ _ (unhide K3') Tryz.underlying83 rfl s8a ?_) | (refine wpList_load_row_g (by rfl) 83 (.tmp 1) rfl w.heap.size rfl _ _ _ _ (unhide K0') Tryz.underlying83 rfl s8b ?_) | (refine wpList_neqA (by rfl) 83 83 (.tmp 28) (.tmp 29) rfl (iv .u64 L) (iv .u64 l) rfl rfl line_guard2 _ (unhide EQ) ?_) | (refine wpList_build0 rfl 49 rfl _ build4 ?_) | (refine wpList_store_row rfl 49 _ _ rfl (w.heap.size + 1) (iv .i64 zs4) rfl rfl _ _ (unhide K1') s4 rfl (iv_one _ _) ?_))
      refine bodyPost_ret (v := .tuple #[.agg (iv .i64 zs4), .bool false]) (results_two Tryz.results158 _ _ (w.heap.size + 1) 49 (iv .i64 zs4) (0, 0) _ _ rfl rfl (setRow_heap _ _ _ _ _ _ (unhide K1')) Tryz.underlying49 rfl s4) rfl ?_
      exact ⟨rfl, below_row (unhide Hb') (by omega) _⟩
theorem rread_any (l : List Int) (hl : l.length = 8) (hw : ∀ z ∈ l, (Lit.int .u64 z).wf = true) (w : World) : Calls Tryz.prog 198 #[.agg (iv .u64 l)] w fun e w' => e = .returned (.tuple #[.agg (iv .i64 (readV l)), .bool (isS l)]) ∧ Below w.heap.size w w' := by
  obtain ⟨s, hs⟩ : ∃ s, s = readS l := ⟨_, rfl⟩
  obtain ⟨L, hLv⟩ : ∃ L, L = lineV s := ⟨_, rfl⟩
  obtain ⟨E, hE⟩ : ∃ E, E = lineE s := ⟨_, rfl⟩
  have LN : Hid (∀ w, Calls Tryz.prog 167 #[.agg (iv .i64 s)] w fun e w' => e = .returned (.tuple #[.agg (iv .u64 L), .int .i64 E]) ∧ Below w.heap.size w w') := fun w => by rw [hLv, hE]; exact rline_any s (by rw [hs]; rfl) w
  have RS : Hid (iv .i64 s = #[Value.int .i64 (wrap64 (l.getD 1 0)), .int .i64 (wrap64 (l.getD 2 0)), .int .i64 (wrap64 (l.getD 3 0)), .int .i64 (wrap64 (l.getD 4 0))]) := by rw [hs]; rfl
  have HL : Hid (L.length = 8) := by rw [hLv]; exact lineV_len s
  cases hm : mayS s with
  | false =>
    have e1 : isS l = false := by simp [isS, ← hs, hm]
    have e2 : readV l = zs4 := by simp [readV, e1]
    have HE : Hid (E = 1) := hide (by rw [hE]; simp [lineE, hm])
    have s4 : (Tryz.prog.info? 49).map (·.size) = some (iv .i64 zs4).size := size4
    rw [e1, e2]
    clear e1 e2 hm hs hLv hE
    have G0 := hide (fun B : Obj => heap2 w (.cells (iv .u64 l) 83) B)
    have G3 := hide (fun A B C : Obj => heap3 w A B C)
    have GB := hide (fun A B C : Obj => below_alloc3 w A B C)
    have c1 : ((w.alloc (.cells (iv .u64 l) 83)).alloc (.cells #[.int .i64 0, .int .i64 0, .int .i64 0, .int .i64 0] 49)).cell? ⟨w.heap.size, 1, none⟩ = some (.int .u64 (l.getD 1 0)) := by rw [cell_of_block (heap2 w _ _).1, iv_get _ _ _ (by omega)]
    have c2 : ((w.alloc (.cells (iv .u64 l) 83)).alloc (.cells #[.int .i64 0, .int .i64 0, .int .i64 0, .int .i64 0] 49)).cell? ⟨w.heap.size, 2, none⟩ = some (.int .u64 (l.getD 2 0)) := by rw [cell_of_block (heap2 w _ _).1, iv_get _ _ _ (by omega)]
    have c3 : ((w.alloc (.cells (iv .u64 l) 83)).alloc (.cells #[.int .i64 0, .int .i64 0, .int .i64 0, .int .i64 0] 49)).cell? ⟨w.heap.size, 3, none⟩ = some (.int .u64 (l.getD 3 0)) := by rw [cell_of_block (heap2 w _ _).1, iv_get _ _ _ (by omega)]
    have c4 : ((w.alloc (.cells (iv .u64 l) 83)).alloc (.cells #[.int .i64 0, .int .i64 0, .int .i64 0, .int .i64 0] 49)).cell? ⟨w.heap.size, 4, none⟩ = some (.int .u64 (l.getD 4 0)) := by rw [cell_of_block (heap2 w _ _).1, iv_get _ _ _ (by omega)]
    have u1 : 0 ≤ l.getD 1 0 ∧ l.getD 1 0 ≤ 18446744073709551615 := by simpa using range_u64 hw 1
    have u2 : 0 ≤ l.getD 2 0 ∧ l.getD 2 0 ≤ 18446744073709551615 := by simpa using range_u64 hw 2
    have u3 : 0 ≤ l.getD 3 0 ∧ l.getD 3 0 ≤ 18446744073709551615 := by simpa using range_u64 hw 3
    have u4 : 0 ≤ l.getD 4 0 ∧ l.getD 4 0 ≤ 18446744073709551615 := by simpa using range_u64 hw 4
    generalize l.getD 1 0 = x1 at *
    generalize l.getD 2 0 = x2 at *
    generalize l.getD 3 0 = x3 at *
    generalize l.getD 4 0 = x4 at *
    clear hw
    go_enter Tryz.func198, Tryz.ntmps198
    go_wp2_with fail
    clear c1 c2 c3 c4 u1 u2 u3 u4
    rw [show (#[Value.int .i64 (wrap64 x1), .int .i64 (wrap64 x2), .int .i64 (wrap64 x3), .int .i64 (wrap64 x4)] : Array Value) = iv .i64 s from (unhide RS).symm]
    refine (unhide LN _).mono ?_
    rintro e w1 ⟨rfl, hb1⟩
    have hsz : w.heap.size + 1 + 1 + 1 ≤ w1.heap.size := by have := hb1.size; simpa using this
    have K0 := hide ((hb1.block w.heap.size (by simp; omega)).trans (unhide G3 _ _ _).1)
    have K1 := hide ((hb1.block (w.heap.size + 1) (by simp)).trans (unhide G3 _ _ _).2.1)
    have K2 := hide ((hb1.block (w.heap.size + 1 + 1) (by simp)).trans (unhide G3 _ _ _).2.2)
    have Hb := hide ((unhide GB _ _ _).trans (hb1.mono (by simp; omega)))
    clear hb1 G0 G3 GB
    rw [zero4] at K1
    have hL : (iv .u64 L).size = 8 := by rw [iv_size, unhide HL]
    have hst : ∀ (W : World) (C : Array Value), C.size = 8 → Sem.run Tryz.prog (storeCells ⟨W.heap.size, 0, none⟩ (iv .u64 L).toList) (W.alloc (.cells C 83)) = .ok () (W.alloc (.cells (iv .u64 L) 83)) :=
      fun W C hC => run_store_new _ _ rfl C _ _ (by rw [hC, hL]) (iv_one _ _)
    rw [unhide HE]
    have K1' := hide ((Below.heap_alloc w1 (.cells (iv .u64 L) 83) (w.heap.size + 1) (by omega)).trans (unhide K1))
    have Hb' := hide ((unhide Hb).alloc (by omega) (.cells (iv .u64 L) 83))
    go_wp2_with (first | (refine wpList_build0 rfl 49 rfl _ build4 ?_) | (refine wpList_store_row rfl 49 _ _ rfl (w.heap.size + 1) (iv .i64 zs4) rfl rfl _ _ (unhide K1') s4 rfl (iv_one _ _) ?_))
    refine bodyPost_ret (v := .tuple #[.agg (iv .i64 zs4), .bool false]) (results_two Tryz.results198 _ _ (w.heap.size + 1) 49 (iv .i64 zs4) (0, 0) _ _ rfl rfl (setRow_heap _ _ _ _ _ _ (unhide K1')) Tryz.underlying49 rfl s4) rfl ?_
    exact ⟨rfl, below_row (unhide Hb') (by omega) _⟩
  | true =>
    have HE : Hid (E = 0) := hide (by rw [hE]; simp [lineE, hm])
    have eL : L = lineS s := by rw [hLv]; simp [lineV, hm]
    have EQ : Hid (∀ w, (Op.equalIn 10000 83 (.agg (iv .u64 L)) (.agg (iv .u64 l))).run Tryz.prog w = .ok (decide (L = l)) w) := fun w => equal_line L l (unhide HL) hl w
    have s8a : (Tryz.prog.info? 83).map (·.size) = some (iv .u64 L).size := by rw [iv_size, unhide HL]; exact size8
    have s8b : (Tryz.prog.info? 83).map (·.size) = some (iv .u64 l).size := by rw [iv_size, hl]; exact size8
    by_cases hq : L = l
    · have e1 : isS l = true := by simp [isS, ← hs, hm, ← eL, hq]
      have e2 : readV l = s := by simp [readV, e1, hs]
      have s4 : (Tryz.prog.info? 49).map (·.size) = some (iv .i64 s).size := by rw [iv_size, hs]; exact size4
      have h4 : s.length = 4 := by rw [hs]; rfl
      have hd : decide (L = l) = true := by simpa using hq
      rw [hd] at EQ
      rw [e1, e2]
      clear e1 e2 hm hs hLv hE eL hq hd
      have G0 := hide (fun B : Obj => heap2 w (.cells (iv .u64 l) 83) B)
      have G3 := hide (fun A B C : Obj => heap3 w A B C)
      have GB := hide (fun A B C : Obj => below_alloc3 w A B C)
      have c1 : ((w.alloc (.cells (iv .u64 l) 83)).alloc (.cells #[.int .i64 0, .int .i64 0, .int .i64 0, .int .i64 0] 49)).cell? ⟨w.heap.size, 1, none⟩ = some (.int .u64 (l.getD 1 0)) := by rw [cell_of_block (heap2 w _ _).1, iv_get _ _ _ (by omega)]
      have c2 : ((w.alloc (.cells (iv .u64 l) 83)).alloc (.cells #[.int .i64 0, .int .i64 0, .int .i64 0, .int .i64 0] 49)).cell? ⟨w.heap.size, 2, none⟩ = some (.int .u64 (l.getD 2 0)) := by rw [cell_of_block (heap2 w _ _).1, iv_get _ _ _ (by omega)]
      have c3 : ((w.alloc (.cells (iv .u64 l) 83)).alloc (.cells #[.int .i64 0, .int .i64 0, .int .i64 0, .int .i64 0] 49)).cell? ⟨w.heap.size, 3, none⟩ = some (.int .u64 (l.getD 3 0)) := by rw [cell_of_block (heap2 w _ _).1, iv_get _ _ _ (by omega)]
      have c4 : ((w.alloc (.cells (iv .u64 l) 83)).alloc (.cells #[.int .i64 0, .int .i64 0, .int .i64 0, .int .i64 0] 49)).cell? ⟨w.heap.size, 4, none⟩ = some (.int .u64 (l.getD 4 0)) := by rw [cell_of_block (heap2 w _ _).1, iv_get _ _ _ (by omega)]
      have u1 : 0 ≤ l.getD 1 0 ∧ l.getD 1 0 ≤ 18446744073709551615 := by simpa using range_u64 hw 1
      have u2 : 0 ≤ l.getD 2 0 ∧ l.getD 2 0 ≤ 18446744073709551615 := by simpa using range_u64 hw 2
      have u3 : 0 ≤ l.getD 3 0 ∧ l.getD 3 0 ≤ 18446744073709551615 := by simpa using range_u64 hw 3
      have u4 : 0 ≤ l.getD 4 0 ∧ l.getD 4 0 ≤ 18446744073709551615 := by simpa using range_u64 hw 4
      generalize l.getD 1 0 = x1 at *
      generalize l.getD 2 0 = x2 at *
      generalize l.getD 3 0 = x3 at *
      generalize l.getD 4 0 = x4 at *
      clear hw
      go_enter Tryz.func198, Tryz.ntmps198
      go_wp2_with fail
      clear c1 c2 c3 c4 u1 u2 u3 u4
      rw [show (#[Value.int .i64 (wrap64 x1), .int .i64 (wrap64 x2), .int .i64 (wrap64 x3), .int .i64 (wrap64 x4)] : Array Value) = iv .i64 s from (unhide RS).symm]
      refine (unhide LN _).mono ?_
      rintro e w1 ⟨rfl, hb1⟩
      have hsz : w.heap.size + 1 + 1 + 1 ≤ w1.heap.size := by have := hb1.size; simpa using this
      have K0 := hide ((hb1.block w.heap.size (by simp; omega)).trans (unhide G3 _ _ _).1)
      have K1 := hide ((hb1.block (w.heap.size + 1) (by simp)).trans (unhide G3 _ _ _).2.1)
      have K2 := hide ((hb1.block (w.heap.size + 1 + 1) (by simp)).trans (unhide G3 _ _ _).2.2)
      have Hb := hide ((unhide GB _ _ _).trans (hb1.mono (by simp; omega)))
      clear hb1 G0 G3 GB
      rw [zero4] at K1
      have hL : (iv .u64 L).size = 8 := by rw [iv_size, unhide HL]
      have hst : ∀ (W : World) (C : Array Value), C.size = 8 → Sem.run Tryz.prog (storeCells ⟨W.heap.size, 0, none⟩ (iv .u64 L).toList) (W.alloc (.cells C 83)) = .ok () (W.alloc (.cells (iv .u64 L) 83)) :=
        fun W C hC => run_store_new _ _ rfl C _ _ (by rw [hC, hL]) (iv_one _ _)
      rw [unhide HE]
      have K0' := hide ((Below.heap_alloc w1 (.cells (iv .u64 L) 83) w.heap.size (by omega)).trans (unhide K0))
      have K1' := hide ((Below.heap_alloc w1 (.cells (iv .u64 L) 83) (w.heap.size + 1) (by omega)).trans (unhide K1))
      have K2' := hide ((Below.heap_alloc w1 (.cells (iv .u64 L) 83) (w.heap.size + 1 + 1) (by omega)).trans (unhide K2))
      have K3' := hide (heap_new w1 (.cells (iv .u64 L) 83))
      have Hb' := hide ((unhide Hb).alloc (by omega) (.cells (iv .u64 L) 83))
      go_wp2_with (first | (refine wpList_load_row_g (by rfl) 83 (.tmp 5) rfl w1.heap.size rfl _ _ _ _ (unhide K3') Tryz.underlying83 rfl s8a ?_) | (refine wpList_load_row_g (by rfl) 83 (.tmp 1) rfl w.heap.size rfl _ _ _ _ (unhide K0') Tryz.underlying83 rfl s8b ?_) | (refine wpList_neqA (by rfl) 83 83 (.tmp 28) (.tmp 29) rfl (iv .u64 L) (iv .u64 l) rfl rfl line_guard2 _ (unhide EQ) ?_) | (refine wpList_load_row rfl 49 _ rfl (w.heap.size + 1 + 1) rfl _ _ _ _ (unhide K2') Tryz.underlying49 rfl s4 ?_) | (refine wpList_store_row rfl 49 _ _ rfl (w.heap.size + 1) (iv .i64 s) rfl rfl _ _ (unhide K1') s4 (by rw [iv_size, iv_size, h4]; rfl) (iv_one _ _) ?_))
      refine bodyPost_ret (v := .tuple #[.agg (iv .i64 s), .bool true]) (results_two Tryz.results198 _ _ (w.heap.size + 1) 49 (iv .i64 s) (0, 0) _ _ rfl rfl (setRow_heap _ _ _ _ _ _ (unhide K1')) Tryz.underlying49 rfl s4) rfl ?_
      exact ⟨rfl, below_row (unhide Hb') (by omega) _⟩
    · have e1 : isS l = false := by simp [isS, ← hs, hm, ← eL, hq]
      have e2 : readV l = zs4 := by simp [readV, e1]
      have s4 : (Tryz.prog.info? 49).map (·.size) = some (iv .i64 zs4).size := size4
      have hd : decide (L = l) = false := by simpa using hq
      rw [hd] at EQ
      rw [e1, e2]
      clear e1 e2 hm hs hLv hE eL hq hd
      have G0 := hide (fun B : Obj => heap2 w (.cells (iv .u64 l) 83) B)
      have G3 := hide (fun A B C : Obj => heap3 w A B C)
      have GB := hide (fun A B C : Obj => below_alloc3 w A B C)
      have c1 : ((w.alloc (.cells (iv .u64 l) 83)).alloc (.cells #[.int .i64 0, .int .i64 0, .int .i64 0, .int .i64 0] 49)).cell? ⟨w.heap.size, 1, none⟩ = some (.int .u64 (l.getD 1 0)) := by rw [cell_of_block (heap2 w _ _).1, iv_get _ _ _ (by omega)]
      have c2 : ((w.alloc (.cells (iv .u64 l) 83)).alloc (.cells #[.int .i64 0, .int .i64 0, .int .i64 0, .int .i64 0] 49)).cell? ⟨w.heap.size, 2, none⟩ = some (.int .u64 (l.getD 2 0)) := by rw [cell_of_block (heap2 w _ _).1, iv_get _ _ _ (by omega)]
      have c3 : ((w.alloc (.cells (iv .u64 l) 83)).alloc (.cells #[.int .i64 0, .int .i64 0, .int .i64 0, .int .i64 0] 49)).cell? ⟨w.heap.size, 3, none⟩ = some (.int .u64 (l.getD 3 0)) := by rw [cell_of_block (heap2 w _ _).1, iv_get _ _ _ (by omega)]
      have c4 : ((w.alloc (.cells (iv .u64 l) 83)).alloc (.cells #[.int .i64 0, .int .i64 0, .int .i64 0, .int .i64 0] 49)).cell? ⟨w.heap.size, 4, none⟩ = some (.int .u64 (l.getD 4 0)) := by rw [cell_of_block (heap2 w _ _).1, iv_get _ _ _ (by omega)]
      have u1 : 0 ≤ l.getD 1 0 ∧ l.getD 1 0 ≤ 18446744073709551615 := by simpa using range_u64 hw 1
      have u2 : 0 ≤ l.getD 2 0 ∧ l.getD 2 0 ≤ 18446744073709551615 := by simpa using range_u64 hw 2
      have u3 : 0 ≤ l.getD 3 0 ∧ l.getD 3 0 ≤ 18446744073709551615 := by simpa using range_u64 hw 3
      have u4 : 0 ≤ l.getD 4 0 ∧ l.getD 4 0 ≤ 18446744073709551615 := by simpa using range_u64 hw 4
      generalize l.getD 1 0 = x1 at *
      generalize l.getD 2 0 = x2 at *
      generalize l.getD 3 0 = x3 at *
      generalize l.getD 4 0 = x4 at *
      clear hw
      go_enter Tryz.func198, Tryz.ntmps198
      go_wp2_with fail
      clear c1 c2 c3 c4 u1 u2 u3 u4
      rw [show (#[Value.int .i64 (wrap64 x1), .int .i64 (wrap64 x2), .int .i64 (wrap64 x3), .int .i64 (wrap64 x4)] : Array Value) = iv .i64 s from (unhide RS).symm]
      refine (unhide LN _).mono ?_
      rintro e w1 ⟨rfl, hb1⟩
      have hsz : w.heap.size + 1 + 1 + 1 ≤ w1.heap.size := by have := hb1.size; simpa using this
      have K0 := hide ((hb1.block w.heap.size (by simp; omega)).trans (unhide G3 _ _ _).1)
      have K1 := hide ((hb1.block (w.heap.size + 1) (by simp)).trans (unhide G3 _ _ _).2.1)
      have K2 := hide ((hb1.block (w.heap.size + 1 + 1) (by simp)).trans (unhide G3 _ _ _).2.2)
      have Hb := hide ((unhide GB _ _ _).trans (hb1.mono (by simp; omega)))
      clear hb1 G0 G3 GB
      rw [zero4] at K1
      have hL : (iv .u64 L).size = 8 := by rw [iv_size, unhide HL]
      have hst : ∀ (W : World) (C : Array Value), C.size = 8 → Sem.run Tryz.prog (storeCells ⟨W.heap.size, 0, none⟩ (iv .u64 L).toList) (W.alloc (.cells C 83)) = .ok () (W.alloc (.cells (iv .u64 L) 83)) :=
        fun W C hC => run_store_new _ _ rfl C _ _ (by rw [hC, hL]) (iv_one _ _)
      rw [unhide HE]
      have K0' := hide ((Below.heap_alloc w1 (.cells (iv .u64 L) 83) w.heap.size (by omega)).trans (unhide K0))
      have K1' := hide ((Below.heap_alloc w1 (.cells (iv .u64 L) 83) (w.heap.size + 1) (by omega)).trans (unhide K1))
      have K3' := hide (heap_new w1 (.cells (iv .u64 L) 83))
      have Hb' := hide ((unhide Hb).alloc (by omega) (.cells (iv .u64 L) 83))
      go_wp2_with (first | (refine wpList_load_row_g (by rfl) 83 (.tmp 5) rfl w1.heap.size rfl _ _ _ _ (unhide K3') Tryz.underlying83 rfl s8a ?_) | (refine wpList_load_row_g (by rfl) 83 (.tmp 1) rfl w.heap.size rfl _ _ _ _ (unhide K0') Tryz.underlying83 rfl s8b ?_) | (refine wpList_neqA (by rfl) 83 83 (.tmp 28) (.tmp 29) rfl (iv .u64 L) (iv .u64 l) rfl rfl line_guard2 _ (unhide EQ) ?_) | (refine wpList_build0 rfl 49 rfl _ build4 ?_) | (refine wpList_store_row rfl 49 _ _ rfl (w.heap.size + 1) (iv .i64 zs4) rfl rfl _ _ (unhide K1') s4 rfl (iv_one _ _) ?_))
      refine bodyPost_ret (v := .tuple #[.agg (iv .i64 zs4), .bool false]) (results_two Tryz.results198 _ _ (w.heap.size + 1) 49 (iv .i64 zs4) (0, 0) _ _ rfl rfl (setRow_heap _ _ _ _ _ _ (unhide K1')) Tryz.underlying49 rfl s4) rfl ?_
      exact ⟨rfl, below_row (unhide Hb') (by omega) _⟩

end Go.Proofs.YtiafhcgaikapcaaGreat


/-
  super's Best, and the document's: what it returns for whatever two lines; nothing that was there turns.
-/
namespace Go.Proofs.YtiafhcgaikapcaaGreat
open Go.ChangeShapes Go.WideShapes Go.ChangeAt Go.RowKit Go.Joins
set_option maxRecDepth 10000
set_option linter.unusedVariables false
set_option linter.unusedSimpArgs false

theorem results_three {fn : Func} {p u x : Tmp} {P : Program} {ty : TypeId} (h : fn.results = #[.cell p ty, .tmp u, .tmp x]) (tmps : Array Value) (w : World) (g : Nat) (t : TypeId) (cs : Array Value) (fr : Nat × Nat) (d : TypeDesc) (v v' : Value)
    (hp : tmps.getD p undef = .pointer (some ⟨g, 0, none⟩)) (hv : tmps.getD u undef = v) (hx : tmps.getD x undef = v') (hg : w.heap[g]? = some (.cells cs t fr))
    (hu : P.underlying ty = some d) (hd : (match d with | .struct _ | .array _ _ => true | _ => false) = true) (hi : (P.info? ty).map (·.size) = some cs.size) :
    (results fn tmps).run P w = .ok (.tuple #[.agg cs, v, v']) w := by
  have e : (results fn tmps).run P w = ((asAddr (tmps.getD p undef)).run P w).andThen fun a w₁ => ((loadVar ty a).run P w₁).andThen fun y w₂ => .ok (.tuple #[y, tmps.getD u undef, tmps.getD x undef]) w₂ := by
    simp only [results, h]
    simp [Sem.run_bind, Result.andThen]
  rw [e, hp, hv, hx]
  simp [asAddr, run_loadVar_row w g t ty cs fr d hg hu hd hi]

set_option maxHeartbeats 4000000 in
theorem best_parts (a b : List Int) (ha : a.length = 8) (hb : b.length = 8) (sa sb : List Int) (pa pb : Bool) (la : sa.length = 4) (lb : sb.length = 4) (w : World)
    (RA : Hid (∀ w, Calls Tryz.prog 158 #[.agg (iv .u64 a)] w fun e w' => e = .returned (.tuple #[.agg (iv .i64 sa), .bool pa]) ∧ Below w.heap.size w w'))
    (RB : Hid (∀ w, Calls Tryz.prog 158 #[.agg (iv .u64 b)] w fun e w' => e = .returned (.tuple #[.agg (iv .i64 sb), .bool pb]) ∧ Below w.heap.size w w'))
    (y : Bool) (hy : y = (pb && (!pa || decide (sb.getD 0 0 > sa.getD 0 0)))) :
    Calls Tryz.prog 101 #[.agg (iv .u64 a), .agg (iv .u64 b)] w fun e w' => e = .returned (.tuple #[.agg (iv .i64 (if y then sb else sa)), .int .i64 (if y then 1 else 0), .bool (if y then true else pa)]) ∧ Below w.heap.size w w' := by
  have G3 := hide (fun A B C : Obj => heap3 w A B C)
  have GB := hide (fun A B C : Obj => below_alloc3 w A B C)
  obtain ⟨SX, hSX⟩ : ∃ X, X = if y then sb else sa := ⟨_, rfl⟩
  obtain ⟨AX, hAX⟩ : ∃ X : Int, X = if y then 1 else 0 := ⟨_, rfl⟩
  obtain ⟨IX, hIX⟩ : ∃ X, X = if y then true else pa := ⟨_, rfl⟩
  have s8a : (Tryz.prog.info? 83).map (·.size) = some (iv .u64 a).size := by rw [iv_size, ha]; exact size8
  have s8b : (Tryz.prog.info? 83).map (·.size) = some (iv .u64 b).size := by rw [iv_size, hb]; exact size8
  have h4 : SX.length = 4 := by rw [hSX]; split <;> assumption
  have s4 : (Tryz.prog.info? 49).map (·.size) = some (iv .i64 SX).size := by rw [iv_size, h4]; exact size4
  rw [← hSX, ← hAX, ← hIX]
  have HSX := hide hSX
  have HAX := hide hAX
  have HIX := hide hIX
  have HY := hide hy
  clear hSX hAX hIX hy
  go_enter Tryz.func101, Tryz.ntmps101
  go_wp2_with (refine wpList_load_row rfl 83 _ rfl _ rfl _ _ _ _ (unhide G3 _ _ _).1 Tryz.underlying83 rfl s8a ?_)
  refine (unhide RA _).mono ?_
  rintro e w1 ⟨rfl, hb1⟩
  have hsz : w.heap.size + 1 + 1 + 1 ≤ w1.heap.size := by have := hb1.size; simpa using this
  have K0 := hide ((hb1.block (w.heap.size + 1) (by simp)).trans (unhide G3 _ _ _).2.1)
  have K1 := hide ((hb1.block (w.heap.size + 1 + 1) (by simp)).trans (unhide G3 _ _ _).2.2)
  have Hb := hide ((unhide GB _ _ _).trans (hb1.mono (by simp; omega)))
  clear hb1 G3 GB RA
  rw [zero4] at K1
  have hla : (iv .i64 sa).size = 4 := by rw [iv_size, la]
  have hlb : (iv .i64 sb).size = 4 := by rw [iv_size, lb]
  obtain ⟨B, hB⟩ : ∃ B, B = w.heap.size := ⟨_, rfl⟩
  rw [← hB] at hsz K0 K1 ⊢
  have HB := hide hB
  clear hB
  have hst : ∀ (W : World) (C : Array Value), C.size = 4 → Sem.run Tryz.prog (storeCells ⟨W.heap.size, 0, none⟩ (iv .i64 sa).toList) (W.alloc (.cells C 49)) = .ok () (W.alloc (.cells (iv .i64 sa) 49)) :=
    fun W C hC => run_store_new _ _ rfl C _ _ (by rw [hC, hla]) (iv_one _ _)
  have L0 := hide ((Below.heap_alloc w1 (.cells (iv .i64 sa) 49) (B + 1) (by omega)).trans (unhide K0))
  have L1 := hide ((Below.heap_alloc w1 (.cells (iv .i64 sa) 49) (B + 1 + 1) (by omega)).trans (unhide K1))
  have L2 := hide (heap_new w1 (.cells (iv .i64 sa) 49))
  have Hb2 := hide ((unhide Hb).alloc (by have := unhide HB; omega) (.cells (iv .i64 sa) 49))
  go_wp2_with (refine wpList_load_row rfl 83 _ rfl _ rfl _ _ _ _ (unhide L0) Tryz.underlying83 rfl s8b ?_)
  refine (unhide RB _).mono ?_
  rintro e w2 ⟨rfl, hb2⟩
  have hsz2 : w1.heap.size + 1 ≤ w2.heap.size := by have := hb2.size; simpa using this
  have M1 := hide ((hb2.block (B + 1 + 1) (by simp; omega)).trans (unhide L1))
  have M2 := hide ((hb2.block w1.heap.size (by simp)).trans (unhide L2))
  have Hb3 := hide ((unhide Hb2).trans (hb2.mono (by have := unhide HB; simp; omega)))
  obtain ⟨g7, hg7⟩ : ∃ g, g = w1.heap.size := ⟨_, rfl⟩
  rw [← hg7] at M2 hsz2 hsz ⊢
  clear hb2 L0 L1 L2 Hb2 K0 K1 Hb hst RB hg7
  clear w1
  have hst : ∀ (W : World) (C : Array Value), C.size = 4 → Sem.run Tryz.prog (storeCells ⟨W.heap.size, 0, none⟩ (iv .i64 sb).toList) (W.alloc (.cells C 49)) = .ok () (W.alloc (.cells (iv .i64 sb) 49)) :=
    fun W C hC => run_store_new _ _ rfl C _ _ (by rw [hC, hlb]) (iv_one _ _)
  have K2 := hide ((Below.heap_alloc w2 (.cells (iv .i64 sb) 49) (B + 1 + 1) (by omega)).trans (unhide M1))
  have K7 := hide ((Below.heap_alloc w2 (.cells (iv .i64 sb) 49) g7 (by omega)).trans (unhide M2))
  have K9 := hide (heap_new w2 (.cells (iv .i64 sb) 49))
  have Hb := hide ((unhide Hb3).alloc (by have := unhide HB; omega) (.cells (iv .i64 sb) 49))
  have c7 : (w2.alloc (.cells (iv .i64 sb) 49)).cell? ⟨g7, 0, none⟩ = some (.int .i64 (sa.getD 0 0)) := by rw [cell_of_block (unhide K7), iv_get _ _ _ (by omega)]
  have c9 : (w2.alloc (.cells (iv .i64 sb) 49)).cell? ⟨w2.heap.size, 0, none⟩ = some (.int .i64 (sb.getD 0 0)) := by rw [cell_of_block (unhide K9), iv_get _ _ _ (by omega)]
  clear Hb3 M1 M2
  have hy := unhide HY
  generalize sa.getD 0 0 = xa at *
  generalize sb.getD 0 0 = xb at *
  cases pb with
  | false =>
    obtain rfl : y = false := by simpa using hy
    obtain rfl : SX = sa := by simpa using unhide HSX
    obtain rfl : AX = 0 := by simpa using unhide HAX
    obtain rfl : IX = pa := by simpa using unhide HIX
    clear HSX HAX HIX HY hy
    have KX := K7
    go_wp2_with (first | (refine wpList_load_row rfl 49 _ rfl _ rfl _ _ _ _ (unhide KX) Tryz.underlying49 rfl s4 ?_) | (refine wpList_store_row rfl 49 _ _ rfl (B + 1 + 1) (iv .i64 SX) rfl rfl _ _ (unhide K2) s4 (by rw [iv_size, iv_size, h4]; rfl) (iv_one _ _) ?_))
    refine bodyPost_ret (v := .tuple #[.agg (iv .i64 SX), _, _]) (results_three Tryz.results101 _ _ (B + 1 + 1) 49 (iv .i64 SX) (0, 0) _ _ _ rfl rfl rfl (setRow_heap _ _ _ _ _ _ (unhide K2)) Tryz.underlying49 rfl s4) rfl ?_
    exact ⟨rfl, below_row (unhide Hb) (by rw [unhide HB]; omega) _⟩
  | true =>
    cases pa with
    | false =>
      obtain rfl : y = true := by simpa using hy
      obtain rfl : SX = sb := by simpa using unhide HSX
      obtain rfl : AX = 1 := by simpa using unhide HAX
      obtain rfl : IX = true := by simpa using unhide HIX
      clear HSX HAX HIX HY hy
      have KX := K9
      go_wp2_with (first | (refine wpList_load_row rfl 49 _ rfl _ rfl _ _ _ _ (unhide KX) Tryz.underlying49 rfl s4 ?_) | (refine wpList_store_row rfl 49 _ _ rfl (B + 1 + 1) (iv .i64 SX) rfl rfl _ _ (unhide K2) s4 (by rw [iv_size, iv_size, h4]; rfl) (iv_one _ _) ?_))
      refine bodyPost_ret (v := .tuple #[.agg (iv .i64 SX), _, _]) (results_three Tryz.results101 _ _ (B + 1 + 1) 49 (iv .i64 SX) (0, 0) _ _ _ rfl rfl rfl (setRow_heap _ _ _ _ _ _ (unhide K2)) Tryz.underlying49 rfl s4) rfl ?_
      exact ⟨rfl, below_row (unhide Hb) (by rw [unhide HB]; omega) _⟩
    | true =>
      by_cases hg : xb > xa
      · obtain rfl : y = true := by simpa [hg] using hy
        obtain rfl : SX = sb := by simpa using unhide HSX
        obtain rfl : AX = 1 := by simpa using unhide HAX
        obtain rfl : IX = true := by simpa using unhide HIX
        clear HSX HAX HIX HY hy
        have KX := K9
        go_wp2_with (first | (refine wpList_load_row rfl 49 _ rfl _ rfl _ _ _ _ (unhide KX) Tryz.underlying49 rfl s4 ?_) | (refine wpList_store_row rfl 49 _ _ rfl (B + 1 + 1) (iv .i64 SX) rfl rfl _ _ (unhide K2) s4 (by rw [iv_size, iv_size, h4]; rfl) (iv_one _ _) ?_))
        refine bodyPost_ret (v := .tuple #[.agg (iv .i64 SX), _, _]) (results_three Tryz.results101 _ _ (B + 1 + 1) 49 (iv .i64 SX) (0, 0) _ _ _ rfl rfl rfl (setRow_heap _ _ _ _ _ _ (unhide K2)) Tryz.underlying49 rfl s4) rfl ?_
        exact ⟨rfl, below_row (unhide Hb) (by rw [unhide HB]; omega) _⟩
      · obtain rfl : y = false := by rw [hy]; simpa using hg
        obtain rfl : SX = sa := by simpa using unhide HSX
        obtain rfl : AX = 0 := by simpa using unhide HAX
        obtain rfl : IX = true := by simpa using unhide HIX
        clear HSX HAX HIX HY hy
        have KX := K7
        go_wp2_with (first | (refine wpList_load_row rfl 49 _ rfl _ rfl _ _ _ _ (unhide KX) Tryz.underlying49 rfl s4 ?_) | (refine wpList_store_row rfl 49 _ _ rfl (B + 1 + 1) (iv .i64 SX) rfl rfl _ _ (unhide K2) s4 (by rw [iv_size, iv_size, h4]; rfl) (iv_one _ _) ?_))
        refine bodyPost_ret (v := .tuple #[.agg (iv .i64 SX), _, _]) (results_three Tryz.results101 _ _ (B + 1 + 1) 49 (iv .i64 SX) (0, 0) _ _ _ rfl rfl rfl (setRow_heap _ _ _ _ _ _ (unhide K2)) Tryz.underlying49 rfl s4) rfl ?_
        exact ⟨rfl, below_row (unhide Hb) (by rw [unhide HB]; omega) _⟩
theorem best_any (a b : List Int) (ha : a.length = 8 ∧ ∀ z ∈ a, (Lit.int .u64 z).wf = true) (hb : b.length = 8 ∧ ∀ z ∈ b, (Lit.int .u64 z).wf = true) (w : World) :
    Calls Tryz.prog 101 #[.agg (iv .u64 a), .agg (iv .u64 b)] w fun e w' => e = .returned (.tuple #[.agg (iv .i64 (bestV a b)), .int .i64 (bestAt a b), .bool (bestIs a b)]) ∧ Below w.heap.size w w' :=
  best_parts a b ha.1 hb.1 (readV a) (readV b) (isS a) (isS b) (readV_len a) (readV_len b) w (fun w => read_any a ha.1 ha.2 w) (fun w => read_any b hb.1 hb.2 w) (bestB a b) rfl
set_option maxHeartbeats 4000000 in
theorem rbest_parts (a b : List Int) (ha : a.length = 8) (hb : b.length = 8) (sa sb : List Int) (pa pb : Bool) (la : sa.length = 4) (lb : sb.length = 4) (w : World)
    (RA : Hid (∀ w, Calls Tryz.prog 198 #[.agg (iv .u64 a)] w fun e w' => e = .returned (.tuple #[.agg (iv .i64 sa), .bool pa]) ∧ Below w.heap.size w w'))
    (RB : Hid (∀ w, Calls Tryz.prog 198 #[.agg (iv .u64 b)] w fun e w' => e = .returned (.tuple #[.agg (iv .i64 sb), .bool pb]) ∧ Below w.heap.size w w'))
    (y : Bool) (hy : y = (pb && (!pa || decide (sb.getD 0 0 > sa.getD 0 0)))) :
    Calls Tryz.prog 169 #[.agg (iv .u64 a), .agg (iv .u64 b)] w fun e w' => e = .returned (.tuple #[.agg (iv .i64 (if y then sb else sa)), .int .i64 (if y then 1 else 0), .bool (if y then true else pa)]) ∧ Below w.heap.size w w' := by
  have G3 := hide (fun A B C : Obj => heap3 w A B C)
  have GB := hide (fun A B C : Obj => below_alloc3 w A B C)
  obtain ⟨SX, hSX⟩ : ∃ X, X = if y then sb else sa := ⟨_, rfl⟩
  obtain ⟨AX, hAX⟩ : ∃ X : Int, X = if y then 1 else 0 := ⟨_, rfl⟩
  obtain ⟨IX, hIX⟩ : ∃ X, X = if y then true else pa := ⟨_, rfl⟩
  have s8a : (Tryz.prog.info? 83).map (·.size) = some (iv .u64 a).size := by rw [iv_size, ha]; exact size8
  have s8b : (Tryz.prog.info? 83).map (·.size) = some (iv .u64 b).size := by rw [iv_size, hb]; exact size8
  have h4 : SX.length = 4 := by rw [hSX]; split <;> assumption
  have s4 : (Tryz.prog.info? 49).map (·.size) = some (iv .i64 SX).size := by rw [iv_size, h4]; exact size4
  rw [← hSX, ← hAX, ← hIX]
  have HSX := hide hSX
  have HAX := hide hAX
  have HIX := hide hIX
  have HY := hide hy
  clear hSX hAX hIX hy
  go_enter Tryz.func169, Tryz.ntmps169
  go_wp2_with (refine wpList_load_row rfl 83 _ rfl _ rfl _ _ _ _ (unhide G3 _ _ _).1 Tryz.underlying83 rfl s8a ?_)
  refine (unhide RA _).mono ?_
  rintro e w1 ⟨rfl, hb1⟩
  have hsz : w.heap.size + 1 + 1 + 1 ≤ w1.heap.size := by have := hb1.size; simpa using this
  have K0 := hide ((hb1.block (w.heap.size + 1) (by simp)).trans (unhide G3 _ _ _).2.1)
  have K1 := hide ((hb1.block (w.heap.size + 1 + 1) (by simp)).trans (unhide G3 _ _ _).2.2)
  have Hb := hide ((unhide GB _ _ _).trans (hb1.mono (by simp; omega)))
  clear hb1 G3 GB RA
  rw [zero4] at K1
  have hla : (iv .i64 sa).size = 4 := by rw [iv_size, la]
  have hlb : (iv .i64 sb).size = 4 := by rw [iv_size, lb]
  obtain ⟨B, hB⟩ : ∃ B, B = w.heap.size := ⟨_, rfl⟩
  rw [← hB] at hsz K0 K1 ⊢
  have HB := hide hB
  clear hB
  have hst : ∀ (W : World) (C : Array Value), C.size = 4 → Sem.run Tryz.prog (storeCells ⟨W.heap.size, 0, none⟩ (iv .i64 sa).toList) (W.alloc (.cells C 49)) = .ok () (W.alloc (.cells (iv .i64 sa) 49)) :=
    fun W C hC => run_store_new _ _ rfl C _ _ (by rw [hC, hla]) (iv_one _ _)
  have L0 := hide ((Below.heap_alloc w1 (.cells (iv .i64 sa) 49) (B + 1) (by omega)).trans (unhide K0))
  have L1 := hide ((Below.heap_alloc w1 (.cells (iv .i64 sa) 49) (B + 1 + 1) (by omega)).trans (unhide K1))
  have L2 := hide (heap_new w1 (.cells (iv .i64 sa) 49))
  have Hb2 := hide ((unhide Hb).alloc (by have := unhide HB; omega) (.cells (iv .i64 sa) 49))
  go_wp2_with (refine wpList_load_row rfl 83 _ rfl _ rfl _ _ _ _ (unhide L0) Tryz.underlying83 rfl s8b ?_)
  refine (unhide RB _).mono ?_
  rintro e w2 ⟨rfl, hb2⟩
  have hsz2 : w1.heap.size + 1 ≤ w2.heap.size := by have := hb2.size; simpa using this
  have M1 := hide ((hb2.block (B + 1 + 1) (by simp; omega)).trans (unhide L1))
  have M2 := hide ((hb2.block w1.heap.size (by simp)).trans (unhide L2))
  have Hb3 := hide ((unhide Hb2).trans (hb2.mono (by have := unhide HB; simp; omega)))
  obtain ⟨g7, hg7⟩ : ∃ g, g = w1.heap.size := ⟨_, rfl⟩
  rw [← hg7] at M2 hsz2 hsz ⊢
  clear hb2 L0 L1 L2 Hb2 K0 K1 Hb hst RB hg7
  clear w1
  have hst : ∀ (W : World) (C : Array Value), C.size = 4 → Sem.run Tryz.prog (storeCells ⟨W.heap.size, 0, none⟩ (iv .i64 sb).toList) (W.alloc (.cells C 49)) = .ok () (W.alloc (.cells (iv .i64 sb) 49)) :=
    fun W C hC => run_store_new _ _ rfl C _ _ (by rw [hC, hlb]) (iv_one _ _)
  have K2 := hide ((Below.heap_alloc w2 (.cells (iv .i64 sb) 49) (B + 1 + 1) (by omega)).trans (unhide M1))
  have K7 := hide ((Below.heap_alloc w2 (.cells (iv .i64 sb) 49) g7 (by omega)).trans (unhide M2))
  have K9 := hide (heap_new w2 (.cells (iv .i64 sb) 49))
  have Hb := hide ((unhide Hb3).alloc (by have := unhide HB; omega) (.cells (iv .i64 sb) 49))
  have c7 : (w2.alloc (.cells (iv .i64 sb) 49)).cell? ⟨g7, 0, none⟩ = some (.int .i64 (sa.getD 0 0)) := by rw [cell_of_block (unhide K7), iv_get _ _ _ (by omega)]
  have c9 : (w2.alloc (.cells (iv .i64 sb) 49)).cell? ⟨w2.heap.size, 0, none⟩ = some (.int .i64 (sb.getD 0 0)) := by rw [cell_of_block (unhide K9), iv_get _ _ _ (by omega)]
  clear Hb3 M1 M2
  have hy := unhide HY
  generalize sa.getD 0 0 = xa at *
  generalize sb.getD 0 0 = xb at *
  cases pb with
  | false =>
    obtain rfl : y = false := by simpa using hy
    obtain rfl : SX = sa := by simpa using unhide HSX
    obtain rfl : AX = 0 := by simpa using unhide HAX
    obtain rfl : IX = pa := by simpa using unhide HIX
    clear HSX HAX HIX HY hy
    have KX := K7
    go_wp2_with (first | (refine wpList_load_row rfl 49 _ rfl _ rfl _ _ _ _ (unhide KX) Tryz.underlying49 rfl s4 ?_) | (refine wpList_store_row rfl 49 _ _ rfl (B + 1 + 1) (iv .i64 SX) rfl rfl _ _ (unhide K2) s4 (by rw [iv_size, iv_size, h4]; rfl) (iv_one _ _) ?_))
    refine bodyPost_ret (v := .tuple #[.agg (iv .i64 SX), _, _]) (results_three Tryz.results169 _ _ (B + 1 + 1) 49 (iv .i64 SX) (0, 0) _ _ _ rfl rfl rfl (setRow_heap _ _ _ _ _ _ (unhide K2)) Tryz.underlying49 rfl s4) rfl ?_
    exact ⟨rfl, below_row (unhide Hb) (by rw [unhide HB]; omega) _⟩
  | true =>
    cases pa with
    | false =>
      obtain rfl : y = true := by simpa using hy
      obtain rfl : SX = sb := by simpa using unhide HSX
      obtain rfl : AX = 1 := by simpa using unhide HAX
      obtain rfl : IX = true := by simpa using unhide HIX
      clear HSX HAX HIX HY hy
      have KX := K9
      go_wp2_with (first | (refine wpList_load_row rfl 49 _ rfl _ rfl _ _ _ _ (unhide KX) Tryz.underlying49 rfl s4 ?_) | (refine wpList_store_row rfl 49 _ _ rfl (B + 1 + 1) (iv .i64 SX) rfl rfl _ _ (unhide K2) s4 (by rw [iv_size, iv_size, h4]; rfl) (iv_one _ _) ?_))
      refine bodyPost_ret (v := .tuple #[.agg (iv .i64 SX), _, _]) (results_three Tryz.results169 _ _ (B + 1 + 1) 49 (iv .i64 SX) (0, 0) _ _ _ rfl rfl rfl (setRow_heap _ _ _ _ _ _ (unhide K2)) Tryz.underlying49 rfl s4) rfl ?_
      exact ⟨rfl, below_row (unhide Hb) (by rw [unhide HB]; omega) _⟩
    | true =>
      by_cases hg : xb > xa
      · obtain rfl : y = true := by simpa [hg] using hy
        obtain rfl : SX = sb := by simpa using unhide HSX
        obtain rfl : AX = 1 := by simpa using unhide HAX
        obtain rfl : IX = true := by simpa using unhide HIX
        clear HSX HAX HIX HY hy
        have KX := K9
        go_wp2_with (first | (refine wpList_load_row rfl 49 _ rfl _ rfl _ _ _ _ (unhide KX) Tryz.underlying49 rfl s4 ?_) | (refine wpList_store_row rfl 49 _ _ rfl (B + 1 + 1) (iv .i64 SX) rfl rfl _ _ (unhide K2) s4 (by rw [iv_size, iv_size, h4]; rfl) (iv_one _ _) ?_))
        refine bodyPost_ret (v := .tuple #[.agg (iv .i64 SX), _, _]) (results_three Tryz.results169 _ _ (B + 1 + 1) 49 (iv .i64 SX) (0, 0) _ _ _ rfl rfl rfl (setRow_heap _ _ _ _ _ _ (unhide K2)) Tryz.underlying49 rfl s4) rfl ?_
        exact ⟨rfl, below_row (unhide Hb) (by rw [unhide HB]; omega) _⟩
      · obtain rfl : y = false := by rw [hy]; simpa using hg
        obtain rfl : SX = sa := by simpa using unhide HSX
        obtain rfl : AX = 0 := by simpa using unhide HAX
        obtain rfl : IX = true := by simpa using unhide HIX
        clear HSX HAX HIX HY hy
        have KX := K7
        go_wp2_with (first | (refine wpList_load_row rfl 49 _ rfl _ rfl _ _ _ _ (unhide KX) Tryz.underlying49 rfl s4 ?_) | (refine wpList_store_row rfl 49 _ _ rfl (B + 1 + 1) (iv .i64 SX) rfl rfl _ _ (unhide K2) s4 (by rw [iv_size, iv_size, h4]; rfl) (iv_one _ _) ?_))
        refine bodyPost_ret (v := .tuple #[.agg (iv .i64 SX), _, _]) (results_three Tryz.results169 _ _ (B + 1 + 1) 49 (iv .i64 SX) (0, 0) _ _ _ rfl rfl rfl (setRow_heap _ _ _ _ _ _ (unhide K2)) Tryz.underlying49 rfl s4) rfl ?_
        exact ⟨rfl, below_row (unhide Hb) (by rw [unhide HB]; omega) _⟩
theorem rbest_any (a b : List Int) (ha : a.length = 8 ∧ ∀ z ∈ a, (Lit.int .u64 z).wf = true) (hb : b.length = 8 ∧ ∀ z ∈ b, (Lit.int .u64 z).wf = true) (w : World) :
    Calls Tryz.prog 169 #[.agg (iv .u64 a), .agg (iv .u64 b)] w fun e w' => e = .returned (.tuple #[.agg (iv .i64 (bestV a b)), .int .i64 (bestAt a b), .bool (bestIs a b)]) ∧ Below w.heap.size w w' :=
  rbest_parts a b ha.1 hb.1 (readV a) (readV b) (isS a) (isS b) (readV_len a) (readV_len b) w (fun w => rread_any a ha.1 ha.2 w) (fun w => rread_any b hb.1 hb.2 w) (bestB a b) rfl

end Go.Proofs.YtiafhcgaikapcaaGreat


/-
  The document's examples, at the head of each statement of layer 5: they hold; nothing that was there turns.
-/
namespace Go.Proofs.YtiafhcgaikapcaaGreat
open Go.ChangeShapes Go.WideShapes Go.ChangeAt Go.RowKit Go.Joins
set_option maxRecDepth 10000
set_option linter.unusedVariables false
set_option linter.unusedSimpArgs false

theorem zs8_wf : ∀ z ∈ zs8, (Lit.int .u64 z).wf = true := by decide
theorem lineV_wf (s : List Int) : ∀ z ∈ lineV s, (Lit.int .u64 z).wf = true := by
  unfold lineV
  split
  · rename_i h; exact sealOf_wf _ (rawS_wf s h)
  · exact zs8_wf
theorem lineV_ok (s : List Int) : (lineV s).length = 8 ∧ ∀ z ∈ lineV s, (Lit.int .u64 z).wf = true := ⟨lineV_len s, lineV_wf s⟩
theorem lineV_may (s : List Int) (h : mayS s = true) : lineV s = lineS s := by simp [lineV, h]
theorem lineE_may (s : List Int) (h : mayS s = true) : lineE s = 0 := by simp [lineE, h]
/-- Which of two superblocks that may be counts. -/
theorem best_lines (s t : List Int) (hs : s.length = 4) (ht : t.length = 4) (hm : mayS s = true) (hn : mayS t = true) : bestB (lineV s) (lineV t) = decide (t.getD 0 0 > s.getD 0 0) := by
  unfold bestB
  rw [lineV_may s hm, lineV_may t hn, isS_line s hs hm, isS_line t ht hn, readV_line s hs hm, readV_line t ht hn]
  simp

end Go.Proofs.YtiafhcgaikapcaaGreat


/-
  A line stored to a memory, nought to its last word first, in plain mathematics: what is there behind it, whole or in part.
-/
namespace Go.Proofs.YtiafhcgaikapcaaGreat
open Go.ChangeShapes Go.WideShapes Go.ChangeAt Go.RowKit Go.Joins
set_option maxRecDepth 10000
set_option linter.unusedVariables false

def rowOf (f : Nat → Int) : List Int := (List.range 8).map f
theorem rowOf_len (f : Nat → Int) : (rowOf f).length = 8 := by simp [rowOf]
theorem lnV_iv (f : Nat → Int) : lnV f = iv .u64 (rowOf f) := by simp [lnV, tab, iv, rowOf]
theorem rowOf_get (f : Nat → Int) (i : Nat) (h : i < 8) : (rowOf f).getD i 0 = f i := by
  simp [rowOf, List.getD_eq_getElem?_getD, h]
theorem rowOf_wf (f : Nat → Int) (h : ∀ j, InU (f j)) : ∀ z ∈ rowOf f, (Lit.int .u64 z).wf = true := fun z hz => by
  simp only [rowOf, List.mem_map] at hz
  obtain ⟨j, _, rfl⟩ := hz
  have := h j
  unfold InU at this
  simp [Lit.wf, IntKind.min, IntKind.max, IntKind.signed, IntKind.bits]; omega

/-! ### Stores to one line, one behind the other -/
theorem store_on (A : Mm) (i q : Nat) (v : Int) : (A.store i q v).on = A.may := by
  unfold Mm.store Mm.step
  cases h : A.may
  · rfl
  · simp [Mm.stepped]
    simp [Mm.may] at h
    exact h.1
theorem step_still (A : Mm) (h : A.on = false) (l : Nat → Ln) : A.step l = A := by
  have : A.may = false := by simp [Mm.may, h]
  unfold Mm.step
  rw [this]
  cases A
  simp only at h
  subst h
  rfl
theorem store_err (A : Mm) (i q : Nat) (v : Int) : A.err = if (A.store i q v).on then 0 else 4 := by rw [store_on]; rfl
def Mm.puts (A : Mm) (k : Nat) (l : List Int) : Nat → Mm
  | 0 => A.store k 7 0
  | j + 1 => (A.puts k l j).store k j (l.getD j 0)
theorem puts_off (A : Mm) (k : Nat) (l : List Int) (j : Nat) (h : (A.puts k l j).on = false) : ∀ m, A.puts k l (j + m) = A.puts k l j
  | 0 => rfl
  | m + 1 => by
    show (A.puts k l (j + m)).store k (j + m) _ = _
    rw [puts_off A k l j h m]
    exact step_still _ h _
theorem puts_n (A : Mm) (k : Nat) (l : List Int) (j : Nat) : (A.puts k l j).n = A.n := by
  induction j with
  | zero => exact step_n _ _
  | succ j ih => exact (step_n _ _).trans ih
theorem ok_puts {A : Mm} {B : Nat} (h : A.ok B) (k : Nat) (l : List Int) (hl : ∀ j, InU (l.getD j 0)) : ∀ j, j ≤ 8 → (A.puts k l j).ok (B + 1 + j)
  | 0, _ => ok_store h k 7 0 (by decide) ⟨by decide, by decide⟩
  | j + 1, hj => ok_store (ok_puts h k l hl j (by omega)) k j _ (by omega) (hl j)
theorem getD_inU {l : List Int} (hw : ∀ z ∈ l, (Lit.int .u64 z).wf = true) (j : Nat) : InU (l.getD j 0) := by
  rw [List.getD_eq_getElem?_getD]
  cases h : l[j]? with
  | none => exact ⟨by decide, by decide⟩
  | some z => exact inU_wf (hw z (List.mem_of_getElem? h))

/-- The error of a step that left this memory. -/
def Mm.onE (A : Mm) : Int := if A.on then 0 else 4
theorem onE_on {A : Mm} (h : A.on = true) : A.onE = 0 := by simp [Mm.onE, h]
theorem onE_off {A : Mm} (h : A.on = false) : A.onE = 4 := by simp [Mm.onE, h]

/-- The stores of a Write: nought to the last word, then word by word. -/
def stW (l : List Int) (j : Nat) : List (Nat × Int) := (7, 0) :: (List.range j).map fun i => (i, l.getD i 0)
theorem stW_len (l : List Int) (j : Nat) : (stW l j).length = j + 1 := by simp [stW]
theorem stW_next (l : List Int) (j : Nat) : stW l (j + 1) = stW l j ++ [(j, l.getD j 0)] := by simp [stW, List.range_succ]
theorem stW_take (l : List Int) (j m : Nat) (h : m ≤ j) : (stW l j).take (m + 1) = stW l m := by
  simp [stW, ← List.map_take, List.take_range, Nat.min_eq_left h]
theorem run_stW (l : List Int) (f : Nat → Int) (j i : Nat) (hj : j ≤ 8) : runS (stW l j) f i = if i < j then l.getD i 0 else if i = 7 then 0 else f i := by
  induction j with
  | zero => simp [stW, runS, upd]
  | succ j ih =>
    rw [stW_next, runS_snoc]
    unfold upd
    by_cases h : i = j
    · simp [h]
    · rw [if_neg h, ih (by omega)]
      by_cases h2 : i < j
      · rw [if_pos h2, if_pos (by omega)]
      · rw [if_neg h2, if_neg (show ¬ i < j + 1 by omega)]
theorem row_eight (l : List Int) (hl : l.length = 8) (f : Nat → Int) : rowOf (runS (stW l 8) f) = l := by
  refine List.ext_getElem (by rw [rowOf_len, hl]) fun i h1 h2 => ?_
  have := rowOf_get (runS (stW l 8) f) i (by omega)
  rw [List.getD_eq_getElem?_getD, List.getElem?_eq_getElem h1] at this
  rw [run_stW l f 8 i (Nat.le_refl _), if_pos (by omega), List.getD_eq_getElem?_getD, List.getElem?_eq_getElem h2] at this
  exact this
/-- Stores to the line k of a memory whose lines are sure: the first m of them are there. -/
structure PutInv (A : Mm) (k : Nat) (l : List Int) (m : Nat) (B : Mm) : Prop where
  s : (B.l k).s = (A.l k).s
  t : (B.l k).t = (stW l 8).take m
  o : ∀ i, i ≠ k → B.l i = A.l i
theorem puts_inv (A : Mm) (k : Nat) (l : List Int) (ht : (A.l k).t = []) : ∀ j, j ≤ 8 → ∃ m, m ≤ j + 1 ∧ PutInv A k l m (A.puts k l j) ∧ ((A.puts k l j).on = true → m = j + 1)
  | 0, _ => by
    show ∃ m, m ≤ 1 ∧ PutInv A k l m (A.store k 7 0) ∧ _
    unfold Mm.puts Mm.store Mm.step
    cases h : A.may
    · exact ⟨0, by omega, ⟨rfl, by simpa [Mm.off] using ht, fun _ _ => rfl⟩, fun h => by simp [Mm.off] at h⟩
    · refine ⟨1, by omega, ⟨?_, ?_, ?_⟩, fun _ => rfl⟩
      · simp [Mm.stepped, upd, Ln.store]
      · simp [Mm.stepped, upd, Ln.store, ht, stW]
      · intro i hi; simp [Mm.stepped, upd, hi]
  | j + 1, hj => by
    obtain ⟨m, h1, h2, h3⟩ := puts_inv A k l ht j (by omega)
    show ∃ m, m ≤ j + 1 + 1 ∧ PutInv A k l m ((A.puts k l j).store k j (l.getD j 0)) ∧ (((A.puts k l j).store k j (l.getD j 0)).on = true → m = j + 1 + 1)
    generalize A.puts k l j = P at *
    unfold Mm.store Mm.step
    cases h : P.may
    · exact ⟨m, by omega, ⟨h2.s, h2.t, h2.o⟩, fun h => by simp [Mm.off] at h⟩
    · have hon : P.on = true := by simp [Mm.may] at h; exact h.1
      have hm := h3 hon
      refine ⟨j + 1 + 1, by omega, ⟨?_, ?_, ?_⟩, fun _ => rfl⟩
      · simp [Mm.stepped, upd, Ln.store, h2.s]
      · show (upd P.l k _ k).t = _
        rw [upd_same]
        show (P.l k).t ++ _ = _
        rw [h2.t, hm, stW_take l 8 j (by omega), stW_take l 8 (j + 1) hj, stW_next]
      · intro i hi
        show upd P.l k _ i = _
        rw [upd_other _ _ _ _ hi]; exact h2.o i hi
/-- A memory whose power is on, with no fuse, is written to: whole. -/
theorem step_free (A : Mm) (hon : A.on = true) (hf : A.fuse = -1) (l : Nat → Ln) : A.step l = A.stepped l ∧ (A.step l).on = true ∧ (A.step l).fuse = -1 ∧ A.err = 0 := by
  have hmay : A.may = true := by simp [Mm.may, hon, hf]
  unfold Mm.step Mm.err
  rw [if_pos hmay, if_pos hmay]
  exact ⟨rfl, hon, by simp [Mm.stepped, hf], rfl⟩
theorem puts_free (A : Mm) (hon : A.on = true) (hf : A.fuse = -1) (k : Nat) (l : List Int) : ∀ j, (A.puts k l j).on = true ∧ (A.puts k l j).fuse = -1
  | 0 => ⟨(step_free A hon hf _).2.1, (step_free A hon hf _).2.2.1⟩
  | j + 1 => by
    have h := puts_free A hon hf k l j
    exact ⟨(step_free _ h.1 h.2 _).2.1, (step_free _ h.1 h.2 _).2.2.1⟩
/-- Behind a Crash all lines are sure. -/
theorem crash_t (A : Mm) (keep : List Int) (i : Nat) : ((A.crash keep).l i).t = [] := rfl
theorem crash_s (A : Mm) (keep : List Int) (i : Nat) : ∃ m, m ≤ (A.l i).t.length ∧ ((A.crash keep).l i).s = runS ((A.l i).t.take m) (A.l i).s :=
  ⟨_, keptN_le _ _ _, rfl⟩
theorem has_sure {L : Ln} (h : L.t = []) : L.has = L.s := by unfold Ln.has; rw [h]; rfl
theorem crash_sure (A : Mm) (keep : List Int) (i : Nat) (h : (A.l i).t = []) : ((A.crash keep).l i).s = (A.l i).s := by
  obtain ⟨m, -, e⟩ := crash_s A keep i
  rw [e, h]; simp [runS]

/-- Behind a Write: the line k is sure, whole, or the first m stores are there; the others stay. -/
structure WroteInv (A : Mm) (k : Nat) (l : List Int) (B : Mm) (E : Int) : Prop where
  w : (∃ m, m ≤ 9 ∧ (B.l k).s = (A.l k).s ∧ (B.l k).t = (stW l 8).take m ∧ E ≠ 0) ∨ ((B.l k).s = runS (stW l 8) (A.l k).s ∧ (B.l k).t = [])
  o : ∀ i, i ≠ k → (B.l i).s = (A.l i).s ∧ (B.l i).t = []

end Go.Proofs.YtiafhcgaikapcaaGreat
