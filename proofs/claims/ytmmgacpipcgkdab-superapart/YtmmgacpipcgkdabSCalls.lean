
/-
  super's Line, Read and Best, and the document's: what each call returns for whatever superblock, whatever lines; nothing that was there turns.
-/
import Derived.Test.YtmmgacpipcgkdabCSeal
import Derived.Test.YtmmgacpipcgkdabSMath
import Derived.Test.YtmmgacpipcgkdabSEq
import Derived.Laws.ResultCell
namespace Go.Proofs.Ytmmgacpipcgkdab
open Go.ChangeShapes Go.WideShapes Go.ChangeAt Go.RowKit Go.Joins
set_option maxRecDepth 10000
set_option linter.unusedVariables false
set_option linter.unusedSimpArgs false

theorem results_two {fn : Func} {p u : Tmp} {P : Program} {ty : TypeId} (h : fn.results = #[.cell p ty, .tmp u]) (tmps : Array Value) (w : World) (g : Nat) (t : TypeId) (cs : Array Value) (fr : Nat × Nat) (d : TypeDesc) (v : Value)
    (hp : tmps.getD p undef = .pointer (some ⟨g, 0, none⟩)) (hv : tmps.getD u undef = v) (hg : w.heap[g]? = some (.cells cs t fr))
    (hu : P.underlying ty = some d) (hd : (match d with | .struct _ | .array _ _ => true | _ => false) = true) (hi : (P.info? ty).map (·.size) = some cs.size) :
    (results fn tmps).run P w = .ok (.tuple #[.agg cs, v]) w := by
  rw [results_cell_tmp h, hp, hv]
  simp [asAddr, run_loadVar_row w g t ty cs fr d hg hu hd hi]

theorem heap2 (w : World) (A B : Obj) : ((w.alloc A).alloc B).heap[w.heap.size]? = some A ∧ ((w.alloc A).alloc B).heap[w.heap.size + 1]? = some B := by
  refine ⟨?_, ?_⟩
  · rw [Below.heap_alloc _ _ _ (by simp), heap_new]
  · have := heap_new (w.alloc A) B
    simpa using this

theorem eight (g r q c : Int) : ((1 ≤ g ∧ g ≤ 1099511627776) ∧ (0 ≤ r ∧ r < 1024) ∧ (0 ≤ q ∧ q ≤ 1099511627776) ∧ 1 ≤ c ∧ c ≤ 8) ∨ (¬ 1 ≤ g) ∨ (1 ≤ g ∧ ¬ g ≤ 1099511627776) ∨ ((1 ≤ g ∧ g ≤ 1099511627776) ∧ ¬ 0 ≤ r) ∨ ((1 ≤ g ∧ g ≤ 1099511627776) ∧ 0 ≤ r ∧ ¬ r < 1024) ∨
    ((1 ≤ g ∧ g ≤ 1099511627776) ∧ (0 ≤ r ∧ r < 1024) ∧ ¬ 0 ≤ q) ∨ ((1 ≤ g ∧ g ≤ 1099511627776) ∧ (0 ≤ r ∧ r < 1024) ∧ 0 ≤ q ∧ ¬ q ≤ 1099511627776) ∨ ((1 ≤ g ∧ g ≤ 1099511627776) ∧ (0 ≤ r ∧ r < 1024) ∧ (0 ≤ q ∧ q ≤ 1099511627776) ∧ ¬ 1 ≤ c) ∨
    ((1 ≤ g ∧ g ≤ 1099511627776) ∧ (0 ≤ r ∧ r < 1024) ∧ (0 ≤ q ∧ q ≤ 1099511627776) ∧ 1 ≤ c ∧ ¬ c ≤ 8) := by omega

theorem may4 (g r q c : Int) (w : World) : Calls Try.prog 11 #[.agg #[.int .i64 g, .int .i64 r, .int .i64 q, .int .i64 c]] w fun e w' => e = .returned (.bool (mayS [g, r, q, c])) ∧ Below w.heap.size w w' := by
  go_enter Try.func11, Try.ntmps11
  rcases eight g r q c with ⟨⟨h0, h1⟩, ⟨h2, h3⟩, ⟨h4, h5⟩, h6, h7⟩ | h0 | ⟨h0, h1⟩ | ⟨⟨h0, h1⟩, h2⟩ | ⟨⟨h0, h1⟩, h2, h3⟩ | ⟨⟨h0, h1⟩, ⟨h2, h3⟩, h4⟩ | ⟨⟨h0, h1⟩, ⟨h2, h3⟩, h4, h5⟩ | ⟨⟨h0, h1⟩, ⟨h2, h3⟩, ⟨h4, h5⟩, h6⟩ | ⟨⟨h0, h1⟩, ⟨h2, h3⟩, ⟨h4, h5⟩, h6, h7⟩
  all_goals
    go_wp2_with fail
    go_ret
    first
    | have e : mayS [g, r, q, c] = true := by simp [mayS]; omega
      rw [e]
      exact ⟨rfl, (Below.refl _ _).alloc (Nat.le_refl _) _⟩
    | have e : mayS [g, r, q, c] = false := by simp [mayS]; omega
      rw [e]
      exact ⟨rfl, (Below.refl _ _).alloc (Nat.le_refl _) _⟩

theorem seal_raw (s : List Int) (hm : mayS s = true) (cs : Array Value) (hcs : cs = iv .u64 (rawS s)) (W : World) : Calls Try.prog 12 #[.agg cs] W fun e w' => e = .returned (.agg (iv .u64 (lineS s))) ∧ Below W.heap.size W w' := by
  subst hcs; exact seal_any (rawS s) rfl (rawS_wf s hm) W
theorem zero8 : (#[.int .u64 0, .int .u64 0, .int .u64 0, .int .u64 0, .int .u64 0, .int .u64 0, .int .u64 0, .int .u64 0] : Array Value) = iv .u64 zs8 := rfl
theorem zero4 : (#[.int .i64 0, .int .i64 0, .int .i64 0, .int .i64 0] : Array Value) = iv .i64 zs4 := rfl
theorem build8 : Try.prog.built 28 [] = some (iv .u64 zs8) := by kernel_rfl
theorem build4 : Try.prog.built 23 [] = some (iv .i64 zs4) := by kernel_rfl

theorem line4 (g r q c : Int) (w : World) : Calls Try.prog 5 #[.agg #[.int .i64 g, .int .i64 r, .int .i64 q, .int .i64 c]] w fun e w' => e = .returned (.tuple #[.agg (iv .u64 (lineV [g, r, q, c])), .int .i64 (lineE [g, r, q, c])]) ∧ Below w.heap.size w w' := by
  have M := hide (may4 g r q c)
  have G0 := hide (fun B : Obj => heap2 w (.cells #[.int .i64 g, .int .i64 r, .int .i64 q, .int .i64 c] 23) B)
  have s8 : (Try.prog.info? 28).map (·.size) = some (iv .u64 (lineV [g, r, q, c])).size := by rw [iv_size, lineV_len]; exact size8
  cases hm : mayS [g, r, q, c] with
  | false =>
    have eL : lineV [g, r, q, c] = zs8 := by simp [lineV, hm]
    have eE : lineE [g, r, q, c] = 1 := by simp [lineE, hm]
    rw [eL] at s8
    rw [eL, eE]
    rw [hm] at M
    clear hm eL eE
    go_enter Try.func5, Try.ntmps5
    go_wp2_with fail
    refine (unhide M _).mono ?_
    rintro e w1 ⟨rfl, hb1⟩
    have hsz : w.heap.size + 1 + 1 ≤ w1.heap.size := by have := hb1.size; simpa using this
    have K0 := hide ((hb1.block w.heap.size (by simp; omega)).trans (unhide G0 _).1)
    have K1 := hide ((hb1.block (w.heap.size + 1) (by simp)).trans (unhide G0 _).2)
    have Hb := hide ((below_alloc2 w _ _).trans (hb1.mono (by simp; omega)))
    clear hb1 G0
    rw [zero8] at K1
    go_wp2_with (first | (refine wpList_build0 rfl 28 rfl _ build8 ?_) | (refine wpList_store_row rfl 28 _ _ rfl (w.heap.size + 1) (iv .u64 zs8) rfl rfl _ _ (unhide K1) s8 rfl (iv_one _ _) ?_))
    refine bodyPost_ret (v := .tuple #[.agg (iv .u64 zs8), .int .i64 1]) (results_two Try.results5 _ _ (w.heap.size + 1) 28 (iv .u64 zs8) (0, 0) _ _ rfl rfl (setRow_heap _ _ _ _ _ _ (unhide K1)) Try.underlying28 rfl s8) rfl ?_
    exact ⟨rfl, below_row (unhide Hb) (by omega) _⟩
  | true =>
    have eL : lineV [g, r, q, c] = lineS [g, r, q, c] := by simp [lineV, hm]
    have eE : lineE [g, r, q, c] = 0 := by simp [lineE, hm]
    rw [eL] at s8
    rw [eL, eE]
    rw [hm] at M
    have S := hide (seal_raw [g, r, q, c] hm)
    have hq := (mayS_iff [g, r, q, c]).1 hm
    obtain ⟨h0, h1, h2, h3, h4, h5, h6, h7⟩ : 1 ≤ g ∧ g ≤ 1099511627776 ∧ 0 ≤ r ∧ r < 1024 ∧ 0 ≤ q ∧ q ≤ 1099511627776 ∧ 1 ≤ c ∧ c ≤ 8 := by simpa using hq
    clear eL eE hq hm
    go_enter Try.func5, Try.ntmps5
    go_wp2_with fail
    refine (unhide M _).mono ?_
    rintro e w1 ⟨rfl, hb1⟩
    have hsz : w.heap.size + 1 + 1 ≤ w1.heap.size := by have := hb1.size; simpa using this
    have K0 := hide ((hb1.block w.heap.size (by simp; omega)).trans (unhide G0 _).1)
    have K1 := hide ((hb1.block (w.heap.size + 1) (by simp)).trans (unhide G0 _).2)
    have Hb := hide ((below_alloc2 w _ _).trans (hb1.mono (by simp; omega)))
    clear hb1 G0
    rw [zero8] at K1
    have c0 : w1.cell? ⟨w.heap.size, 0, none⟩ = some (.int .i64 g) := by rw [cell_of_block (unhide K0)]; rfl
    have c1 : w1.cell? ⟨w.heap.size, 1, none⟩ = some (.int .i64 r) := by rw [cell_of_block (unhide K0)]; rfl
    have c2 : w1.cell? ⟨w.heap.size, 2, none⟩ = some (.int .i64 q) := by rw [cell_of_block (unhide K0)]; rfl
    have c3 : w1.cell? ⟨w.heap.size, 3, none⟩ = some (.int .i64 c) := by rw [cell_of_block (unhide K0)]; rfl
    go_wp2_with fail
    refine (unhide S _ (by first | rfl | (show _ = _; simp [iv, rawS])) _).mono ?_
    rintro e w2 ⟨rfl, hb2⟩
    have K2 := hide ((hb2.block (w.heap.size + 1) (by omega)).trans (unhide K1))
    have Hb2 := hide ((unhide Hb).trans (hb2.mono (by omega)))
    clear hb2 c0 c1 c2 c3 K0 K1 Hb
    go_wp2_with (refine wpList_store_row rfl 28 _ _ rfl (w.heap.size + 1) (iv .u64 (lineS [g, r, q, c])) rfl rfl _ _ (unhide K2) s8 (by rw [iv_size, iv_size, lineS_len]; rfl) (iv_one _ _) ?_)
    refine bodyPost_ret (v := .tuple #[.agg (iv .u64 (lineS [g, r, q, c])), .int .i64 0]) (results_two Try.results5 _ _ (w.heap.size + 1) 28 (iv .u64 (lineS [g, r, q, c])) (0, 0) _ _ rfl rfl (setRow_heap _ _ _ _ _ _ (unhide K2)) Try.underlying28 rfl s8) rfl ?_
    exact ⟨rfl, below_row (unhide Hb2) (by omega) _⟩


theorem line_any (s : List Int) (hl : s.length = 4) (w : World) : Calls Try.prog 5 #[.agg (iv .i64 s)] w fun e w' => e = .returned (.tuple #[.agg (iv .u64 (lineV s)), .int .i64 (lineE s)]) ∧ Below w.heap.size w w' := by
  match s, hl with
  | [g, r, q, c], _ => exact line4 g r q c w

/-! ### Read -/
theorem size4 : (Try.prog.info? 23).map (·.size) = some 4 := by kernel_rfl
theorem read_any (l : List Int) (hl : l.length = 8) (hw : ∀ z ∈ l, (Lit.int .u64 z).wf = true) (w : World) : Calls Try.prog 8 #[.agg (iv .u64 l)] w fun e w' => e = .returned (.tuple #[.agg (iv .i64 (readV l)), .bool (isS l)]) ∧ Below w.heap.size w w' := by
  obtain ⟨s, hs⟩ : ∃ s, s = readS l := ⟨_, rfl⟩
  obtain ⟨L, hLv⟩ : ∃ L, L = lineV s := ⟨_, rfl⟩
  obtain ⟨E, hE⟩ : ∃ E, E = lineE s := ⟨_, rfl⟩
  have LN : Hid (∀ w, Calls Try.prog 5 #[.agg (iv .i64 s)] w fun e w' => e = .returned (.tuple #[.agg (iv .u64 L), .int .i64 E]) ∧ Below w.heap.size w w') := fun w => by rw [hLv, hE]; exact line_any s (by rw [hs]; rfl) w
  have RS : Hid (iv .i64 s = #[Value.int .i64 (wrap64 (l.getD 1 0)), .int .i64 (wrap64 (l.getD 2 0)), .int .i64 (wrap64 (l.getD 3 0)), .int .i64 (wrap64 (l.getD 4 0))]) := by rw [hs]; rfl
  have HL : Hid (L.length = 8) := by rw [hLv]; exact lineV_len s
  cases hm : mayS s with
  | false =>
    have e1 : isS l = false := by simp [isS, ← hs, hm]
    have e2 : readV l = zs4 := by simp [readV, e1]
    have HE : Hid (E = 1) := hide (by rw [hE]; simp [lineE, hm])
    have s4 : (Try.prog.info? 23).map (·.size) = some (iv .i64 zs4).size := size4
    rw [e1, e2]
    clear e1 e2 hm hs hLv hE
    have G0 := hide (fun B : Obj => heap2 w (.cells (iv .u64 l) 28) B)
    have G3 := hide (fun A B C : Obj => heap3 w A B C)
    have GB := hide (fun A B C : Obj => below_alloc3 w A B C)
    have c1 : ((w.alloc (.cells (iv .u64 l) 28)).alloc (.cells #[.int .i64 0, .int .i64 0, .int .i64 0, .int .i64 0] 23)).cell? ⟨w.heap.size, 1, none⟩ = some (.int .u64 (l.getD 1 0)) := by rw [cell_of_block (heap2 w _ _).1, iv_get _ _ _ (by omega)]
    have c2 : ((w.alloc (.cells (iv .u64 l) 28)).alloc (.cells #[.int .i64 0, .int .i64 0, .int .i64 0, .int .i64 0] 23)).cell? ⟨w.heap.size, 2, none⟩ = some (.int .u64 (l.getD 2 0)) := by rw [cell_of_block (heap2 w _ _).1, iv_get _ _ _ (by omega)]
    have c3 : ((w.alloc (.cells (iv .u64 l) 28)).alloc (.cells #[.int .i64 0, .int .i64 0, .int .i64 0, .int .i64 0] 23)).cell? ⟨w.heap.size, 3, none⟩ = some (.int .u64 (l.getD 3 0)) := by rw [cell_of_block (heap2 w _ _).1, iv_get _ _ _ (by omega)]
    have c4 : ((w.alloc (.cells (iv .u64 l) 28)).alloc (.cells #[.int .i64 0, .int .i64 0, .int .i64 0, .int .i64 0] 23)).cell? ⟨w.heap.size, 4, none⟩ = some (.int .u64 (l.getD 4 0)) := by rw [cell_of_block (heap2 w _ _).1, iv_get _ _ _ (by omega)]
    have u1 : 0 ≤ l.getD 1 0 ∧ l.getD 1 0 ≤ 18446744073709551615 := by simpa using range_u64 hw 1
    have u2 : 0 ≤ l.getD 2 0 ∧ l.getD 2 0 ≤ 18446744073709551615 := by simpa using range_u64 hw 2
    have u3 : 0 ≤ l.getD 3 0 ∧ l.getD 3 0 ≤ 18446744073709551615 := by simpa using range_u64 hw 3
    have u4 : 0 ≤ l.getD 4 0 ∧ l.getD 4 0 ≤ 18446744073709551615 := by simpa using range_u64 hw 4
    generalize l.getD 1 0 = x1 at *
    generalize l.getD 2 0 = x2 at *
    generalize l.getD 3 0 = x3 at *
    generalize l.getD 4 0 = x4 at *
    clear hw
    go_enter Try.func8, Try.ntmps8
    go_wp2_with fail
    clear c1 c2 c3 c4 u1 u2 u3 u4
    rw [show (#[Value.int .i64 (wrap64 x1), .int .i64 (wrap64 x2), .int .i64 (wrap64 x3), .int .i64 (wrap64 x4)] : Array Value) = iv .i64 s from (unhide RS).symm]
    refine (unhide LN _).mono ?_
    rintro e w1 ⟨rfl, hb1⟩
    have hsz : w.heap.size + 1 + 1 + 1 ≤ w1.heap.size := by have := hb1.size; simpa using this
    have K0 := hide ((hb1.block w.heap.size (by simp; omega)).trans (unhide G3 _ _ _).1)
    have K1 := hide ((hb1.block (w.heap.size + 1) (by simp)).trans (unhide G3 _ _ _).2.1)
    have K2 := hide ((hb1.block (w.heap.size + 1 + 1) (by simp)).trans (unhide G3 _ _ _).2.2)
    have Hb := hide ((unhide GB _ _ _).trans (hb1.mono (by simp; omega)))
    clear hb1 G0 G3 GB
    rw [zero4] at K1
    have hL : (iv .u64 L).size = 8 := by rw [iv_size, unhide HL]
    have hst : ∀ (W : World) (C : Array Value), C.size = 8 → Sem.run Try.prog (storeCells ⟨W.heap.size, 0, none⟩ (iv .u64 L).toList) (W.alloc (.cells C 28)) = .ok () (W.alloc (.cells (iv .u64 L) 28)) :=
      fun W C hC => run_store_new _ _ rfl C _ _ (by rw [hC, hL]) (iv_one _ _)
    rw [unhide HE]
    have K1' := hide ((Below.heap_alloc w1 (.cells (iv .u64 L) 28) (w.heap.size + 1) (by omega)).trans (unhide K1))
    have Hb' := hide ((unhide Hb).alloc (by omega) (.cells (iv .u64 L) 28))
    go_wp2_with (first | (refine wpList_build0 rfl 23 rfl _ build4 ?_) | (refine wpList_store_row rfl 23 _ _ rfl (w.heap.size + 1) (iv .i64 zs4) rfl rfl _ _ (unhide K1') s4 rfl (iv_one _ _) ?_))
    refine bodyPost_ret (v := .tuple #[.agg (iv .i64 zs4), .bool false]) (results_two Try.results8 _ _ (w.heap.size + 1) 23 (iv .i64 zs4) (0, 0) _ _ rfl rfl (setRow_heap _ _ _ _ _ _ (unhide K1')) Try.underlying23 rfl s4) rfl ?_
    exact ⟨rfl, below_row (unhide Hb') (by omega) _⟩
  | true =>
    have HE : Hid (E = 0) := hide (by rw [hE]; simp [lineE, hm])
    have eL : L = lineS s := by rw [hLv]; simp [lineV, hm]
    have EQ : Hid (∀ w, (Op.equalIn 10000 28 (.agg (iv .u64 L)) (.agg (iv .u64 l))).run Try.prog w = .ok (decide (L = l)) w) := fun w => equal_line L l (unhide HL) hl w
    have s8a : (Try.prog.info? 28).map (·.size) = some (iv .u64 L).size := by rw [iv_size, unhide HL]; exact size8
    have s8b : (Try.prog.info? 28).map (·.size) = some (iv .u64 l).size := by rw [iv_size, hl]; exact size8
    by_cases hq : L = l
    · have e1 : isS l = true := by simp [isS, ← hs, hm, ← eL, hq]
      have e2 : readV l = s := by simp [readV, e1, hs]
      have s4 : (Try.prog.info? 23).map (·.size) = some (iv .i64 s).size := by rw [iv_size, hs]; exact size4
      have h4 : s.length = 4 := by rw [hs]; rfl
      have hd : decide (L = l) = true := by simpa using hq
      rw [hd] at EQ
      rw [e1, e2]
      clear e1 e2 hm hs hLv hE eL hq hd
      have G0 := hide (fun B : Obj => heap2 w (.cells (iv .u64 l) 28) B)
      have G3 := hide (fun A B C : Obj => heap3 w A B C)
      have GB := hide (fun A B C : Obj => below_alloc3 w A B C)
      have c1 : ((w.alloc (.cells (iv .u64 l) 28)).alloc (.cells #[.int .i64 0, .int .i64 0, .int .i64 0, .int .i64 0] 23)).cell? ⟨w.heap.size, 1, none⟩ = some (.int .u64 (l.getD 1 0)) := by rw [cell_of_block (heap2 w _ _).1, iv_get _ _ _ (by omega)]
      have c2 : ((w.alloc (.cells (iv .u64 l) 28)).alloc (.cells #[.int .i64 0, .int .i64 0, .int .i64 0, .int .i64 0] 23)).cell? ⟨w.heap.size, 2, none⟩ = some (.int .u64 (l.getD 2 0)) := by rw [cell_of_block (heap2 w _ _).1, iv_get _ _ _ (by omega)]
      have c3 : ((w.alloc (.cells (iv .u64 l) 28)).alloc (.cells #[.int .i64 0, .int .i64 0, .int .i64 0, .int .i64 0] 23)).cell? ⟨w.heap.size, 3, none⟩ = some (.int .u64 (l.getD 3 0)) := by rw [cell_of_block (heap2 w _ _).1, iv_get _ _ _ (by omega)]
      have c4 : ((w.alloc (.cells (iv .u64 l) 28)).alloc (.cells #[.int .i64 0, .int .i64 0, .int .i64 0, .int .i64 0] 23)).cell? ⟨w.heap.size, 4, none⟩ = some (.int .u64 (l.getD 4 0)) := by rw [cell_of_block (heap2 w _ _).1, iv_get _ _ _ (by omega)]
      have u1 : 0 ≤ l.getD 1 0 ∧ l.getD 1 0 ≤ 18446744073709551615 := by simpa using range_u64 hw 1
      have u2 : 0 ≤ l.getD 2 0 ∧ l.getD 2 0 ≤ 18446744073709551615 := by simpa using range_u64 hw 2
      have u3 : 0 ≤ l.getD 3 0 ∧ l.getD 3 0 ≤ 18446744073709551615 := by simpa using range_u64 hw 3
      have u4 : 0 ≤ l.getD 4 0 ∧ l.getD 4 0 ≤ 18446744073709551615 := by simpa using range_u64 hw 4
      generalize l.getD 1 0 = x1 at *
      generalize l.getD 2 0 = x2 at *
      generalize l.getD 3 0 = x3 at *
      generalize l.getD 4 0 = x4 at *
      clear hw
      go_enter Try.func8, Try.ntmps8
      go_wp2_with fail
      clear c1 c2 c3 c4 u1 u2 u3 u4
      rw [show (#[Value.int .i64 (wrap64 x1), .int .i64 (wrap64 x2), .int .i64 (wrap64 x3), .int .i64 (wrap64 x4)] : Array Value) = iv .i64 s from (unhide RS).symm]
      refine (unhide LN _).mono ?_
      rintro e w1 ⟨rfl, hb1⟩
      have hsz : w.heap.size + 1 + 1 + 1 ≤ w1.heap.size := by have := hb1.size; simpa using this
      have K0 := hide ((hb1.block w.heap.size (by simp; omega)).trans (unhide G3 _ _ _).1)
      have K1 := hide ((hb1.block (w.heap.size + 1) (by simp)).trans (unhide G3 _ _ _).2.1)
      have K2 := hide ((hb1.block (w.heap.size + 1 + 1) (by simp)).trans (unhide G3 _ _ _).2.2)
      have Hb := hide ((unhide GB _ _ _).trans (hb1.mono (by simp; omega)))
      clear hb1 G0 G3 GB
      rw [zero4] at K1
      have hL : (iv .u64 L).size = 8 := by rw [iv_size, unhide HL]
      have hst : ∀ (W : World) (C : Array Value), C.size = 8 → Sem.run Try.prog (storeCells ⟨W.heap.size, 0, none⟩ (iv .u64 L).toList) (W.alloc (.cells C 28)) = .ok () (W.alloc (.cells (iv .u64 L) 28)) :=
        fun W C hC => run_store_new _ _ rfl C _ _ (by rw [hC, hL]) (iv_one _ _)
      rw [unhide HE]
      have K0' := hide ((Below.heap_alloc w1 (.cells (iv .u64 L) 28) w.heap.size (by omega)).trans (unhide K0))
      have K1' := hide ((Below.heap_alloc w1 (.cells (iv .u64 L) 28) (w.heap.size + 1) (by omega)).trans (unhide K1))
      have K2' := hide ((Below.heap_alloc w1 (.cells (iv .u64 L) 28) (w.heap.size + 1 + 1) (by omega)).trans (unhide K2))
      have K3' := hide (heap_new w1 (.cells (iv .u64 L) 28))
      have Hb' := hide ((unhide Hb).alloc (by omega) (.cells (iv .u64 L) 28))
      go_wp2_with (first | (refine wpList_load_row_g (by rfl) 28 (.tmp 5) rfl w1.heap.size rfl _ _ _ _ (unhide K3') Try.underlying28 rfl s8a ?_) | (refine wpList_load_row_g (by rfl) 28 (.tmp 1) rfl w.heap.size rfl _ _ _ _ (unhide K0') Try.underlying28 rfl s8b ?_) | (refine wpList_neqA (by rfl) 28 28 (.tmp 28) (.tmp 29) rfl (iv .u64 L) (iv .u64 l) rfl rfl line_guard2 _ (unhide EQ) ?_) | (refine wpList_load_row rfl 23 _ rfl (w.heap.size + 1 + 1) rfl _ _ _ _ (unhide K2') Try.underlying23 rfl s4 ?_) | (refine wpList_store_row rfl 23 _ _ rfl (w.heap.size + 1) (iv .i64 s) rfl rfl _ _ (unhide K1') s4 (by rw [iv_size, iv_size, h4]; rfl) (iv_one _ _) ?_))
      refine bodyPost_ret (v := .tuple #[.agg (iv .i64 s), .bool true]) (results_two Try.results8 _ _ (w.heap.size + 1) 23 (iv .i64 s) (0, 0) _ _ rfl rfl (setRow_heap _ _ _ _ _ _ (unhide K1')) Try.underlying23 rfl s4) rfl ?_
      exact ⟨rfl, below_row (unhide Hb') (by omega) _⟩
    · have e1 : isS l = false := by simp [isS, ← hs, hm, ← eL, hq]
      have e2 : readV l = zs4 := by simp [readV, e1]
      have s4 : (Try.prog.info? 23).map (·.size) = some (iv .i64 zs4).size := size4
      have hd : decide (L = l) = false := by simpa using hq
      rw [hd] at EQ
      rw [e1, e2]
      clear e1 e2 hm hs hLv hE eL hq hd
      have G0 := hide (fun B : Obj => heap2 w (.cells (iv .u64 l) 28) B)
      have G3 := hide (fun A B C : Obj => heap3 w A B C)
      have GB := hide (fun A B C : Obj => below_alloc3 w A B C)
      have c1 : ((w.alloc (.cells (iv .u64 l) 28)).alloc (.cells #[.int .i64 0, .int .i64 0, .int .i64 0, .int .i64 0] 23)).cell? ⟨w.heap.size, 1, none⟩ = some (.int .u64 (l.getD 1 0)) := by rw [cell_of_block (heap2 w _ _).1, iv_get _ _ _ (by omega)]
      have c2 : ((w.alloc (.cells (iv .u64 l) 28)).alloc (.cells #[.int .i64 0, .int .i64 0, .int .i64 0, .int .i64 0] 23)).cell? ⟨w.heap.size, 2, none⟩ = some (.int .u64 (l.getD 2 0)) := by rw [cell_of_block (heap2 w _ _).1, iv_get _ _ _ (by omega)]
      have c3 : ((w.alloc (.cells (iv .u64 l) 28)).alloc (.cells #[.int .i64 0, .int .i64 0, .int .i64 0, .int .i64 0] 23)).cell? ⟨w.heap.size, 3, none⟩ = some (.int .u64 (l.getD 3 0)) := by rw [cell_of_block (heap2 w _ _).1, iv_get _ _ _ (by omega)]
      have c4 : ((w.alloc (.cells (iv .u64 l) 28)).alloc (.cells #[.int .i64 0, .int .i64 0, .int .i64 0, .int .i64 0] 23)).cell? ⟨w.heap.size, 4, none⟩ = some (.int .u64 (l.getD 4 0)) := by rw [cell_of_block (heap2 w _ _).1, iv_get _ _ _ (by omega)]
      have u1 : 0 ≤ l.getD 1 0 ∧ l.getD 1 0 ≤ 18446744073709551615 := by simpa using range_u64 hw 1
      have u2 : 0 ≤ l.getD 2 0 ∧ l.getD 2 0 ≤ 18446744073709551615 := by simpa using range_u64 hw 2
      have u3 : 0 ≤ l.getD 3 0 ∧ l.getD 3 0 ≤ 18446744073709551615 := by simpa using range_u64 hw 3
      have u4 : 0 ≤ l.getD 4 0 ∧ l.getD 4 0 ≤ 18446744073709551615 := by simpa using range_u64 hw 4
      generalize l.getD 1 0 = x1 at *
      generalize l.getD 2 0 = x2 at *
      generalize l.getD 3 0 = x3 at *
      generalize l.getD 4 0 = x4 at *
      clear hw
      go_enter Try.func8, Try.ntmps8
      go_wp2_with fail
      clear c1 c2 c3 c4 u1 u2 u3 u4
      rw [show (#[Value.int .i64 (wrap64 x1), .int .i64 (wrap64 x2), .int .i64 (wrap64 x3), .int .i64 (wrap64 x4)] : Array Value) = iv .i64 s from (unhide RS).symm]
      refine (unhide LN _).mono ?_
      rintro e w1 ⟨rfl, hb1⟩
      have hsz : w.heap.size + 1 + 1 + 1 ≤ w1.heap.size := by have := hb1.size; simpa using this
      have K0 := hide ((hb1.block w.heap.size (by simp; omega)).trans (unhide G3 _ _ _).1)
      have K1 := hide ((hb1.block (w.heap.size + 1) (by simp)).trans (unhide G3 _ _ _).2.1)
      have K2 := hide ((hb1.block (w.heap.size + 1 + 1) (by simp)).trans (unhide G3 _ _ _).2.2)
      have Hb := hide ((unhide GB _ _ _).trans (hb1.mono (by simp; omega)))
      clear hb1 G0 G3 GB
      rw [zero4] at K1
      have hL : (iv .u64 L).size = 8 := by rw [iv_size, unhide HL]
      have hst : ∀ (W : World) (C : Array Value), C.size = 8 → Sem.run Try.prog (storeCells ⟨W.heap.size, 0, none⟩ (iv .u64 L).toList) (W.alloc (.cells C 28)) = .ok () (W.alloc (.cells (iv .u64 L) 28)) :=
        fun W C hC => run_store_new _ _ rfl C _ _ (by rw [hC, hL]) (iv_one _ _)
      rw [unhide HE]
      have K0' := hide ((Below.heap_alloc w1 (.cells (iv .u64 L) 28) w.heap.size (by omega)).trans (unhide K0))
      have K1' := hide ((Below.heap_alloc w1 (.cells (iv .u64 L) 28) (w.heap.size + 1) (by omega)).trans (unhide K1))
      have K3' := hide (heap_new w1 (.cells (iv .u64 L) 28))
      have Hb' := hide ((unhide Hb).alloc (by omega) (.cells (iv .u64 L) 28))
      go_wp2_with (first | (refine wpList_load_row_g (by rfl) 28 (.tmp 5) rfl w1.heap.size rfl _ _ _ _ (unhide K3') Try.underlying28 rfl s8a ?_) | (refine wpList_load_row_g (by rfl) 28 (.tmp 1) rfl w.heap.size rfl _ _ _ _ (unhide K0') Try.underlying28 rfl s8b ?_) | (refine wpList_neqA (by rfl) 28 28 (.tmp 28) (.tmp 29) rfl (iv .u64 L) (iv .u64 l) rfl rfl line_guard2 _ (unhide EQ) ?_) | (refine wpList_build0 rfl 23 rfl _ build4 ?_) | (refine wpList_store_row rfl 23 _ _ rfl (w.heap.size + 1) (iv .i64 zs4) rfl rfl _ _ (unhide K1') s4 rfl (iv_one _ _) ?_))
      refine bodyPost_ret (v := .tuple #[.agg (iv .i64 zs4), .bool false]) (results_two Try.results8 _ _ (w.heap.size + 1) 23 (iv .i64 zs4) (0, 0) _ _ rfl rfl (setRow_heap _ _ _ _ _ _ (unhide K1')) Try.underlying23 rfl s4) rfl ?_
      exact ⟨rfl, below_row (unhide Hb') (by omega) _⟩

end Go.Proofs.Ytmmgacpipcgkdab
