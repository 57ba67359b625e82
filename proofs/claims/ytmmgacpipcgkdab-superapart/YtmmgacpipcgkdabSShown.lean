
/-
  The document's examples, at the head of each statement of layer 5: they hold; nothing that was there turns.
-/
import Derived.Test.YtmmgacpipcgkdabSBest
namespace Go.Proofs.Ytmmgacpipcgkdab
open Go.ChangeShapes Go.WideShapes Go.ChangeAt Go.RowKit Go.Joins
set_option maxRecDepth 10000
set_option linter.unusedVariables false
set_option linter.unusedSimpArgs false

theorem iv_new (k : IntKind) (zs : List Int) (n : Nat) (h : zs.length = n) (T : TypeId) : ∀ (W : World) (C : Array Value), C.size = n → Sem.run Try.prog (storeCells ⟨W.heap.size, 0, none⟩ (iv k zs).toList) (W.alloc (.cells C T)) = .ok () (W.alloc (.cells (iv k zs) T)) :=
  fun W C hC => run_store_new _ _ rfl C _ _ (by rw [hC, iv_size, h]) (iv_one _ _)
theorem zs8_wf : ∀ z ∈ zs8, (Lit.int .u64 z).wf = true := by decide
theorem lineV_wf (s : List Int) : ∀ z ∈ lineV s, (Lit.int .u64 z).wf = true := by
  unfold lineV
  split
  · rename_i h; exact sealOf_wf _ (rawS_wf s h)
  · exact zs8_wf
theorem lineV_ok (s : List Int) : (lineV s).length = 8 ∧ ∀ z ∈ lineV s, (Lit.int .u64 z).wf = true := ⟨lineV_len s, lineV_wf s⟩
theorem lineV_may (s : List Int) (h : mayS s = true) : lineV s = lineS s := by simp [lineV, h]
theorem lineE_may (s : List Int) (h : mayS s = true) : lineE s = 0 := by simp [lineE, h]
/-- Which of two superblocks that may be counts. -/
theorem best_lines (s t : List Int) (hs : s.length = 4) (ht : t.length = 4) (hm : mayS s = true) (hn : mayS t = true) : bestB (lineV s) (lineV t) = decide (t.getD 0 0 > s.getD 0 0) := by
  unfold bestB
  rw [lineV_may s hm, lineV_may t hn, isS_line s hs hm, isS_line t ht hn, readV_line s hs hm, readV_line t ht hn]
  simp

theorem shown_any (W : World) : Calls Try.prog 4 #[] W fun e w' => e = .returned (.bool true) ∧ Below W.heap.size W w' := by
  have RZ : Hid (∀ w, Calls Try.prog 8 #[.agg (iv .u64 zs8)] w fun e w' => e = .returned (.tuple #[.agg (iv .i64 (readV zs8)), .bool false]) ∧ Below w.heap.size w w') := fun w => by
    have h := read_any zs8 rfl zs8_wf w
    rw [isS_zeros] at h; exact h
  have LA : Hid (∀ w, Calls Try.prog 5 #[.agg #[.int .i64 0, .int .i64 0, .int .i64 0, .int .i64 1]] w fun e w' => e = .returned (.tuple #[.agg (iv .u64 (lineV [0, 0, 0, 1])), .int .i64 1]) ∧ Below w.heap.size w w') := fun w => line4 0 0 0 1 w
  have LB : Hid (∀ w, Calls Try.prog 5 #[.agg #[.int .i64 1, .int .i64 1024, .int .i64 0, .int .i64 1]] w fun e w' => e = .returned (.tuple #[.agg (iv .u64 (lineV [1, 1024, 0, 1])), .int .i64 1]) ∧ Below w.heap.size w w') := fun w => line4 1 1024 0 1 w
  have LC : Hid (∀ w, Calls Try.prog 5 #[.agg #[.int .i64 3, .int .i64 0, .int .i64 0, .int .i64 1]] w fun e w' => e = .returned (.tuple #[.agg (iv .u64 (lineV [3, 0, 0, 1])), .int .i64 0]) ∧ Below w.heap.size w w') := fun w => line4 3 0 0 1 w
  have LD : Hid (∀ w, Calls Try.prog 5 #[.agg #[.int .i64 4, .int .i64 0, .int .i64 0, .int .i64 2]] w fun e w' => e = .returned (.tuple #[.agg (iv .u64 (lineV [4, 0, 0, 2])), .int .i64 0]) ∧ Below w.heap.size w w') := fun w => line4 4 0 0 2 w
  have BC : Hid (∀ w, Calls Try.prog 10 #[.agg (iv .u64 (lineV [3, 0, 0, 1])), .agg (iv .u64 (lineV [4, 0, 0, 2]))] w fun e w' => e = .returned (.tuple #[.agg (iv .i64 (bestV (lineV [3, 0, 0, 1]) (lineV [4, 0, 0, 2]))), .int .i64 1, .bool true]) ∧ Below w.heap.size w w') := fun w => by
    have h := best_any (lineV [3, 0, 0, 1]) (lineV [4, 0, 0, 2]) (lineV_ok _) (lineV_ok _) w
    have e := best_lines [3, 0, 0, 1] [4, 0, 0, 2] rfl rfl (by decide) (by decide)
    rw [show bestAt (lineV [3, 0, 0, 1]) (lineV [4, 0, 0, 2]) = 1 by unfold bestAt; rw [e]; decide, show bestIs (lineV [3, 0, 0, 1]) (lineV [4, 0, 0, 2]) = true by unfold bestIs; rw [e]; rfl] at h
    exact h
  have BD : Hid (∀ w, Calls Try.prog 10 #[.agg (iv .u64 (lineV [4, 0, 0, 2])), .agg (iv .u64 (lineV [4, 0, 0, 2]))] w fun e w' => e = .returned (.tuple #[.agg (iv .i64 (bestV (lineV [4, 0, 0, 2]) (lineV [4, 0, 0, 2]))), .int .i64 0, .bool true]) ∧ Below w.heap.size w w') := fun w => by
    have h := best_any (lineV [4, 0, 0, 2]) (lineV [4, 0, 0, 2]) (lineV_ok _) (lineV_ok _) w
    have e := best_lines [4, 0, 0, 2] [4, 0, 0, 2] rfl rfl (by decide) (by decide)
    have hi : isS (lineV [4, 0, 0, 2]) = true := by rw [lineV_may _ (by decide)]; exact isS_line _ rfl (by decide)
    rw [show bestAt (lineV [4, 0, 0, 2]) (lineV [4, 0, 0, 2]) = 0 by unfold bestAt; rw [e]; decide, show bestIs (lineV [4, 0, 0, 2]) (lineV [4, 0, 0, 2]) = true by unfold bestIs; rw [e, hi]; rfl] at h
    exact h
  have nA := iv_new .u64 (lineV [0, 0, 0, 1]) 8 (lineV_len _) 28
  have nB := iv_new .u64 (lineV [1, 1024, 0, 1]) 8 (lineV_len _) 28
  have nC := iv_new .u64 (lineV [3, 0, 0, 1]) 8 (lineV_len _) 28
  have nD := iv_new .u64 (lineV [4, 0, 0, 2]) 8 (lineV_len _) 28
  have nR := iv_new .i64 (readV zs8) 4 (readV_len _) 23
  have nS := iv_new .i64 (bestV (lineV [3, 0, 0, 1]) (lineV [4, 0, 0, 2])) 4 (bestV_len _ _) 23
  have nT := iv_new .i64 (bestV (lineV [4, 0, 0, 2]) (lineV [4, 0, 0, 2])) 4 (bestV_len _ _) 23
  have z1 : (iv .u64 (lineV [0, 0, 0, 1])).size = 8 := by rw [iv_size, lineV_len]
  have z2 : (iv .u64 (lineV [1, 1024, 0, 1])).size = 8 := by rw [iv_size, lineV_len]
  have z3 : (iv .u64 (lineV [3, 0, 0, 1])).size = 8 := by rw [iv_size, lineV_len]
  have z4 : (iv .u64 (lineV [4, 0, 0, 2])).size = 8 := by rw [iv_size, lineV_len]
  have z5 : (iv .i64 (readV zs8)).size = 4 := by rw [iv_size, readV_len]
  have z6 : (iv .i64 (bestV (lineV [3, 0, 0, 1]) (lineV [4, 0, 0, 2]))).size = 4 := by rw [iv_size, bestV_len]
  have z7 : (iv .i64 (bestV (lineV [4, 0, 0, 2]) (lineV [4, 0, 0, 2]))).size = 4 := by rw [iv_size, bestV_len]
  generalize iv .i64 (bestV (lineV [3, 0, 0, 1]) (lineV [4, 0, 0, 2])) = xS at *
  generalize iv .i64 (bestV (lineV [4, 0, 0, 2]) (lineV [4, 0, 0, 2])) = xT at *
  generalize iv .i64 (readV zs8) = xR at *
  generalize iv .u64 (lineV [0, 0, 0, 1]) = xA at *
  generalize iv .u64 (lineV [1, 1024, 0, 1]) = xB at *
  generalize iv .u64 (lineV [3, 0, 0, 1]) = xC at *
  generalize iv .u64 (lineV [4, 0, 0, 2]) = xD at *
  have s3 : (Try.prog.info? 28).map (·.size) = some xC.size := by rw [z3]; exact size8
  have s4 : (Try.prog.info? 28).map (·.size) = some xD.size := by rw [z4]; exact size8
  go_enter Try.func4, Try.ntmps4
  go_wp2_with (refine wpList_build0 rfl 28 rfl _ build8 ?_)
  refine (unhide RZ _).mono ?_
  rintro e w1 ⟨rfl, hb⟩
  have H1 := hide (hb.alloc hb.size (.cells xR 23))
  clear hb
  go_wp2_with fail
  refine (unhide LA _).mono ?_
  rintro e w2 ⟨rfl, hb⟩
  have H2 := hide (((unhide H1).trans (hb.mono (unhide H1).size)).alloc (((unhide H1).trans (hb.mono (unhide H1).size)).size) (.cells xA 28))
  clear hb H1
  go_wp2_with fail
  refine (unhide LB _).mono ?_
  rintro e w3 ⟨rfl, hb⟩
  have H3 := hide (((unhide H2).trans (hb.mono (unhide H2).size)).alloc (((unhide H2).trans (hb.mono (unhide H2).size)).size) (.cells xB 28))
  clear hb H2
  go_wp2_with fail
  refine (unhide LC _).mono ?_
  rintro e w4 ⟨rfl, hb⟩
  have H4 := hide (((unhide H3).trans (hb.mono (unhide H3).size)).alloc (((unhide H3).trans (hb.mono (unhide H3).size)).size) (.cells xC 28))
  have KC := hide (heap_new w4 (.cells xC 28))
  clear hb H3
  go_wp2_with fail
  refine (unhide LD _).mono ?_
  rintro e w5 ⟨rfl, hb⟩
  have z54 : w4.heap.size + 1 ≤ w5.heap.size := by have := hb.size; simpa using this
  have H5 := hide (((unhide H4).trans (hb.mono (unhide H4).size)).alloc (((unhide H4).trans (hb.mono (unhide H4).size)).size) (.cells xD 28))
  have KC5 := hide ((Below.heap_alloc w5 (.cells xD 28) w4.heap.size (by omega)).trans ((hb.block w4.heap.size (by simp)).trans (unhide KC)))
  have KD5 := hide (heap_new w5 (.cells xD 28))
  clear hb H4 KC
  go_wp2_with (first | (refine wpList_load_row rfl 28 _ rfl w4.heap.size rfl _ _ _ _ (unhide KC5) Try.underlying28 rfl s3 ?_) | (refine wpList_load_row rfl 28 _ rfl w5.heap.size rfl _ _ _ _ (unhide KD5) Try.underlying28 rfl s4 ?_))
  refine (unhide BC _).mono ?_
  rintro e w6 ⟨rfl, hb⟩
  have z65 : w5.heap.size + 1 ≤ w6.heap.size := by have := hb.size; simpa using this
  have H6 := hide (((unhide H5).trans (hb.mono (unhide H5).size)).alloc (((unhide H5).trans (hb.mono (unhide H5).size)).size) (.cells xS 23))
  have KD6 := hide ((Below.heap_alloc w6 (.cells xS 23) w5.heap.size (by omega)).trans ((hb.block w5.heap.size (by simp)).trans (unhide KD5)))
  clear hb H5 KC5 KD5
  go_wp2_with (refine wpList_load_row rfl 28 _ rfl w5.heap.size rfl _ _ _ _ (unhide KD6) Try.underlying28 rfl s4 ?_)
  refine (unhide BD _).mono ?_
  rintro e w7 ⟨rfl, hb⟩
  have H7 := hide (((unhide H6).trans (hb.mono (unhide H6).size)).alloc (((unhide H6).trans (hb.mono (unhide H6).size)).size) (.cells xT 23))
  clear hb H6 KD6
  go_wp2_with fail
  go_ret
  exact ⟨rfl, unhide H7⟩

end Go.Proofs.Ytmmgacpipcgkdab
