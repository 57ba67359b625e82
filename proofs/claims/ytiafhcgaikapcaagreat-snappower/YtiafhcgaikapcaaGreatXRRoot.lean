
/-
  The document's Root and ReadRoot: what each call returns, for whatever numbers and line; nothing that was there turns.
-/
import Derived.Test.YtiafhcgaikapcaaGreatPkXl
namespace Go.Proofs.YtiafhcgaikapcaaGreat
open Go.ChangeShapes Go.WideShapes Go.ChangeAt Go.RowKit Go.Joins
set_option maxRecDepth 10000
set_option linter.unusedVariables false
set_option linter.unusedSimpArgs false

set_option maxHeartbeats 4000000 in
theorem rroot_any (n : List Int) (hl : n.length = 7) (w : World) :
    Calls Tryz.prog 66 #[.agg (iv .i64 n)] w fun e w' => e = .returned (.tuple #[.agg (iv .u64 (rootV n)), .int .i64 (rootE n)]) ∧ Below w.heap.size w w' := by
  have s7 := s7_of n hl
  have G0 := hide (fun A B C : Obj => heap3 w A B C)
  have GB := hide (fun A B C : Obj => below_alloc3 w A B C)
  have HX : Hid (∀ j, j < 7 → (iv .i64 n)[j]? = some (.int .i64 (n.getD j 0))) := fun j hj => iv_get _ _ _ (by omega)
  have s8z := s8_of zs8 rfl
  go_enter Tryz.func66, Tryz.ntmps66
  have n8 := iv_newg .u64 zs8 83 8 rfl
  go_wp2_with (refine wpList_build0 rfl 83 rfl _ build8x ?_)
  go_loopw [5] (fun c wr => ∃ j : Nat, j ≤ 7 ∧ c = .int .i64 j ∧ Below w.heap.size w wr ∧ (∀ i, i < j → 0 ≤ n.getD i 0 ∧ n.getD i 0 < 1024) ∧ wr.heap[w.heap.size]? = some (.cells (iv .i64 n) 95 (0, 0)) ∧
      wr.heap[w.heap.size + 1]? = some (.cells (iv .u64 zs8) 83 (0, 0)) ∧ wr.heap[w.heap.size + 1 + 1]? = some (.cells (iv .u64 (wUp (fun i => 4294967296 + n.getD i 0) j)) 83 (0, 0)))
     (fun c _ => 7 - (intOf c).toNat)
  case atStart =>
    refine ⟨0, by omega, rfl, unhide GB _ _ _, fun i hi => by omega, (unhide G0 _ _ _).1, (unhide G0 _ _ _).2.1, ?_⟩
    rw [wUp_zero]; exact (unhide G0 _ _ _).2.2
  case round =>
    clear G0 GB
    obtain ⟨j, hj, rfl, hb, hall, g0, g1, g2⟩ := hrel
    have GN := hide g0
    have G1 := hide g1
    have G2 := hide g2
    have HB := hide hb
    have HA := hide hall
    clear g0 g1 g2 hb hall
    by_cases hlt : j < 7
    · have c0 : wr.cell? ⟨w.heap.size, j, none⟩ = some (.int .i64 (n.getD j 0)) := by rw [cell_of_block (unhide GN), unhide HX j hlt]
      by_cases h0 : n.getD j 0 < 0
      · have HV : Hid (rootV n = zs8 ∧ rootE n = 1) := by have := mayT_not n j hlt (by omega); simp [rootV, rootE, this]; trivial
        generalize n.getD j 0 = z at *
        go_wp2_with (first | (refine wpList_build0 rfl 83 rfl _ build8x ?_) | (refine wpList_store_row rfl 83 _ _ rfl (w.heap.size + 1) (iv .u64 zs8) rfl rfl _ _ (unhide G1) s8z rfl (iv_one _ _) ?_))
        refine bodyPost_ret (v := .tuple #[.agg (iv .u64 zs8), .int .i64 1]) (results_two Tryz.results66 _ _ (w.heap.size + 1) 83 (iv .u64 zs8) (0, 0) _ _ rfl rfl (setRow_heap _ _ _ _ _ _ (unhide G1)) Tryz.underlying83 rfl s8z) rfl ?_
        exact ⟨by rw [(unhide HV).1, (unhide HV).2], below_row (unhide HB) (by omega) _⟩
      · by_cases h1 : 1024 ≤ n.getD j 0
        · have HV : Hid (rootV n = zs8 ∧ rootE n = 1) := by have := mayT_not n j hlt (by omega); simp [rootV, rootE, this]; trivial
          generalize n.getD j 0 = z at *
          go_wp2_with (first | (refine wpList_build0 rfl 83 rfl _ build8x ?_) | (refine wpList_store_row rfl 83 _ _ rfl (w.heap.size + 1) (iv .u64 zs8) rfl rfl _ _ (unhide G1) s8z rfl (iv_one _ _) ?_))
          refine bodyPost_ret (v := .tuple #[.agg (iv .u64 zs8), .int .i64 1]) (results_two Tryz.results66 _ _ (w.heap.size + 1) 83 (iv .u64 zs8) (0, 0) _ _ rfl rfl (setRow_heap _ _ _ _ _ _ (unhide G1)) Tryz.underlying83 rfl s8z) rfl ?_
          exact ⟨by rw [(unhide HV).1, (unhide HV).2], below_row (unhide HB) (by omega) _⟩
        · have c2 : wr.cell? ⟨w.heap.size + 1 + 1, j, none⟩ = some (.int .u64 0) := by rw [cell_of_block (unhide G2), iv_get _ _ _ (by rw [wUp_len]; omega), wUp_get _ _ _ (by omega), if_neg (by omega)]
          have f2 : wr.frozen? ⟨w.heap.size + 1 + 1, j, none⟩ = false := unfrozen_of_block (unhide G2) _
          have Hset : Hid ((iv .u64 (wUp (fun i => 4294967296 + n.getD i 0) j)).setIfInBounds j (.int .u64 (4294967296 + n.getD j 0)) = iv .u64 (wUp (fun i => 4294967296 + n.getD i 0) (j + 1))) := by
            show _ = _; rw [iv_set, ← wUp_set _ _ hlt]
          have HA2 : Hid (∀ i, i < j + 1 → 0 ≤ n.getD i 0 ∧ n.getD i 0 < 1024) := fun i hi => by
            by_cases e : i = j
            · subst e; omega
            · exact unhide HA i (by omega)
          clear HA
          generalize hz : n.getD j 0 = z at *
          have HZ := hide hz
          clear hz
          have hor : bits .or .u64 z 4294967296 = 4294967296 + z := by have := or_mark z.toNat (by omega); rwa [Int.toNat_of_nonneg (by omega)] at this
          go_wp2_with fail
          go_roundw
          case rel =>
            refine ⟨j + 1, by omega, by go_num, (unhide HB).setCell (by simp; omega) _, unhide HA2, ?_, ?_, ?_⟩
            · rw [heap_setCell_other _ _ _ _ (by simp; omega)]; exact unhide GN
            · rw [heap_setCell_other _ _ _ _ (by simp)]; exact unhide G1
            · rw [block_setCell (unhide G2), unhide Hset]
          case measure => simp [intOf]; omega
    · obtain rfl : j = 7 := by omega
      have hm : mayT n = true := (mayT_iff n).2 (unhide HA)
      have HV : Hid (rootV n = rootS n ∧ rootE n = 0) := by simp [rootV, rootE, hm]; trivial
      have S := hide (rseal_any (wUp (fun i => 4294967296 + n.getD i 0) 7) (wUp_len _ _) (wUp_wf _ _ fun i h _ => by have := unhide HA i h; omega))
      have s8a := s8_of (wUp (fun i => 4294967296 + n.getD i 0) 7) (wUp_len _ _)
      have s8b := s8_of (rootS n) (lineG_len _)
      have e8 : (iv .u64 (rootS n)).size = (iv .u64 zs8).size := by rw [iv_size, iv_size, show (rootS n).length = 8 from lineG_len _]; rfl
      rw [show sealOf (wUp (fun i => 4294967296 + n.getD i 0) 7) = rootS n from rfl] at S
      clear HX hm s7
      go_wp2_with (refine wpList_load_row rfl 83 _ rfl (w.heap.size + 1 + 1) rfl _ _ _ _ (unhide G2) Tryz.underlying83 rfl s8a ?_)
      refine (unhide S _).mono ?_
      rintro e w2 ⟨rfl, hb2⟩
      have hsz : w.heap.size + 1 + 1 < wr.heap.size := by
        rcases Nat.lt_or_ge (w.heap.size + 1 + 1) wr.heap.size with h | h
        · exact h
        · have := unhide G2; rw [Array.getElem?_eq_none h] at this; simp at this
      have K1 := hide ((hb2.block (w.heap.size + 1) (by omega)).trans (unhide G1))
      have Hb2 := hide ((unhide HB).trans (hb2.mono (by omega)))
      clear hb2 S G1 G2 HB GN
      go_wp2_with (refine wpList_store_row rfl 83 _ _ rfl (w.heap.size + 1) (iv .u64 (rootS n)) rfl rfl _ _ (unhide K1) s8b e8 (iv_one _ _) ?_)
      refine bodyPost_ret (v := .tuple #[.agg (iv .u64 (rootS n)), .int .i64 0]) (results_two Tryz.results66 _ _ (w.heap.size + 1) 83 (iv .u64 (rootS n)) (0, 0) _ _ rfl rfl (setRow_heap _ _ _ _ _ _ (unhide K1)) Tryz.underlying83 rfl s8b) rfl ?_
      exact ⟨by rw [(unhide HV).1, (unhide HV).2], below_row (unhide Hb2) (by omega) _⟩

set_option maxHeartbeats 4000000 in
theorem rreadRoot_any (l : List Int) (hl : l.length = 8) (hw : ∀ z ∈ l, (Lit.int .u64 z).wf = true) (w : World) :
    Calls Tryz.prog 170 #[.agg (iv .u64 l)] w fun e w' => e = .returned (.tuple #[.agg (iv .i64 (readTV l)), .bool (isT l)]) ∧ Below w.heap.size w w' := by
  have hR := wfs_u64 hw
  have G0 := hide (fun A B C : Obj => heap3 w A B C)
  have GB := hide (fun A B C : Obj => below_alloc3 w A B C)
  have s7z := s7_of zs7 rfl
  have C1 := hide (rroot_any (modT l) (tab7_len _))
  go_enter Tryz.func170, Tryz.ntmps170
  have n7 := iv_newg .i64 zs7 95 7 rfl
  go_wp2_with (refine wpList_build0 rfl 95 rfl _ build7x ?_)
  go_loopw [5] (fun c wr => ∃ j : Nat, j ≤ 7 ∧ c = .int .i64 j ∧ Below w.heap.size w wr ∧
      wr.heap[w.heap.size]? = some (.cells (iv .u64 l) 83 (0, 0)) ∧ wr.heap[w.heap.size + 1]? = some (.cells (iv .i64 zs7) 95 (0, 0)) ∧ wr.heap[w.heap.size + 1 + 1]? = some (.cells (iv .i64 (tab7 fun i => if i < j then l.getD i 0 % 4294967296 else 0)) 95 (0, 0)))
     (fun c _ => 7 - (intOf c).toNat)
  case atStart =>
    refine ⟨0, by omega, rfl, unhide GB _ _ _, (unhide G0 _ _ _).1, (unhide G0 _ _ _).2.1, ?_⟩
    rw [tab7_zero]; exact (unhide G0 _ _ _).2.2
  case round =>
    clear G0 GB
    obtain ⟨j, hj, rfl, hb, g0, gr, g1⟩ := hrel
    have GR := hide gr
    have G0 := hide g0
    have G1 := hide g1
    have HB := hide hb
    clear g0 g1 gr hb
    by_cases hlt : j < 7
    · have c0 : wr.cell? ⟨w.heap.size, j, none⟩ = some (.int .u64 (l.getD j 0)) := by rw [cell_of_block (unhide G0), iv_get _ _ _ (by omega)]
      have c1 : wr.cell? ⟨w.heap.size + 1 + 1, j, none⟩ = some (.int .i64 0) := by rw [cell_of_block (unhide G1), iv_get _ _ _ (by rw [tab7_len]; omega), tab7_get _ _ (by omega), if_neg (by omega)]
      have f1 : wr.frozen? ⟨w.heap.size + 1 + 1, j, none⟩ = false := unfrozen_of_block (unhide G1) _
      have Hset : Hid ((iv .i64 (tab7 fun i => if i < j then l.getD i 0 % 4294967296 else 0)).setIfInBounds j (.int .i64 (l.getD j 0 % 4294967296)) = iv .i64 (tab7 fun i => if i < j + 1 then l.getD i 0 % 4294967296 else 0)) := by
        show _ = _; rw [iv_set, ← tab7_set _ _ hlt]
      obtain ⟨r0, r1⟩ := hR j
      clear hR hw C1
      generalize l.getD j 0 = z at *
      go_wp2_with fail
      go_roundw
      case rel =>
        refine ⟨j + 1, by omega, by go_num, (unhide HB).setCell (by simp; omega) _, ?_, ?_, ?_⟩
        · rw [heap_setCell_other _ _ _ _ (by simp; omega)]; exact unhide G0
        · rw [heap_setCell_other _ _ _ _ (by simp)]; exact unhide GR
        · rw [block_setCell (unhide G1)]; rw [← unhide Hset]
      case measure => simp [intOf]; omega
    · obtain rfl : j = 7 := by omega
      rw [tab7_all] at G1
      have s7 := s7_of (modT l) (tab7_len _)
      have G2 : Hid (wr.heap[w.heap.size + 1 + 1]? = some (.cells (iv .i64 (modT l)) 95 (0, 0))) := unhide G1
      have hs0 := lt_of_heap (unhide G0)
      have hs1 := lt_of_heap (unhide G2)
      clear G1
      go_wp2_with (refine wpList_load_row rfl 95 _ rfl (w.heap.size + 1 + 1) rfl _ _ _ _ (unhide G2) Tryz.underlying95 rfl s7 ?_)
      refine (unhide C1 _).mono ?_
      rintro e w2 ⟨rfl, hb2⟩
      have hs2 := hb2.size
      have K0 := hide ((hb2.block _ hs0).trans (unhide G0))
      have K1 := hide ((hb2.block _ (by omega)).trans (unhide GR))
      have K2 := hide ((hb2.block _ hs1).trans (unhide G2))
      have Hb2 := hide ((unhide HB).trans (hb2.mono (by omega)))
      clear hb2 C1 G0 G2 HB GR
      have hst := iv_newx .u64 (rootV (modT l)) 83 8 (rootV_len _)
      have K0' := hide ((Below.heap_alloc w2 (.cells (iv .u64 (rootV (modT l))) 83) w.heap.size (by omega)).trans (unhide K0))
      have K1' := hide ((Below.heap_alloc w2 (.cells (iv .u64 (rootV (modT l))) 83) (w.heap.size + 1) (by omega)).trans (unhide K1))
      have K2' := hide ((Below.heap_alloc w2 (.cells (iv .u64 (rootV (modT l))) 83) (w.heap.size + 1 + 1) (by omega)).trans (unhide K2))
      have K3' := hide (heap_new w2 (.cells (iv .u64 (rootV (modT l))) 83))
      have Hb' := hide ((unhide Hb2).alloc (by omega) (.cells (iv .u64 (rootV (modT l))) 83))
      clear K0 K1 K2 Hb2
      have EQ : Hid (∀ w, (Op.equalIn 10000 83 (.agg (iv .u64 (rootV (modT l)))) (.agg (iv .u64 l))).run Tryz.prog w = .ok (decide (rootV (modT l) = l)) w) := fun w => equal_line _ l (rootV_len _) hl w
      have s8a := s8_of (rootV (modT l)) (rootV_len _)
      have s8b := s8_of l hl
      have z7 : (iv .i64 zs7).size = (iv .i64 (modT l)).size := by rw [iv_size, iv_size, show (modT l).length = 7 from tab7_len _]; rfl
      cases hm : mayT (modT l) with
      | false =>
        have HV : Hid (readTV l = zs7 ∧ isT l = false) := by have := modT_none l hm; simp [readTV, this]; trivial
        rw [show rootE (modT l) = 1 by simp [rootE, hm]] at *
        have hl8 : (iv .u64 (rootV (modT l))).size = 8 := by rw [iv_size, rootV_len]
        generalize iv .u64 (rootV (modT l)) = L at *
        clear hm hw hR hj
        go_wp2_with (first | (refine wpList_build0 rfl 95 rfl _ build7x ?_) | (with_reducible refine wpList_store_row (by with_unfolding_all rfl) 95 _ _ (by with_unfolding_all rfl) (w.heap.size + 1) (iv .i64 zs7) (by with_unfolding_all rfl) (by with_unfolding_all rfl) _ _ (unhide K1') s7z rfl (iv_one _ _) ?_))
        refine bodyPost_ret (v := .tuple #[.agg (iv .i64 zs7), .bool false]) (results_two Tryz.results170 _ _ (w.heap.size + 1) 95 (iv .i64 zs7) (0, 0) _ _ rfl rfl (setRow_heap _ _ _ _ _ _ (unhide K1')) Tryz.underlying95 rfl s7z) rfl ?_
        exact ⟨by rw [(unhide HV).1, (unhide HV).2], below_row (unhide Hb') (by omega) _⟩
      | true =>
        have e2 := modT_test l hl hm
        have e3 : decide (rootV (modT l) = l) = isT l := by rw [← e2]; unfold rootV; rw [if_pos hm]
        rw [e3] at EQ
        rw [show rootE (modT l) = 0 by simp [rootE, hm]] at *
        have hl8 : (iv .u64 (rootV (modT l))).size = 8 := by rw [iv_size, rootV_len]
        generalize iv .u64 (rootV (modT l)) = L at *
        clear hm hw hR hj e2 e3
        cases hi : isT l with
        | false =>
          have HV : Hid (readTV l = zs7 ∧ isT l = false) := by simp [readTV, hi]; trivial
          rw [hi] at EQ
          clear hi
          go_wp2_with (first | (with_reducible refine wpList_load_row_g (by with_unfolding_all rfl) 83 (.tmp 6) (by with_unfolding_all rfl) w2.heap.size (by with_unfolding_all rfl) _ _ _ _ (unhide K3') Tryz.underlying83 (by with_unfolding_all rfl) s8a ?_) | (with_reducible refine wpList_load_row_g (by with_unfolding_all rfl) 83 (.tmp 1) (by with_unfolding_all rfl) w.heap.size (by with_unfolding_all rfl) _ _ _ _ (unhide K0') Tryz.underlying83 (by with_unfolding_all rfl) s8b ?_) | (with_reducible refine wpList_neqA (by with_unfolding_all rfl) 83 83 (.tmp 28) (.tmp 29) (by with_unfolding_all rfl) L (iv .u64 l) (by with_unfolding_all rfl) (by with_unfolding_all rfl) line_guard2 _ (unhide EQ) ?_) | (refine wpList_build0 rfl 95 rfl _ build7x ?_) | (with_reducible refine wpList_store_row (by with_unfolding_all rfl) 95 _ _ (by with_unfolding_all rfl) (w.heap.size + 1) (iv .i64 zs7) (by with_unfolding_all rfl) (by with_unfolding_all rfl) _ _ (unhide K1') s7z rfl (iv_one _ _) ?_))
          refine bodyPost_ret (v := .tuple #[.agg (iv .i64 zs7), .bool false]) (results_two Tryz.results170 _ _ (w.heap.size + 1) 95 (iv .i64 zs7) (0, 0) _ _ rfl rfl (setRow_heap _ _ _ _ _ _ (unhide K1')) Tryz.underlying95 rfl s7z) rfl ?_
          exact ⟨by rw [(unhide HV).1, (unhide HV).2], below_row (unhide Hb') (by omega) _⟩
        | true =>
          have HV : Hid (readTV l = modT l ∧ isT l = true) := by rw [modT_read l hi]; simp [readTV, hi]; trivial
          rw [hi] at EQ
          clear hi
          go_wp2_with (first | (with_reducible refine wpList_load_row_g (by with_unfolding_all rfl) 83 (.tmp 6) (by with_unfolding_all rfl) w2.heap.size (by with_unfolding_all rfl) _ _ _ _ (unhide K3') Tryz.underlying83 (by with_unfolding_all rfl) s8a ?_) | (with_reducible refine wpList_load_row_g (by with_unfolding_all rfl) 83 (.tmp 1) (by with_unfolding_all rfl) w.heap.size (by with_unfolding_all rfl) _ _ _ _ (unhide K0') Tryz.underlying83 (by with_unfolding_all rfl) s8b ?_) | (with_reducible refine wpList_neqA (by with_unfolding_all rfl) 83 83 (.tmp 28) (.tmp 29) (by with_unfolding_all rfl) L (iv .u64 l) (by with_unfolding_all rfl) (by with_unfolding_all rfl) line_guard2 _ (unhide EQ) ?_) | (with_reducible refine wpList_load_row (by with_unfolding_all rfl) 95 _ (by with_unfolding_all rfl) (w.heap.size + 1 + 1) (by with_unfolding_all rfl) _ _ _ _ (unhide K2') Tryz.underlying95 (by with_unfolding_all rfl) s7 ?_) | (with_reducible refine wpList_store_row (by with_unfolding_all rfl) 95 _ _ (by with_unfolding_all rfl) (w.heap.size + 1) (iv .i64 (modT l)) (by with_unfolding_all rfl) (by with_unfolding_all rfl) _ _ (unhide K1') s7 z7 (iv_one _ _) ?_))
          refine bodyPost_ret (v := .tuple #[.agg (iv .i64 (modT l)), .bool true]) (results_two Tryz.results170 _ _ (w.heap.size + 1) 95 (iv .i64 (modT l)) (0, 0) _ _ rfl rfl (setRow_heap _ _ _ _ _ _ (unhide K1')) Tryz.underlying95 rfl s7) rfl ?_
          exact ⟨by rw [(unhide HV).1, (unhide HV).2], below_row (unhide Hb') (by omega) _⟩

end Go.Proofs.YtiafhcgaikapcaaGreat
