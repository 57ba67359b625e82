
/-
  radix.ReadLeaf: what it returns for whatever line; nothing that was there turns.
-/
import Derived.Test.YtnjicfnigfkppabXLeaf
namespace Go.Proofs.Ytnjicfnigfkppab
open Go.ChangeShapes Go.WideShapes Go.ChangeAt Go.RowKit Go.Joins
set_option maxRecDepth 10000
set_option linter.unusedVariables false
set_option linter.unusedSimpArgs false

theorem zero21 : (#[.int .i64 0, .int .i64 0, .int .i64 0, .int .i64 0, .int .i64 0, .int .i64 0, .int .i64 0, .int .i64 0, .int .i64 0, .int .i64 0, .int .i64 0, .int .i64 0, .int .i64 0, .int .i64 0, .int .i64 0, .int .i64 0, .int .i64 0, .int .i64 0, .int .i64 0, .int .i64 0, .int .i64 0] : Array Value) = iv .i64 (zrow 7) := by rw [zrow_zero]; rfl
set_option maxHeartbeats 4000000 in
theorem readLeaf_any (l : List Int) (hl : l.length = 8) (hw : ∀ z ∈ l, (Lit.int .u64 z).wf = true) (w : World) :
    Calls Try.prog 9 #[.agg (iv .u64 l)] w fun e w' => e = .returned (.tuple #[.agg (iv .i64 (readXV l)), .bool (isX l)]) ∧ Below w.heap.size w w' := by
  have hR := wfs_u64 hw
  have G0 := hide (fun A B : Obj => heap2 w A B)
  have GB := hide (fun A B : Obj => below_alloc2 w A B)
  have s21z := s21_of (zrow 7) (zrow_len 7)
  have C2 := hide (leafLine_any (readX l) (readX_len l))
  go_enter Try.func9, Try.ntmps9
  go_wp2_with fail
  go_loopw [7] (fun c wr => ∃ j : Nat, j ≤ 7 ∧ c = .int .i64 j ∧ Below w.heap.size w wr ∧ (∀ i, i < j → isN (l.getD i 0) = true) ∧
      wr.heap[w.heap.size]? = some (.cells (iv .u64 l) 32 (0, 0)) ∧ wr.heap[w.heap.size + 1]? = some (.cells (iv .i64 (rowE 7 (upTo (fun i => onV (l.getD i 0)) j))) 43 (0, 0)))
     (fun c _ => 7 - (intOf c).toNat)
  case atStart =>
    refine ⟨0, by omega, rfl, unhide GB _ _, fun i hi => by omega, (unhide G0 _ _).1, ?_⟩
    rw [upTo_zero, ← zero21]; exact (unhide G0 _ _).2
  case round =>
    clear G0 GB
    obtain ⟨j, hj, rfl, hb, hall, g0, g1⟩ := hrel
    have G0 := hide g0
    have G1 := hide g1
    have HB := hide hb
    have HA := hide hall
    have hs0 := lt_of_heap g0
    have hs1 := lt_of_heap g1
    clear g0 g1 hb hall
    by_cases hlt : j < 7
    · obtain ⟨r0, r1⟩ := hR j
      have c0 : wr.cell? ⟨w.heap.size, j, none⟩ = some (.int .u64 (l.getD j 0)) := by rw [cell_of_block (unhide G0), iv_get _ _ _ (by omega)]
      have C1 := hide (eof_any (l.getD j 0) r0 r1)
      have Hset : Hid (put3 (rowE 7 (upTo (fun i => onV (l.getD i 0)) j)) j (onV (l.getD j 0)) = rowE 7 (upTo (fun i => onV (l.getD i 0)) (j + 1))) := put3_upTo 7 _ j hlt
      have HL : Hid ((rowE 7 (upTo (fun i => onV (l.getD i 0)) j)).length = 21) := rowE_len _ _
      have HA2 : Hid (isN (l.getD j 0) = true → ∀ i, i < j + 1 → isN (l.getD i 0) = true) := fun hm i hi => by
        by_cases e : i = j
        · subst e; exact hm
        · exact unhide HA i (by omega)
      have HV : Hid (isN (l.getD j 0) = false → readXV l = zrow 7 ∧ isX l = false) := fun hm => by
        have h2 : isX l = false := by unfold isX; rw [allN_not l j hlt hm]; rfl
        simp [readXV, h2]
      clear hR hw C2 HA
      generalize hz : l.getD j 0 = z at *
      clear hz
      go_wp2_with fail
      refine (unhide C1 _).mono ?_
      rintro e w2 ⟨rfl, hb2⟩
      have hs2 := hb2.size
      have K0 := hide ((hb2.block _ hs0).trans (unhide G0))
      have K1 := hide ((hb2.block _ hs1).trans (unhide G1))
      have Hb2 := hide ((unhide HB).trans (hb2.mono (by omega)))
      clear hb2 C1 G0 G1 HB c0
      generalize rowE 7 (upTo (fun i => onV (l.getD i 0)) j) = X at *
      have T1 := hide (there_en _ (unhide K1) j (by rw [unhide HL]; omega))
      have K1' := hide (block_put3 _ (unhide K1) j (onV z))
      have Hb3 := hide (below_put3 (unhide Hb2) (show w.heap.size ≤ w.heap.size + 1 by omega) (j * 3) (onV z))
      have e21 : (iv .i64 (put3 X j (onV z))).size = (iv .i64 (zrow 7)).size := by rw [iv_size, iv_size, put3_len, unhide HL, zrow_len]
      cases hm : isN z with
      | false =>
        have HV2 := hide (unhide HV hm)
        clear HV HA2 hm
        go_wp2_with (first | (with_reducible refine wpList_store_en (by with_unfolding_all rfl) _ _ (by with_unfolding_all rfl) (w.heap.size + 1) (j * 3) (onV z) (by with_unfolding_all rfl) (by with_unfolding_all rfl) (unhide T1) ?_) | (refine wpList_build0 rfl 43 rfl _ build21 ?_) | (with_reducible refine wpList_store_row (by with_unfolding_all rfl) 43 _ _ (by with_unfolding_all rfl) (w.heap.size + 1) (iv .i64 (zrow 7)) (by with_unfolding_all rfl) (by with_unfolding_all rfl) _ _ (unhide K1') s21z e21 (iv_one _ _) ?_))
        refine bodyPost_ret (v := .tuple #[.agg (iv .i64 (zrow 7)), .bool false]) (results_two Try.results9 _ _ (w.heap.size + 1) 43 (iv .i64 (zrow 7)) (0, 0) _ _ rfl rfl (setRow_heap _ _ _ _ _ _ (unhide K1')) Try.underlying43 rfl s21z) rfl ?_
        exact ⟨by rw [(unhide HV2).1, (unhide HV2).2], below_row (unhide Hb3) (by omega) _⟩
      | true =>
        have HA3 := hide (unhide HA2 hm)
        clear HV HA2 hm
        go_wp2_with (with_reducible refine wpList_store_en (by with_unfolding_all rfl) _ _ (by with_unfolding_all rfl) (w.heap.size + 1) (j * 3) (onV z) (by with_unfolding_all rfl) (by with_unfolding_all rfl) (unhide T1) ?_)
        go_roundw
        case rel =>
          refine ⟨j + 1, by omega, by go_num, unhide Hb3, unhide HA3, ?_, ?_⟩
          · rw [heap_put3 (by omega)]; exact unhide K0
          · rw [unhide K1', unhide Hset]
        case measure => simp [intOf]; omega
    · obtain rfl : j = 7 := by omega
      have ha : allN l = true := (allN_iff l).2 (unhide HA)
      have hm := readX_may l ha
      have s21 := s21_of (readX l) (readX_len l)
      rw [upTo_all] at G1
      have G2 : Hid (wr.heap[w.heap.size + 1]? = some (.cells (iv .i64 (readX l)) 43 (0, 0))) := unhide G1
      rw [show leafV (readX l) = sealOf l by unfold leafV; rw [if_pos hm, readX_leaf l hl ha], show leafE (readX l) = 0 by unfold leafE; rw [if_pos hm]] at C2
      have EQ : Hid (∀ w, (Op.equalIn 10000 32 (.agg (iv .u64 (sealOf l))) (.agg (iv .u64 l))).run Try.prog w = .ok (goodB l) w) := fun w => by rw [equal_line _ l (by rw [sealOf_len, hl]) hl w, good_seal' l hl]
      have hi : isX l = goodB l := by unfold isX; rw [ha]; rfl
      have s8a := s8_of (sealOf l) (by rw [sealOf_len, hl])
      have s8b := s8_of l hl
      have z21 : (iv .i64 (readX l)).size = (iv .i64 (zrow 7)).size := by rw [iv_size, iv_size, readX_len, zrow_len]
      have hst := iv_newx .u64 (sealOf l) 32 8 (by rw [sealOf_len, hl])
      have hl8 : (iv .u64 (sealOf l)).size = 8 := by rw [iv_size, sealOf_len, hl]
      clear G1 HA ha hm hR hw
      go_wp2_with (with_reducible refine wpList_load_row (by with_unfolding_all rfl) 43 _ (by with_unfolding_all rfl) (w.heap.size + 1) (by with_unfolding_all rfl) _ _ _ _ (unhide G2) Try.underlying43 (by with_unfolding_all rfl) s21 ?_)
      refine (unhide C2 _).mono ?_
      rintro e w2 ⟨rfl, hb2⟩
      have hs2 := hb2.size
      have K0' := hide ((Below.heap_alloc w2 (.cells (iv .u64 (sealOf l)) 32) w.heap.size (by omega)).trans ((hb2.block _ hs0).trans (unhide G0)))
      have K1' := hide ((Below.heap_alloc w2 (.cells (iv .u64 (sealOf l)) 32) (w.heap.size + 1) (by omega)).trans ((hb2.block _ hs1).trans (unhide G2)))
      have K3' := hide (heap_new w2 (.cells (iv .u64 (sealOf l)) 32))
      have Hb' := hide (((unhide HB).trans (hb2.mono (by omega))).alloc (by omega) (.cells (iv .u64 (sealOf l)) 32))
      clear hb2 C2 G0 G2 HB
      generalize iv .u64 (sealOf l) = L at *
      cases hg : goodB l with
      | false =>
        have HV : Hid (readXV l = zrow 7 ∧ isX l = false) := by rw [hg] at hi; simp [readXV, hi]; trivial
        rw [hg] at EQ
        clear hg hi
        go_wp2_with (first | (with_reducible refine wpList_load_row_g (by with_unfolding_all rfl) 32 (.tmp 5) (by with_unfolding_all rfl) w2.heap.size (by with_unfolding_all rfl) _ _ _ _ (unhide K3') Try.underlying32 (by with_unfolding_all rfl) s8a ?_) | (with_reducible refine wpList_load_row_g (by with_unfolding_all rfl) 32 (.tmp 1) (by with_unfolding_all rfl) w.heap.size (by with_unfolding_all rfl) _ _ _ _ (unhide K0') Try.underlying32 (by with_unfolding_all rfl) s8b ?_) | (with_reducible refine wpList_neqA (by with_unfolding_all rfl) 32 32 (.tmp 31) (.tmp 32) (by with_unfolding_all rfl) L (iv .u64 l) (by with_unfolding_all rfl) (by with_unfolding_all rfl) line_guard2 _ (unhide EQ) ?_) | (refine wpList_build0 rfl 43 rfl _ build21 ?_) | (with_reducible refine wpList_store_row (by with_unfolding_all rfl) 43 _ _ (by with_unfolding_all rfl) (w.heap.size + 1) (iv .i64 (zrow 7)) (by with_unfolding_all rfl) (by with_unfolding_all rfl) _ _ (unhide K1') s21z z21 (iv_one _ _) ?_))
        refine bodyPost_ret (v := .tuple #[.agg (iv .i64 (zrow 7)), .bool false]) (results_two Try.results9 _ _ (w.heap.size + 1) 43 (iv .i64 (zrow 7)) (0, 0) _ _ rfl rfl (setRow_heap _ _ _ _ _ _ (unhide K1')) Try.underlying43 rfl s21z) rfl ?_
        exact ⟨by rw [(unhide HV).1, (unhide HV).2], below_row (unhide Hb') (by omega) _⟩
      | true =>
        have HV : Hid (readXV l = readX l ∧ isX l = true) := by rw [hg] at hi; simp [readXV, hi]; trivial
        rw [hg] at EQ
        clear hg hi
        go_wp2_with (first | (with_reducible refine wpList_load_row_g (by with_unfolding_all rfl) 32 (.tmp 5) (by with_unfolding_all rfl) w2.heap.size (by with_unfolding_all rfl) _ _ _ _ (unhide K3') Try.underlying32 (by with_unfolding_all rfl) s8a ?_) | (with_reducible refine wpList_load_row_g (by with_unfolding_all rfl) 32 (.tmp 1) (by with_unfolding_all rfl) w.heap.size (by with_unfolding_all rfl) _ _ _ _ (unhide K0') Try.underlying32 (by with_unfolding_all rfl) s8b ?_) | (with_reducible refine wpList_neqA (by with_unfolding_all rfl) 32 32 (.tmp 31) (.tmp 32) (by with_unfolding_all rfl) L (iv .u64 l) (by with_unfolding_all rfl) (by with_unfolding_all rfl) line_guard2 _ (unhide EQ) ?_) | (with_reducible refine wpList_load_row (by with_unfolding_all rfl) 43 _ (by with_unfolding_all rfl) (w.heap.size + 1) (by with_unfolding_all rfl) _ _ _ _ (unhide K1') Try.underlying43 (by with_unfolding_all rfl) s21 ?_) | (with_reducible refine wpList_store_row (by with_unfolding_all rfl) 43 _ _ (by with_unfolding_all rfl) (w.heap.size + 1) (iv .i64 (readX l)) (by with_unfolding_all rfl) (by with_unfolding_all rfl) _ _ (unhide K1') s21 rfl (iv_one _ _) ?_))
        refine bodyPost_ret (v := .tuple #[.agg (iv .i64 (readX l)), .bool true]) (results_two Try.results9 _ _ (w.heap.size + 1) 43 (iv .i64 (readX l)) (0, 0) _ _ rfl rfl (setRow_heap _ _ _ _ _ _ (unhide K1')) Try.underlying43 rfl s21) rfl ?_
        exact ⟨by rw [(unhide HV).1, (unhide HV).2], below_row (unhide Hb') (by omega) _⟩

end Go.Proofs.Ytnjicfnigfkppab
