
/-
  The document's ReadLeaf: what it returns for whatever line; nothing that was there turns.
-/
import Derived.Test.YtnjicfnigfkppaaXRLeaf
namespace Go.Proofs.Ytnjicfnigfkppaa
open Go.ChangeShapes Go.WideShapes Go.ChangeAt Go.RowKit Go.Joins
set_option maxRecDepth 10000
set_option linter.unusedVariables false
set_option linter.unusedSimpArgs false

set_option maxHeartbeats 4000000 in
theorem rreadLeaf_any (l : List Int) (hl : l.length = 8) (hw : ∀ z ∈ l, (Lit.int .u64 z).wf = true) (w : World) :
    Calls Try.prog 13 #[.agg (iv .u64 l)] w fun e w' => e = .returned (.tuple #[.agg (iv .i64 (readXV l)), .bool (isX l)]) ∧ Below w.heap.size w w' := by
  have hR := wfs_u64 hw
  have G0 := hide (fun A B C : Obj => heap3 w A B C)
  have GB := hide (fun A B C : Obj => below_alloc3 w A B C)
  have s21z := s21_of (zrow 7) (zrow_len 7)
  have CG := hide (rgood_any l hl hw)
  have n21 := iv_newg .i64 (zrow 7) 33 21 (zrow_len 7)
  have s8 := s8_of l hl
  go_enter Try.func13, Try.ntmps13
  go_wp2_with (refine wpList_build0 rfl 33 rfl _ build21 ?_)
  go_loopw [5] (fun c wr => ∃ j : Nat, j ≤ 7 ∧ c = .int .i64 j ∧ Below w.heap.size w wr ∧ (∀ i, i < j → isN (l.getD i 0) = true ∧ goodB l = true) ∧
      wr.heap[w.heap.size]? = some (.cells (iv .u64 l) 27 (0, 0)) ∧ wr.heap[w.heap.size + 1]? = some (.cells (iv .i64 (zrow 7)) 33 (0, 0)) ∧
      wr.heap[w.heap.size + 1 + 1]? = some (.cells (iv .i64 (rowE 7 (upTo (fun i => onV (l.getD i 0)) j))) 33 (0, 0)))
     (fun c _ => 7 - (intOf c).toNat)
  case atStart =>
    refine ⟨0, by omega, rfl, unhide GB _ _ _, fun i hi => by omega, (unhide G0 _ _ _).1, ?_, ?_⟩
    · rw [← zero21]; exact (unhide G0 _ _ _).2.1
    · rw [upTo_zero]; exact (unhide G0 _ _ _).2.2
  case round =>
    clear G0 GB n21
    obtain ⟨j, hj, rfl, hb, hall, g0, g1, g2⟩ := hrel
    have G0 := hide g0
    have G1 := hide g1
    have G2 := hide g2
    have HB := hide hb
    have HA := hide hall
    have hs2 := lt_of_heap g2
    clear g0 g1 g2 hb hall
    by_cases hlt : j < 7
    · obtain ⟨r0, r1⟩ := hR j
      have c0 : wr.cell? ⟨w.heap.size, j, none⟩ = some (.int .u64 (l.getD j 0)) := by rw [cell_of_block (unhide G0), iv_get _ _ _ (by omega)]
      have C1 := hide (reof_any (l.getD j 0) r0 r1)
      have Hset : Hid (put3 (rowE 7 (upTo (fun i => onV (l.getD i 0)) j)) j (onV (l.getD j 0)) = rowE 7 (upTo (fun i => onV (l.getD i 0)) (j + 1))) := put3_upTo 7 _ j hlt
      have HL : Hid ((rowE 7 (upTo (fun i => onV (l.getD i 0)) j)).length = 21) := rowE_len _ _
      have HA2 : Hid (isN (l.getD j 0) = true → goodB l = true → ∀ i, i < j + 1 → isN (l.getD i 0) = true ∧ goodB l = true) := fun hm hg i hi => by
        by_cases e : i = j
        · subst e; exact ⟨hm, hg⟩
        · exact unhide HA i (by omega)
      have HV : Hid (isN (l.getD j 0) = false ∨ goodB l = false → readXV l = zrow 7 ∧ isX l = false) := fun hm => by
        have h2 : isX l = false := by
          unfold isX
          rcases hm with hm | hm
          · rw [allN_not l j hlt hm]; rfl
          · rw [hm, Bool.and_false]
        simp [readXV, h2]
      clear hR hw HA
      generalize hz : l.getD j 0 = z at *
      clear hz
      have n3 := ev_new (onV z) 23
      have z3 := ev_size (onV z)
      generalize hE : ev (onV z) = E at *
      have HE := hide hE
      clear hE
      go_wp2_with fail
      refine (unhide C1 _).mono ?_
      rintro e w2 ⟨rfl, hb2⟩
      have hs3 := hb2.size
      have K0 := hide ((Below.heap_alloc w2 (.cells E 23) w.heap.size (by omega)).trans ((hb2.block _ (by omega)).trans (unhide G0)))
      have K1 := hide ((Below.heap_alloc w2 (.cells E 23) (w.heap.size + 1) (by omega)).trans ((hb2.block _ (by omega)).trans (unhide G1)))
      have K2 := hide ((Below.heap_alloc w2 (.cells E 23) (w.heap.size + 1 + 1) (by omega)).trans ((hb2.block _ (by omega)).trans (unhide G2)))
      have K3 := hide (heap_new w2 (.cells E 23))
      have Hb2 := hide (((unhide HB).trans (hb2.mono (by omega))).alloc (by omega) (.cells E 23))
      clear hb2 C1 G0 G1 G2 HB c0
      cases hm : isN z with
      | false =>
        have HV2 := hide (unhide HV (Or.inl hm))
        clear HV HA2 hm
        go_wp2_with (first | (refine wpList_build0 rfl 33 rfl _ build21 ?_) | (with_reducible refine wpList_store_row (by with_unfolding_all rfl) 33 _ _ (by with_unfolding_all rfl) (w.heap.size + 1) (iv .i64 (zrow 7)) (by with_unfolding_all rfl) (by with_unfolding_all rfl) _ _ (unhide K1) s21z rfl (iv_one _ _) ?_))
        refine bodyPost_ret (v := .tuple #[.agg (iv .i64 (zrow 7)), .bool false]) (results_two Try.results13 _ _ (w.heap.size + 1) 33 (iv .i64 (zrow 7)) (0, 0) _ _ rfl rfl (setRow_heap _ _ _ _ _ _ (unhide K1)) Try.underlying33 rfl s21z) rfl ?_
        exact ⟨by rw [(unhide HV2).1, (unhide HV2).2], below_row (unhide Hb2) (by omega) _⟩
      | true =>
        go_wp2_with (with_reducible refine wpList_load_row_g (by with_unfolding_all rfl) 27 (.tmp 1) (by with_unfolding_all rfl) w.heap.size (by with_unfolding_all rfl) _ _ _ _ (unhide K0) Try.underlying27 (by with_unfolding_all rfl) s8 ?_)
        refine (unhide CG _).mono ?_
        rintro e w3 ⟨rfl, hb3⟩
        have hs4 : w2.heap.size + 1 ≤ w3.heap.size := by have := hb3.size; simpa using this
        replace K0 := hide ((hb3.block _ (by simp; omega)).trans (unhide K0))
        replace K1 := hide ((hb3.block _ (by simp; omega)).trans (unhide K1))
        replace K2 := hide ((hb3.block _ (by simp; omega)).trans (unhide K2))
        replace K3 := hide ((hb3.block _ (by simp)).trans (unhide K3))
        replace Hb2 := hide ((unhide Hb2).trans (hb3.mono (by simp; omega)))
        clear hb3 CG
        cases hg : goodB l with
        | false =>
          have HV2 := hide (unhide HV (Or.inr hg))
          clear HV HA2 hm hg
          go_wp2_with (first | (refine wpList_build0 rfl 33 rfl _ build21 ?_) | (with_reducible refine wpList_store_row (by with_unfolding_all rfl) 33 _ _ (by with_unfolding_all rfl) (w.heap.size + 1) (iv .i64 (zrow 7)) (by with_unfolding_all rfl) (by with_unfolding_all rfl) _ _ (unhide K1) s21z rfl (iv_one _ _) ?_))
          refine bodyPost_ret (v := .tuple #[.agg (iv .i64 (zrow 7)), .bool false]) (results_two Try.results13 _ _ (w.heap.size + 1) 33 (iv .i64 (zrow 7)) (0, 0) _ _ rfl rfl (setRow_heap _ _ _ _ _ _ (unhide K1)) Try.underlying33 rfl s21z) rfl ?_
          exact ⟨by rw [(unhide HV2).1, (unhide HV2).2], below_row (unhide Hb2) (by omega) _⟩
        | true =>
          have HA3 := hide (unhide HA2 hm hg)
          clear HV HA2 hm hg
          generalize rowE 7 (upTo (fun i => onV (l.getD i 0)) j) = X at *
          have T2 := hide (there_en _ (unhide K2) j (by rw [unhide HL]; omega))
          have R3 : Hid (w3.rangeAt w2.heap.size 0 (ev (onV z)).toList) := fun m v hv => by
            rw [cell_of_block (unhide K3), ← unhide HE, Nat.zero_add, ← Array.getElem?_toList]; exact hv
          go_wp2_with (first | (with_reducible refine wpList_load_en (by with_unfolding_all rfl) _ (by with_unfolding_all rfl) w2.heap.size 0 (by with_unfolding_all rfl) (onV z) (unhide R3) ?_) | (with_reducible refine wpList_store_en (by with_unfolding_all rfl) _ _ (by with_unfolding_all rfl) (w.heap.size + 1 + 1) (j * 3) (onV z) (by with_unfolding_all rfl) (by with_unfolding_all rfl) (unhide T2) ?_))
          go_roundw
          case rel =>
            refine ⟨j + 1, by omega, by go_num, below_put3 (unhide Hb2) (by omega) _ _, unhide HA3, ?_, ?_, ?_⟩
            · rw [heap_put3 (by omega)]; exact unhide K0
            · rw [heap_put3 (by omega)]; exact unhide K1
            · rw [block_put3 _ (unhide K2), unhide Hset]
          case measure => simp [intOf]; omega
    · obtain rfl : j = 7 := by omega
      have ha : allN l = true := (allN_iff l).2 fun i hi => (unhide HA i hi).1
      have hi : isX l = true := by unfold isX; rw [ha, (unhide HA 0 (by omega)).2]; rfl
      have HV : Hid (readXV l = readX l ∧ isX l = true) := by simp [readXV, hi]; trivial
      have s21 := s21_of (readX l) (readX_len l)
      rw [upTo_all] at G2
      have G3 : Hid (wr.heap[w.heap.size + 1 + 1]? = some (.cells (iv .i64 (readX l)) 33 (0, 0))) := unhide G2
      have z21 : (iv .i64 (zrow 7)).size = (iv .i64 (readX l)).size := by rw [iv_size, iv_size, readX_len, zrow_len]
      clear G2 HA ha hi hR hw CG
      go_wp2_with (first | (with_reducible refine wpList_load_row (by with_unfolding_all rfl) 33 _ (by with_unfolding_all rfl) (w.heap.size + 1 + 1) (by with_unfolding_all rfl) _ _ _ _ (unhide G3) Try.underlying33 (by with_unfolding_all rfl) s21 ?_) | (with_reducible refine wpList_store_row (by with_unfolding_all rfl) 33 _ _ (by with_unfolding_all rfl) (w.heap.size + 1) (iv .i64 (readX l)) (by with_unfolding_all rfl) (by with_unfolding_all rfl) _ _ (unhide G1) s21 z21 (iv_one _ _) ?_))
      refine bodyPost_ret (v := .tuple #[.agg (iv .i64 (readX l)), .bool true]) (results_two Try.results13 _ _ (w.heap.size + 1) 33 (iv .i64 (readX l)) (0, 0) _ _ rfl rfl (setRow_heap _ _ _ _ _ _ (unhide G1)) Try.underlying33 rfl s21) rfl ?_
      exact ⟨by rw [(unhide HV).1, (unhide HV).2], below_row (unhide HB) (by omega) _⟩

end Go.Proofs.Ytnjicfnigfkppaa
