
/-
  The document's Root and ReadRoot: what each call returns, for whatever numbers and line; nothing that was there turns.
-/
import Derived.Test.YtinhnnnehhlceaaGreatPkXl
namespace Go.Proofs.YtinhnnnehhlceaaGreat
open Go.ChangeShapes Go.WideShapes Go.ChangeAt Go.RowKit Go.Joins
set_option maxRecDepth 10000
set_option linter.unusedVariables false
set_option linter.unusedSimpArgs false

set_option maxHeartbeats 4000000 in
theorem rroot_any (n : List Int) (hl : n.length = 7) (w : World) :
    Calls Tryz.prog 68 #[.agg (iv .i64 n)] w fun e w' => e = .returned (.tuple #[.agg (iv .u64 (rootV n)), .int .i64 (rootE n)]) ∧ Below w.heap.size w w' := by
  have s7 := s7_of n hl
  have G0 := hide (fun A B C : Obj => heap3 w A B C)
  have GB := hide (fun A B C : Obj => below_alloc3 w A B C)
  have HX : Hid (∀ j, j < 7 → (iv .i64 n)[j]? = some (.int .i64 (n.getD j 0))) := fun j hj => iv_get _ _ _ (by omega)
  have s8z := s8_of zs8 rfl
  go_enter Tryz.func68, Tryz.ntmps68
  have n8 := iv_newg .u64 zs8 83 8 rfl
  go_wp2_with (refine wpList_build0 rfl 83 rfl _ build8x ?_)
  go_loopw [5] (fun c wr => ∃ j : Nat, j ≤ 7 ∧ c = .int .i64 j ∧ Below w.heap.size w wr ∧ (∀ i, i < j → 0 ≤ n.getD i 0 ∧ n.getD i 0 < 1024) ∧ wr.heap[w.heap.size]? = some (.cells (iv .i64 n) 94 (0, 0)) ∧
      wr.heap[w.heap.size + 1]? = some (.cells (iv .u64 zs8) 83 (0, 0)) ∧ wr.heap[w.heap.size + 1 + 1]? = some (.cells (iv .u64 (wUp (fun i => 4294967296 + n.getD i 0) j)) 83 (0, 0)))
     (fun c _ => 7 - (intOf c).toNat)
  case atStart =>
    refine ⟨0, by omega, rfl, unhide GB _ _ _, fun i hi => by omega, (unhide G0 _ _ _).1, (unhide G0 _ _ _).2.1, ?_⟩
    rw [wUp_zero]; exact (unhide G0 _ _ _).2.2
  case round =>
    clear G0 GB
    obtain ⟨j, hj, rfl, hb, hall, g0, g1, g2⟩ := hrel
    have GN := hide g0
    have G1 := hide g1
    have G2 := hide g2
    have HB := hide hb
    have HA := hide hall
    clear g0 g1 g2 hb hall
    by_cases hlt : j < 7
    · have c0 : wr.cell? ⟨w.heap.size, j, none⟩ = some (.int .i64 (n.getD j 0)) := by rw [cell_of_block (unhide GN), unhide HX j hlt]
      by_cases h0 : n.getD j 0 < 0
      · have HV : Hid (rootV n = zs8 ∧ rootE n = 1) := by have := mayT_not n j hlt (by omega); simp [rootV, rootE, this]; trivial
        generalize n.getD j 0 = z at *
        go_wp2_with (first | (refine wpList_build0 rfl 83 rfl _ build8x ?_) | (refine wpList_store_row rfl 83 _ _ rfl (w.heap.size + 1) (iv .u64 zs8) rfl rfl _ _ (unhide G1) s8z rfl (iv_one _ _) ?_))
        refine bodyPost_ret (v := .tuple #[.agg (iv .u64 zs8), .int .i64 1]) (results_two Tryz.results68 _ _ (w.heap.size + 1) 83 (iv .u64 zs8) (0, 0) _ _ rfl rfl (setRow_heap _ _ _ _ _ _ (unhide G1)) Tryz.underlying83 rfl s8z) rfl ?_
        exact ⟨by rw [(unhide HV).1, (unhide HV).2], below_row (unhide HB) (by omega) _⟩
      · by_cases h1 : 1024 ≤ n.getD j 0
        · have HV : Hid (rootV n = zs8 ∧ rootE n = 1) := by have := mayT_not n j hlt (by omega); simp [rootV, rootE, this]; trivial
          generalize n.getD j 0 = z at *
          go_wp2_with (first | (refine wpList_build0 rfl 83 rfl _ build8x ?_) | (refine wpList_store_row rfl 83 _ _ rfl (w.heap.size + 1) (iv .u64 zs8) rfl rfl _ _ (unhide G1) s8z rfl (iv_one _ _) ?_))
          refine bodyPost_ret (v := .tuple #[.agg (iv .u64 zs8), .int .i64 1]) (results_two Tryz.results68 _ _ (w.heap.size + 1) 83 (iv .u64 zs8) (0, 0) _ _ rfl rfl (setRow_heap _ _ _ _ _ _ (unhide G1)) Tryz.underlying83 rfl s8z) rfl ?_
          exact ⟨by rw [(unhide HV).1, (unhide HV).2], below_row (unhide HB) (by omega) _⟩
        · have c2 : wr.cell? ⟨w.heap.size + 1 + 1, j, none⟩ = some (.int .u64 0) := by rw [cell_of_block (unhide G2), iv_get _ _ _ (by rw [wUp_len]; omega), wUp_get _ _ _ (by omega), if_neg (by omega)]
          have f2 : wr.frozen? ⟨w.heap.size + 1 + 1, j, none⟩ = false := unfrozen_of_block (unhide G2) _
          have Hset : Hid ((iv .u64 (wUp (fun i => 4294967296 + n.getD i 0) j)).setIfInBounds j (.int .u64 (4294967296 + n.getD j 0)) = iv .u64 (wUp (fun i => 4294967296 + n.getD i 0) (j + 1))) := by
            show _ = _; rw [iv_set, ← wUp_set _ _ hlt]
          have HA2 : Hid (∀ i, i < j + 1 → 0 ≤ n.getD i 0 ∧ n.getD i 0 < 1024) := fun i hi => by
            by_cases e : i = j
            · subst e; omega
            · exact unhide HA i (by omega)
          clear HA
          generalize hz : n.getD j 0 = z at *
          have HZ := hide hz
          clear hz
          have hor : bits .or .u64 z 4294967296 = 4294967296 + z := by have := or_mark z.toNat (by omega); rwa [Int.toNat_of_nonneg (by omega)] at this
          go_wp2_with fail
          go_roundw
          case rel =>
            refine ⟨j + 1, by omega, by go_num, (unhide HB).setCell (by simp; omega) _, unhide HA2, ?_, ?_, ?_⟩
            · rw [heap_setCell_other _ _ _ _ (by simp; omega)]; exact unhide GN
            · rw [heap_setCell_other _ _ _ _ (by simp)]; exact unhide G1
            · rw [block_setCell (unhide G2), unhide Hset]
          case measure => simp [intOf]; omega
    · obtain rfl : j = 7 := by omega
      have hm : mayT n = true := (mayT_iff n).2 (unhide HA)
      have HV : Hid (rootV n = rootS n ∧ rootE n = 0) := by simp [rootV, rootE, hm]; trivial
      have S := hide (rseal_any (wUp (fun i => 4294967296 + n.getD i 0) 7) (wUp_len _ _) (wUp_wf _ _ fun i h _ => by have := unhide HA i h; omega))
      have s8a := s8_of (wUp (fun i => 4294967296 + n.getD i 0) 7) (wUp_len _ _)
      have s8b := s8_of (rootS n) (lineG_len _)
      have e8 : (iv .u64 (rootS n)).size = (iv .u64 zs8).size := by rw [iv_size, iv_size, show (rootS n).length = 8 from lineG_len _]; rfl
      rw [show sealOf (wUp (fun i => 4294967296 + n.getD i 0) 7) = rootS n from rfl] at S
      clear HX hm s7
      go_wp2_with (refine wpList_load_row rfl 83 _ rfl (w.heap.size + 1 + 1) rfl _ _ _ _ (unhide G2) Tryz.underlying83 rfl s8a ?_)
      refine (unhide S _).mono ?_
      rintro e w2 ⟨rfl, hb2⟩
      have hsz : w.heap.size + 1 + 1 < wr.heap.size := by
        rcases Nat.lt_or_ge (w.heap.size + 1 + 1) wr.heap.size with h | h
        · exact h
        · have := unhide G2; rw [Array.getElem?_eq_none h] at this; simp at this
      have K1 := hide ((hb2.block (w.heap.size + 1) (by omega)).trans (unhide G1))
      have Hb2 := hide ((unhide HB).trans (hb2.mono (by omega)))
      clear hb2 S G1 G2 HB GN
      go_wp2_with (refine wpList_store_row rfl 83 _ _ rfl (w.heap.size + 1) (iv .u64 (rootS n)) rfl rfl _ _ (unhide K1) s8b e8 (iv_one _ _) ?_)
      refine bodyPost_ret (v := .tuple #[.agg (iv .u64 (rootS n)), .int .i64 0]) (results_two Tryz.results68 _ _ (w.heap.size + 1) 83 (iv .u64 (rootS n)) (0, 0) _ _ rfl rfl (setRow_heap _ _ _ _ _ _ (unhide K1)) Tryz.underlying83 rfl s8b) rfl ?_
      exact ⟨by rw [(unhide HV).1, (unhide HV).2], below_row (unhide Hb2) (by omega) _⟩

end Go.Proofs.YtinhnnnehhlceaaGreat
