
/-
  The document's Leaf and ReadLeaf: what each call returns, for whatever table, number and line; nothing that was there turns.
-/
import Derived.Test.YtiafhcgaikapcaaGreatPkXl
import Derived.Test.YtiafhcgaikapcaaGreatXRRoot
import Derived.Test.YtiafhcgaikapcaaGreatERef
namespace Go.Proofs.YtiafhcgaikapcaaGreat
open Go.ChangeShapes Go.WideShapes Go.ChangeAt Go.RowKit Go.Joins
set_option maxRecDepth 10000
set_option linter.unusedVariables false
set_option linter.unusedSimpArgs false

theorem size147o : (Tryz.prog.info? 42).map (·.size) = some 147 := by kernel_rfl
theorem s147o_of (l : List Int) (h : l.length = 147) : (Tryz.prog.info? 42).map (·.size) = some (iv .i64 l).size := by rw [iv_size, h]; exact size147o

set_option maxHeartbeats 4000000 in
theorem rleaf_in (t : List Int) (hl : t.length = 147) (k : Nat) (hk : k < 7) (w : World) :
    Calls Tryz.prog 65 #[.agg (iv .i64 t), .int .i64 (k : Int)] w fun e w' => e = .returned (.tuple #[.agg (iv .u64 (leafV (partT t k))), .int .i64 (leafE (partT t k))]) ∧ Below w.heap.size w w' := by
  obtain ⟨x, hx⟩ : ∃ x, x = partT t k := ⟨_, rfl⟩
  rw [← hx]
  have HX : Hid (∀ j, j < 7 → enAt t (7 * k + j) = enAt x j) := fun j hj => by rw [hx, partT_at t k j hj]
  clear hx
  have G0 := hide (fun A B C : Obj => heap3 w A B C)
  have GB := hide (fun A B C : Obj => below_alloc3 w A B C)
  have n8 := iv_newg .u64 zs8 83 8 rfl
  have s8z := s8_of zs8 rfl
  go_enter Tryz.func65, Tryz.ntmps65
  go_wp2_with (refine wpList_build0 rfl 83 rfl _ build8x ?_)
  go_loopw [7] (fun c wr => ∃ j : Nat, j ≤ 7 ∧ c = .int .i64 j ∧ Below w.heap.size w wr ∧ (∀ i, i < j → mayN (enAt x i) = true) ∧ wr.heap[w.heap.size]? = some (.cells (iv .i64 t) 42 (0, 0)) ∧
      wr.heap[w.heap.size + 1]? = some (.cells (iv .u64 zs8) 83 (0, 0)) ∧ wr.heap[w.heap.size + 1 + 1]? = some (.cells (iv .u64 (wUp (fun i => wordN (enAt x i)) j)) 83 (0, 0)))
     (fun c _ => 7 - (intOf c).toNat)
  case atStart =>
    refine ⟨0, by omega, rfl, unhide GB _ _ _, fun i hi => by omega, (unhide G0 _ _ _).1, (unhide G0 _ _ _).2.1, ?_⟩
    rw [wUp_zero]; exact (unhide G0 _ _ _).2.2
  case round =>
    clear G0 GB
    obtain ⟨j, hj, rfl, hb, hall, g0, g1, g2⟩ := hrel
    have GN := hide g0
    have G1 := hide g1
    have G2 := hide g2
    have HB := hide hb
    have HA := hide hall
    have hs2 := lt_of_heap g2
    clear g0 g1 g2 hb hall
    by_cases hlt : j < 7
    · have R0 := range_en t (unhide GN) (7 * k + j) (by omega)
      rw [unhide HX j hlt] at R0
      have R0 := hide R0
      have C1 := hide (reword_any (enAt x j))
      have HS : Hid (mayN (enAt x j) = true → (iv .u64 (wUp (fun i => wordN (enAt x i)) j)).setIfInBounds j (.int .u64 (wordN (enAt x j))) = iv .u64 (wUp (fun i => wordN (enAt x i)) (j + 1))) := fun _ => by
        rw [iv_set, ← wUp_set _ _ hlt]
      cases hm : mayN (enAt x j) with
      | false =>
        have HV : Hid (leafV x = zs8 ∧ leafE x = 1) := by have := mayX_not x j hlt hm; simp [leafV, leafE, this]; trivial
        rw [wnV_not _ hm, wnE_not _ hm] at C1
        clear hm HS
        go_wp2_with (with_reducible refine wpList_load_en (by with_unfolding_all rfl) _ (by with_unfolding_all rfl) w.heap.size ((7 * k + j) * 3) (by with_unfolding_all rfl) _ (unhide R0) ?_)
        refine (unhide C1 _).mono ?_
        rintro e w2 ⟨rfl, hb2⟩
        have K0 := hide ((hb2.block _ (by omega)).trans (unhide GN))
        have K1 := hide ((hb2.block _ (by omega)).trans (unhide G1))
        have Hb2 := hide ((unhide HB).trans (hb2.mono (by omega)))
        clear hb2 C1 G1 G2 HB GN R0
        go_wp2_with (first | (refine wpList_build0 rfl 83 rfl _ build8x ?_) | (refine wpList_store_row rfl 83 _ _ rfl (w.heap.size + 1) (iv .u64 zs8) rfl rfl _ _ (unhide K1) s8z rfl (iv_one _ _) ?_))
        refine bodyPost_ret (v := .tuple #[.agg (iv .u64 zs8), .int .i64 1]) (results_two Tryz.results65 _ _ (w.heap.size + 1) 83 (iv .u64 zs8) (0, 0) _ _ rfl rfl (setRow_heap _ _ _ _ _ _ (unhide K1)) Tryz.underlying83 rfl s8z) rfl ?_
        exact ⟨by rw [(unhide HV).1, (unhide HV).2], below_row (unhide Hb2) (by omega) _⟩
      | true =>
        rw [wnV_may _ hm, wnE_may _ hm] at C1
        have Hset := hide (unhide HS hm)
        have HA2 : Hid (∀ i, i < j + 1 → mayN (enAt x i) = true) := fun i hi => by
          by_cases e : i = j
          · subst e; exact hm
          · exact unhide HA i (by omega)
        have L2 : Hid (∀ i, i < 8 → (iv .u64 (wUp (fun i => wordN (enAt x i)) j))[i]? = some (.int .u64 ((wUp (fun i => wordN (enAt x i)) j).getD i 0))) := fun i hi => iv_get _ _ _ (by rw [wUp_len]; omega)
        clear hm HS HA
        generalize wordN (enAt x j) = V at *
        go_wp2_with (with_reducible refine wpList_load_en (by with_unfolding_all rfl) _ (by with_unfolding_all rfl) w.heap.size ((7 * k + j) * 3) (by with_unfolding_all rfl) _ (unhide R0) ?_)
        refine (unhide C1 _).mono ?_
        rintro e w2 ⟨rfl, hb2⟩
        have K0 := hide ((hb2.block _ (by omega)).trans (unhide GN))
        have K1 := hide ((hb2.block _ (by omega)).trans (unhide G1))
        have K2 := hide ((hb2.block _ (by omega)).trans (unhide G2))
        have Hb2 := hide ((unhide HB).trans (hb2.mono (by omega)))
        clear hb2 C1 G1 G2 HB GN R0
        have c2 : w2.cell? ⟨w.heap.size + 1 + 1, j, none⟩ = some (.int .u64 ((wUp (fun i => wordN (enAt x i)) j).getD j 0)) := by rw [cell_of_block (unhide K2), unhide L2 j (by omega)]
        have f2 : w2.frozen? ⟨w.heap.size + 1 + 1, j, none⟩ = false := unfrozen_of_block (unhide K2) _
        generalize (wUp (fun i => wordN (enAt x i)) j).getD j 0 = old at *
        go_wp2_with fail
        go_roundw
        case rel =>
          refine ⟨j + 1, by omega, by go_num, (unhide Hb2).setCell (by simp; omega) _, unhide HA2, ?_, ?_, ?_⟩
          · rw [heap_setCell_other _ _ _ _ (by simp; omega)]; exact unhide K0
          · rw [heap_setCell_other _ _ _ _ (by simp)]; exact unhide K1
          · rw [block_setCell (unhide K2), unhide Hset]
        case measure => simp [intOf]; omega
    · obtain rfl : j = 7 := by omega
      have hm : mayX x = true := (mayX_iff x).2 (unhide HA)
      have HV : Hid (leafV x = leafS x ∧ leafE x = 0) := by simp [leafV, leafE, hm]; trivial
      have S := hide (rseal_any (wUp (fun i => wordN (enAt x i)) 7) (wUp_len _ _) (wUp_wf _ _ fun i h _ => by have := wordN_bd _ (unhide HA i h); omega))
      have s8a := s8_of (wUp (fun i => wordN (enAt x i)) 7) (wUp_len _ _)
      have s8b := s8_of (leafS x) (lineG_len _)
      have e8 : (iv .u64 zs8).size = (iv .u64 (leafS x)).size := by rw [iv_size, iv_size, show (leafS x).length = 8 from lineG_len _]; rfl
      rw [show sealOf (wUp (fun i => wordN (enAt x i)) 7) = leafS x from rfl] at S
      clear HX hm GN
      go_wp2_with (refine wpList_load_row rfl 83 _ rfl (w.heap.size + 1 + 1) rfl _ _ _ _ (unhide G2) Tryz.underlying83 rfl s8a ?_)
      refine (unhide S _).mono ?_
      rintro e w2 ⟨rfl, hb2⟩
      have K1 := hide ((hb2.block (w.heap.size + 1) (by omega)).trans (unhide G1))
      have Hb2 := hide ((unhide HB).trans (hb2.mono (by omega)))
      clear hb2 S G1 G2 HB
      go_wp2_with (with_reducible refine wpList_store_row (by with_unfolding_all rfl) 83 _ _ (by with_unfolding_all rfl) (w.heap.size + 1) (iv .u64 (leafS x)) (by with_unfolding_all rfl) (by with_unfolding_all rfl) _ _ (unhide K1) s8b e8 (iv_one _ _) ?_)
      refine bodyPost_ret (v := .tuple #[.agg (iv .u64 (leafS x)), .int .i64 0]) (results_two Tryz.results65 _ _ (w.heap.size + 1) 83 (iv .u64 (leafS x)) (0, 0) _ _ rfl rfl (setRow_heap _ _ _ _ _ _ (unhide K1)) Tryz.underlying83 rfl s8b) rfl ?_
      exact ⟨by rw [(unhide HV).1, (unhide HV).2], below_row (unhide Hb2) (by omega) _⟩


set_option maxHeartbeats 4000000 in
theorem rleaf_any (t : List Int) (hl : t.length = 147) (k : Int) (w : World) :
    Calls Tryz.prog 65 #[.agg (iv .i64 t), .int .i64 k] w fun e w' => e = .returned (.tuple #[.agg (iv .u64 (leafKV t k)), .int .i64 (leafKE t k)]) ∧ Below w.heap.size w w' := by
  by_cases hk : 0 ≤ k ∧ k < 7
  · obtain ⟨n, rfl⟩ : ∃ n : Nat, k = (n : Int) := ⟨k.toNat, by omega⟩
    have := rleaf_in t hl n (by omega) w
    unfold leafKV leafKE
    rw [if_pos hk, if_pos hk, Int.toNat_natCast]
    exact this
  · rw [show leafKV t k = zs8 by unfold leafKV; rw [if_neg hk], show leafKE t k = 1 by unfold leafKE; rw [if_neg hk]]
    have s8z := s8_of zs8 rfl
    have G0 := hide (fun A B C : Obj => heap3 w A B C)
    have GB := hide (fun A B C : Obj => below_alloc3 w A B C)
    have n8 := iv_newg .u64 zs8 83 8 rfl
    by_cases h0 : k < 0
    · clear hk
      go_enter Tryz.func65, Tryz.ntmps65
      go_wp2_with (first | (refine wpList_build0 rfl 83 rfl _ build8x ?_) | (refine wpList_load_row rfl 83 _ rfl (w.heap.size + 1 + 1) rfl _ (iv .u64 zs8) _ _ (unhide G0 _ _ _).2.2 Tryz.underlying83 rfl s8z ?_) | (refine wpList_store_row rfl 83 _ _ rfl (w.heap.size + 1) (iv .u64 zs8) rfl rfl _ _ (unhide G0 _ _ _).2.1 s8z rfl (iv_one _ _) ?_))
      refine bodyPost_ret (v := .tuple #[.agg (iv .u64 zs8), .int .i64 1]) (results_two Tryz.results65 _ _ (w.heap.size + 1) 83 (iv .u64 zs8) (0, 0) _ _ rfl rfl (setRow_heap _ _ _ _ _ _ (unhide G0 _ _ _).2.1) Tryz.underlying83 rfl s8z) rfl ?_
      exact ⟨rfl, below_row (unhide GB _ _ _) (by omega) _⟩
    · have h7 : 7 ≤ k := by omega
      clear hk
      go_enter Tryz.func65, Tryz.ntmps65
      go_wp2_with (first | (refine wpList_build0 rfl 83 rfl _ build8x ?_) | (refine wpList_load_row rfl 83 _ rfl (w.heap.size + 1 + 1) rfl _ (iv .u64 zs8) _ _ (unhide G0 _ _ _).2.2 Tryz.underlying83 rfl s8z ?_) | (refine wpList_store_row rfl 83 _ _ rfl (w.heap.size + 1) (iv .u64 zs8) rfl rfl _ _ (unhide G0 _ _ _).2.1 s8z rfl (iv_one _ _) ?_))
      refine bodyPost_ret (v := .tuple #[.agg (iv .u64 zs8), .int .i64 1]) (results_two Tryz.results65 _ _ (w.heap.size + 1) 83 (iv .u64 zs8) (0, 0) _ _ rfl rfl (setRow_heap _ _ _ _ _ _ (unhide G0 _ _ _).2.1) Tryz.underlying83 rfl s8z) rfl ?_
      exact ⟨rfl, below_row (unhide GB _ _ _) (by omega) _⟩

end Go.Proofs.YtiafhcgaikapcaaGreat
