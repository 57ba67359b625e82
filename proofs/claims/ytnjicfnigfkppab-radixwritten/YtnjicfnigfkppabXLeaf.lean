
/-
  radix.leafLine, radix.Leaf and radix.ReadLeaf: what each call returns, for whatever entries, table, number and line; nothing that was there turns.
-/
import Derived.Test.YtnjicfnigfkppabXRows
namespace Go.Proofs.Ytnjicfnigfkppab
open Go.ChangeShapes Go.WideShapes Go.ChangeAt Go.RowKit Go.Joins
set_option maxRecDepth 10000
set_option linter.unusedVariables false
set_option linter.unusedSimpArgs false

theorem wnV_bd (c : En) : 0 ≤ wnV c ∧ wnV c ≤ 18446744073709551615 := by
  unfold wnV; split
  · rename_i h; have := wordN_bd c h; omega
  · omega
theorem s3_of (c : En) : (Try.prog.info? 25).map (·.size) = some (ev c).size := size3

/-! ### leafLine -/
set_option maxHeartbeats 4000000 in
theorem leafLine_any (x : List Int) (hl : x.length = 21) (w : World) :
    Calls Try.prog 12 #[.agg (iv .i64 x)] w fun e w' => e = .returned (.tuple #[.agg (iv .u64 (leafV x)), .int .i64 (leafE x)]) ∧ Below w.heap.size w w' := by
  have s21 := s21_of x hl
  have G0 := hide (fun A B C : Obj => heap3 w A B C)
  have GB := hide (fun A B C : Obj => below_alloc3 w A B C)
  have HX : Hid (∀ (W : World) (j : Nat), j < 7 → Sem.run Try.prog (Instr.index 43 (.agg (iv .i64 x)) (.int .i64 (j : Int))) W = .ok (.agg (ev (enAt x j))) W) := fun W j hj => run_index_en _ 7 Try.underlying43 W x hl .i64 j hj
  have s8z := s8_of zs8 rfl
  go_enter Try.func12, Try.ntmps12
  go_wp2_with (refine wpList_load_row rfl 43 _ rfl w.heap.size rfl _ _ _ _ (unhide G0 _ _ _).1 Try.underlying43 rfl s21 ?_)
  go_loopw [10] (fun c wr => ∃ j : Nat, j ≤ 7 ∧ c = .int .i64 j ∧ Below w.heap.size w wr ∧ (∀ i, i < j → mayN (enAt x i) = true) ∧
      wr.heap[w.heap.size + 1]? = some (.cells (iv .u64 zs8) 32 (0, 0)) ∧ wr.heap[w.heap.size + 1 + 1]? = some (.cells (iv .u64 (wUp (fun i => wordN (enAt x i)) j)) 32 (0, 0)))
     (fun c _ => 7 - (intOf c).toNat)
  case atStart =>
    refine ⟨0, by omega, rfl, unhide GB _ _ _, fun i hi => by omega, (unhide G0 _ _ _).2.1, ?_⟩
    rw [wUp_zero]; exact (unhide G0 _ _ _).2.2
  case round =>
    clear G0 GB
    obtain ⟨j, hj, rfl, hb, hall, g1, g2⟩ := hrel
    have G1 := hide g1
    have G2 := hide g2
    have HB := hide hb
    have HA := hide hall
    have hs2 := lt_of_heap g2
    clear g1 g2 hb hall
    by_cases hlt : j < 7
    · have hix := fun W => unhide HX W j hlt
      have C1 := hide (eword_any (enAt x j))
      have n3 := ev_new (enAt x j) 25
      have z3 := ev_size (enAt x j)
      have KN := hide (heap_new wr (.cells (ev (enAt x j)) 25))
      have s3 := s3_of (enAt x j)
      have HS : Hid (mayN (enAt x j) = true → (iv .u64 (wUp (fun i => wordN (enAt x i)) j)).setIfInBounds j (.int .u64 (wordN (enAt x j))) = iv .u64 (wUp (fun i => wordN (enAt x i)) (j + 1))) := fun _ => by
        rw [iv_set, ← wUp_set _ _ hlt]
      cases hm : mayN (enAt x j) with
      | false =>
        have HV : Hid (leafV x = zs8 ∧ leafE x = 1) := by have := mayX_not x j hlt hm; simp [leafV, leafE, this]; trivial
        rw [wnV_not _ hm, wnE_not _ hm] at C1
        generalize ev (enAt x j) = E at *
        clear hm HS
        go_wp2_with (with_reducible refine wpList_load_row (by with_unfolding_all rfl) 25 _ (by with_unfolding_all rfl) wr.heap.size (by with_unfolding_all rfl) _ _ _ _ (unhide KN) Try.underlying25 (by with_unfolding_all rfl) s3 ?_)
        refine (unhide C1 _).mono ?_
        rintro e w2 ⟨rfl, hb2⟩
        have K1 := hide ((hb2.block _ (by simp; omega)).trans ((Below.heap_alloc _ _ _ (by omega)).trans (unhide G1)))
        have Hb2 := hide (((unhide HB).alloc (by omega) _).trans (hb2.mono (by simp; omega)))
        clear hb2 C1 G1 G2 HB KN
        go_wp2_with (first | (refine wpList_build0 rfl 32 rfl _ build8x ?_) | (refine wpList_store_row rfl 32 _ _ rfl (w.heap.size + 1) (iv .u64 zs8) rfl rfl _ _ (unhide K1) s8z rfl (iv_one _ _) ?_))
        refine bodyPost_ret (v := .tuple #[.agg (iv .u64 zs8), .int .i64 1]) (results_two Try.results12 _ _ (w.heap.size + 1) 32 (iv .u64 zs8) (0, 0) _ _ rfl rfl (setRow_heap _ _ _ _ _ _ (unhide K1)) Try.underlying32 rfl s8z) rfl ?_
        exact ⟨by rw [(unhide HV).1, (unhide HV).2], below_row (unhide Hb2) (by omega) _⟩
      | true =>
        rw [wnV_may _ hm, wnE_may _ hm] at C1
        have Hset := hide (unhide HS hm)
        have HA2 : Hid (∀ i, i < j + 1 → mayN (enAt x i) = true) := fun i hi => by
          by_cases e : i = j
          · subst e; exact hm
          · exact unhide HA i (by omega)
        have L2 : Hid (∀ i, i < 8 → (iv .u64 (wUp (fun i => wordN (enAt x i)) j))[i]? = some (.int .u64 ((wUp (fun i => wordN (enAt x i)) j).getD i 0))) := fun i hi => iv_get _ _ _ (by rw [wUp_len]; omega)
        clear hm HS HA
        generalize ev (enAt x j) = E at *
        generalize wordN (enAt x j) = V at *
        go_wp2_with (with_reducible refine wpList_load_row (by with_unfolding_all rfl) 25 _ (by with_unfolding_all rfl) wr.heap.size (by with_unfolding_all rfl) _ _ _ _ (unhide KN) Try.underlying25 (by with_unfolding_all rfl) s3 ?_)
        refine (unhide C1 _).mono ?_
        rintro e w2 ⟨rfl, hb2⟩
        have K1 := hide ((hb2.block _ (by simp; omega)).trans ((Below.heap_alloc _ _ _ (by omega)).trans (unhide G1)))
        have K2 := hide ((hb2.block _ (by simp; omega)).trans ((Below.heap_alloc _ _ _ (by omega)).trans (unhide G2)))
        have Hb2 := hide (((unhide HB).alloc (by omega) _).trans (hb2.mono (by simp; omega)))
        clear hb2 C1 G1 G2 HB KN
        have c2 : w2.cell? ⟨w.heap.size + 1 + 1, j, none⟩ = some (.int .u64 ((wUp (fun i => wordN (enAt x i)) j).getD j 0)) := by rw [cell_of_block (unhide K2), unhide L2 j (by omega)]
        have f2 : w2.frozen? ⟨w.heap.size + 1 + 1, j, none⟩ = false := unfrozen_of_block (unhide K2) _
        generalize (wUp (fun i => wordN (enAt x i)) j).getD j 0 = old at *
        go_wp2_with fail
        go_roundw
        case rel =>
          refine ⟨j + 1, by omega, by go_num, (unhide Hb2).setCell (by simp; omega) _, unhide HA2, ?_, ?_⟩
          · rw [heap_setCell_other _ _ _ _ (by simp)]; exact unhide K1
          · rw [block_setCell (unhide K2), unhide Hset]
        case measure => simp [intOf]; omega
    · obtain rfl : j = 7 := by omega
      have hm : mayX x = true := (mayX_iff x).2 (unhide HA)
      have HV : Hid (leafV x = leafS x ∧ leafE x = 0) := by simp [leafV, leafE, hm]; trivial
      have S := hide (seal_any (wUp (fun i => wordN (enAt x i)) 7) (wUp_len _ _) (wUp_wf _ _ fun i h _ => by have := wordN_bd _ (unhide HA i h); omega))
      have s8a := s8_of (wUp (fun i => wordN (enAt x i)) 7) (wUp_len _ _)
      have s8b := s8_of (leafS x) (lineG_len _)
      have e8 : (iv .u64 zs8).size = (iv .u64 (leafS x)).size := by rw [iv_size, iv_size, show (leafS x).length = 8 from lineG_len _]; rfl
      rw [show sealOf (wUp (fun i => wordN (enAt x i)) 7) = leafS x from rfl] at S
      clear HX hm s21
      go_wp2_with (refine wpList_load_row rfl 32 _ rfl (w.heap.size + 1 + 1) rfl _ _ _ _ (unhide G2) Try.underlying32 rfl s8a ?_)
      refine (unhide S _).mono ?_
      rintro e w2 ⟨rfl, hb2⟩
      have K1 := hide ((hb2.block (w.heap.size + 1) (by omega)).trans (unhide G1))
      have Hb2 := hide ((unhide HB).trans (hb2.mono (by omega)))
      clear hb2 S G1 G2 HB
      go_wp2_with (with_reducible refine wpList_store_row (by with_unfolding_all rfl) 32 _ _ (by with_unfolding_all rfl) (w.heap.size + 1) (iv .u64 (leafS x)) (by with_unfolding_all rfl) (by with_unfolding_all rfl) _ _ (unhide K1) s8b e8 (iv_one _ _) ?_)
      refine bodyPost_ret (v := .tuple #[.agg (iv .u64 (leafS x)), .int .i64 0]) (results_two Try.results12 _ _ (w.heap.size + 1) 32 (iv .u64 (leafS x)) (0, 0) _ _ rfl rfl (setRow_heap _ _ _ _ _ _ (unhide K1)) Try.underlying32 rfl s8b) rfl ?_
      exact ⟨by rw [(unhide HV).1, (unhide HV).2], below_row (unhide Hb2) (by omega) _⟩

/-! ### Leaf -/
set_option maxHeartbeats 4000000 in
theorem leaf_any (t : List Int) (hl : t.length = 147) (k : Int) (w : World) :
    Calls Try.prog 5 #[.agg (iv .i64 t), .int .i64 k] w fun e w' => e = .returned (.tuple #[.agg (iv .u64 (leafKV t k)), .int .i64 (leafKE t k)]) ∧ Below w.heap.size w w' := by
  have s147 := s147_of t hl
  have G0 := hide (fun A B : Obj => heap2 w A B)
  have GB := hide (fun A B : Obj => below_alloc2 w A B)
  have s8z := s8_of zs8 rfl
  by_cases hk : 0 ≤ k ∧ k < 7
  · obtain ⟨n, rfl⟩ : ∃ n : Nat, k = (n : Int) := ⟨k.toNat, by omega⟩
    have hn : n < 7 := by omega
    have HV : Hid (leafKV t (n : Int) = leafV (partT t n) ∧ leafKE t (n : Int) = leafE (partT t n)) := by
      show _ ∧ _
      unfold leafKV leafKE
      rw [if_pos hk, if_pos hk, Int.toNat_natCast]; exact ⟨rfl, rfl⟩
    rw [(unhide HV).1, (unhide HV).2]
    have C1 := hide (part_anyx t hl n hn)
    have C2 := hide (leafLine_any (partT t n) (partT_len _ _))
    have s8 := s8_of (leafV (partT t n)) (leafV_len _)
    have e8 : (iv .u64 zs8).size = (iv .u64 (leafV (partT t n))).size := by rw [iv_size, iv_size, leafV_len]; rfl
    generalize leafV (partT t n) = L at *
    generalize leafE (partT t n) = E at *
    generalize iv .i64 (partT t n) = X at *
    clear HV hk
    go_enter Try.func5, Try.ntmps5
    go_wp2_with (refine wpList_load_row rfl 27 _ rfl w.heap.size rfl _ _ _ _ (unhide G0 _ _).1 Try.underlying27 rfl s147 ?_)
    refine (unhide C1 _).mono ?_
    rintro e w1 ⟨rfl, hb1⟩
    have K1 := hide ((hb1.block _ (by simp)).trans (unhide G0 _ _).2)
    have Hb1 := hide ((unhide GB _ _).trans (hb1.mono (by simp; omega)))
    have hs1 : w.heap.size + 1 < w1.heap.size := by have := hb1.size; simp at this; omega
    clear hb1 C1 G0 GB
    go_wp2_with fail
    refine (unhide C2 _).mono ?_
    rintro e w2 ⟨rfl, hb2⟩
    have K2 := hide ((hb2.block _ hs1).trans (unhide K1))
    have Hb2 := hide ((unhide Hb1).trans (hb2.mono (by omega)))
    clear hb2 C2 K1 Hb1
    rw [zero8x] at K2
    go_wp2_with (with_reducible refine wpList_store_row (by with_unfolding_all rfl) 32 _ _ (by with_unfolding_all rfl) (w.heap.size + 1) (iv .u64 L) (by with_unfolding_all rfl) (by with_unfolding_all rfl) _ _ (unhide K2) s8 e8 (iv_one _ _) ?_)
    refine bodyPost_ret (v := .tuple #[.agg (iv .u64 L), .int .i64 E]) (results_two Try.results5 _ _ (w.heap.size + 1) 32 (iv .u64 L) (0, 0) _ _ rfl rfl (setRow_heap _ _ _ _ _ _ (unhide K2)) Try.underlying32 rfl s8) rfl ?_
    exact ⟨rfl, below_row (unhide Hb2) (by omega) _⟩
  · rw [show leafKV t k = zs8 by unfold leafKV; rw [if_neg hk], show leafKE t k = 1 by unfold leafKE; rw [if_neg hk]]
    have G1 : Hid (∀ A : Obj, ((w.alloc A).alloc (.cells (iv .u64 zs8) 32)).heap[w.heap.size + 1]? = some (.cells (iv .u64 zs8) 32 (0, 0))) := fun A => (heap2 w _ _).2
    by_cases h0 : k < 0
    · clear hk
      go_enter Try.func5, Try.ntmps5
      go_wp2_with (first | (refine wpList_build0 rfl 32 rfl _ build8x ?_) | (refine wpList_store_row rfl 32 _ _ rfl (w.heap.size + 1) (iv .u64 zs8) rfl rfl _ _ (unhide G1 _) s8z rfl (iv_one _ _) ?_))
      refine bodyPost_ret (v := .tuple #[.agg (iv .u64 zs8), .int .i64 1]) (results_two Try.results5 _ _ (w.heap.size + 1) 32 (iv .u64 zs8) (0, 0) _ _ rfl rfl (setRow_heap _ _ _ _ _ _ (unhide G1 _)) Try.underlying32 rfl s8z) rfl ?_
      exact ⟨rfl, below_row (unhide GB _ _) (by omega) _⟩
    · have h7 : 7 ≤ k := by omega
      clear hk
      go_enter Try.func5, Try.ntmps5
      go_wp2_with (first | (refine wpList_build0 rfl 32 rfl _ build8x ?_) | (refine wpList_store_row rfl 32 _ _ rfl (w.heap.size + 1) (iv .u64 zs8) rfl rfl _ _ (unhide G1 _) s8z rfl (iv_one _ _) ?_))
      refine bodyPost_ret (v := .tuple #[.agg (iv .u64 zs8), .int .i64 1]) (results_two Try.results5 _ _ (w.heap.size + 1) 32 (iv .u64 zs8) (0, 0) _ _ rfl rfl (setRow_heap _ _ _ _ _ _ (unhide G1 _)) Try.underlying32 rfl s8z) rfl ?_
      exact ⟨rfl, below_row (unhide GB _ _) (by omega) _⟩

end Go.Proofs.Ytnjicfnigfkppab
