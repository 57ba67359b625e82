
/-
  word.OfBytes: what it returns; nothing that was there turns.
-/
import Derived.Test.YtjidekjeibdbgabWLines
namespace Go.Proofs.Ytjidekjeibdbgab
open Go.ChangeShapes Go.WideShapes Go.ChangeAt Go.RowKit Go.Joins
set_option maxRecDepth 10000
set_option linter.unusedVariables false

theorem wfs_u8 {zs : List Int} (hw : ∀ z ∈ zs, (Lit.int .u8 z).wf = true) (j : Nat) : 0 ≤ zs.getD j 0 ∧ zs.getD j 0 ≤ 255 := by
  have := range_u8 hw j
  simpa using this
theorem size8 : (Try.prog.info? 27).map (·.size) = some 8 := by kernel_rfl

theorem ofBytes_any (bs : List Int) (hl : bs.length = 64) (hw : ∀ z ∈ bs, (Lit.int .u8 z).wf = true) (w : World) :
    Calls Try.prog 10 #[.agg (iv .u8 bs)] w fun e w' => e = .returned (.agg (iv .u64 (lineOf bs))) ∧ Below w.heap.size w w' := by
  have hR := wfs_u8 hw
  go_enter Try.func10, Try.ntmps10
  go_wp2
  go_loopw [6] (fun c wr => ∃ k : Nat, k ≤ 8 ∧ c = .int .i64 k ∧ Below w.heap.size w wr ∧ wr.heap[w.heap.size]? = some (.cells (iv .u8 bs) 31 (0, 0)) ∧
      (∃ old, old.size = 8 ∧ wr.heap[w.heap.size + 1]? = some (.cells old 27 (0, 0))) ∧ wr.heap[w.heap.size + 1 + 1]? = some (.cells (iv .u64 (partL bs (k * 8))) 27 (0, 0)))
     (fun c _ => 8 - (intOf c).toNat)
  case atStart =>
    have hz : iv .u64 (partL bs 0) = iv .u64 (List.replicate 8 0) := by rw [partL_zero]
    refine ⟨0, by omega, rfl, below_alloc3 _ _ _ _, (heap3 _ _ _ _).1, ⟨_, ?_, (heap3 _ _ _ _).2.1⟩, ?_⟩
    · rfl
    · rw [Nat.zero_mul, hz]; exact (heap3 _ _ _ _).2.2
  case round =>
    obtain ⟨k, hk, rfl, hb, g0, ⟨old, ho, g1⟩, g2⟩ := hrel
    by_cases hlt : k < 8
    · go_wp2
      go_loopw [9] (fun c wi => ∃ j : Nat, j ≤ 8 ∧ c = .int .i64 j ∧ Below w.heap.size w wi ∧ wi.heap[w.heap.size]? = some (.cells (iv .u8 bs) 31 (0, 0)) ∧
        (∃ old, old.size = 8 ∧ wi.heap[w.heap.size + 1]? = some (.cells old 27 (0, 0))) ∧ wi.heap[w.heap.size + 1 + 1]? = some (.cells (iv .u64 (partL bs (k * 8 + j))) 27 (0, 0)))
        (fun c _ => 8 - (intOf c).toNat)
      case atStart => exact ⟨0, by omega, rfl, hb, g0, ⟨old, ho, g1⟩, g2⟩
      case round =>
        clear hb g0 g1 g2 ho old
        obtain ⟨j, hj, rfl, hb, g0, ⟨old, ho, g1⟩, g2⟩ := hrel
        by_cases hlj : j < 8
        · have c0 : wr.cell? ⟨w.heap.size, k * 8 + j, none⟩ = some (.int .u8 (bs.getD (k * 8 + j) 0)) := by rw [cell_of_block g0, iv_get _ _ _ (by omega)]
          have c1 : wr.cell? ⟨w.heap.size + 1 + 1, k, none⟩ = some (.int .u64 ((wordTo bs k j : Nat) : Int)) := by rw [cell_of_block g2, iv_get _ _ _ (by rw [partL_len]; omega), partL_at _ _ _ hlt (by omega)]
          have c2 : wr.frozen? ⟨w.heap.size + 1 + 1, k, none⟩ = false := unfrozen_of_block g2 _
          obtain ⟨r0, r1⟩ := hR (k * 8 + j)
          have Hset0 : (iv .u64 (partL bs (k * 8 + j))).setIfInBounds k (.int .u64 (bits .or .u64 ((wordTo bs k j : Nat) : Int) (IntKind.u64.wrap (bs.getD (k * 8 + j) 0 * 2 ^ (j * 8))))) = iv .u64 (partL bs (k * 8 + (j + 1))) := by
            rw [word_step bs hR k j hlj, iv_set, partL_set _ _ _ hlt hlj]
          clear hR hw
          generalize bs.getD (k * 8 + j) 0 = z at *
          generalize ((wordTo bs k j : Nat) : Int) = cur at *
          have Hset := hide Hset0
          have G0 := hide g0
          have G1 := hide g1
          have G2 := hide g2
          clear g0 g1 g2 Hset0
          go_wp2
          go_region
          go_wp2
          go_roundw
          case rel =>
            refine ⟨j + 1, by omega, by go_num, (hb.setCell (by simp; omega) _).drew, ?_, ⟨old, ho, ?_⟩, ?_⟩
            · show (wr.setCell _ _).heap[_]? = _
              rw [heap_setCell_other _ _ _ _ (by simp; omega)]; exact unhide G0
            · show (wr.setCell _ _).heap[_]? = _
              rw [heap_setCell_other _ _ _ _ (by simp)]; exact unhide G1
            · show (wr.setCell _ _).heap[_]? = _
              rw [block_setCell (unhide G2), unhide Hset]
          case measure => simp [intOf]; omega
        · have hj8 : j = 8 := by omega
          subst hj8
          go_wp2
          go_roundw
          case rel => exact ⟨k + 1, by omega, by go_num, hb, g0, ⟨old, ho, g1⟩, by rw [Nat.add_mul]; exact g2⟩
          case measure => simp [intOf]; omega
    · have h2 : wr.heap[w.heap.size + 1 + 1]? = some (.cells (iv .u64 (lineOf bs)) 27 (0, 0)) := by
        rw [g2, show k * 8 = 64 by omega, partL_all]
      clear g2
      go_wp2_with (first | (refine wpList_load_row rfl 27 _ rfl _ rfl _ _ _ _ h2 Try.underlying27 rfl (by rw [iv_size, lineOf_len]; exact size8) ?_) | (refine wpList_store_row rfl 27 _ _ rfl _ (iv .u64 (lineOf bs)) rfl rfl _ _ g1 (by rw [iv_size, lineOf_len]; exact size8) (by rw [iv_size, lineOf_len]; exact ho) (iv_one _ _) ?_))
      exact bodyPost_ret (v := .agg (iv .u64 (lineOf bs))) (results_cell_row Try.results10 _ _ (w.heap.size + 1) _ (iv .u64 (lineOf bs)) (0, 0) _ rfl (setRow_heap _ _ _ _ _ _ g1) Try.underlying27 rfl (by rw [iv_size, lineOf_len]; exact size8)) rfl ⟨rfl, below_row hb (by omega) _⟩

end Go.Proofs.Ytjidekjeibdbgab
