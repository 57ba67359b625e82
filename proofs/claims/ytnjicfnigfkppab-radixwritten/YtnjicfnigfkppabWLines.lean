
/-
  Lines and bytes: what word.Bytes and word.OfBytes return, and the document's; nothing that was there turns.
-/
import Derived.Test.YtnjicfnigfkppabWCalls
import Derived.Test.YtnjicfnigfkppabRows2
import Derived.Test.YtnjicfnigfkppabWLineMath
namespace Go.Proofs.Ytnjicfnigfkppab
open Go.ChangeShapes Go.WideShapes Go.ChangeAt Go.RowKit Go.Joins
set_option maxRecDepth 10000
set_option linter.unusedVariables false

theorem wfs_u64 {zs : List Int} (hw : ∀ z ∈ zs, (Lit.int .u64 z).wf = true) (j : Nat) : 0 ≤ zs.getD j 0 ∧ zs.getD j 0 ≤ 18446744073709551615 := by
  have := range_u64 hw j
  simpa using this

theorem bytes_any (zs : List Int) (hl : zs.length = 8) (hw : ∀ z ∈ zs, (Lit.int .u64 z).wf = true) (w : World) :
    Calls Try.prog 20 #[.agg (iv .u64 zs)] w fun e w' => e = .returned (.agg (iv .u8 (bytesOf zs))) ∧ Below w.heap.size w w' := by
  have hR := wfs_u64 hw
  go_enter Try.func20, Try.ntmps20
  go_wp2
  go_loopw [6] (fun c wr => ∃ k : Nat, k ≤ 8 ∧ c = .int .i64 k ∧ Below w.heap.size w wr ∧ wr.heap[w.heap.size]? = some (.cells (iv .u64 zs) 32 (0, 0)) ∧
      wr.heap[w.heap.size + 1]? = some (.cells (iv .u8 (partB zs 0)) 70 (0, 0)) ∧ wr.heap[w.heap.size + 1 + 1]? = some (.cells (iv .u8 (partB zs (k * 8))) 70 (0, 0)))
     (fun c _ => 8 - (intOf c).toNat)
  case atStart =>
    have hz : iv .u8 (partB zs 0) = iv .u8 (List.replicate 64 0) := by rw [partB_zero]
    refine ⟨0, by omega, rfl, below_alloc3 _ _ _ _, (heap3 _ _ _ _).1, ?_, ?_⟩
    · rw [hz]; exact (heap3 _ _ _ _).2.1
    · rw [Nat.zero_mul, hz]; exact (heap3 _ _ _ _).2.2
  case round =>
    obtain ⟨k, hk, rfl, hb, g0, g1, g2⟩ := hrel
    by_cases hlt : k < 8
    · go_wp2
      go_loopw [9] (fun c wi => ∃ j : Nat, j ≤ 8 ∧ c = .int .i64 j ∧ Below w.heap.size w wi ∧ wi.heap[w.heap.size]? = some (.cells (iv .u64 zs) 32 (0, 0)) ∧
        wi.heap[w.heap.size + 1]? = some (.cells (iv .u8 (partB zs 0)) 70 (0, 0)) ∧ wi.heap[w.heap.size + 1 + 1]? = some (.cells (iv .u8 (partB zs (k * 8 + j))) 70 (0, 0)))
        (fun c _ => 8 - (intOf c).toNat)
      case atStart => exact ⟨0, by omega, rfl, hb, g0, g1, g2⟩
      case round =>
        clear hb g0 g1 g2
        obtain ⟨j, hj, rfl, hb, g0, g1, g2⟩ := hrel
        by_cases hlj : j < 8
        · have c0 : wr.cell? ⟨w.heap.size, k, none⟩ = some (.int .u64 (zs.getD k 0)) := by rw [cell_of_block g0, iv_get _ _ _ (by omega)]
          have c1 : wr.cell? ⟨w.heap.size + 1 + 1, k * 8 + j, none⟩ = some (.int .u8 ((partB zs (k * 8 + j)).getD (k * 8 + j) 0)) := by rw [cell_of_block g2, iv_get _ _ _ (by rw [partB_len]; omega)]
          have c2 : wr.frozen? ⟨w.heap.size + 1 + 1, k * 8 + j, none⟩ = false := unfrozen_of_block g2 _
          obtain ⟨r0, r1⟩ := hR k
          have hbyte : byteAt zs (k * 8 + j) = zs.getD k 0 / 2 ^ (j * 8) % 256 := by
            unfold byteAt
            rw [show (k * 8 + j) / 8 = k by omega, show (k * 8 + j) % 8 = j by omega]
          have Hset : Hid ((iv .u8 (partB zs (k * 8 + j))).setIfInBounds (k * 8 + j) (.int .u8 (zs.getD k 0 / 2 ^ (j * 8) % 256)) = iv .u8 (partB zs (k * 8 + (j + 1)))) := by
            show _ = _
            rw [iv_set, ← hbyte, partB_set _ _ (by omega), Nat.add_assoc]
          clear hbyte hR hw
          generalize zs.getD k 0 = z at *
          generalize (partB zs (k * 8 + j)).getD (k * 8 + j) 0 = old at *
          have G0 := hide g0
          have G1 := hide g1
          have G2 := hide g2
          clear g0 g1 g2
          go_wp2
          go_roundw
          case rel =>
            refine ⟨j + 1, by omega, by go_num, hb.setCell (by simp; omega) _, ?_, ?_, ?_⟩
            · rw [heap_setCell_other _ _ _ _ (by simp; omega)]; exact unhide G0
            · rw [heap_setCell_other _ _ _ _ (by simp)]; exact unhide G1
            · rw [block_setCell (unhide G2), Hset.out]
          case measure => simp [intOf]; omega
        · have hj8 : j = 8 := by omega
          subst hj8
          go_wp2
          go_roundw
          case rel => exact ⟨k + 1, by omega, by go_num, hb, g0, g1, by rw [Nat.add_mul]; exact g2⟩
          case measure => simp [intOf]; omega
    · have h2 : wr.heap[w.heap.size + 1 + 1]? = some (.cells (iv .u8 (bytesOf zs)) 70 (0, 0)) := by
        rw [g2, show k * 8 = 64 by omega, partB_all]
      clear g2
      have s64 : (Try.prog.info? 70).map (·.size) = some 64 := by kernel_rfl
      go_wp2_with (first | (refine wpList_load_row rfl 70 _ rfl _ rfl _ _ _ _ h2 Try.underlying70 rfl (by rw [iv_size, bytesOf_len]; exact s64) ?_) | (refine wpList_store_row rfl 70 _ _ rfl _ (iv .u8 (bytesOf zs)) rfl rfl _ _ g1 (by rw [iv_size, bytesOf_len]; exact s64) (by rw [iv_size, iv_size, partB_len, bytesOf_len]) (iv_one _ _) ?_))
      exact bodyPost_ret (v := .agg (iv .u8 (bytesOf zs))) (results_cell_row Try.results20 _ _ (w.heap.size + 1) _ (iv .u8 (bytesOf zs)) (0, 0) _ rfl (setRow_heap _ _ _ _ _ _ g1) Try.underlying70 rfl (by rw [iv_size, bytesOf_len]; exact s64)) rfl ⟨rfl, below_row hb (by omega) _⟩

theorem built64 : Try.prog.built 70 [] = some (iv .u8 (List.replicate 64 0)) := by kernel_rfl
theorem size64 : (Try.prog.info? 70).map (·.size) = some 64 := by kernel_rfl

end Go.Proofs.Ytnjicfnigfkppab
