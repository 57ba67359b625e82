
/-
  crc.Seal, crc.Good and the document's: what each call returns for every line; nothing that was there turns.
-/
import Derived.Test.YtnjicfnigfkppabCCalls
import Derived.Test.YtnjicfnigfkppabCLineMath
import Derived.Test.YtnjicfnigfkppabWLines2
import Derived.Test.YtnjicfnigfkppabWLines3
import Derived.Test.YtnjicfnigfkppabEqual
namespace Go.Proofs.Ytnjicfnigfkppab
open Go.ChangeShapes Go.WideShapes Go.ChangeAt Go.RowKit Go.Joins
set_option maxRecDepth 10000
set_option linter.unusedVariables false

theorem sealOf_wf (zs : List Int) (hw : ∀ z ∈ zs, (Lit.int .u64 z).wf = true) : ∀ z ∈ sealOf zs, (Lit.int .u64 z).wf = true := fun z hz => by
  rcases List.mem_or_eq_of_mem_set hz with h | h
  · exact hw z h
  · have := sealW_bd zs
    rw [h]
    simp [Lit.wf, IntKind.min, IntKind.max, IntKind.signed, IntKind.bits]; omega
theorem seal_any (zs : List Int) (hl : zs.length = 8) (hw : ∀ z ∈ zs, (Lit.int .u64 z).wf = true) (w : World) :
    Calls Try.prog 14 #[.agg (iv .u64 zs)] w fun e w' => e = .returned (.agg (iv .u64 (sealOf zs))) ∧ Below w.heap.size w w' := by
  have s8 : (Try.prog.info? 32).map (·.size) = some (iv .u64 zs).size := by rw [iv_size, hl]; exact size8
  have s8b : (Try.prog.info? 32).map (·.size) = some (iv .u64 (sealOf zs)).size := by rw [iv_size, sealOf_len, hl]; exact size8
  have G0 : Hid (∀ B : Obj, ((w.alloc (.cells (iv .u64 zs) 32)).alloc B).heap[w.heap.size]? = some (.cells (iv .u64 zs) 32 (0, 0))) := fun B => by rw [Below.heap_alloc _ _ _ (by simp), heap_new]
  have G1 : Hid (∀ B : Obj, ((w.alloc (.cells (iv .u64 zs) 32)).alloc B).heap[w.heap.size + 1]? = some B) := fun B => by
    have := heap_new (w.alloc (.cells (iv .u64 zs) 32)) B
    simpa using this
  have C1 := hide (bytes_any zs hl hw)
  have hB : (iv .u8 (bytesOf zs)).size = 64 := by rw [iv_size, bytesOf_len]
  have hst : ∀ (W : World) (C : Array Value), C.size = 64 → Sem.run Try.prog (storeCells ⟨W.heap.size, 0, none⟩ (iv .u8 (bytesOf zs)).toList) (W.alloc (.cells C 70)) = .ok () (W.alloc (.cells (iv .u8 (bytesOf zs)) 70)) :=
    fun W C hC => run_store_new _ _ rfl C _ _ (by rw [hC, hB]) (iv_one _ _)
  have Hm := hide (moreN_lt (s := 0) (b8_take (bytesOf_b8 zs) 56) (by decide))
  have C2 : Hid (∀ W : World, Calls Try.prog 21 #[.slice (some ⟨W.heap.size, 0, none⟩) 56 64] (W.alloc (.cells (iv .u8 (bytesOf zs)) 70)) fun e w' => e = .returned (.int .u32 ((moreN 0 ((bytesOf zs).take 56) : Nat) : Int)) ∧ w' = W.alloc (.cells (iv .u8 (bytesOf zs)) 70)) := fun W => by
    refine sum_len _ ((bytesOf zs).take 56) 56 64 (by simp [bytesOf_len]) (b8_take (bytesOf_b8 zs) 56) (by decide) _ (lies_take (Or.inr ⟨_, _, rfl, fun i hi => ?_⟩) 56)
    rw [cell_of_block (heap_new W _), Nat.zero_add, iv_get _ _ _ hi]
  have Hset : Hid ((iv .u64 zs).setIfInBounds 7 (.int .u64 (4294967296 + ((moreN 0 ((bytesOf zs).take 56) : Nat) : Int))) = iv .u64 (sealOf zs)) := by show _ = _; rw [iv_set]; rfl
  go_enter Try.func14, Try.ntmps14
  go_wp2_with (refine wpList_load_row rfl 32 _ rfl _ rfl _ _ _ _ (unhide G0 _) Try.underlying32 rfl s8 ?_)
  refine (unhide C1 _).mono ?_
  rintro e w1 ⟨rfl, hb1⟩
  have hsz : w.heap.size + 1 + 1 ≤ w1.heap.size := by have := hb1.size; simpa using this
  have K0 := hide ((hb1.block w.heap.size (by simp; omega)).trans (unhide G0 _))
  have K1 := hide ((hb1.block (w.heap.size + 1) (by simp)).trans (unhide G1 _))
  have Hb := hide ((below_alloc2 w _ _).trans (hb1.mono (by simp; omega)))
  clear hb1
  go_wp2_with fail
  refine (unhide C2 _).mono ?_
  rintro e w2 ⟨rfl, rfl⟩
  have hm := unhide Hm
  have K2 := hide ((Below.heap_alloc w1 (.cells (iv .u8 (bytesOf zs)) 70) w.heap.size (by omega)).trans (unhide K0))
  have K3 := hide ((Below.heap_alloc w1 (.cells (iv .u8 (bytesOf zs)) 70) (w.heap.size + 1) (by omega)).trans (unhide K1))
  have Hb2 := hide ((unhide Hb).alloc (by omega) (.cells (iv .u8 (bytesOf zs)) 70))
  clear hst C2 K0 K1 Hb hB C1
  generalize w1.alloc (.cells (iv .u8 (bytesOf zs)) 70) = W2 at *
  generalize moreN 0 ((bytesOf zs).take 56) = m at *
  have c7 : W2.cell? ⟨w.heap.size, 7, none⟩ = some (.int .u64 (zs.getD 7 0)) := by rw [cell_of_block (unhide K2), iv_get _ _ _ (by omega)]
  have f7 : W2.frozen? ⟨w.heap.size, 7, none⟩ = false := unfrozen_of_block (unhide K2) _
  have K4 := hide ((block_setCell (i := 7) (unhide K2) (.int .u64 (4294967296 + (m : Int)))).trans (by rw [unhide Hset]))
  have K5 := hide ((heap_setCell_other W2 ⟨w.heap.size, 7, none⟩ (w.heap.size + 1) (.int .u64 (4294967296 + (m : Int))) (by simp)).trans (unhide K3))
  have Hb3 := hide ((unhide Hb2).setCell (p := ⟨w.heap.size, 7, none⟩) (by simp) (.int .u64 (4294967296 + (m : Int))))
  go_wp2_with (first | (refine wpList_load_row rfl 32 _ rfl _ rfl _ _ _ _ (unhide K4) Try.underlying32 rfl s8b ?_) | (refine wpList_store_row rfl 32 _ _ rfl _ (iv .u64 (sealOf zs)) rfl rfl _ _ (unhide K5) s8b (by rw [iv_size, sealOf_len, hl]; rfl) (iv_one _ _) ?_))
  exact bodyPost_ret (v := .agg (iv .u64 (sealOf zs))) (results_cell_row Try.results14 _ _ (w.heap.size + 1) _ (iv .u64 (sealOf zs)) (0, 0) _ rfl (setRow_heap _ _ _ _ _ _ (unhide K5)) Try.underlying32 rfl s8b) rfl ⟨rfl, below_row (unhide Hb3) (by omega) _⟩

end Go.Proofs.Ytnjicfnigfkppab
