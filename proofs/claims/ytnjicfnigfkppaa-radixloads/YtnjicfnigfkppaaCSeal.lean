
/-
  crc.Seal, crc.Good and the document's: what each call returns for every line; nothing that was there turns.
-/
import Derived.Test.YtnjicfnigfkppaaCCalls
import Derived.Test.YtnjicfnigfkppaaCLineMath
import Derived.Test.YtnjicfnigfkppaaWLines2
import Derived.Test.YtnjicfnigfkppaaWLines3
import Derived.Test.YtnjicfnigfkppaaEqual
namespace Go.Proofs.Ytnjicfnigfkppaa
open Go.ChangeShapes Go.WideShapes Go.ChangeAt Go.RowKit Go.Joins
set_option maxRecDepth 10000
set_option linter.unusedVariables false

theorem sealOf_wf (zs : List Int) (hw : ∀ z ∈ zs, (Lit.int .u64 z).wf = true) : ∀ z ∈ sealOf zs, (Lit.int .u64 z).wf = true := fun z hz => by
  rcases List.mem_or_eq_of_mem_set hz with h | h
  · exact hw z h
  · have := sealW_bd zs
    rw [h]
    simp [Lit.wf, IntKind.min, IntKind.max, IntKind.signed, IntKind.bits]; omega
theorem seal_any (zs : List Int) (hl : zs.length = 8) (hw : ∀ z ∈ zs, (Lit.int .u64 z).wf = true) (w : World) :
    Calls Try.prog 33 #[.agg (iv .u64 zs)] w fun e w' => e = .returned (.agg (iv .u64 (sealOf zs))) ∧ Below w.heap.size w w' := by
  have s8 : (Try.prog.info? 27).map (·.size) = some (iv .u64 zs).size := by rw [iv_size, hl]; exact size8
  have s8b : (Try.prog.info? 27).map (·.size) = some (iv .u64 (sealOf zs)).size := by rw [iv_size, sealOf_len, hl]; exact size8
  have G0 : Hid (∀ B : Obj, ((w.alloc (.cells (iv .u64 zs) 27)).alloc B).heap[w.heap.size]? = some (.cells (iv .u64 zs) 27 (0, 0))) := fun B => by rw [Below.heap_alloc _ _ _ (by simp), heap_new]
  have G1 : Hid (∀ B : Obj, ((w.alloc (.cells (iv .u64 zs) 27)).alloc B).heap[w.heap.size + 1]? = some B) := fun B => by
    have := heap_new (w.alloc (.cells (iv .u64 zs) 27)) B
    simpa using this
  have C1 := hide (bytes_any zs hl hw)
  have hB : (iv .u8 (bytesOf zs)).size = 64 := by rw [iv_size, bytesOf_len]
  have hst : ∀ (W : World) (C : Array Value), C.size = 64 → Sem.run Try.prog (storeCells ⟨W.heap.size, 0, none⟩ (iv .u8 (bytesOf zs)).toList) (W.alloc (.cells C 91)) = .ok () (W.alloc (.cells (iv .u8 (bytesOf zs)) 91)) :=
    fun W C hC => run_store_new _ _ rfl C _ _ (by rw [hC, hB]) (iv_one _ _)
  have Hm := hide (moreN_lt (s := 0) (b8_take (bytesOf_b8 zs) 56) (by decide))
  have C2 : Hid (∀ W : World, Calls Try.prog 49 #[.slice (some ⟨W.heap.size, 0, none⟩) 56 64] (W.alloc (.cells (iv .u8 (bytesOf zs)) 91)) fun e w' => e = .returned (.int .u32 ((moreN 0 ((bytesOf zs).take 56) : Nat) : Int)) ∧ w' = W.alloc (.cells (iv .u8 (bytesOf zs)) 91)) := fun W => by
    refine sum_len _ ((bytesOf zs).take 56) 56 64 (by simp [bytesOf_len]) (b8_take (bytesOf_b8 zs) 56) (by decide) _ (lies_take (Or.inr ⟨_, _, rfl, fun i hi => ?_⟩) 56)
    rw [cell_of_block (heap_new W _), Nat.zero_add, iv_get _ _ _ hi]
  have Hset : Hid ((iv .u64 zs).setIfInBounds 7 (.int .u64 (4294967296 + ((moreN 0 ((bytesOf zs).take 56) : Nat) : Int))) = iv .u64 (sealOf zs)) := by show _ = _; rw [iv_set]; rfl
  go_enter Try.func33, Try.ntmps33
  go_wp2_with (refine wpList_load_row rfl 27 _ rfl _ rfl _ _ _ _ (unhide G0 _) Try.underlying27 rfl s8 ?_)
  refine (unhide C1 _).mono ?_
  rintro e w1 ⟨rfl, hb1⟩
  have hsz : w.heap.size + 1 + 1 ≤ w1.heap.size := by have := hb1.size; simpa using this
  have K0 := hide ((hb1.block w.heap.size (by simp; omega)).trans (unhide G0 _))
  have K1 := hide ((hb1.block (w.heap.size + 1) (by simp)).trans (unhide G1 _))
  have Hb := hide ((below_alloc2 w _ _).trans (hb1.mono (by simp; omega)))
  clear hb1
  go_wp2_with fail
  refine (unhide C2 _).mono ?_
  rintro e w2 ⟨rfl, rfl⟩
  have hm := unhide Hm
  have K2 := hide ((Below.heap_alloc w1 (.cells (iv .u8 (bytesOf zs)) 91) w.heap.size (by omega)).trans (unhide K0))
  have K3 := hide ((Below.heap_alloc w1 (.cells (iv .u8 (bytesOf zs)) 91) (w.heap.size + 1) (by omega)).trans (unhide K1))
  have Hb2 := hide ((unhide Hb).alloc (by omega) (.cells (iv .u8 (bytesOf zs)) 91))
  clear hst C2 K0 K1 Hb hB C1
  generalize w1.alloc (.cells (iv .u8 (bytesOf zs)) 91) = W2 at *
  generalize moreN 0 ((bytesOf zs).take 56) = m at *
  have c7 : W2.cell? ⟨w.heap.size, 7, none⟩ = some (.int .u64 (zs.getD 7 0)) := by rw [cell_of_block (unhide K2), iv_get _ _ _ (by omega)]
  have f7 : W2.frozen? ⟨w.heap.size, 7, none⟩ = false := unfrozen_of_block (unhide K2) _
  have K4 := hide ((block_setCell (i := 7) (unhide K2) (.int .u64 (4294967296 + (m : Int)))).trans (by rw [unhide Hset]))
  have K5 := hide ((heap_setCell_other W2 ⟨w.heap.size, 7, none⟩ (w.heap.size + 1) (.int .u64 (4294967296 + (m : Int))) (by simp)).trans (unhide K3))
  have Hb3 := hide ((unhide Hb2).setCell (p := ⟨w.heap.size, 7, none⟩) (by simp) (.int .u64 (4294967296 + (m : Int))))
  go_wp2_with (first | (refine wpList_load_row rfl 27 _ rfl _ rfl _ _ _ _ (unhide K4) Try.underlying27 rfl s8b ?_) | (refine wpList_store_row rfl 27 _ _ rfl _ (iv .u64 (sealOf zs)) rfl rfl _ _ (unhide K5) s8b (by rw [iv_size, sealOf_len, hl]; rfl) (iv_one _ _) ?_))
  exact bodyPost_ret (v := .agg (iv .u64 (sealOf zs))) (results_cell_row Try.results33 _ _ (w.heap.size + 1) _ (iv .u64 (sealOf zs)) (0, 0) _ rfl (setRow_heap _ _ _ _ _ _ (unhide K5)) Try.underlying27 rfl s8b) rfl ⟨rfl, below_row (unhide Hb3) (by omega) _⟩

theorem rseal_any (zs : List Int) (hl : zs.length = 8) (hw : ∀ z ∈ zs, (Lit.int .u64 z).wf = true) (w : World) :
    Calls Try.prog 29 #[.agg (iv .u64 zs)] w fun e w' => e = .returned (.agg (iv .u64 (sealOf zs))) ∧ Below w.heap.size w w' := by
  have s8 : (Try.prog.info? 27).map (·.size) = some (iv .u64 zs).size := by rw [iv_size, hl]; exact size8
  have s8b : (Try.prog.info? 27).map (·.size) = some (iv .u64 (sealOf zs)).size := by rw [iv_size, sealOf_len, hl]; exact size8
  have G0 : Hid (∀ B : Obj, ((w.alloc (.cells (iv .u64 zs) 27)).alloc B).heap[w.heap.size]? = some (.cells (iv .u64 zs) 27 (0, 0))) := fun B => by rw [Below.heap_alloc _ _ _ (by simp), heap_new]
  have G1 : Hid (∀ B : Obj, ((w.alloc (.cells (iv .u64 zs) 27)).alloc B).heap[w.heap.size + 1]? = some B) := fun B => by
    have := heap_new (w.alloc (.cells (iv .u64 zs) 27)) B
    simpa using this
  have C1 := hide (rbytes_any zs hl hw)
  have hB : (iv .u8 (bytesOf zs)).size = 64 := by rw [iv_size, bytesOf_len]
  have hst : ∀ (W : World) (C : Array Value), C.size = 64 → Sem.run Try.prog (storeCells ⟨W.heap.size, 0, none⟩ (iv .u8 (bytesOf zs)).toList) (W.alloc (.cells C 91)) = .ok () (W.alloc (.cells (iv .u8 (bytesOf zs)) 91)) :=
    fun W C hC => run_store_new _ _ rfl C _ _ (by rw [hC, hB]) (iv_one _ _)
  have Hm := hide (moreN_lt (s := 0) (b8_take (bytesOf_b8 zs) 56) (by decide))
  have C2 : Hid (∀ W : World, Calls Try.prog 45 #[.slice (some ⟨W.heap.size, 0, none⟩) 56 64] (W.alloc (.cells (iv .u8 (bytesOf zs)) 91)) fun e w' => e = .returned (.int .u32 ((moreN 0 ((bytesOf zs).take 56) : Nat) : Int)) ∧ w' = W.alloc (.cells (iv .u8 (bytesOf zs)) 91)) := fun W => by
    refine rsum_len _ ((bytesOf zs).take 56) 56 64 (by simp [bytesOf_len]) (b8_take (bytesOf_b8 zs) 56) (by decide) _ (lies_take (Or.inr ⟨_, _, rfl, fun i hi => ?_⟩) 56)
    rw [cell_of_block (heap_new W _), Nat.zero_add, iv_get _ _ _ hi]
  have Hset : Hid ((iv .u64 zs).setIfInBounds 7 (.int .u64 (bits .or .u64 ((moreN 0 ((bytesOf zs).take 56) : Nat) : Int) 4294967296)) = iv .u64 (sealOf zs)) := by show _ = _; rw [or_mark _ (unhide Hm), iv_set]; rfl
  go_enter Try.func29, Try.ntmps29
  go_wp2_with (refine wpList_load_row rfl 27 _ rfl _ rfl _ _ _ _ (unhide G0 _) Try.underlying27 rfl s8 ?_)
  refine (unhide C1 _).mono ?_
  rintro e w1 ⟨rfl, hb1⟩
  have hsz : w.heap.size + 1 + 1 ≤ w1.heap.size := by have := hb1.size; simpa using this
  have K0 := hide ((hb1.block w.heap.size (by simp; omega)).trans (unhide G0 _))
  have K1 := hide ((hb1.block (w.heap.size + 1) (by simp)).trans (unhide G1 _))
  have Hb := hide ((below_alloc2 w _ _).trans (hb1.mono (by simp; omega)))
  clear hb1
  go_wp2_with fail
  refine (unhide C2 _).mono ?_
  rintro e w2 ⟨rfl, rfl⟩
  have hm := unhide Hm
  have K2 := hide ((Below.heap_alloc w1 (.cells (iv .u8 (bytesOf zs)) 91) w.heap.size (by omega)).trans (unhide K0))
  have K3 := hide ((Below.heap_alloc w1 (.cells (iv .u8 (bytesOf zs)) 91) (w.heap.size + 1) (by omega)).trans (unhide K1))
  have Hb2 := hide ((unhide Hb).alloc (by omega) (.cells (iv .u8 (bytesOf zs)) 91))
  clear hst C2 K0 K1 Hb hB C1
  generalize w1.alloc (.cells (iv .u8 (bytesOf zs)) 91) = W2 at *
  generalize moreN 0 ((bytesOf zs).take 56) = m at *
  have c7 : W2.cell? ⟨w.heap.size, 7, none⟩ = some (.int .u64 (zs.getD 7 0)) := by rw [cell_of_block (unhide K2), iv_get _ _ _ (by omega)]
  have f7 : W2.frozen? ⟨w.heap.size, 7, none⟩ = false := unfrozen_of_block (unhide K2) _
  have K4 := hide ((block_setCell (i := 7) (unhide K2) (.int .u64 (bits .or .u64 (m : Int) 4294967296))).trans (by rw [unhide Hset]))
  have K5 := hide ((heap_setCell_other W2 ⟨w.heap.size, 7, none⟩ (w.heap.size + 1) (.int .u64 (bits .or .u64 (m : Int) 4294967296)) (by simp)).trans (unhide K3))
  have Hb3 := hide ((unhide Hb2).setCell (p := ⟨w.heap.size, 7, none⟩) (by simp) (.int .u64 (bits .or .u64 (m : Int) 4294967296)))
  go_wp2_with (first | (refine wpList_load_row rfl 27 _ rfl _ rfl _ _ _ _ (unhide K4) Try.underlying27 rfl s8b ?_) | (refine wpList_store_row rfl 27 _ _ rfl _ (iv .u64 (sealOf zs)) rfl rfl _ _ (unhide K5) s8b (by rw [iv_size, sealOf_len, hl]; rfl) (iv_one _ _) ?_))
  exact bodyPost_ret (v := .agg (iv .u64 (sealOf zs))) (results_cell_row Try.results29 _ _ (w.heap.size + 1) _ (iv .u64 (sealOf zs)) (0, 0) _ rfl (setRow_heap _ _ _ _ _ _ (unhide K5)) Try.underlying27 rfl s8b) rfl ⟨rfl, below_row (unhide Hb3) (by omega) _⟩


theorem rgood_any (zs : List Int) (hl : zs.length = 8) (hw : ∀ z ∈ zs, (Lit.int .u64 z).wf = true) (W : World) :
    Calls Try.prog 32 #[.agg (iv .u64 zs)] W fun e w' => e = .returned (.bool (goodB zs)) ∧ Below W.heap.size W w' := by
  obtain ⟨ds, hds⟩ : ∃ ds : List Value, ds = zs.map (fun z => Value.int .u64 z) := ⟨_, rfl⟩
  have hdl : ds.length = 8 := by rw [hds]; simpa using hl
  have hdi : iv .u64 zs = ds.toArray := by rw [hds]; rfl
  have hj : (Try.prog.info? 27).map (·.size) = some ds.length := by rw [hdl]; exact size8
  have HB : Hid (∀ w : World, Calls Try.prog 29 #[.agg ds.toArray] w fun e w' => e = .returned (.agg (iv .u64 (sealOf zs))) ∧ Below w.heap.size w w') := fun w => by rw [← hdi]; exact rseal_any zs hl hw w
  have hm2 : Try.prog.eqGuardType Try.prog.depth 27 = false := by kernel_rfl
  have Q1 : Hid (∀ w : World, (Op.equalIn 10000 27 (.agg (iv .u64 (sealOf zs))) (.agg ds.toArray)).run Try.prog w = .ok (goodB zs) w) := fun w => by
    rw [← hdi, run_equalIn_ints w 9998 27 25 .u64 8 Try.underlying27 Try.underlying25 (by kernel_rfl) _ _ (by rw [sealOf_len, hl]) hl, good_seal' zs hl]
  rw [hdi]
  clear hds hdi hw
  obtain ⟨W0, hW0⟩ : ∃ W0 : World, W0 = W.alloc (.cells ds.toArray 27) := ⟨_, rfl⟩
  have Hsz : Hid (W0.heap.size = W.heap.size + 1) := by show _ = _; rw [hW0]; simp
  have Hbel : Hid (Below W.heap.size W W0) := by rw [hW0]; exact (Below.refl _ _).alloc (Nat.le_refl _) _
  have g0 : W0.heap[W.heap.size]? = some (.cells ds.toArray 27 (0, 0)) := by rw [hW0, heap_new]
  have HS0 : Hid ((fun w' : World => Below (W.heap.size + 1) W0 w' ∧ w'.rangeAt W.heap.size 0 ds) W0.drew) := by
    refine ⟨(Below.refl _ _).drew, ?_⟩
    intro j v hv
    show W0.cell? _ = _
    rw [cell_of_block g0, Nat.zero_add]; simpa using hv
  have Hk : Hid (∀ w' w'' : World, (Below (W.heap.size + 1) W0 w' ∧ w'.rangeAt W.heap.size 0 ds) → Below w'.heap.size w' w'' → (fun w' : World => Below (W.heap.size + 1) W0 w' ∧ w'.rangeAt W.heap.size 0 ds) w'') := by
    rintro w' w'' ⟨h1, h2⟩ hb
    have h4 := h1.size
    rw [unhide Hsz] at h4
    exact ⟨h1.trans (hb.mono h4), range_below hb (by omega) h2⟩
  have HW0 := hide hW0
  clear g0 hW0
  go_enter Try.func32, Try.ntmps32
  go_wp2_with fail
  rw [← unhide HW0]
  refine wp_region_noPanic ?_
  refine wp_region_held_drew (S := fun w' => Below (W.heap.size + 1) W0 w' ∧ w'.rangeAt W.heap.size 0 ds) (by kernel_rfl) (unhide HS0) (fun hHeld => ?_)
  refine take_at 0 3 rfl rfl (by kernel_rfl) (by kernel_rfl) (by kernel_rfl) (yieldsIf_load_mid (by rfl) 27 _ rfl W.heap.size 0 rfl ds _ (fun w h => h.2) Try.underlying27 rfl hj) hHeld ?_
  simp only [Act.put, List.setIfInBounds_toArray, List.set_cons_zero, List.set_cons_succ]
  refine take_at 2 5 rfl rfl (by kernel_rfl) (by kernel_rfl) (by kernel_rfl) (yieldsIf_load_mid (by rfl) 27 _ rfl W.heap.size 0 rfl ds _ (fun w h => h.2) Try.underlying27 rfl hj) hHeld ?_
  simp only [Act.put, List.setIfInBounds_toArray, List.set_cons_zero, List.set_cons_succ]
  refine wpAnyH_ready (rs := [1]) (by kernel_rfl) (by simp) ?_
  refine AllReadyH.cons rfl (fun K hK => ?_) AllReadyH.nil
  go_simp
  refine (unhide HB _).mono ?_
  rintro e w' ⟨rfl, hbx⟩
  go_wp2_with fail
  refine hK.out _ _ (unhide Hk _ _ hHeld hbx) (fun hNew => ?_)
  clear hK K hHeld hbx
  have hHeld := hNew
  clear hNew
  refine take_at 3 6 rfl rfl (by kernel_rfl) (by kernel_rfl) (by kernel_rfl) (yieldsIf_eql (by rfl) 27 27 _ _ rfl (iv .u64 (sealOf zs)) ds.toArray rfl rfl hm2 (goodB zs) (unhide Q1)) hHeld ?_
  simp only [Act.put, List.setIfInBounds_toArray, List.set_cons_zero, List.set_cons_succ]
  refine take_at 4 2 (v := ?_) rfl rfl (by kernel_rfl) (by kernel_rfl) (by kernel_rfl) (Or.inl ⟨by rfl, ?_⟩) hHeld ?_
  rotate_left
  · intro w hSw; go_simp; with_reducible rfl
  simp only [Act.put, List.setIfInBounds_toArray, List.set_cons_zero, List.set_cons_succ]
  refine wpAnyH_done (by kernel_rfl) ?_ _
  refine NoPanic.normal ?_
  go_wp2_with fail
  go_ret
  exact ⟨rfl, (unhide Hbel).trans ((hHeld.1).mono (by omega))⟩

end Go.Proofs.Ytnjicfnigfkppaa
