import Derived.Test.YtiafhcgaikapcaaGreatPkCr
import Derived.Test.YtiafhcgaikapcaaGreatPkCs
import Derived.Test.YtiafhcgaikapcaaGreatEqS
import Derived.Test.YtiafhcgaikapcaaGreatOwn
import Derived.Test.YtiafhcgaikapcaaGreatPkEn
import Derived.OwnWalk
import Derived.BigQuiet

/-
  radix.Root and radix.ReadRoot, and the document's: what each call returns, for whatever numbers and line; nothing that was there turns.
-/
namespace Go.Proofs.YtiafhcgaikapcaaGreat
open Go.ChangeShapes Go.WideShapes Go.ChangeAt Go.RowKit Go.Joins
set_option maxRecDepth 10000
set_option linter.unusedVariables false
set_option linter.unusedSimpArgs false

theorem zero8x : (#[.int .u64 0, .int .u64 0, .int .u64 0, .int .u64 0, .int .u64 0, .int .u64 0, .int .u64 0, .int .u64 0] : Array Value) = iv .u64 zs8 := rfl
theorem build8x : Tryz.prog.built 83 [] = some (iv .u64 zs8) := by kernel_rfl
theorem build7x : Tryz.prog.built 95 [] = some (iv .i64 zs7) := by kernel_rfl
theorem size7x : (Tryz.prog.info? 95).map (·.size) = some 7 := by kernel_rfl
theorem s8_of (l : List Int) (h : l.length = 8) : (Tryz.prog.info? 83).map (·.size) = some (iv .u64 l).size := by rw [iv_size, h]; exact size8
theorem s7_of (l : List Int) (h : l.length = 7) : (Tryz.prog.info? 95).map (·.size) = some (iv .i64 l).size := by rw [iv_size, h]; exact size7x
theorem iv_newx (k : IntKind) (l : List Int) (T : TypeId) (n : Nat) (hl : l.length = n) : ∀ (W : World) (C : Array Value), C.size = n → Sem.run Tryz.prog (storeCells ⟨W.heap.size, 0, none⟩ (iv k l).toList) (W.alloc (.cells C T)) = .ok () (W.alloc (.cells (iv k l) T)) :=
  fun W C hC => run_store_new _ _ rfl C _ _ (by rw [hC, iv_size, hl]) (iv_one _ _)
theorem iv_newg (k : IntKind) (l : List Int) (T : TypeId) (n : Nat) (hl : l.length = n) : ∀ (W : World) (g : Nat) (C : Array Value), g = W.heap.size → C.size = n → Sem.run Tryz.prog (storeCells ⟨g, 0, none⟩ (iv k l).toList) (W.alloc (.cells C T)) = .ok () (W.alloc (.cells (iv k l) T)) :=
  fun W g C hg hC => run_store_new _ _ hg C _ _ (by rw [hC, iv_size, hl]) (iv_one _ _)
theorem wf_u64 {z : Int} (h0 : 0 ≤ z) (h1 : z ≤ 18446744073709551615) : (Lit.int .u64 z).wf = true := by
  simp [Lit.wf, IntKind.min, IntKind.max, IntKind.signed, IntKind.bits]; omega
theorem wUp_wf (g : Nat → Int) (j : Nat) (h : ∀ i, i < 7 → i < j → 0 ≤ g i ∧ g i ≤ 18446744073709551615) : ∀ z ∈ wUp g j, (Lit.int .u64 z).wf = true := fun z hz => wf_u64 (wUp_bd g j h z hz).1 (wUp_bd g j h z hz).2
/-- A number of an array of seven, by value. -/
theorem run_index7 (W : World) (cs : Array Value) (k : IntKind) (i : Nat) (h7 : i < 7) (v : Value) (h : cs[i]? = some v) :
    Sem.run Tryz.prog (Instr.index 95 (.agg cs) (.int k (i : Int))) W = .ok v W := by
  have h7' : (0 : Int) ≤ (i : Int) ∧ (i : Int) < 7 := by omega
  simp [Instr.index, run_underlying Tryz.underlying95, asIntOf, h7, go_sem, part, h]
theorem wrapu_id (z : Int) (h0 : 0 ≤ z) (h1 : z < 1024) : IntKind.u64.wrap z = z := by
  simp [IntKind.wrap, IntKind.signed, IntKind.bits]; omega

/-! ### Root -/
set_option maxHeartbeats 4000000 in
theorem root_any (n : List Int) (hl : n.length = 7) (w : World) :
    Calls Tryz.prog 164 #[.agg (iv .i64 n)] w fun e w' => e = .returned (.tuple #[.agg (iv .u64 (rootV n)), .int .i64 (rootE n)]) ∧ Below w.heap.size w w' := by
  have s7 := s7_of n hl
  have G0 := hide (fun A B C : Obj => heap3 w A B C)
  have GB := hide (fun A B C : Obj => below_alloc3 w A B C)
  have HX : Hid (∀ j, j < 7 → (iv .i64 n)[j]? = some (.int .i64 (n.getD j 0))) := fun j hj => iv_get _ _ _ (by omega)
  have s8z := s8_of zs8 rfl
  go_enter Tryz.func164, Tryz.ntmps164
  go_wp2_with (refine wpList_load_row rfl 95 _ rfl w.heap.size rfl _ _ _ _ (unhide G0 _ _ _).1 Tryz.underlying95 rfl s7 ?_)
  go_loopw [8] (fun c wr => ∃ j : Nat, j ≤ 7 ∧ c = .int .i64 j ∧ Below w.heap.size w wr ∧ (∀ i, i < j → 0 ≤ n.getD i 0 ∧ n.getD i 0 < 1024) ∧
      wr.heap[w.heap.size + 1]? = some (.cells (iv .u64 zs8) 83 (0, 0)) ∧ wr.heap[w.heap.size + 1 + 1]? = some (.cells (iv .u64 (wUp (fun i => 4294967296 + n.getD i 0) j)) 83 (0, 0)))
     (fun c _ => 7 - (intOf c).toNat)
  case atStart =>
    refine ⟨0, by omega, rfl, unhide GB _ _ _, fun i hi => by omega, (unhide G0 _ _ _).2.1, ?_⟩
    rw [wUp_zero]; exact (unhide G0 _ _ _).2.2
  case round =>
    clear G0 GB
    obtain ⟨j, hj, rfl, hb, hall, g1, g2⟩ := hrel
    have G1 := hide g1
    have G2 := hide g2
    have HB := hide hb
    have HA := hide hall
    clear g1 g2 hb hall
    by_cases hlt : j < 7
    · have hix := fun W => run_index7 W (iv .i64 n) .i64 j hlt _ (unhide HX j hlt)
      by_cases h0 : n.getD j 0 < 0
      · have HV : Hid (rootV n = zs8 ∧ rootE n = 1) := by have := mayT_not n j hlt (by omega); simp [rootV, rootE, this]; trivial
        generalize n.getD j 0 = z at *
        go_wp2_with (first | (refine wpList_build0 rfl 83 rfl _ build8x ?_) | (refine wpList_store_row rfl 83 _ _ rfl (w.heap.size + 1) (iv .u64 zs8) rfl rfl _ _ (unhide G1) s8z rfl (iv_one _ _) ?_))
        refine bodyPost_ret (v := .tuple #[.agg (iv .u64 zs8), .int .i64 1]) (results_two Tryz.results164 _ _ (w.heap.size + 1) 83 (iv .u64 zs8) (0, 0) _ _ rfl rfl (setRow_heap _ _ _ _ _ _ (unhide G1)) Tryz.underlying83 rfl s8z) rfl ?_
        exact ⟨by rw [(unhide HV).1, (unhide HV).2], below_row (unhide HB) (by omega) _⟩
      · by_cases h1 : 1024 ≤ n.getD j 0
        · have HV : Hid (rootV n = zs8 ∧ rootE n = 1) := by have := mayT_not n j hlt (by omega); simp [rootV, rootE, this]; trivial
          generalize n.getD j 0 = z at *
          go_wp2_with (first | (refine wpList_build0 rfl 83 rfl _ build8x ?_) | (refine wpList_store_row rfl 83 _ _ rfl (w.heap.size + 1) (iv .u64 zs8) rfl rfl _ _ (unhide G1) s8z rfl (iv_one _ _) ?_))
          refine bodyPost_ret (v := .tuple #[.agg (iv .u64 zs8), .int .i64 1]) (results_two Tryz.results164 _ _ (w.heap.size + 1) 83 (iv .u64 zs8) (0, 0) _ _ rfl rfl (setRow_heap _ _ _ _ _ _ (unhide G1)) Tryz.underlying83 rfl s8z) rfl ?_
          exact ⟨by rw [(unhide HV).1, (unhide HV).2], below_row (unhide HB) (by omega) _⟩
        · have c2 : wr.cell? ⟨w.heap.size + 1 + 1, j, none⟩ = some (.int .u64 0) := by rw [cell_of_block (unhide G2), iv_get _ _ _ (by rw [wUp_len]; omega), wUp_get _ _ _ (by omega), if_neg (by omega)]
          have f2 : wr.frozen? ⟨w.heap.size + 1 + 1, j, none⟩ = false := unfrozen_of_block (unhide G2) _
          have Hset : Hid ((iv .u64 (wUp (fun i => 4294967296 + n.getD i 0) j)).setIfInBounds j (.int .u64 (4294967296 + n.getD j 0)) = iv .u64 (wUp (fun i => 4294967296 + n.getD i 0) (j + 1))) := by
            show _ = _; rw [iv_set, ← wUp_set _ _ hlt]
          have HA2 : Hid (∀ i, i < j + 1 → 0 ≤ n.getD i 0 ∧ n.getD i 0 < 1024) := fun i hi => by
            by_cases e : i = j
            · subst e; omega
            · exact unhide HA i (by omega)
          clear HA
          generalize hz : n.getD j 0 = z at *
          have HZ := hide hz
          clear hz
          go_wp2_with fail
          go_roundw
          case rel =>
            refine ⟨j + 1, by omega, by go_num, (unhide HB).setCell (by simp; omega) _, unhide HA2, ?_, ?_⟩
            · rw [heap_setCell_other _ _ _ _ (by simp)]; exact unhide G1
            · rw [block_setCell (unhide G2), unhide Hset]
          case measure => simp [intOf]; omega
    · obtain rfl : j = 7 := by omega
      have hm : mayT n = true := (mayT_iff n).2 (unhide HA)
      have HV : Hid (rootV n = rootS n ∧ rootE n = 0) := by simp [rootV, rootE, hm]; trivial
      have S := hide (seal_any (wUp (fun i => 4294967296 + n.getD i 0) 7) (wUp_len _ _) (wUp_wf _ _ fun i h _ => by have := unhide HA i h; omega))
      have s8a := s8_of (wUp (fun i => 4294967296 + n.getD i 0) 7) (wUp_len _ _)
      have s8b := s8_of (rootS n) (lineG_len _)
      have e8 : (iv .u64 (rootS n)).size = (iv .u64 zs8).size := by rw [iv_size, iv_size, show (rootS n).length = 8 from lineG_len _]; rfl
      rw [show sealOf (wUp (fun i => 4294967296 + n.getD i 0) 7) = rootS n from rfl] at S
      clear HX hm s7
      go_wp2_with (refine wpList_load_row rfl 83 _ rfl (w.heap.size + 1 + 1) rfl _ _ _ _ (unhide G2) Tryz.underlying83 rfl s8a ?_)
      refine (unhide S _).mono ?_
      rintro e w2 ⟨rfl, hb2⟩
      have hsz : w.heap.size + 1 + 1 < wr.heap.size := by
        rcases Nat.lt_or_ge (w.heap.size + 1 + 1) wr.heap.size with h | h
        · exact h
        · have := unhide G2; rw [Array.getElem?_eq_none h] at this; simp at this
      have K1 := hide ((hb2.block (w.heap.size + 1) (by omega)).trans (unhide G1))
      have Hb2 := hide ((unhide HB).trans (hb2.mono (by omega)))
      clear hb2 S G1 G2 HB
      go_wp2_with (refine wpList_store_row rfl 83 _ _ rfl (w.heap.size + 1) (iv .u64 (rootS n)) rfl rfl _ _ (unhide K1) s8b e8 (iv_one _ _) ?_)
      refine bodyPost_ret (v := .tuple #[.agg (iv .u64 (rootS n)), .int .i64 0]) (results_two Tryz.results164 _ _ (w.heap.size + 1) 83 (iv .u64 (rootS n)) (0, 0) _ _ rfl rfl (setRow_heap _ _ _ _ _ _ (unhide K1)) Tryz.underlying83 rfl s8b) rfl ?_
      exact ⟨by rw [(unhide HV).1, (unhide HV).2], below_row (unhide Hb2) (by omega) _⟩

/-! ### ReadRoot -/
theorem lt_of_heap {w : World} {g : Nat} {o : Obj} (h : w.heap[g]? = some o) : g < w.heap.size := by
  rcases Nat.lt_or_ge g w.heap.size with h' | h'
  · exact h'
  · rw [Array.getElem?_eq_none h'] at h; simp at h
set_option maxHeartbeats 4000000 in
theorem readRoot_any (l : List Int) (hl : l.length = 8) (hw : ∀ z ∈ l, (Lit.int .u64 z).wf = true) (w : World) :
    Calls Tryz.prog 160 #[.agg (iv .u64 l)] w fun e w' => e = .returned (.tuple #[.agg (iv .i64 (readTV l)), .bool (isT l)]) ∧ Below w.heap.size w w' := by
  have hR := wfs_u64 hw
  have G0 := hide (fun A B : Obj => heap2 w A B)
  have GB := hide (fun A B : Obj => below_alloc2 w A B)
  have s7z := s7_of zs7 rfl
  have C1 := hide (root_any (rawT l) (tab7_len _))
  go_enter Tryz.func160, Tryz.ntmps160
  go_wp2_with fail
  go_loopw [7] (fun c wr => ∃ j : Nat, j ≤ 7 ∧ c = .int .i64 j ∧ Below w.heap.size w wr ∧
      wr.heap[w.heap.size]? = some (.cells (iv .u64 l) 83 (0, 0)) ∧ wr.heap[w.heap.size + 1]? = some (.cells (iv .i64 (tab7 fun i => if i < j then wrap64 (IntKind.u64.wrap (l.getD i 0 - 4294967296)) else 0)) 95 (0, 0)))
     (fun c _ => 7 - (intOf c).toNat)
  case atStart =>
    refine ⟨0, by omega, rfl, unhide GB _ _, (unhide G0 _ _).1, ?_⟩
    rw [tab7_zero]; exact (unhide G0 _ _).2
  case round =>
    clear G0 GB
    obtain ⟨j, hj, rfl, hb, g0, g1⟩ := hrel
    have G0 := hide g0
    have G1 := hide g1
    have HB := hide hb
    clear g0 g1 hb
    by_cases hlt : j < 7
    · have c0 : wr.cell? ⟨w.heap.size, j, none⟩ = some (.int .u64 (l.getD j 0)) := by rw [cell_of_block (unhide G0), iv_get _ _ _ (by omega)]
      have c1 : wr.cell? ⟨w.heap.size + 1, j, none⟩ = some (.int .i64 0) := by rw [cell_of_block (unhide G1), iv_get _ _ _ (by rw [tab7_len]; omega), tab7_get _ _ (by omega), if_neg (by omega)]
      have f1 : wr.frozen? ⟨w.heap.size + 1, j, none⟩ = false := unfrozen_of_block (unhide G1) _
      have Hset : Hid ((iv .i64 (tab7 fun i => if i < j then wrap64 (IntKind.u64.wrap (l.getD i 0 - 4294967296)) else 0)).setIfInBounds j (.int .i64 (wrap64 (IntKind.u64.wrap (l.getD j 0 - 4294967296)))) = iv .i64 (tab7 fun i => if i < j + 1 then wrap64 (IntKind.u64.wrap (l.getD i 0 - 4294967296)) else 0)) := by
        show _ = _; rw [iv_set, ← tab7_set _ _ hlt]
      obtain ⟨r0, r1⟩ := hR j
      clear hR hw C1
      generalize l.getD j 0 = z at *
      go_wp2_with fail
      go_roundw
      case rel =>
        refine ⟨j + 1, by omega, by go_num, (unhide HB).setCell (by simp) _, ?_, ?_⟩
        · rw [heap_setCell_other _ _ _ _ (by simp)]; exact unhide G0
        · rw [block_setCell (unhide G1)]; rw [← unhide Hset]
      case measure => simp [intOf]; omega
    · obtain rfl : j = 7 := by omega
      rw [tab7_all] at G1
      have s7 := s7_of (rawT l) (tab7_len _)
      have G2 : Hid (wr.heap[w.heap.size + 1]? = some (.cells (iv .i64 (rawT l)) 95 (0, 0))) := unhide G1
      have hs0 := lt_of_heap (unhide G0)
      have hs1 := lt_of_heap (unhide G2)
      clear G1
      go_wp2_with (refine wpList_load_row rfl 95 _ rfl (w.heap.size + 1) rfl _ _ _ _ (unhide G2) Tryz.underlying95 rfl s7 ?_)
      refine (unhide C1 _).mono ?_
      rintro e w2 ⟨rfl, hb2⟩
      have hs2 := hb2.size
      have K0 := hide ((hb2.block _ hs0).trans (unhide G0))
      have K1 := hide ((hb2.block _ hs1).trans (unhide G2))
      have Hb2 := hide ((unhide HB).trans (hb2.mono (by omega)))
      clear hb2 C1 G0 G2 HB
      have hst := iv_newx .u64 (rootV (rawT l)) 83 8 (rootV_len _)
      have K0' := hide ((Below.heap_alloc w2 (.cells (iv .u64 (rootV (rawT l))) 83) w.heap.size (by omega)).trans (unhide K0))
      have K1' := hide ((Below.heap_alloc w2 (.cells (iv .u64 (rootV (rawT l))) 83) (w.heap.size + 1) (by omega)).trans (unhide K1))
      have K3' := hide (heap_new w2 (.cells (iv .u64 (rootV (rawT l))) 83))
      have Hb' := hide ((unhide Hb2).alloc (by omega) (.cells (iv .u64 (rootV (rawT l))) 83))
      clear K0 K1 Hb2
      have EQ : Hid (∀ w, (Op.equalIn 10000 83 (.agg (iv .u64 (rootV (rawT l)))) (.agg (iv .u64 l))).run Tryz.prog w = .ok (decide (rootV (rawT l) = l)) w) := fun w => equal_line _ l (rootV_len _) hl w
      have s8a := s8_of (rootV (rawT l)) (rootV_len _)
      have s8b := s8_of l hl
      have z7 : (iv .i64 (rawT l)).size = (iv .i64 zs7).size := by rw [iv_size, iv_size, show (rawT l).length = 7 from tab7_len _]; rfl
      cases hm : mayT (rawT l) with
      | false =>
        have HV : Hid (readTV l = zs7 ∧ isT l = false) := by have := rawT_none l hR hm; simp [readTV, this]; trivial
        rw [show rootE (rawT l) = 1 by simp [rootE, hm]] at *
        have hl8 : (iv .u64 (rootV (rawT l))).size = 8 := by rw [iv_size, rootV_len]
        generalize iv .u64 (rootV (rawT l)) = L at *
        clear hm hw hR hj
        go_wp2_with (first | (refine wpList_build0 rfl 95 rfl _ build7x ?_) | (with_reducible refine wpList_store_row (by with_unfolding_all rfl) 95 _ _ (by with_unfolding_all rfl) (w.heap.size + 1) (iv .i64 zs7) (by with_unfolding_all rfl) (by with_unfolding_all rfl) _ _ (unhide K1') s7z z7 (iv_one _ _) ?_))
        refine bodyPost_ret (v := .tuple #[.agg (iv .i64 zs7), .bool false]) (results_two Tryz.results160 _ _ (w.heap.size + 1) 95 (iv .i64 zs7) (0, 0) _ _ rfl rfl (setRow_heap _ _ _ _ _ _ (unhide K1')) Tryz.underlying95 rfl s7z) rfl ?_
        exact ⟨by rw [(unhide HV).1, (unhide HV).2], below_row (unhide Hb') (by omega) _⟩
      | true =>
        obtain ⟨e1, e2⟩ := rawT_test l hl hR hm
        have e3 : decide (rootV (rawT l) = l) = isT l := by rw [← e2]; unfold rootV; rw [if_pos hm]
        rw [e3] at EQ
        rw [show rootE (rawT l) = 0 by simp [rootE, hm]] at *
        have hl8 : (iv .u64 (rootV (rawT l))).size = 8 := by rw [iv_size, rootV_len]
        generalize iv .u64 (rootV (rawT l)) = L at *
        clear hm hw hR hj e2 e3
        cases hi : isT l with
        | false =>
          have HV : Hid (readTV l = zs7 ∧ isT l = false) := by simp [readTV, hi]; trivial
          rw [hi] at EQ
          clear hi
          go_wp2_with (first | (with_reducible refine wpList_load_row_g (by with_unfolding_all rfl) 83 (.tmp 5) (by with_unfolding_all rfl) w2.heap.size (by with_unfolding_all rfl) _ _ _ _ (unhide K3') Tryz.underlying83 (by with_unfolding_all rfl) s8a ?_) | (with_reducible refine wpList_load_row_g (by with_unfolding_all rfl) 83 (.tmp 1) (by with_unfolding_all rfl) w.heap.size (by with_unfolding_all rfl) _ _ _ _ (unhide K0') Tryz.underlying83 (by with_unfolding_all rfl) s8b ?_) | (with_reducible refine wpList_neqA (by with_unfolding_all rfl) 83 83 (.tmp 26) (.tmp 27) (by with_unfolding_all rfl) L (iv .u64 l) (by with_unfolding_all rfl) (by with_unfolding_all rfl) line_guard2 _ (unhide EQ) ?_) | (refine wpList_build0 rfl 95 rfl _ build7x ?_) | (with_reducible refine wpList_store_row (by with_unfolding_all rfl) 95 _ _ (by with_unfolding_all rfl) (w.heap.size + 1) (iv .i64 zs7) (by with_unfolding_all rfl) (by with_unfolding_all rfl) _ _ (unhide K1') s7z z7 (iv_one _ _) ?_))
          refine bodyPost_ret (v := .tuple #[.agg (iv .i64 zs7), .bool false]) (results_two Tryz.results160 _ _ (w.heap.size + 1) 95 (iv .i64 zs7) (0, 0) _ _ rfl rfl (setRow_heap _ _ _ _ _ _ (unhide K1')) Tryz.underlying95 rfl s7z) rfl ?_
          exact ⟨by rw [(unhide HV).1, (unhide HV).2], below_row (unhide Hb') (by omega) _⟩
        | true =>
          have HV : Hid (readTV l = rawT l ∧ isT l = true) := by rw [e1]; simp [readTV, hi]; trivial
          rw [hi] at EQ
          clear hi e1
          go_wp2_with (first | (with_reducible refine wpList_load_row_g (by with_unfolding_all rfl) 83 (.tmp 5) (by with_unfolding_all rfl) w2.heap.size (by with_unfolding_all rfl) _ _ _ _ (unhide K3') Tryz.underlying83 (by with_unfolding_all rfl) s8a ?_) | (with_reducible refine wpList_load_row_g (by with_unfolding_all rfl) 83 (.tmp 1) (by with_unfolding_all rfl) w.heap.size (by with_unfolding_all rfl) _ _ _ _ (unhide K0') Tryz.underlying83 (by with_unfolding_all rfl) s8b ?_) | (with_reducible refine wpList_neqA (by with_unfolding_all rfl) 83 83 (.tmp 26) (.tmp 27) (by with_unfolding_all rfl) L (iv .u64 l) (by with_unfolding_all rfl) (by with_unfolding_all rfl) line_guard2 _ (unhide EQ) ?_) | (with_reducible refine wpList_load_row (by with_unfolding_all rfl) 95 _ (by with_unfolding_all rfl) (w.heap.size + 1) (by with_unfolding_all rfl) _ _ _ _ (unhide K1') Tryz.underlying95 (by with_unfolding_all rfl) s7 ?_) | (with_reducible refine wpList_store_row (by with_unfolding_all rfl) 95 _ _ (by with_unfolding_all rfl) (w.heap.size + 1) (iv .i64 (rawT l)) (by with_unfolding_all rfl) (by with_unfolding_all rfl) _ _ (unhide K1') s7 rfl (iv_one _ _) ?_))
          refine bodyPost_ret (v := .tuple #[.agg (iv .i64 (rawT l)), .bool true]) (results_two Tryz.results160 _ _ (w.heap.size + 1) 95 (iv .i64 (rawT l)) (0, 0) _ _ rfl rfl (setRow_heap _ _ _ _ _ _ (unhide K1')) Tryz.underlying95 rfl s7) rfl ?_
          exact ⟨by rw [(unhide HV).1, (unhide HV).2], below_row (unhide Hb') (by omega) _⟩

end Go.Proofs.YtiafhcgaikapcaaGreat


/-
  Rows of entries in memory and by value: an entry read and written, rows compared; radix.part: the entries of a leaf. Nothing that was there turns.
-/
namespace Go.Proofs.YtiafhcgaikapcaaGreat
open Go.ChangeShapes Go.WideShapes Go.ChangeAt Go.RowKit Go.Joins
set_option maxRecDepth 10000
set_option linter.unusedVariables false
set_option linter.unusedSimpArgs false

theorem build21 : Tryz.prog.built 232 [] = some (iv .i64 (zrow 7)) := by
  rw [zrow_zero]; kernel_rfl
theorem size21 : (Tryz.prog.info? 232).map (·.size) = some 21 := by kernel_rfl
theorem s21_of (l : List Int) (h : l.length = 21) : (Tryz.prog.info? 232).map (·.size) = some (iv .i64 l).size := by rw [iv_size, h]; exact size21
/-! ### part -/
set_option maxHeartbeats 4000000 in
theorem part_anyx (t : List Int) (hl : t.length = 147) (k : Nat) (hk : k < 7) (w : World) :
    Calls Tryz.prog 185 #[.agg (iv .i64 t), .int .i64 (k : Int)] w fun e w' => e = .returned (.agg (iv .i64 (partT t k))) ∧ Below w.heap.size w w' := by
  have G0 := hide (fun A B C : Obj => heap3 w A B C)
  have GB := hide (fun A B C : Obj => below_alloc3 w A B C)
  have z21 : (#[.int .i64 0, .int .i64 0, .int .i64 0, .int .i64 0, .int .i64 0, .int .i64 0, .int .i64 0, .int .i64 0, .int .i64 0, .int .i64 0, .int .i64 0, .int .i64 0, .int .i64 0, .int .i64 0, .int .i64 0, .int .i64 0, .int .i64 0, .int .i64 0, .int .i64 0, .int .i64 0, .int .i64 0] : Array Value) = iv .i64 (zrow 7) := by rw [zrow_zero]; rfl
  go_enter Tryz.func185, Tryz.ntmps185
  go_wp2_with fail
  go_loopw [7] (fun c wr => ∃ j : Nat, j ≤ 7 ∧ c = .int .i64 j ∧ Below w.heap.size w wr ∧
      wr.heap[w.heap.size]? = some (.cells (iv .i64 t) 66 (0, 0)) ∧ wr.heap[w.heap.size + 1]? = some (.cells (iv .i64 (zrow 7)) 232 (0, 0)) ∧
      wr.heap[w.heap.size + 1 + 1]? = some (.cells (iv .i64 (rowE 7 (upTo (fun i => enAt t (7 * k + i)) j))) 232 (0, 0)))
     (fun c _ => 7 - (intOf c).toNat)
  case atStart =>
    refine ⟨0, by omega, rfl, unhide GB _ _ _, (unhide G0 _ _ _).1, ?_, ?_⟩
    · rw [← z21]; exact (unhide G0 _ _ _).2.1
    · rw [upTo_zero, ← z21]; exact (unhide G0 _ _ _).2.2
  case round =>
    clear G0 GB z21
    obtain ⟨j, hj, rfl, hb, g0, g1, g2⟩ := hrel
    have G0 := hide g0
    have G1 := hide g1
    have G2 := hide g2
    have HB := hide hb
    clear g0 g1 g2 hb
    by_cases hlt : j < 7
    · have R0 := hide (range_en t (unhide G0) (7 * k + j) (by omega))
      have T2 := hide (there_en _ (unhide G2) j (by rw [rowE_len]; omega))
      have Hset : Hid (put3 (rowE 7 (upTo (fun i => enAt t (7 * k + i)) j)) j (enAt t (7 * k + j)) = rowE 7 (upTo (fun i => enAt t (7 * k + i)) (j + 1))) := put3_upTo 7 _ j hlt
      go_wp2_with (first | (with_reducible refine wpList_load_en (by with_unfolding_all rfl) _ (by with_unfolding_all rfl) w.heap.size ((7 * k + j) * 3) (by with_unfolding_all rfl) _ (unhide R0) ?_) | (with_reducible refine wpList_store_en (by with_unfolding_all rfl) _ _ (by with_unfolding_all rfl) (w.heap.size + 1 + 1) (j * 3) (enAt t (7 * k + j)) (by with_unfolding_all rfl) (by with_unfolding_all rfl) (unhide T2) ?_))
      go_roundw
      case rel =>
        refine ⟨j + 1, by omega, by go_num, below_put3 (unhide HB) (by omega) _ _, ?_, ?_, ?_⟩
        · rw [heap_put3 (by omega)]; exact unhide G0
        · rw [heap_put3 (by omega)]; exact unhide G1
        · rw [block_put3 _ (unhide G2), unhide Hset]
      case measure => simp [intOf]; omega
    · obtain rfl : j = 7 := by omega
      have s21 := s21_of (partT t k) (partT_len _ _)
      rw [upTo_all] at G2
      have G3 : Hid (wr.heap[w.heap.size + 1 + 1]? = some (.cells (iv .i64 (partT t k)) 232 (0, 0))) := unhide G2
      have e21 : (iv .i64 (zrow 7)).size = (iv .i64 (partT t k)).size := by rw [iv_size, iv_size, zrow_len, partT_len]
      clear G2
      go_wp2_with (first | (with_reducible refine wpList_load_row (by with_unfolding_all rfl) 232 _ (by with_unfolding_all rfl) (w.heap.size + 1 + 1) (by with_unfolding_all rfl) _ _ _ _ (unhide G3) Tryz.underlying232 (by with_unfolding_all rfl) s21 ?_) | (with_reducible refine wpList_store_row (by with_unfolding_all rfl) 232 _ _ (by with_unfolding_all rfl) (w.heap.size + 1) (iv .i64 (partT t k)) (by with_unfolding_all rfl) (by with_unfolding_all rfl) _ _ (unhide G1) s21 e21 (iv_one _ _) ?_))
      exact bodyPost_ret (v := .agg (iv .i64 (partT t k))) (results_cell_row Tryz.results185 _ _ (w.heap.size + 1) _ (iv .i64 (partT t k)) (0, 0) _ rfl (setRow_heap _ _ _ _ _ _ (unhide G1)) Tryz.underlying232 rfl s21) rfl ⟨rfl, below_row (unhide HB) (by omega) _⟩

end Go.Proofs.YtiafhcgaikapcaaGreat


/-
  radix.leafLine, radix.Leaf and radix.ReadLeaf: what each call returns, for whatever entries, table, number and line; nothing that was there turns.
-/
namespace Go.Proofs.YtiafhcgaikapcaaGreat
open Go.ChangeShapes Go.WideShapes Go.ChangeAt Go.RowKit Go.Joins
set_option maxRecDepth 10000
set_option linter.unusedVariables false
set_option linter.unusedSimpArgs false

theorem wnV_bd (c : En) : 0 ≤ wnV c ∧ wnV c ≤ 18446744073709551615 := by
  unfold wnV; split
  · rename_i h; have := wordN_bd c h; omega
  · omega
theorem s3_of (c : En) : (Tryz.prog.info? 41).map (·.size) = some (ev c).size := size3

/-! ### leafLine -/
set_option maxHeartbeats 4000000 in
theorem leafLine_any (x : List Int) (hl : x.length = 21) (w : World) :
    Calls Tryz.prog 192 #[.agg (iv .i64 x)] w fun e w' => e = .returned (.tuple #[.agg (iv .u64 (leafV x)), .int .i64 (leafE x)]) ∧ Below w.heap.size w w' := by
  have s21 := s21_of x hl
  have G0 := hide (fun A B C : Obj => heap3 w A B C)
  have GB := hide (fun A B C : Obj => below_alloc3 w A B C)
  have HX : Hid (∀ (W : World) (j : Nat), j < 7 → Sem.run Tryz.prog (Instr.index 232 (.agg (iv .i64 x)) (.int .i64 (j : Int))) W = .ok (.agg (ev (enAt x j))) W) := fun W j hj => run_index_en _ 7 Tryz.underlying232 W x hl .i64 j hj
  have s8z := s8_of zs8 rfl
  go_enter Tryz.func192, Tryz.ntmps192
  go_wp2_with (refine wpList_load_row rfl 232 _ rfl w.heap.size rfl _ _ _ _ (unhide G0 _ _ _).1 Tryz.underlying232 rfl s21 ?_)
  go_loopw [10] (fun c wr => ∃ j : Nat, j ≤ 7 ∧ c = .int .i64 j ∧ Below w.heap.size w wr ∧ (∀ i, i < j → mayN (enAt x i) = true) ∧
      wr.heap[w.heap.size + 1]? = some (.cells (iv .u64 zs8) 83 (0, 0)) ∧ wr.heap[w.heap.size + 1 + 1]? = some (.cells (iv .u64 (wUp (fun i => wordN (enAt x i)) j)) 83 (0, 0)))
     (fun c _ => 7 - (intOf c).toNat)
  case atStart =>
    refine ⟨0, by omega, rfl, unhide GB _ _ _, fun i hi => by omega, (unhide G0 _ _ _).2.1, ?_⟩
    rw [wUp_zero]; exact (unhide G0 _ _ _).2.2
  case round =>
    clear G0 GB
    obtain ⟨j, hj, rfl, hb, hall, g1, g2⟩ := hrel
    have G1 := hide g1
    have G2 := hide g2
    have HB := hide hb
    have HA := hide hall
    have hs2 := lt_of_heap g2
    clear g1 g2 hb hall
    by_cases hlt : j < 7
    · have hix := fun W => unhide HX W j hlt
      have C1 := hide (eword_any (enAt x j))
      have n3 := ev_new (enAt x j) 41
      have z3 := ev_size (enAt x j)
      have KN := hide (heap_new wr (.cells (ev (enAt x j)) 41))
      have s3 := s3_of (enAt x j)
      have HS : Hid (mayN (enAt x j) = true → (iv .u64 (wUp (fun i => wordN (enAt x i)) j)).setIfInBounds j (.int .u64 (wordN (enAt x j))) = iv .u64 (wUp (fun i => wordN (enAt x i)) (j + 1))) := fun _ => by
        rw [iv_set, ← wUp_set _ _ hlt]
      cases hm : mayN (enAt x j) with
      | false =>
        have HV : Hid (leafV x = zs8 ∧ leafE x = 1) := by have := mayX_not x j hlt hm; simp [leafV, leafE, this]; trivial
        rw [wnV_not _ hm, wnE_not _ hm] at C1
        generalize ev (enAt x j) = E at *
        clear hm HS
        go_wp2_with (with_reducible refine wpList_load_row (by with_unfolding_all rfl) 41 _ (by with_unfolding_all rfl) wr.heap.size (by with_unfolding_all rfl) _ _ _ _ (unhide KN) Tryz.underlying41 (by with_unfolding_all rfl) s3 ?_)
        refine (unhide C1 _).mono ?_
        rintro e w2 ⟨rfl, hb2⟩
        have K1 := hide ((hb2.block _ (by simp; omega)).trans ((Below.heap_alloc _ _ _ (by omega)).trans (unhide G1)))
        have Hb2 := hide (((unhide HB).alloc (by omega) _).trans (hb2.mono (by simp; omega)))
        clear hb2 C1 G1 G2 HB KN
        go_wp2_with (first | (refine wpList_build0 rfl 83 rfl _ build8x ?_) | (refine wpList_store_row rfl 83 _ _ rfl (w.heap.size + 1) (iv .u64 zs8) rfl rfl _ _ (unhide K1) s8z rfl (iv_one _ _) ?_))
        refine bodyPost_ret (v := .tuple #[.agg (iv .u64 zs8), .int .i64 1]) (results_two Tryz.results192 _ _ (w.heap.size + 1) 83 (iv .u64 zs8) (0, 0) _ _ rfl rfl (setRow_heap _ _ _ _ _ _ (unhide K1)) Tryz.underlying83 rfl s8z) rfl ?_
        exact ⟨by rw [(unhide HV).1, (unhide HV).2], below_row (unhide Hb2) (by omega) _⟩
      | true =>
        rw [wnV_may _ hm, wnE_may _ hm] at C1
        have Hset := hide (unhide HS hm)
        have HA2 : Hid (∀ i, i < j + 1 → mayN (enAt x i) = true) := fun i hi => by
          by_cases e : i = j
          · subst e; exact hm
          · exact unhide HA i (by omega)
        have L2 : Hid (∀ i, i < 8 → (iv .u64 (wUp (fun i => wordN (enAt x i)) j))[i]? = some (.int .u64 ((wUp (fun i => wordN (enAt x i)) j).getD i 0))) := fun i hi => iv_get _ _ _ (by rw [wUp_len]; omega)
        clear hm HS HA
        generalize ev (enAt x j) = E at *
        generalize wordN (enAt x j) = V at *
        go_wp2_with (with_reducible refine wpList_load_row (by with_unfolding_all rfl) 41 _ (by with_unfolding_all rfl) wr.heap.size (by with_unfolding_all rfl) _ _ _ _ (unhide KN) Tryz.underlying41 (by with_unfolding_all rfl) s3 ?_)
        refine (unhide C1 _).mono ?_
        rintro e w2 ⟨rfl, hb2⟩
        have K1 := hide ((hb2.block _ (by simp; omega)).trans ((Below.heap_alloc _ _ _ (by omega)).trans (unhide G1)))
        have K2 := hide ((hb2.block _ (by simp; omega)).trans ((Below.heap_alloc _ _ _ (by omega)).trans (unhide G2)))
        have Hb2 := hide (((unhide HB).alloc (by omega) _).trans (hb2.mono (by simp; omega)))
        clear hb2 C1 G1 G2 HB KN
        have c2 : w2.cell? ⟨w.heap.size + 1 + 1, j, none⟩ = some (.int .u64 ((wUp (fun i => wordN (enAt x i)) j).getD j 0)) := by rw [cell_of_block (unhide K2), unhide L2 j (by omega)]
        have f2 : w2.frozen? ⟨w.heap.size + 1 + 1, j, none⟩ = false := unfrozen_of_block (unhide K2) _
        generalize (wUp (fun i => wordN (enAt x i)) j).getD j 0 = old at *
        go_wp2_with fail
        go_roundw
        case rel =>
          refine ⟨j + 1, by omega, by go_num, (unhide Hb2).setCell (by simp; omega) _, unhide HA2, ?_, ?_⟩
          · rw [heap_setCell_other _ _ _ _ (by simp)]; exact unhide K1
          · rw [block_setCell (unhide K2), unhide Hset]
        case measure => simp [intOf]; omega
    · obtain rfl : j = 7 := by omega
      have hm : mayX x = true := (mayX_iff x).2 (unhide HA)
      have HV : Hid (leafV x = leafS x ∧ leafE x = 0) := by simp [leafV, leafE, hm]; trivial
      have S := hide (seal_any (wUp (fun i => wordN (enAt x i)) 7) (wUp_len _ _) (wUp_wf _ _ fun i h _ => by have := wordN_bd _ (unhide HA i h); omega))
      have s8a := s8_of (wUp (fun i => wordN (enAt x i)) 7) (wUp_len _ _)
      have s8b := s8_of (leafS x) (lineG_len _)
      have e8 : (iv .u64 zs8).size = (iv .u64 (leafS x)).size := by rw [iv_size, iv_size, show (leafS x).length = 8 from lineG_len _]; rfl
      rw [show sealOf (wUp (fun i => wordN (enAt x i)) 7) = leafS x from rfl] at S
      clear HX hm s21
      go_wp2_with (refine wpList_load_row rfl 83 _ rfl (w.heap.size + 1 + 1) rfl _ _ _ _ (unhide G2) Tryz.underlying83 rfl s8a ?_)
      refine (unhide S _).mono ?_
      rintro e w2 ⟨rfl, hb2⟩
      have K1 := hide ((hb2.block (w.heap.size + 1) (by omega)).trans (unhide G1))
      have Hb2 := hide ((unhide HB).trans (hb2.mono (by omega)))
      clear hb2 S G1 G2 HB
      go_wp2_with (with_reducible refine wpList_store_row (by with_unfolding_all rfl) 83 _ _ (by with_unfolding_all rfl) (w.heap.size + 1) (iv .u64 (leafS x)) (by with_unfolding_all rfl) (by with_unfolding_all rfl) _ _ (unhide K1) s8b e8 (iv_one _ _) ?_)
      refine bodyPost_ret (v := .tuple #[.agg (iv .u64 (leafS x)), .int .i64 0]) (results_two Tryz.results192 _ _ (w.heap.size + 1) 83 (iv .u64 (leafS x)) (0, 0) _ _ rfl rfl (setRow_heap _ _ _ _ _ _ (unhide K1)) Tryz.underlying83 rfl s8b) rfl ?_
      exact ⟨by rw [(unhide HV).1, (unhide HV).2], below_row (unhide Hb2) (by omega) _⟩

/-! ### Leaf -/
set_option maxHeartbeats 4000000 in
theorem leaf_any (t : List Int) (hl : t.length = 147) (k : Int) (w : World) :
    Calls Tryz.prog 163 #[.agg (iv .i64 t), .int .i64 k] w fun e w' => e = .returned (.tuple #[.agg (iv .u64 (leafKV t k)), .int .i64 (leafKE t k)]) ∧ Below w.heap.size w w' := by
  have s147 := s147_of t hl
  have G0 := hide (fun A B : Obj => heap2 w A B)
  have GB := hide (fun A B : Obj => below_alloc2 w A B)
  have s8z := s8_of zs8 rfl
  by_cases hk : 0 ≤ k ∧ k < 7
  · obtain ⟨n, rfl⟩ : ∃ n : Nat, k = (n : Int) := ⟨k.toNat, by omega⟩
    have hn : n < 7 := by omega
    have HV : Hid (leafKV t (n : Int) = leafV (partT t n) ∧ leafKE t (n : Int) = leafE (partT t n)) := by
      show _ ∧ _
      unfold leafKV leafKE
      rw [if_pos hk, if_pos hk, Int.toNat_natCast]; exact ⟨rfl, rfl⟩
    rw [(unhide HV).1, (unhide HV).2]
    have C1 := hide (part_anyx t hl n hn)
    have C2 := hide (leafLine_any (partT t n) (partT_len _ _))
    have s8 := s8_of (leafV (partT t n)) (leafV_len _)
    have e8 : (iv .u64 zs8).size = (iv .u64 (leafV (partT t n))).size := by rw [iv_size, iv_size, leafV_len]; rfl
    generalize leafV (partT t n) = L at *
    generalize leafE (partT t n) = E at *
    generalize iv .i64 (partT t n) = X at *
    clear HV hk
    go_enter Tryz.func163, Tryz.ntmps163
    go_wp2_with (refine wpList_load_row rfl 66 _ rfl w.heap.size rfl _ _ _ _ (unhide G0 _ _).1 Tryz.underlying66 rfl s147 ?_)
    refine (unhide C1 _).mono ?_
    rintro e w1 ⟨rfl, hb1⟩
    have K1 := hide ((hb1.block _ (by simp)).trans (unhide G0 _ _).2)
    have Hb1 := hide ((unhide GB _ _).trans (hb1.mono (by simp; omega)))
    have hs1 : w.heap.size + 1 < w1.heap.size := by have := hb1.size; simp at this; omega
    clear hb1 C1 G0 GB
    go_wp2_with fail
    refine (unhide C2 _).mono ?_
    rintro e w2 ⟨rfl, hb2⟩
    have K2 := hide ((hb2.block _ hs1).trans (unhide K1))
    have Hb2 := hide ((unhide Hb1).trans (hb2.mono (by omega)))
    clear hb2 C2 K1 Hb1
    rw [zero8x] at K2
    go_wp2_with (with_reducible refine wpList_store_row (by with_unfolding_all rfl) 83 _ _ (by with_unfolding_all rfl) (w.heap.size + 1) (iv .u64 L) (by with_unfolding_all rfl) (by with_unfolding_all rfl) _ _ (unhide K2) s8 e8 (iv_one _ _) ?_)
    refine bodyPost_ret (v := .tuple #[.agg (iv .u64 L), .int .i64 E]) (results_two Tryz.results163 _ _ (w.heap.size + 1) 83 (iv .u64 L) (0, 0) _ _ rfl rfl (setRow_heap _ _ _ _ _ _ (unhide K2)) Tryz.underlying83 rfl s8) rfl ?_
    exact ⟨rfl, below_row (unhide Hb2) (by omega) _⟩
  · rw [show leafKV t k = zs8 by unfold leafKV; rw [if_neg hk], show leafKE t k = 1 by unfold leafKE; rw [if_neg hk]]
    have G1 : Hid (∀ A : Obj, ((w.alloc A).alloc (.cells (iv .u64 zs8) 83)).heap[w.heap.size + 1]? = some (.cells (iv .u64 zs8) 83 (0, 0))) := fun A => (heap2 w _ _).2
    by_cases h0 : k < 0
    · clear hk
      go_enter Tryz.func163, Tryz.ntmps163
      go_wp2_with (first | (refine wpList_build0 rfl 83 rfl _ build8x ?_) | (refine wpList_store_row rfl 83 _ _ rfl (w.heap.size + 1) (iv .u64 zs8) rfl rfl _ _ (unhide G1 _) s8z rfl (iv_one _ _) ?_))
      refine bodyPost_ret (v := .tuple #[.agg (iv .u64 zs8), .int .i64 1]) (results_two Tryz.results163 _ _ (w.heap.size + 1) 83 (iv .u64 zs8) (0, 0) _ _ rfl rfl (setRow_heap _ _ _ _ _ _ (unhide G1 _)) Tryz.underlying83 rfl s8z) rfl ?_
      exact ⟨rfl, below_row (unhide GB _ _) (by omega) _⟩
    · have h7 : 7 ≤ k := by omega
      clear hk
      go_enter Tryz.func163, Tryz.ntmps163
      go_wp2_with (first | (refine wpList_build0 rfl 83 rfl _ build8x ?_) | (refine wpList_store_row rfl 83 _ _ rfl (w.heap.size + 1) (iv .u64 zs8) rfl rfl _ _ (unhide G1 _) s8z rfl (iv_one _ _) ?_))
      refine bodyPost_ret (v := .tuple #[.agg (iv .u64 zs8), .int .i64 1]) (results_two Tryz.results163 _ _ (w.heap.size + 1) 83 (iv .u64 zs8) (0, 0) _ _ rfl rfl (setRow_heap _ _ _ _ _ _ (unhide G1 _)) Tryz.underlying83 rfl s8z) rfl ?_
      exact ⟨rfl, below_row (unhide GB _ _) (by omega) _⟩

end Go.Proofs.YtiafhcgaikapcaaGreat


/-
  radix.ReadLeaf: what it returns for whatever line; nothing that was there turns.
-/
namespace Go.Proofs.YtiafhcgaikapcaaGreat
open Go.ChangeShapes Go.WideShapes Go.ChangeAt Go.RowKit Go.Joins
set_option maxRecDepth 10000
set_option linter.unusedVariables false
set_option linter.unusedSimpArgs false

theorem zero21 : (#[.int .i64 0, .int .i64 0, .int .i64 0, .int .i64 0, .int .i64 0, .int .i64 0, .int .i64 0, .int .i64 0, .int .i64 0, .int .i64 0, .int .i64 0, .int .i64 0, .int .i64 0, .int .i64 0, .int .i64 0, .int .i64 0, .int .i64 0, .int .i64 0, .int .i64 0, .int .i64 0, .int .i64 0] : Array Value) = iv .i64 (zrow 7) := by rw [zrow_zero]; rfl
set_option maxHeartbeats 4000000 in
theorem readLeaf_any (l : List Int) (hl : l.length = 8) (hw : ∀ z ∈ l, (Lit.int .u64 z).wf = true) (w : World) :
    Calls Tryz.prog 190 #[.agg (iv .u64 l)] w fun e w' => e = .returned (.tuple #[.agg (iv .i64 (readXV l)), .bool (isX l)]) ∧ Below w.heap.size w w' := by
  have hR := wfs_u64 hw
  have G0 := hide (fun A B : Obj => heap2 w A B)
  have GB := hide (fun A B : Obj => below_alloc2 w A B)
  have s21z := s21_of (zrow 7) (zrow_len 7)
  have C2 := hide (leafLine_any (readX l) (readX_len l))
  go_enter Tryz.func190, Tryz.ntmps190
  go_wp2_with fail
  go_loopw [7] (fun c wr => ∃ j : Nat, j ≤ 7 ∧ c = .int .i64 j ∧ Below w.heap.size w wr ∧ (∀ i, i < j → isN (l.getD i 0) = true) ∧
      wr.heap[w.heap.size]? = some (.cells (iv .u64 l) 83 (0, 0)) ∧ wr.heap[w.heap.size + 1]? = some (.cells (iv .i64 (rowE 7 (upTo (fun i => onV (l.getD i 0)) j))) 232 (0, 0)))
     (fun c _ => 7 - (intOf c).toNat)
  case atStart =>
    refine ⟨0, by omega, rfl, unhide GB _ _, fun i hi => by omega, (unhide G0 _ _).1, ?_⟩
    rw [upTo_zero, ← zero21]; exact (unhide G0 _ _).2
  case round =>
    clear G0 GB
    obtain ⟨j, hj, rfl, hb, hall, g0, g1⟩ := hrel
    have G0 := hide g0
    have G1 := hide g1
    have HB := hide hb
    have HA := hide hall
    have hs0 := lt_of_heap g0
    have hs1 := lt_of_heap g1
    clear g0 g1 hb hall
    by_cases hlt : j < 7
    · obtain ⟨r0, r1⟩ := hR j
      have c0 : wr.cell? ⟨w.heap.size, j, none⟩ = some (.int .u64 (l.getD j 0)) := by rw [cell_of_block (unhide G0), iv_get _ _ _ (by omega)]
      have C1 := hide (eof_any (l.getD j 0) r0 r1)
      have Hset : Hid (put3 (rowE 7 (upTo (fun i => onV (l.getD i 0)) j)) j (onV (l.getD j 0)) = rowE 7 (upTo (fun i => onV (l.getD i 0)) (j + 1))) := put3_upTo 7 _ j hlt
      have HL : Hid ((rowE 7 (upTo (fun i => onV (l.getD i 0)) j)).length = 21) := rowE_len _ _
      have HA2 : Hid (isN (l.getD j 0) = true → ∀ i, i < j + 1 → isN (l.getD i 0) = true) := fun hm i hi => by
        by_cases e : i = j
        · subst e; exact hm
        · exact unhide HA i (by omega)
      have HV : Hid (isN (l.getD j 0) = false → readXV l = zrow 7 ∧ isX l = false) := fun hm => by
        have h2 : isX l = false := by unfold isX; rw [allN_not l j hlt hm]; rfl
        simp [readXV, h2]
      clear hR hw C2 HA
      generalize hz : l.getD j 0 = z at *
      clear hz
      go_wp2_with fail
      refine (unhide C1 _).mono ?_
      rintro e w2 ⟨rfl, hb2⟩
      have hs2 := hb2.size
      have K0 := hide ((hb2.block _ hs0).trans (unhide G0))
      have K1 := hide ((hb2.block _ hs1).trans (unhide G1))
      have Hb2 := hide ((unhide HB).trans (hb2.mono (by omega)))
      clear hb2 C1 G0 G1 HB c0
      generalize rowE 7 (upTo (fun i => onV (l.getD i 0)) j) = X at *
      have T1 := hide (there_en _ (unhide K1) j (by rw [unhide HL]; omega))
      have K1' := hide (block_put3 _ (unhide K1) j (onV z))
      have Hb3 := hide (below_put3 (unhide Hb2) (show w.heap.size ≤ w.heap.size + 1 by omega) (j * 3) (onV z))
      have e21 : (iv .i64 (put3 X j (onV z))).size = (iv .i64 (zrow 7)).size := by rw [iv_size, iv_size, put3_len, unhide HL, zrow_len]
      cases hm : isN z with
      | false =>
        have HV2 := hide (unhide HV hm)
        clear HV HA2 hm
        go_wp2_with (first | (with_reducible refine wpList_store_en (by with_unfolding_all rfl) _ _ (by with_unfolding_all rfl) (w.heap.size + 1) (j * 3) (onV z) (by with_unfolding_all rfl) (by with_unfolding_all rfl) (unhide T1) ?_) | (refine wpList_build0 rfl 232 rfl _ build21 ?_) | (with_reducible refine wpList_store_row (by with_unfolding_all rfl) 232 _ _ (by with_unfolding_all rfl) (w.heap.size + 1) (iv .i64 (zrow 7)) (by with_unfolding_all rfl) (by with_unfolding_all rfl) _ _ (unhide K1') s21z e21 (iv_one _ _) ?_))
        refine bodyPost_ret (v := .tuple #[.agg (iv .i64 (zrow 7)), .bool false]) (results_two Tryz.results190 _ _ (w.heap.size + 1) 232 (iv .i64 (zrow 7)) (0, 0) _ _ rfl rfl (setRow_heap _ _ _ _ _ _ (unhide K1')) Tryz.underlying232 rfl s21z) rfl ?_
        exact ⟨by rw [(unhide HV2).1, (unhide HV2).2], below_row (unhide Hb3) (by omega) _⟩
      | true =>
        have HA3 := hide (unhide HA2 hm)
        clear HV HA2 hm
        go_wp2_with (with_reducible refine wpList_store_en (by with_unfolding_all rfl) _ _ (by with_unfolding_all rfl) (w.heap.size + 1) (j * 3) (onV z) (by with_unfolding_all rfl) (by with_unfolding_all rfl) (unhide T1) ?_)
        go_roundw
        case rel =>
          refine ⟨j + 1, by omega, by go_num, unhide Hb3, unhide HA3, ?_, ?_⟩
          · rw [heap_put3 (by omega)]; exact unhide K0
          · rw [unhide K1', unhide Hset]
        case measure => simp [intOf]; omega
    · obtain rfl : j = 7 := by omega
      have ha : allN l = true := (allN_iff l).2 (unhide HA)
      have hm := readX_may l ha
      have s21 := s21_of (readX l) (readX_len l)
      rw [upTo_all] at G1
      have G2 : Hid (wr.heap[w.heap.size + 1]? = some (.cells (iv .i64 (readX l)) 232 (0, 0))) := unhide G1
      rw [show leafV (readX l) = sealOf l by unfold leafV; rw [if_pos hm, readX_leaf l hl ha], show leafE (readX l) = 0 by unfold leafE; rw [if_pos hm]] at C2
      have EQ : Hid (∀ w, (Op.equalIn 10000 83 (.agg (iv .u64 (sealOf l))) (.agg (iv .u64 l))).run Tryz.prog w = .ok (goodB l) w) := fun w => by rw [equal_line _ l (by rw [sealOf_len, hl]) hl w, good_seal' l hl]
      have hi : isX l = goodB l := by unfold isX; rw [ha]; rfl
      have s8a := s8_of (sealOf l) (by rw [sealOf_len, hl])
      have s8b := s8_of l hl
      have z21 : (iv .i64 (readX l)).size = (iv .i64 (zrow 7)).size := by rw [iv_size, iv_size, readX_len, zrow_len]
      have hst := iv_newx .u64 (sealOf l) 83 8 (by rw [sealOf_len, hl])
      have hl8 : (iv .u64 (sealOf l)).size = 8 := by rw [iv_size, sealOf_len, hl]
      clear G1 HA ha hm hR hw
      go_wp2_with (with_reducible refine wpList_load_row (by with_unfolding_all rfl) 232 _ (by with_unfolding_all rfl) (w.heap.size + 1) (by with_unfolding_all rfl) _ _ _ _ (unhide G2) Tryz.underlying232 (by with_unfolding_all rfl) s21 ?_)
      refine (unhide C2 _).mono ?_
      rintro e w2 ⟨rfl, hb2⟩
      have hs2 := hb2.size
      have K0' := hide ((Below.heap_alloc w2 (.cells (iv .u64 (sealOf l)) 83) w.heap.size (by omega)).trans ((hb2.block _ hs0).trans (unhide G0)))
      have K1' := hide ((Below.heap_alloc w2 (.cells (iv .u64 (sealOf l)) 83) (w.heap.size + 1) (by omega)).trans ((hb2.block _ hs1).trans (unhide G2)))
      have K3' := hide (heap_new w2 (.cells (iv .u64 (sealOf l)) 83))
      have Hb' := hide (((unhide HB).trans (hb2.mono (by omega))).alloc (by omega) (.cells (iv .u64 (sealOf l)) 83))
      clear hb2 C2 G0 G2 HB
      generalize iv .u64 (sealOf l) = L at *
      cases hg : goodB l with
      | false =>
        have HV : Hid (readXV l = zrow 7 ∧ isX l = false) := by rw [hg] at hi; simp [readXV, hi]; trivial
        rw [hg] at EQ
        clear hg hi
        go_wp2_with (first | (with_reducible refine wpList_load_row_g (by with_unfolding_all rfl) 83 (.tmp 5) (by with_unfolding_all rfl) w2.heap.size (by with_unfolding_all rfl) _ _ _ _ (unhide K3') Tryz.underlying83 (by with_unfolding_all rfl) s8a ?_) | (with_reducible refine wpList_load_row_g (by with_unfolding_all rfl) 83 (.tmp 1) (by with_unfolding_all rfl) w.heap.size (by with_unfolding_all rfl) _ _ _ _ (unhide K0') Tryz.underlying83 (by with_unfolding_all rfl) s8b ?_) | (with_reducible refine wpList_neqA (by with_unfolding_all rfl) 83 83 (.tmp 31) (.tmp 32) (by with_unfolding_all rfl) L (iv .u64 l) (by with_unfolding_all rfl) (by with_unfolding_all rfl) line_guard2 _ (unhide EQ) ?_) | (refine wpList_build0 rfl 232 rfl _ build21 ?_) | (with_reducible refine wpList_store_row (by with_unfolding_all rfl) 232 _ _ (by with_unfolding_all rfl) (w.heap.size + 1) (iv .i64 (zrow 7)) (by with_unfolding_all rfl) (by with_unfolding_all rfl) _ _ (unhide K1') s21z z21 (iv_one _ _) ?_))
        refine bodyPost_ret (v := .tuple #[.agg (iv .i64 (zrow 7)), .bool false]) (results_two Tryz.results190 _ _ (w.heap.size + 1) 232 (iv .i64 (zrow 7)) (0, 0) _ _ rfl rfl (setRow_heap _ _ _ _ _ _ (unhide K1')) Tryz.underlying232 rfl s21z) rfl ?_
        exact ⟨by rw [(unhide HV).1, (unhide HV).2], below_row (unhide Hb') (by omega) _⟩
      | true =>
        have HV : Hid (readXV l = readX l ∧ isX l = true) := by rw [hg] at hi; simp [readXV, hi]; trivial
        rw [hg] at EQ
        clear hg hi
        go_wp2_with (first | (with_reducible refine wpList_load_row_g (by with_unfolding_all rfl) 83 (.tmp 5) (by with_unfolding_all rfl) w2.heap.size (by with_unfolding_all rfl) _ _ _ _ (unhide K3') Tryz.underlying83 (by with_unfolding_all rfl) s8a ?_) | (with_reducible refine wpList_load_row_g (by with_unfolding_all rfl) 83 (.tmp 1) (by with_unfolding_all rfl) w.heap.size (by with_unfolding_all rfl) _ _ _ _ (unhide K0') Tryz.underlying83 (by with_unfolding_all rfl) s8b ?_) | (with_reducible refine wpList_neqA (by with_unfolding_all rfl) 83 83 (.tmp 31) (.tmp 32) (by with_unfolding_all rfl) L (iv .u64 l) (by with_unfolding_all rfl) (by with_unfolding_all rfl) line_guard2 _ (unhide EQ) ?_) | (with_reducible refine wpList_load_row (by with_unfolding_all rfl) 232 _ (by with_unfolding_all rfl) (w.heap.size + 1) (by with_unfolding_all rfl) _ _ _ _ (unhide K1') Tryz.underlying232 (by with_unfolding_all rfl) s21 ?_) | (with_reducible refine wpList_store_row (by with_unfolding_all rfl) 232 _ _ (by with_unfolding_all rfl) (w.heap.size + 1) (iv .i64 (readX l)) (by with_unfolding_all rfl) (by with_unfolding_all rfl) _ _ (unhide K1') s21 rfl (iv_one _ _) ?_))
        refine bodyPost_ret (v := .tuple #[.agg (iv .i64 (readX l)), .bool true]) (results_two Tryz.results190 _ _ (w.heap.size + 1) 232 (iv .i64 (readX l)) (0, 0) _ _ rfl rfl (setRow_heap _ _ _ _ _ _ (unhide K1')) Tryz.underlying232 rfl s21) rfl ?_
        exact ⟨by rw [(unhide HV).1, (unhide HV).2], below_row (unhide Hb') (by omega) _⟩

end Go.Proofs.YtiafhcgaikapcaaGreat


/-
  radix.Differ and the document's: the leaves that differ, in a row of the call's own; nothing that was there turns.
-/
namespace Go.Proofs.YtiafhcgaikapcaaGreat
open Go.ChangeShapes Go.WideShapes Go.ChangeAt Go.RowKit Go.Joins
set_option maxRecDepth 10000
set_option linter.unusedVariables false
set_option linter.unusedSimpArgs false

def intsX (zs : List Int) : List Value := zs.map (Value.int .i64)
/-- A row of ints of the call's own. -/
def RowX (base : Nat) (v : Value) (zs : List Int) (w : World) : Prop := w.ownsRow base 3 1 v zs.length (intsX zs)
theorem info_int : (Tryz.prog.info? 3).map (fun i => (i.zero, i.size, i.bytes)) = some (some (.int .i64 0), 1, 8) := by kernel_rfl
theorem RowX.nil (base : Nat) (w : World) : RowX base (.slice none 0 0) [] w := World.ownsRow_nil w base 3 1
theorem RowX.same {w w' : World} {base : Nat} {v : Value} {zs : List Int} (h : RowX base v zs w) (hs : ∀ k, v.ownBlock = some k → w'.heap[k]? = w.heap[k]?) : RowX base v zs w' := by
  refine ⟨h.1, ?_⟩
  rcases h.2 with h' | ⟨g, cap, cur, rfl, h1, h2, h3⟩
  · exact Or.inl h'
  · exact Or.inr ⟨g, cap, cur, rfl, h1, (hs g rfl).trans h2, h3⟩
theorem RowX.lt {w : World} {base : Nat} {v : Value} {zs : List Int} (h : RowX base v zs w) : ∀ k, v.ownBlock = some k → base ≤ k ∧ k < w.heap.size := World.ownsRow.lt h
theorem RowX.below {w w' : World} {base : Nat} {v : Value} {zs : List Int} (h : RowX base v zs w) (hb : Below w.heap.size w w') : RowX base v zs w' :=
  h.same fun k hk => hb.block k (h.lt k hk).2
theorem RowX.mono {w : World} {base base' : Nat} {v : Value} {zs : List Int} (h : RowX base v zs w) (hb : base' ≤ base) : RowX base' v zs w := by
  refine ⟨h.1, ?_⟩
  rcases h.2 with h' | ⟨g, cap, cur, rfl, h1, h2⟩
  · exact Or.inl h'
  · exact Or.inr ⟨g, cap, cur, rfl, Nat.le_trans hb h1, h2⟩
theorem below_growX {B : Nat} {W w w' : World} {row : Option Nat} (hb : Below B W w) (hB : B ≤ w.heap.size) (hg : w.grownBy w' row) (hr : ∀ k, row = some k → B ≤ k) : Below B W w' :=
  hb.grown hg hB hr
/-- One more int behind a row of the call's own. -/
theorem push_int (W : World) {ops : Array Oper} {rest : List Oper} {o : Oper} {a : Act} {Q : Exit → Act → World → Prop} (z : Int) (hgd : o.guard = none) (s x : Operand) (ho : o.op = .call { callee := .builtin .append, args := #[s, x], argTypes := #[85, 85] })
    (base : Nat) (v : Value) (zs : List Int) (hs : a.eval s = v) (hown : RowX base v zs W) (hx : a.eval x = .slice (some ⟨W.heap.size, 0, none⟩) 1 1) (hlen : zs.length < 1000) (hbase : base ≤ W.heap.size)
    (h : ∀ v' w', RowX base v' (zs ++ [z]) w' → (W.alloc (.cells #[.int .i64 z] 3)).grownBy w' v.ownBlock → wpList Tryz.prog ops Q rest (a.put o.dst v') w') :
    wpList Tryz.prog ops Q (o :: rest) a (W.alloc (.cells #[.int .i64 z] 3)) := by
  obtain ⟨i0, hi, hz0, hz1, hz2⟩ := info_parts info_int
  refine wpList_append_own _ hgd s x 85 ho base 3 i0 (.int .i64 0) 1 8 Tryz.underlying85 hi hz0 hz1 hz2 rfl (by decide) v zs.length (intsX zs) hs (World.ownsRow.alloc hown _) ⟨W.heap.size, 0, none⟩ 1 1 [.int .i64 z] hx rfl ?_ ?_ ?_ ?_ ?_ ?_
  · intro j u hj
    match j, hj with
    | 0, hj =>
      simp at hj; subst hj
      rw [show (⟨W.heap.size, 0, none⟩ : Addr).add 0 = ⟨W.heap.size, 0, none⟩ from rfl, cell_of_block (heap_new W _)]; rfl
    | j + 1, hj => simp at hj
  · intro u hu; simp at hu; subst hu; rfl
  · unfold maxLen; omega
  · omega
  · simp; omega
  · intro v' w' h2 h3 _
    refine h v' w' ?_ h3
    show w'.ownsRow base 3 1 v' (zs ++ [z]).length (intsX (zs ++ [z]))
    rw [List.length_append, show intsX (zs ++ [z]) = intsX zs ++ [.int .i64 z] by simp [intsX]]
    exact h2
theorem rows7_guard : Tryz.prog.eqGuardType Tryz.prog.depth 232 = false := by kernel_rfl

/-! ### Differ -/
set_option maxHeartbeats 4000000 in
theorem differ_any (a b : List Int) (ha : a.length = 147) (hb : b.length = 147) (w : World) :
    Calls Tryz.prog 149 #[.agg (iv .i64 a), .agg (iv .i64 b)] w fun e w' => ∃ v, e = .returned v ∧ Below w.heap.size w w' ∧ RowX w.heap.size v (dfTo a b 7) w' := by
  have G0 := hide (fun A B : Obj => heap2 w A B)
  have GB := hide (fun A B : Obj => below_alloc2 w A B)
  have C1 : Hid (∀ (k : Nat), k < 7 → ∀ w, _) := fun k hk w => part_anyx a ha k hk w
  have C2 : Hid (∀ (k : Nat), k < 7 → ∀ w, _) := fun k hk w => part_anyx b hb k hk w
  have EQ : Hid (∀ (k : Nat) (w : World), (Op.equalIn 10000 232 (.agg (iv .i64 (partT a k))) (.agg (iv .i64 (partT b k)))).run Tryz.prog w = .ok (decide (partT a k = partT b k)) w) := fun k w => equal_rows 232 7 Tryz.underlying232 _ _ (partT_len _ _) (partT_len _ _) w
  have s1 : (Tryz.prog.info? 66).map (·.size) = some (iv .i64 a).toList.length := by rw [Array.length_toList]; exact s147_of a ha
  have s2 : (Tryz.prog.info? 66).map (·.size) = some (iv .i64 b).toList.length := by rw [Array.length_toList]; exact s147_of b hb
  have eA : (iv .i64 a).toList.toArray = iv .i64 a := by simp
  have eB : (iv .i64 b).toList.toArray = iv .i64 b := by simp
  have HS : Hid (∀ j, dfTo a b (j + 1) = if dfB a b j then dfTo a b j ++ [(j : Int)] else dfTo a b j) := dfTo_succ a b
  have HD : Hid (∀ j, dfB a b j = !decide (partT a j = partT b j)) := fun j => by unfold dfB; simp
  have HN : Hid (∀ j, (dfTo a b j).length ≤ j) := dfTo_len a b
  go_enter Tryz.func149, Tryz.ntmps149
  go_wp2_with fail
  go_loopw [5, 7] (fun v c wr => ∃ j : Nat, j ≤ 7 ∧ c = .int .i64 j ∧ Below w.heap.size w wr ∧ RowX (w.heap.size + 1 + 1) v (dfTo a b j) wr ∧
      wr.heap[w.heap.size]? = some (.cells (iv .i64 a) 66 (0, 0)) ∧ wr.heap[w.heap.size + 1]? = some (.cells (iv .i64 b) 66 (0, 0)))
     (fun _ c _ => 7 - (intOf c).toNat)
  case atStart => exact ⟨0, by omega, rfl, unhide GB _ _, RowX.nil _ _, (unhide G0 _ _).1, (unhide G0 _ _).2⟩
  case round =>
    clear G0 GB
    obtain ⟨j, hj, rfl, hbw, hrow, g0, g1⟩ := hrel
    have G0 := hide g0
    have G1 := hide g1
    have HB := hide hbw
    have HR := hide hrow
    have hs1 := lt_of_heap g1
    clear g0 g1 hbw hrow
    by_cases hlt : j < 7
    · have D1 := hide (unhide C1 j hlt)
      have D2 := hide (unhide C2 j hlt)
      have E1 := hide (unhide EQ j)
      have HS1 := hide (unhide HS j)
      have HD1 := hide (unhide HD j)
      have HN1 := hide (unhide HN j)
      clear C1 C2 EQ HS HD HN
      have RA : Hid (∀ w' : World, Below wr.heap.size wr w' → w'.rangeAt w.heap.size 0 (iv .i64 a).toList) := fun w' hb' m u hu => by
        rw [cell_of_block ((hb'.block _ (by omega)).trans (unhide G0)), Nat.zero_add, ← Array.getElem?_toList]; exact hu
      have RB : Hid (∀ w' : World, Below wr.heap.size wr w' → w'.rangeAt (w.heap.size + 1) 0 (iv .i64 b).toList) := fun w' hb' m u hu => by
        rw [cell_of_block ((hb'.block _ (by omega)).trans (unhide G1)), Nat.zero_add, ← Array.getElem?_toList]; exact hu
      go_wp2_with fail
      refine wp_region_noPanic ?_
      refine wp_region_held_drew (S := fun w' => Below wr.heap.size wr w') (by kernel_rfl) ((Below.refl _ _).drew) (fun hHeld => ?_)
      refine take_at 0 10 rfl rfl (by kernel_rfl) (by kernel_rfl) (by kernel_rfl) (yieldsIf_load_mid (by rfl) 66 _ rfl w.heap.size 0 rfl (iv .i64 a).toList _ (fun w h => unhide RA w h) Tryz.underlying66 rfl s1) hHeld ?_
      simp only [Act.put, List.setIfInBounds_toArray, List.set_cons_zero, List.set_cons_succ]
      refine take_at 1 11 (v := ?_) rfl rfl (by kernel_rfl) (by kernel_rfl) (by kernel_rfl) (Or.inl ⟨by rfl, ?_⟩) hHeld ?_
      rotate_left
      · intro w hSw; go_simp; with_reducible rfl
      simp only [Act.put, List.setIfInBounds_toArray, List.set_cons_zero, List.set_cons_succ]
      refine take_at 3 13 rfl rfl (by kernel_rfl) (by kernel_rfl) (by kernel_rfl) (yieldsIf_load_mid (by rfl) 66 _ rfl (w.heap.size + 1) 0 rfl (iv .i64 b).toList _ (fun w h => unhide RB w h) Tryz.underlying66 rfl s2) hHeld ?_
      simp only [Act.put, List.setIfInBounds_toArray, List.set_cons_zero, List.set_cons_succ]
      refine take_at 4 14 (v := ?_) rfl rfl (by kernel_rfl) (by kernel_rfl) (by kernel_rfl) (Or.inl ⟨by rfl, ?_⟩) hHeld ?_
      rotate_left
      · intro w hSw; go_simp; with_reducible rfl
      simp only [Act.put, List.setIfInBounds_toArray, List.set_cons_zero, List.set_cons_succ]
      refine wpAnyH_ready (rs := [2]) (by kernel_rfl) (by simp) ?_
      refine AllReadyH.cons rfl (fun K hK => ?_) AllReadyH.nil
      go_simp
      refine (unhide D1 _).mono ?_
      rintro e w' ⟨rfl, hbx⟩
      go_wp2_with fail
      refine hK.out _ _ (hHeld.trans (hbx.mono hHeld.size)) (fun hNew => ?_)
      clear hK K hHeld hbx
      have hHeld := hNew
      clear hNew
      refine wpAnyH_ready (rs := [5]) (by kernel_rfl) (by simp) ?_
      refine AllReadyH.cons rfl (fun K hK => ?_) AllReadyH.nil
      go_simp
      refine (unhide D2 _).mono ?_
      rintro e w' ⟨rfl, hbx⟩
      go_wp2_with fail
      refine hK.out _ _ (hHeld.trans (hbx.mono hHeld.size)) (fun hNew => ?_)
      clear hK K hHeld hbx
      have hHeld := hNew
      clear hNew
      refine take_at 6 16 rfl rfl (by kernel_rfl) (by kernel_rfl) (by kernel_rfl) (yieldsIf_neqA (by rfl) 232 232 _ _ rfl (iv .i64 (partT a j)) (iv .i64 (partT b j)) rfl rfl rows7_guard _ (unhide E1)) hHeld ?_
      simp only [Act.put, List.setIfInBounds_toArray, List.set_cons_zero, List.set_cons_succ]
      refine wpAnyH_done (by kernel_rfl) ?_ _
      refine NoPanic.normal ?_
      rename_i w5
      have hs5 := hHeld.size
      have K0 := hide ((hHeld.block _ (by omega)).trans (unhide G0))
      have K1 := hide ((hHeld.block _ (by omega)).trans (unhide G1))
      have HB5 := hide ((unhide HB).trans (hHeld.mono (by omega)))
      have HR5 := hide ((unhide HR).below hHeld)
      clear hHeld G0 G1 HB HR RA RB D1 D2 E1
      cases hd : decide (partT a j = partT b j) with
      | true =>
        have e1 : dfTo a b (j + 1) = dfTo a b j := by rw [unhide HS1, unhide HD1, hd]; rfl
        have E1 := hide e1
        clear e1 HS1 HD1 hd
        go_wp2_with fail
        go_roundw
        case rel => exact ⟨j + 1, by omega, by go_num, unhide HB5, by rw [unhide E1]; exact unhide HR5, unhide K0, unhide K1⟩
        case measure => simp [intOf]; omega
      | false =>
        have e1 : dfTo a b (j + 1) = dfTo a b j ++ [(j : Int)] := by rw [unhide HS1, unhide HD1, hd]; rfl
        have E1 := hide e1
        have hl5 : (dfTo a b j).length < 1000 := by have := unhide HN1; omega
        clear e1 HS1 HD1 hd HN1
        go_wp2_with (at_builtin; refine push_int _ (j : Int) rfl (.tmp 17) (.tmp 19) rfl (w.heap.size + 1 + 1) u5 (dfTo a b j) rfl (unhide HR5) rfl hl5 (by omega) ?_; intro v6 w6 hrow6 hgrow6; have HR6 := hide hrow6; have HG6 := hide hgrow6; clear hrow6 hgrow6)
        go_roundw
        case rel =>
          have hg := unhide HG6
          have hlt5 := (unhide HR5).lt
          refine ⟨j + 1, by omega, by go_num, below_growX ((unhide HB5).alloc (by omega) _) (by simp; omega) hg (fun k e => by have := (hlt5 k e).1; omega), by rw [unhide E1]; exact unhide HR6, ?_, ?_⟩
          · rw [hg.block _ (by simp; omega) (fun e => by have := (hlt5 _ e.symm).1; omega), Below.heap_alloc _ _ _ (by omega)]; exact unhide K0
          · rw [hg.block _ (by simp; omega) (fun e => by have := (hlt5 _ e.symm).1; omega), Below.heap_alloc _ _ _ (by omega)]; exact unhide K1
        case measure => simp [intOf]; omega
    · obtain rfl : j = 7 := by omega
      go_wp2_with fail
      go_ret
      exact ⟨_, rfl, unhide HB, (unhide HR).mono (by omega)⟩

end Go.Proofs.YtiafhcgaikapcaaGreat
