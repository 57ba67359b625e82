/-
  The document's OfBytes: what it returns; nothing that was there turns.
-/
import Derived.Test.YtjdhhnjocfjalaaWLines3
namespace Go.Proofs.Ytjdhhnjocfjalaa
open Go.ChangeShapes Go.WideShapes Go.ChangeAt Go.RowKit Go.Joins
set_option linter.unusedVariables false

theorem built8 : Try.prog.built 34 [] = some (iv .u64 (List.replicate 8 0)) := by kernel_rfl

theorem rofBytes_any (bs : List Int) (hl : bs.length = 64) (hw : ∀ z ∈ bs, (Lit.int .u8 z).wf = true) (w : World) :
    Calls Try.prog 17 #[.agg (iv .u8 bs)] w fun e w' => e = .returned (.agg (iv .u64 (lineOf bs))) ∧ Below w.heap.size w w' := by
  have hR := wfs_u8 hw
  obtain ⟨zero, hzero⟩ : ∃ z : Array Value, z = iv .u64 (List.replicate 8 0) := ⟨_, rfl⟩
  have Hz : Hid (iv .u64 (partL bs 0) = zero) := by show _ = _; rw [partL_zero, hzero]
  have Hzs : Hid (zero.size = 8) := by show _ = _; rw [hzero, iv_size]; simp
  have Hz1 : Hid (zero.all (·.oneCell') = true) := by show _ = _; rw [hzero]; exact iv_one _ _
  have Hbt : Hid (Try.prog.built 34 [] = some zero) := by show _ = _; rw [hzero]; exact built8
  clear hzero
  have hst : ∀ (A B : Obj) (C : Array Value), C.size = 8 → Sem.run Try.prog (storeCells ⟨w.heap.size + 1 + 1, 0, none⟩ zero.toList) (((w.alloc A).alloc B).alloc (.cells C 34)) = .ok () (((w.alloc A).alloc B).alloc (.cells zero 34)) :=
    fun A B C hC => run_store_new _ _ (by simp) C zero _ (by rw [hC, unhide Hzs]) (unhide Hz1)
  go_enter Try.func17, Try.ntmps17
  go_wp2_with (refine wpList_build0 rfl 34 rfl zero (unhide Hbt) ?_)
  go_loopw [4] (fun c wi => ∃ n : Nat, n ≤ 64 ∧ c = .int .i64 n ∧ Below w.heap.size w wi ∧ wi.heap[w.heap.size]? = some (.cells (iv .u8 bs) 35 (0, 0)) ∧
        (∃ old, old.size = 8 ∧ wi.heap[w.heap.size + 1]? = some (.cells old 34 (0, 0))) ∧ wi.heap[w.heap.size + 1 + 1]? = some (.cells (iv .u64 (partL bs n)) 34 (0, 0)))
        (fun c _ => 64 - (intOf c).toNat)
  case atStart =>
    refine ⟨0, by omega, rfl, below_alloc3 _ _ _ _, (heap3 _ _ _ _).1, ⟨_, ?_, (heap3 _ _ _ _).2.1⟩, ?_⟩
    · rfl
    · rw [unhide Hz]; exact (heap3 _ _ _ _).2.2
  case round =>
    obtain ⟨n, hn, rfl, hb, g0, ⟨old, ho, g1⟩, g2⟩ := hrel
    by_cases hlt : n < 64
    · have c0 : wr.cell? ⟨w.heap.size, n, none⟩ = some (.int .u8 (bs.getD n 0)) := by rw [cell_of_block g0, iv_get _ _ _ (by omega)]
      have c1 : wr.cell? ⟨w.heap.size + 1 + 1, n / 8, none⟩ = some (.int .u64 ((wordTo bs (n / 8) (n % 8) : Nat) : Int)) := by
        rw [cell_of_block g2, iv_get _ _ _ (by rw [partL_len]; omega)]
        have := partL_at bs (n / 8) (n % 8) (by omega) (by omega)
        rw [show n / 8 * 8 + n % 8 = n by omega] at this
        rw [this]
      have c2 : wr.frozen? ⟨w.heap.size + 1 + 1, n / 8, none⟩ = false := unfrozen_of_block g2 _
      obtain ⟨r0, r1⟩ := hR n
      have Hset0 : (iv .u64 (partL bs n)).setIfInBounds (n / 8) (.int .u64 (bits .or .u64 ((wordTo bs (n / 8) (n % 8) : Nat) : Int) (IntKind.u64.wrap (bs.getD n 0 * 2 ^ (8 * (n % 8)))))) = iv .u64 (partL bs (n + 1)) := by
        have h1 := word_step bs hR (n / 8) (n % 8) (by omega)
        have h2 := partL_set bs (n / 8) (n % 8) (by omega) (by omega)
        rw [show n / 8 * 8 + n % 8 = n by omega] at h1 h2
        rw [show n / 8 * 8 + (n % 8 + 1) = n + 1 by omega] at h2
        rw [Nat.mul_comm 8, h1, iv_set, h2]
      clear hR hw
      generalize bs.getD n 0 = z at *
      generalize ((wordTo bs (n / 8) (n % 8) : Nat) : Int) = cur at *
      have Hset := hide Hset0
      have G0 := hide g0
      have G1 := hide g1
      have G2 := hide g2
      clear g0 g1 g2 Hset0
      go_wp2
      go_region
      go_wp2
      go_roundw
      case rel =>
        refine ⟨n + 1, by omega, by go_num, (hb.setCell (by simp; omega) _).drew, ?_, ⟨old, ho, ?_⟩, ?_⟩
        · show (wr.setCell _ _).heap[_]? = _
          rw [heap_setCell_other _ _ _ _ (by simp; omega)]; exact unhide G0
        · show (wr.setCell _ _).heap[_]? = _
          rw [heap_setCell_other _ _ _ _ (by simp)]; exact unhide G1
        · show (wr.setCell _ _).heap[_]? = _
          rw [block_setCell (unhide G2), unhide Hset]
      case measure => simp [intOf]; omega
    · have h2 : wr.heap[w.heap.size + 1 + 1]? = some (.cells (iv .u64 (lineOf bs)) 34 (0, 0)) := by
        rw [g2, show n = 64 by omega, partL_all]
      clear g2
      go_wp2_with (first | (refine wpList_load_row rfl 34 _ rfl _ rfl _ _ _ _ h2 Try.underlying34 rfl (by rw [iv_size, lineOf_len]; exact size8) ?_) | (refine wpList_store_row rfl 34 _ _ rfl _ (iv .u64 (lineOf bs)) rfl rfl _ _ g1 (by rw [iv_size, lineOf_len]; exact size8) (by rw [iv_size, lineOf_len]; exact ho) (iv_one _ _) ?_))
      exact bodyPost_ret (v := .agg (iv .u64 (lineOf bs))) (results_cell_row Try.results17 _ _ (w.heap.size + 1) _ (iv .u64 (lineOf bs)) (0, 0) _ rfl (setRow_heap _ _ _ _ _ _ g1) Try.underlying34 rfl (by rw [iv_size, lineOf_len]; exact size8)) rfl ⟨rfl, below_row hb (by omega) _⟩

end Go.Proofs.Ytjdhhnjocfjalaa
