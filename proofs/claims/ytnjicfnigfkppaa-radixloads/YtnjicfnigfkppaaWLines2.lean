
/-
  The document's Bytes: what it returns; nothing that was there turns.
-/
import Derived.Test.YtnjicfnigfkppaaWLines
namespace Go.Proofs.Ytnjicfnigfkppaa
open Go.ChangeShapes Go.WideShapes Go.ChangeAt Go.RowKit Go.Joins
set_option maxRecDepth 10000
set_option linter.unusedVariables false

theorem rbytes_any (zs : List Int) (hl : zs.length = 8) (hw : ∀ z ∈ zs, (Lit.int .u64 z).wf = true) (w : World) :
    Calls Try.prog 44 #[.agg (iv .u64 zs)] w fun e w' => e = .returned (.agg (iv .u8 (bytesOf zs))) ∧ Below w.heap.size w w' := by
  have hR := wfs_u64 hw
  obtain ⟨zero, hzero⟩ : ∃ z : Array Value, z = iv .u8 (List.replicate 64 0) := ⟨_, rfl⟩
  have hz : iv .u8 (partB zs 0) = zero := by rw [partB_zero, hzero]
  have hzs : zero.size = 64 := by rw [hzero, iv_size]; simp
  have hz1 : zero.all (·.oneCell') = true := by rw [hzero]; exact iv_one _ _
  have hbt : Try.prog.built 91 [] = some zero := by rw [hzero]; exact built64
  have Hz := hide hz
  have Hzs := hide hzs
  have Hz1 := hide hz1
  have Hbt := hide hbt
  have Hzero := hide hzero
  clear hz hzs hz1 hbt hzero
  go_enter Try.func44, Try.ntmps44
  have hst : ∀ (A B : Obj) (C : Array Value), C.size = 64 → Sem.run Try.prog (storeCells ⟨w.heap.size + 1 + 1, 0, none⟩ zero.toList) (((w.alloc A).alloc B).alloc (.cells C 91)) = .ok () (((w.alloc A).alloc B).alloc (.cells zero 91)) :=
    fun A B C hC => run_store_new _ _ (by simp) C zero _ (by rw [hC, unhide Hzs]) (unhide Hz1)
  go_wp2_with (refine wpList_build0 rfl 91 rfl zero (unhide Hbt) ?_)
  go_loopw [4] (fun c wi => ∃ n : Nat, n ≤ 64 ∧ c = .int .i64 n ∧ Below w.heap.size w wi ∧ wi.heap[w.heap.size]? = some (.cells (iv .u64 zs) 27 (0, 0)) ∧
        (∃ old, old.size = 64 ∧ wi.heap[w.heap.size + 1]? = some (.cells old 91 (0, 0))) ∧ wi.heap[w.heap.size + 1 + 1]? = some (.cells (iv .u8 (partB zs n)) 91 (0, 0)))
        (fun c _ => 64 - (intOf c).toNat)
  case atStart =>
    refine ⟨0, by omega, rfl, below_alloc3 _ _ _ _, (heap3 _ _ _ _).1, ⟨_, ?_, (heap3 _ _ _ _).2.1⟩, ?_⟩
    · rfl
    · rw [unhide Hz]; exact (heap3 _ _ _ _).2.2
  case round =>
    obtain ⟨n, hn, rfl, hb, g0, ⟨old, ho, g1⟩, g2⟩ := hrel
    by_cases hlt : n < 64
    · have c0 : wr.cell? ⟨w.heap.size, n / 8, none⟩ = some (.int .u64 (zs.getD (n / 8) 0)) := by rw [cell_of_block g0, iv_get _ _ _ (by omega)]
      have c1 : wr.cell? ⟨w.heap.size + 1 + 1, n, none⟩ = some (.int .u8 ((partB zs n).getD n 0)) := by rw [cell_of_block g2, iv_get _ _ _ (by rw [partB_len]; omega)]
      have c2 : wr.frozen? ⟨w.heap.size + 1 + 1, n, none⟩ = false := unfrozen_of_block g2 _
      obtain ⟨r0, r1⟩ := hR (n / 8)
      have Hset0 : (iv .u8 (partB zs n)).setIfInBounds n (.int .u8 (zs.getD (n / 8) 0 / 2 ^ (8 * (n % 8)) % 256)) = iv .u8 (partB zs (n + 1)) := by
        rw [iv_set, Nat.mul_comm 8]; exact congrArg (iv .u8) (partB_set zs n hlt)
      clear hR hw
      generalize zs.getD (n / 8) 0 = z at *
      generalize (partB zs n).getD n 0 = old1 at *
      have G0 := hide g0
      have G1 := hide g1
      have G2 := hide g2
      clear g0 g1 g2
      have Hset : Hid ((iv .u8 (partB zs n)).setIfInBounds n (.int .u8 (z / 2 ^ (8 * (n % 8)) % 256)) = iv .u8 (partB zs (n + 1))) := Hset0
      clear Hset0
      go_wp2
      go_roundw
      case rel =>
        refine ⟨n + 1, by omega, by go_num, hb.setCell (by simp; omega) _, ?_, ⟨old, ho, ?_⟩, ?_⟩
        · rw [heap_setCell_other _ _ _ _ (by simp; omega)]; exact unhide G0
        · rw [heap_setCell_other _ _ _ _ (by simp)]; exact unhide G1
        · rw [block_setCell (unhide G2), Hset.out]
      case measure => simp [intOf]; omega
    · have h2 : wr.heap[w.heap.size + 1 + 1]? = some (.cells (iv .u8 (bytesOf zs)) 91 (0, 0)) := by
        rw [g2, show n = 64 by omega, partB_all]
      clear g2
      go_wp2_with (first | (refine wpList_load_row rfl 91 _ rfl _ rfl _ _ _ _ h2 Try.underlying91 rfl (by rw [iv_size, bytesOf_len]; exact size64) ?_) | (refine wpList_store_row rfl 91 _ _ rfl _ (iv .u8 (bytesOf zs)) rfl rfl _ _ g1 (by rw [iv_size, bytesOf_len]; exact size64) (by rw [iv_size, bytesOf_len]; exact ho) (iv_one _ _) ?_))
      exact bodyPost_ret (v := .agg (iv .u8 (bytesOf zs))) (results_cell_row Try.results44 _ _ (w.heap.size + 1) _ (iv .u8 (bytesOf zs)) (0, 0) _ rfl (setRow_heap _ _ _ _ _ _ g1) Try.underlying91 rfl (by rw [iv_size, bytesOf_len]; exact size64)) rfl ⟨rfl, below_row hb (by omega) _⟩

end Go.Proofs.Ytnjicfnigfkppaa
