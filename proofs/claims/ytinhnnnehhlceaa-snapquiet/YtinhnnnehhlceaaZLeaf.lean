
/-
  A worker's steps that write a leaf, and the root.
-/
import Derived.Test.YtinhnnnehhlceaaZWrite
import Derived.Test.YtinhnnnehhlceaaPkXl
namespace Go.Proofs.Ytinhnnnehhlceaa
open Go.ChangeShapes Go.WideShapes Go.ChangeAt Go.RowKit Go.Joins
set_option maxRecDepth 10000
set_option linter.unusedVariables false
set_option linter.unusedSimpArgs false

theorem WRepZ.rd7 {m b x : Nat} {K : Wk} {sl : Value} {w : World} (h : WRepZ m b K sl w x) : w.rangeAt x 155 (iv .i64 (tab7 K.d)).toList := by
  have e : (iv .i64 (tab7 K.d)).toList = (List.range 7).map fun j => Value.int .i64 (K.d j) := by simp [iv, tab7]
  rw [e]
  exact Blk.range h 155 7 (by decide) _ fun j hj => wkF_d m b K sl j (by omega)
theorem zero_lnz : (Try.prog.info? 54).map (·.zero) = some (some (.agg (iv .u64 zs8))) := by kernel_rfl

set_option maxHeartbeats 4000000 in
theorem wleaf_any {W w : World} {m b x : Nat} {St : Mm → World → (Nat → Prop) → Prop} {S : Sto} {A : Mm} {K : Wk} {sl : Value} {G : Nat → Prop} (M : MemX W m St) (h : WH W m b x St S A K sl w G) (hS : S.ok) (hA : A.ok 900) (n : Nat) (hn : n < 7) (hE : leafKE (rowE 49 K.k) (n : Int) = 0) :
    Calls Try.prog 52 #[.pointer (some ⟨x, 0, none⟩), .int .i64 (n : Int)] w (Done (WH W m b x St S.took (putM S A (leafKV (rowE 49 K.k) (n : Int))) (K.laid S A (leafKV (rowE 49 K.k) (n : Int)) (n : Int)) sl) w G (.int .i64 (putE S A (leafKV (rowE 49 K.k) (n : Int))))) := by
  have T0 := hide (WH.stay M.toMemL b x S A K sl)
  have O0 := hide (Held.start (unhide T0) h)
  have CL := hide (leaf_any (rowE 49 K.k) (rowE_len 49 _) (n : Int) w)
  rw [hE] at CL
  have hl := leafKV_len (rowE 49 K.k) (n : Int)
  have CW := hide (fun (w' : World) (G' : Nat → Prop) (h' : WH W m b x St S A K sl w' G') => wwrite_any M h' hS hA n (by omega) (leafKV (rowE 49 K.k) (n : Int)) hl (leafKV_wf _ _))
  have RK := hide h.rep.rk
  have e147 : tabV K.k = iv .i64 (rowE 49 K.k) := rfl
  have s147 : (Try.prog.info? 41).map (·.size) = some (tabV K.k).toList.length := by rw [Array.length_toList]; exact s147_tab K.k
  have s8 : (Try.prog.info? 54).map (·.size) = some (iv .u64 (leafKV (rowE 49 K.k) (n : Int))).size := s8_of _ hl
  have X8 := hide (iv_one .u64 (leafKV (rowE 49 K.k) (n : Int)))
  have SZ : Hid ((iv .u64 zs8).size = (iv .u64 (leafKV (rowE 49 K.k) (n : Int))).size) := by show _ = _; rw [iv_size, iv_size, hl]; rfl
  have ZL := hide zero_lnz
  generalize iv .u64 zs8 = ZV at *
  rw [← e147] at CL
  clear h hE hl e147
  generalize leafKV (rowE 49 K.k) (n : Int) = lv at *
  generalize tabV K.k = TV at *
  go_enter Try.func52, Try.ntmps52
  go_wp2_with (with_reducible refine wpList_load_mid (by with_unfolding_all rfl) 41 _ (by with_unfolding_all rfl) x 8 (by with_unfolding_all rfl) TV.toList _ (unhide RK) Try.underlying41 (by with_unfolding_all rfl) s147 ?_)
  refine (unhide CL).mono ?_
  rintro e w1 ⟨rfl, hb⟩
  have O1 := hide (((unhide O0).below (unhide T0) hb).alloc (unhide T0) (.cells (iv .u64 lv) 54))
  clear hb CL O0 RK s147
  go_upto_region 2 with (first | (with_reducible refine wpList_allocZ (by with_unfolding_all rfl) 54 (by with_unfolding_all rfl) ZV (unhide ZL) ?_) | (with_reducible refine wpList_store_row (by with_unfolding_all rfl) 54 _ _ (by with_unfolding_all rfl) w1.heap.size (iv .u64 lv) (by with_unfolding_all rfl) (by with_unfolding_all rfl) 54 ZV (heap_new w1 _) s8 (unhide SZ) (unhide X8) ?_; rw [setRow_alloc]))
  obtain ⟨g, hg⟩ : ∃ g, g = w1.heap.size := ⟨_, rfl⟩
  rw [← hg] at O1 ⊢
  clear hg
  generalize w1.alloc (.cells (iv .u64 lv) 54) = w2 at *
  have KL := hide ((unhide O1).at g (.cells (iv .u64 lv) 54) (by simp))
  go_wp2_with (with_reducible refine wpList_load_row (by with_unfolding_all rfl) 54 _ (by with_unfolding_all rfl) g (by with_unfolding_all rfl) _ _ _ _ (unhide KL) Try.underlying54 (by with_unfolding_all rfl) s8 ?_)
  refine (unhide CW _ _ (unhide O1).st).mono ?_
  intro e w3 hd
  have O2 := hide ((unhide O1).call hd.2.1 hd.2.2)
  obtain ⟨rfl, -, -⟩ := hd
  clear CW KL O1 s8 X8 SZ ZL
  generalize putE S A lv = E at *
  go_wp2_with fail
  go_ret
  exact (unhide O2).done (WH.stay M.toMemL b x _ _ _ sl) _

set_option maxHeartbeats 4000000 in
theorem wroot_any {W w : World} {m b x : Nat} {St : Mm → World → (Nat → Prop) → Prop} {S : Sto} {A : Mm} {K : Wk} {sl : Value} {G : Nat → Prop} (M : MemX W m St) (h : WH W m b x St S A K sl w G) (hS : S.ok) (hA : A.ok 900) (hE : rootE (tab7 K.d) = 0) :
    Calls Try.prog 53 #[.pointer (some ⟨x, 0, none⟩), .int .i64 7] w (Done (WH W m b x St S.took (putM S A (rootV (tab7 K.d))) (K.laid S A (rootV (tab7 K.d)) 7) sl) w G (.int .i64 (putE S A (rootV (tab7 K.d))))) := by
  have T0 := hide (WH.stay M.toMemL b x S A K sl)
  have O0 := hide (Held.start (unhide T0) h)
  have CL := hide (root_any (tab7 K.d) (tab7_len _) w)
  rw [hE] at CL
  have hl := rootV_len (tab7 K.d)
  have CW := hide (fun (w' : World) (G' : Nat → Prop) (h' : WH W m b x St S A K sl w' G') => wwrite_any M h' hS hA 7 (by omega) (rootV (tab7 K.d)) hl (rootV_wf _))
  have RK := hide h.rep.rd7
  have s7 : (Try.prog.info? 102).map (·.size) = some (iv .i64 (tab7 K.d)).toList.length := by rw [Array.length_toList]; exact s7_of _ (tab7_len _)
  have s8 : (Try.prog.info? 54).map (·.size) = some (iv .u64 (rootV (tab7 K.d))).size := s8_of _ hl
  have X8 := hide (iv_one .u64 (rootV (tab7 K.d)))
  have SZ : Hid ((iv .u64 zs8).size = (iv .u64 (rootV (tab7 K.d))).size) := by show _ = _; rw [iv_size, iv_size, hl]; rfl
  have ZL := hide zero_lnz
  have hAr : ∀ W, Sem.run Try.prog (Instr.arrayAt 102 (.slice (some ⟨x, 155, none⟩) 7 8)) W = .ok (.pointer (some ⟨x, 155, none⟩)) W := fun W => by simp [Instr.arrayAt, run_underlying Try.underlying102, go_sem]
  generalize iv .u64 zs8 = ZV at *
  clear h hE hl
  generalize rootV (tab7 K.d) = lv at *
  generalize iv .i64 (tab7 K.d) = TV at *
  go_enter Try.func53, Try.ntmps53
  go_wp2_with (with_reducible refine wpList_load_mid (by with_unfolding_all rfl) 102 _ (by with_unfolding_all rfl) x 155 (by with_unfolding_all rfl) TV.toList _ (unhide RK) Try.underlying102 (by with_unfolding_all rfl) s7 ?_)
  refine (unhide CL).mono ?_
  rintro e w1 ⟨rfl, hb⟩
  have O1 := hide (((unhide O0).below (unhide T0) hb).alloc (unhide T0) (.cells (iv .u64 lv) 54))
  clear hb CL O0 RK s7
  go_upto_region 2 with (first | (with_reducible refine wpList_allocZ (by with_unfolding_all rfl) 54 (by with_unfolding_all rfl) ZV (unhide ZL) ?_) | (with_reducible refine wpList_store_row (by with_unfolding_all rfl) 54 _ _ (by with_unfolding_all rfl) w1.heap.size (iv .u64 lv) (by with_unfolding_all rfl) (by with_unfolding_all rfl) 54 ZV (heap_new w1 _) s8 (unhide SZ) (unhide X8) ?_; rw [setRow_alloc]))
  obtain ⟨g, hg⟩ : ∃ g, g = w1.heap.size := ⟨_, rfl⟩
  rw [← hg] at O1 ⊢
  clear hg
  generalize w1.alloc (.cells (iv .u64 lv) 54) = w2 at *
  have KL := hide ((unhide O1).at g (.cells (iv .u64 lv) 54) (by simp))
  go_wp2_with (with_reducible refine wpList_load_row (by with_unfolding_all rfl) 54 _ (by with_unfolding_all rfl) g (by with_unfolding_all rfl) _ _ _ _ (unhide KL) Try.underlying54 (by with_unfolding_all rfl) s8 ?_)
  refine (unhide CW _ _ (unhide O1).st).mono ?_
  intro e w3 hd
  have O2 := hide ((unhide O1).call hd.2.1 hd.2.2)
  obtain ⟨rfl, -, -⟩ := hd
  clear CW KL O1 s8 X8 SZ ZL
  generalize putE S A lv = E at *
  go_wp2_with fail
  go_ret
  exact (unhide O2).done (WH.stay M.toMemL b x _ _ _ sl) _

end Go.Proofs.Ytinhnnnehhlceaa
