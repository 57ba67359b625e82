
/-
  The kind, table and dir of steadfastlaw11: as those of steadfastlaw10.
-/
import Derived.Test.YtinhnnnehhlceaaPkShow
namespace Go.Proofs.Ytinhnnnehhlceaa
open Go.ChangeShapes Go.WideShapes Go.ChangeAt Go.RowKit Go.Joins
set_option maxRecDepth 100000
set_option linter.unusedVariables false
set_option linter.unusedSimpArgs false

theorem zkind_any (z : Int) (hz : -9223372036854775808 ≤ z ∧ z ≤ 9223372036854775807) (n : Nat) (hn : 1 ≤ n) (hn2 : n ≤ 2000) (w : World) :
    Calls Try.prog 9 #[.int .i64 z, .int .i64 (n : Int)] w fun e w' => e = .returned (.int .i64 ((kindN z n : Nat) : Int)) ∧ w' = w := by
  obtain ⟨z0, z1⟩ := hz
  by_cases hneg : z < 0
  · go_enter Try.func9, Try.ntmps9
    go_wp2
    go_ret
    refine ⟨oret_int ?_, rfl⟩
    unfold kindN
    rw [if_pos hneg]
    exact otmod_neg z hneg _ (by omega)
  · go_enter Try.func9, Try.ntmps9
    go_wp2
    go_ret
    refine ⟨oret_int ?_, rfl⟩
    unfold kindN
    rw [if_neg (by omega)]
    first | exact oemod_toNat z _ (by omega) | exact otmod_pos z (by omega) _ (by omega)
theorem zdir_any (w : World) : Calls Try.prog 23 #[] w fun e w' => e = .returned (.agg (dirV dirF)) ∧ Below w.heap.size w w' := by
  have Z := hide zero_dir8
  have B := hide built_dir8
  have O0 := hide ((Own.start w).alloc (.cells (dirV (dirU 0)) 42))
  have s8z := s8_dir8 (dirU 0)
  have X1 := hide (dirV_one (dirU 0))
  obtain ⟨ZV, hZV⟩ : ∃ ZV, ZV = dirV (dirU 0) := ⟨_, rfl⟩
  rw [← hZV] at Z B s8z X1
  have HZV := hide hZV
  clear hZV
  rw [← unhide HZV] at O0
  go_enter Try.func23, Try.ntmps23
  go_upto_region 1 with (with_reducible refine wpList_allocZ (by with_unfolding_all rfl) 42 (by with_unfolding_all rfl) ZV (unhide Z) ?_)
  have hlt1 : w.heap.size < (w.alloc (.cells ZV 42)).heap.size := by simp
  generalize w.alloc (.cells ZV 42) = w1 at *
  have O2 := hide ((unhide O0).alloc (.cells ZV 42))
  go_upto_region 2 with (first | (with_reducible refine wpList_allocZ (by with_unfolding_all rfl) 42 (by with_unfolding_all rfl) ZV (unhide Z) ?_) | (with_reducible refine wpList_build0 (by with_unfolding_all rfl) 42 (by with_unfolding_all rfl) ZV (unhide B) ?_) | (with_reducible refine wpList_store_row (by with_unfolding_all rfl) 42 _ _ (by with_unfolding_all rfl) w1.heap.size ZV (by with_unfolding_all rfl) (by with_unfolding_all rfl) 42 ZV (heap_new w1 _) s8z rfl (unhide X1) ?_; rw [setRow_alloc]))
  obtain ⟨g1, hg1⟩ : ∃ g1, g1 = w1.heap.size := ⟨_, rfl⟩
  rw [← hg1] at O2 hlt1 ⊢
  generalize w1.alloc (.cells ZV 42) = w2 at *
  have HNE : Hid (w.heap.size ≠ g1) := by show _ ≠ _; omega
  have HLE : Hid (w.heap.size ≤ g1) := by show _ ≤ _; omega
  clear O0 Z B hg1
  go_wp2_with fail
  go_loopw [2] (fun c wr => ∃ j : Nat, j ≤ 8 ∧ c = .int .i64 j ∧ Own w wr [(g1, .cells (dirV (dirU j)) 42), (w.heap.size, .cells ZV 42)]) (fun c _ => 8 - (intOf c).toNat)
  case atStart => exact ⟨0, by omega, rfl, by rw [← unhide HZV]; exact unhide O2⟩
  case round =>
    clear O2
    obtain ⟨j, hj, rfl, hh⟩ := hrel
    have HH := hide hh
    clear hh
    by_cases hlt : j < 8
    · have kg := (unhide HH).at g1 (.cells (dirV (dirU j)) 42) (by simp)
      have cg : wr.cell? ⟨g1, j, none⟩ = some (.int .i64 (dirU j j)) := by rw [cell_of_block kg]; exact dirV_cell _ _ hlt
      have fg : wr.frozen? ⟨g1, j, none⟩ = false := unfrozen_of_block kg _
      have H2 := hide (own_cell (unhide HH) (unhide HLE) (by simpa using unhide HNE) j (.int .i64 (10 + (j : Int))))
      rw [dirV_set, dirU_next] at H2
      have hlt' : (j : Int) < 8 := by omega
      clear kg
      generalize dirU j j = old at cg
      go_wp2_with fail
      go_roundw
      case rel => exact ⟨j + 1, by omega, by go_num, unhide H2⟩
      case measure => simp [intOf]; omega
    · obtain rfl : j = 8 := by omega
      rw [dirU_all] at HH
      have s8 := s8_dir8 dirF
      have XF := hide (dirV_one dirF)
      have szf : Hid (ZV.size = (dirV dirF).size) := by show _ = _; rw [unhide HZV, dirV_size, dirV_size]
      have KN := hide ((unhide HH).at g1 (.cells (dirV dirF) 42) (by simp))
      have KM := hide ((unhide HH).at w.heap.size (.cells ZV 42) (by simp))
      generalize hDF : dirV dirF = DF at *
      have HDF := hide hDF
      clear hDF
      go_wp2_with (first | (with_reducible refine wpList_load_row (by with_unfolding_all rfl) 42 _ (by with_unfolding_all rfl) g1 (by with_unfolding_all rfl) _ _ _ _ (unhide KN) Try.underlying42 (by with_unfolding_all rfl) s8 ?_) | (with_reducible refine wpList_store_row (by with_unfolding_all rfl) 42 _ _ (by with_unfolding_all rfl) w.heap.size DF (by with_unfolding_all rfl) (by with_unfolding_all rfl) 42 ZV (unhide KM) s8 (unhide szf) (unhide XF) ?_))
      exact bodyPost_ret (v := .agg DF) (results_cell_row Try.results23 _ _ w.heap.size 42 DF (0, 0) _ rfl (setRow_heap _ _ _ _ _ _ (unhide KM)) Try.underlying42 rfl s8) rfl ⟨by rw [unhide HDF], below_row (unhide HH).1 (Nat.le_refl _) _⟩
theorem ztable_any (n : Nat) (hn : n ≤ 49) (w : World) : Calls Try.prog 22 #[.int .i64 (n : Int)] w fun e w' => e = .returned (.agg (tabV (tblF n))) ∧ Below w.heap.size w w' := by
  have Z := hide zero_tab9
  have B := hide built_tab9
  have O0 := hide ((Own.start w).alloc (.cells (tabV (tblF 0)) 40))
  have s8z := s147_tab9 (tblF 0)
  have X1 := hide (tabV_one (tblF 0))
  obtain ⟨ZV, hZV⟩ : ∃ ZV, ZV = tabV (tblF 0) := ⟨_, rfl⟩
  rw [← hZV] at Z B s8z X1 O0
  have HZV := hide hZV
  clear hZV
  go_enter Try.func22, Try.ntmps22
  go_upto_region 1 with (with_reducible refine wpList_allocZ (by with_unfolding_all rfl) 40 (by with_unfolding_all rfl) ZV (unhide Z) ?_)
  have hlt1 : w.heap.size < (w.alloc (.cells ZV 40)).heap.size := by simp
  generalize w.alloc (.cells ZV 40) = w1 at *
  have O2 := hide ((unhide O0).alloc (.cells ZV 40))
  go_upto_region 2 with (first | (with_reducible refine wpList_allocZ (by with_unfolding_all rfl) 40 (by with_unfolding_all rfl) ZV (unhide Z) ?_) | (with_reducible refine wpList_build0 (by with_unfolding_all rfl) 40 (by with_unfolding_all rfl) ZV (unhide B) ?_) | (with_reducible refine wpList_store_row (by with_unfolding_all rfl) 40 _ _ (by with_unfolding_all rfl) w1.heap.size ZV (by with_unfolding_all rfl) (by with_unfolding_all rfl) 40 ZV (heap_new w1 _) s8z rfl (unhide X1) ?_; rw [setRow_alloc]))
  obtain ⟨g1, hg1⟩ : ∃ g1, g1 = w1.heap.size := ⟨_, rfl⟩
  rw [← hg1] at O2 hlt1 ⊢
  generalize w1.alloc (.cells ZV 40) = w2 at *
  have HNE : Hid (w.heap.size ≠ g1) := by show _ ≠ _; omega
  have HLE : Hid (w.heap.size ≤ g1) := by show _ ≤ _; omega
  clear O0 Z B hg1
  go_wp2_with fail
  go_loopw [4] (fun c wr => ∃ j : Nat, j ≤ n ∧ c = .int .i64 j ∧ Own w wr [(g1, .cells (tabV (tblF j)) 40), (w.heap.size, .cells ZV 40)]) (fun c _ => 49 - (intOf c).toNat)
  case atStart => exact ⟨0, by omega, rfl, by rw [← unhide HZV]; exact unhide O2⟩
  case round =>
    clear O2
    obtain ⟨j, hj, rfl, hh⟩ := hrel
    have HH := hide hh
    clear hh
    by_cases hlt : j < n
    · have kg := (unhide HH).at g1 (.cells (tabV (tblF j)) 40) (by simp)
      have H2 := hide (own_put3 (unhide HH) (unhide HLE) (by simpa using unhide HNE) j (by omega) ⟨1 + (j : Int) % 4, (j : Int), 20 + (j : Int)⟩)
      rw [tblF_next] at H2
      have TB : wr.there g1 (j * 3) 3 := there_en (rowE 49 (tblF j)) kg j (by rw [rowE_len]; omega)
      have HTB := hide TB
      have hlt' : (j : Int) < (n : Int) := by omega
      have hlt2 : (j : Int) < 49 := by omega
      clear kg TB
      go_upto_region 5 with fail
      go_wp2_with (with_reducible refine wpList_store_en (by with_unfolding_all rfl) _ _ (by with_unfolding_all rfl) g1 (j * 3) ⟨1 + (j : Int) % 4, (j : Int), 20 + (j : Int)⟩ (by with_unfolding_all rfl) (by with_unfolding_all rfl) (unhide HTB) ?_)
      go_roundw
      case rel => exact ⟨j + 1, by omega, by go_num, unhide H2⟩
      case measure => simp [intOf]; omega
    · obtain rfl : j = n := by omega
      have hge : ¬ ((j : Int) < (j : Int)) := by omega
      have s8 := s147_tab9 (tblF j)
      have XF := hide (tabV_one (tblF j))
      have szf : Hid (ZV.size = (tabV (tblF j)).size) := by show _ = _; rw [unhide HZV, tabV_size, tabV_size]
      have KN := hide ((unhide HH).at g1 (.cells (tabV (tblF j)) 40) (by simp))
      have KM := hide ((unhide HH).at w.heap.size (.cells ZV 40) (by simp))
      generalize hDF : tabV (tblF j) = DF at *
      have HDF := hide hDF
      clear hDF
      go_wp2_with (first | (with_reducible refine wpList_load_row (by with_unfolding_all rfl) 40 _ (by with_unfolding_all rfl) g1 (by with_unfolding_all rfl) _ _ _ _ (unhide KN) Try.underlying40 (by with_unfolding_all rfl) s8 ?_) | (with_reducible refine wpList_store_row (by with_unfolding_all rfl) 40 _ _ (by with_unfolding_all rfl) w.heap.size DF (by with_unfolding_all rfl) (by with_unfolding_all rfl) 40 ZV (unhide KM) s8 (unhide szf) (unhide XF) ?_))
      exact bodyPost_ret (v := .agg DF) (results_cell_row Try.results22 _ _ w.heap.size 40 DF (0, 0) _ rfl (setRow_heap _ _ _ _ _ _ (unhide KM)) Try.underlying40 rfl s8) rfl ⟨by rw [unhide HDF], below_row (unhide HH).1 (Nat.le_refl _) _⟩

end Go.Proofs.Ytinhnnnehhlceaa
