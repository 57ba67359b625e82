
/-
  The statements' kind, table and dir (steadfastlaw10).
-/
import Derived.Test.YtjmgmbigbkllgaaOTells
import Derived.Test.YtjmgmbigbkllgaaOwn
namespace Go.Proofs.Ytjmgmbigbkllgaa
open Go.ChangeShapes Go.WideShapes Go.ChangeAt Go.RowKit Go.Joins
set_option maxRecDepth 10000
set_option linter.unusedVariables false
set_option linter.unusedSimpArgs false

theorem otmod_neg (z : Int) (hz : z < 0) (n : Int) (hn : 0 < n) : -((z + 1).tmod n) = (((-(z + 1)) % n).toNat : Int) := by
  rw [← Int.neg_tmod, Int.tmod_eq_emod_of_nonneg (by omega)]
  have := Int.emod_nonneg (-(z + 1)) (show n ≠ 0 by omega)
  omega
theorem otmod_pos (z : Int) (hz : 0 ≤ z) (n : Int) (hn : 0 < n) : z.tmod n = ((z % n).toNat : Int) := by
  rw [Int.tmod_eq_emod_of_nonneg hz]
  have := Int.emod_nonneg z (show n ≠ 0 by omega)
  omega
theorem oemod_toNat (z : Int) (n : Int) (hn : 0 < n) : z % n = ((z % n).toNat : Int) := by
  have := Int.emod_nonneg z (show n ≠ 0 by omega)
  omega
theorem oret_int {k : IntKind} {a b : Int} (h : a = b) : Ending.returned (.int k a) = .returned (.int k b) := by rw [h]
theorem okind_any (z : Int) (hz : -9223372036854775808 ≤ z ∧ z ≤ 9223372036854775807) (n : Nat) (hn : 1 ≤ n) (hn2 : n ≤ 2000) (w : World) :
    Calls Try.prog 16 #[.int .i64 z, .int .i64 (n : Int)] w fun e w' => e = .returned (.int .i64 ((kindN z n : Nat) : Int)) ∧ w' = w := by
  obtain ⟨z0, z1⟩ := hz
  by_cases hneg : z < 0
  · go_enter Try.func16, Try.ntmps16
    go_wp2
    go_ret
    refine ⟨oret_int ?_, rfl⟩
    unfold kindN
    rw [if_pos hneg]
    exact otmod_neg z hneg _ (by omega)
  · go_enter Try.func16, Try.ntmps16
    go_wp2
    go_ret
    refine ⟨oret_int ?_, rfl⟩
    unfold kindN
    rw [if_neg (by omega)]
    first | exact oemod_toNat z _ (by omega) | exact otmod_pos z (by omega) _ (by omega)

/-- The statements' Dir: the lines 10 to 17. -/
def dirF (i : Nat) : Int := 10 + (i : Int)
def dirU (j : Nat) : Nat → Int := fun i => if i < j then dirF i else 0
theorem zero_dir8 : (Try.prog.info? 25).map (·.zero) = some (some (.agg (dirV (dirU 0)))) := by kernel_rfl
theorem built_dir8 : Try.prog.built 25 [] = some (dirV (dirU 0)) := by kernel_rfl
theorem s8_dir8 (d : Nat → Int) : (Try.prog.info? 25).map (·.size) = some (dirV d).size := by rw [dirV_size]; kernel_rfl
theorem dirV_cell (d : Nat → Int) (i : Nat) (h8 : i < 8) : (dirV d)[i]? = some (.int .i64 (d i)) := by
  have := congrArg (fun l => l[i]?) (dirV_list d)
  simp only [Array.getElem?_toList] at this
  rw [this, List.getElem?_map, List.getElem?_range h8]; rfl
theorem dirV_ext {d d' : Nat → Int} (h : ∀ i, i < 8 → d i = d' i) : dirV d = dirV d' := by
  unfold dirV; congr 1; unfold dirTo8
  exact List.map_congr_left fun i hi => h i (List.mem_range.1 hi)
theorem dirV_set (d : Nat → Int) (i : Nat) (v : Int) : (dirV d).setIfInBounds i (.int .i64 v) = dirV (upd d i v) := by
  unfold dirV
  rw [iv_set]
  congr 1
  unfold dirTo8
  apply List.ext_getElem?
  intro j
  rw [List.getElem?_set]
  by_cases hj : j < 8
  · rw [List.getElem?_map, List.getElem?_map, List.getElem?_range hj]
    by_cases e : i = j
    · subst e; rw [if_pos rfl, if_pos (by simpa using hj)]; simp [upd]
    · rw [if_neg e]; simp [upd, show ¬ j = i from fun q => e q.symm]
  · by_cases e : i = j
    · subst e; rw [if_pos rfl, if_neg (by simpa using hj), List.getElem?_eq_none (by simpa using hj)]
    · rw [if_neg e, List.getElem?_eq_none (by simpa using hj), List.getElem?_eq_none (by simpa using hj)]
theorem dirU_next (j : Nat) : upd (dirU j) j (10 + (j : Int)) = dirU (j + 1) := by
  funext i; unfold upd dirU dirF
  by_cases e : i = j
  · rw [if_pos e, if_pos (by omega), e]
  · rw [if_neg e]
    by_cases h : i < j
    · rw [if_pos h, if_pos (by omega)]
    · rw [if_neg h, if_neg (by omega)]
theorem dirU_all : dirV (dirU 8) = dirV dirF := dirV_ext fun i hi => if_pos hi

/-- A cell of the first block of the call's own is written. -/
theorem own_cell {W w : World} {L : List (Nat × Obj)} {g : Nat} {ds : Array Value} {t : TypeId} (h : Own W w ((g, .cells ds t (0, 0)) :: L)) (hW : W.heap.size ≤ g) (hne : ∀ p ∈ L, p.1 ≠ g) (i : Nat) (v : Value) : Own W (w.setCell ⟨g, i, none⟩ v) ((g, .cells (ds.setIfInBounds i v) t (0, 0)) :: L) :=
  ⟨h.1.setCell (p := ⟨g, i, none⟩) hW v, fun p hp => by
    rcases List.mem_cons.1 hp with rfl | hp
    · exact block_setCell (h.2 _ List.mem_cons_self) v
    · rw [Below.heap_setCell _ _ _ _ (hne p hp)]; exact h.2 p (List.mem_cons_of_mem _ hp)⟩
theorem dir_any (w : World) : Calls Try.prog 15 #[] w fun e w' => e = .returned (.agg (dirV dirF)) ∧ Below w.heap.size w w' := by
  have Z := hide zero_dir8
  have B := hide built_dir8
  have O0 := hide ((Own.start w).alloc (.cells (dirV (dirU 0)) 25))
  have s8z := s8_dir8 (dirU 0)
  have X1 := hide (dirV_one (dirU 0))
  obtain ⟨ZV, hZV⟩ : ∃ ZV, ZV = dirV (dirU 0) := ⟨_, rfl⟩
  rw [← hZV] at Z B s8z X1
  have HZV := hide hZV
  clear hZV
  rw [← unhide HZV] at O0
  go_enter Try.func15, Try.ntmps15
  go_upto_region 1 with (with_reducible refine wpList_allocZ (by with_unfolding_all rfl) 25 (by with_unfolding_all rfl) ZV (unhide Z) ?_)
  have hlt1 : w.heap.size < (w.alloc (.cells ZV 25)).heap.size := by simp
  generalize w.alloc (.cells ZV 25) = w1 at *
  have O2 := hide ((unhide O0).alloc (.cells ZV 25))
  go_upto_region 2 with (first | (with_reducible refine wpList_allocZ (by with_unfolding_all rfl) 25 (by with_unfolding_all rfl) ZV (unhide Z) ?_) | (with_reducible refine wpList_build0 (by with_unfolding_all rfl) 25 (by with_unfolding_all rfl) ZV (unhide B) ?_) | (with_reducible refine wpList_store_row (by with_unfolding_all rfl) 25 _ _ (by with_unfolding_all rfl) w1.heap.size ZV (by with_unfolding_all rfl) (by with_unfolding_all rfl) 25 ZV (heap_new w1 _) s8z rfl (unhide X1) ?_; rw [setRow_alloc]))
  obtain ⟨g1, hg1⟩ : ∃ g1, g1 = w1.heap.size := ⟨_, rfl⟩
  rw [← hg1] at O2 hlt1 ⊢
  generalize w1.alloc (.cells ZV 25) = w2 at *
  have HNE : Hid (w.heap.size ≠ g1) := by show _ ≠ _; omega
  have HLE : Hid (w.heap.size ≤ g1) := by show _ ≤ _; omega
  clear O0 Z B hg1
  go_wp2_with fail
  go_loopw [2] (fun c wr => ∃ j : Nat, j ≤ 8 ∧ c = .int .i64 j ∧ Own w wr [(g1, .cells (dirV (dirU j)) 25), (w.heap.size, .cells ZV 25)]) (fun c _ => 8 - (intOf c).toNat)
  case atStart => exact ⟨0, by omega, rfl, by rw [← unhide HZV]; exact unhide O2⟩
  case round =>
    clear O2
    obtain ⟨j, hj, rfl, hh⟩ := hrel
    have HH := hide hh
    clear hh
    by_cases hlt : j < 8
    · have kg := (unhide HH).at g1 (.cells (dirV (dirU j)) 25) (by simp)
      have cg : wr.cell? ⟨g1, j, none⟩ = some (.int .i64 (dirU j j)) := by rw [cell_of_block kg]; exact dirV_cell _ _ hlt
      have fg : wr.frozen? ⟨g1, j, none⟩ = false := unfrozen_of_block kg _
      have H2 := hide (own_cell (unhide HH) (unhide HLE) (by simpa using unhide HNE) j (.int .i64 (10 + (j : Int))))
      rw [dirV_set, dirU_next] at H2
      have hlt' : (j : Int) < 8 := by omega
      clear kg
      generalize dirU j j = old at cg
      go_wp2_with fail
      go_roundw
      case rel => exact ⟨j + 1, by omega, by go_num, unhide H2⟩
      case measure => simp [intOf]; omega
    · obtain rfl : j = 8 := by omega
      rw [dirU_all] at HH
      have s8 := s8_dir8 dirF
      have XF := hide (dirV_one dirF)
      have szf : Hid (ZV.size = (dirV dirF).size) := by show _ = _; rw [unhide HZV, dirV_size, dirV_size]
      have KN := hide ((unhide HH).at g1 (.cells (dirV dirF) 25) (by simp))
      have KM := hide ((unhide HH).at w.heap.size (.cells ZV 25) (by simp))
      generalize hDF : dirV dirF = DF at *
      have HDF := hide hDF
      clear hDF
      go_wp2_with (first | (with_reducible refine wpList_load_row (by with_unfolding_all rfl) 25 _ (by with_unfolding_all rfl) g1 (by with_unfolding_all rfl) _ _ _ _ (unhide KN) Try.underlying25 (by with_unfolding_all rfl) s8 ?_) | (with_reducible refine wpList_store_row (by with_unfolding_all rfl) 25 _ _ (by with_unfolding_all rfl) w.heap.size DF (by with_unfolding_all rfl) (by with_unfolding_all rfl) 25 ZV (unhide KM) s8 (unhide szf) (unhide XF) ?_))
      exact bodyPost_ret (v := .agg DF) (results_cell_row Try.results15 _ _ w.heap.size 25 DF (0, 0) _ rfl (setRow_heap _ _ _ _ _ _ (unhide KM)) Try.underlying25 rfl s8) rfl ⟨by rw [unhide HDF], below_row (unhide HH).1 (Nat.le_refl _) _⟩

/-- The statements' table of n objects. -/
def tblF (n : Nat) (i : Nat) : En := if i < n then ⟨1 + (i : Int) % 4, (i : Int), 20 + (i : Int)⟩ else ze
theorem zero_tab9 : (Try.prog.info? 24).map (·.zero) = some (some (.agg (tabV (tblF 0)))) := by kernel_rfl
theorem built_tab9 : Try.prog.built 24 [] = some (tabV (tblF 0)) := by kernel_rfl
theorem s147_tab9 (f : Nat → En) : (Try.prog.info? 24).map (·.size) = some (tabV f).size := by rw [tabV_size]; kernel_rfl
theorem tblF_next (j : Nat) : (fun i => if i = j then En.mk (1 + (j : Int) % 4) (j : Int) (20 + (j : Int)) else tblF j i) = tblF (j + 1) := by
  funext i
  unfold tblF
  by_cases e : i = j
  · rw [if_pos e, if_pos (by omega), e]
  · rw [if_neg e]
    by_cases h : i < j
    · rw [if_pos h, if_pos (by omega)]
    · rw [if_neg h, if_neg (by omega)]
theorem own_put3 {W w : World} {L : List (Nat × Obj)} {g : Nat} {f : Nat → En} {t : TypeId} (h : Own W w ((g, .cells (tabV f) t (0, 0)) :: L)) (hW : W.heap.size ≤ g) (hne : ∀ p ∈ L, p.1 ≠ g) (j : Nat) (hj : j < 49) (c : En) : Own W (w.setCells g (j * 3) (ev c).toList) ((g, .cells (tabV (fun i => if i = j then c else f i)) t (0, 0)) :: L) :=
  ⟨below_put3 h.1 hW _ c, fun p hp => by
    rcases List.mem_cons.1 hp with rfl | hp
    · have := block_put3 (rowE 49 f) (h.2 _ List.mem_cons_self) j c
      rw [put3_row 49 f j c hj] at this
      exact this
    · rw [heap_put3 (hne p hp) _ c]; exact h.2 p (List.mem_cons_of_mem _ hp)⟩

theorem table_any (n : Nat) (hn : n ≤ 49) (w : World) : Calls Try.prog 14 #[.int .i64 (n : Int)] w fun e w' => e = .returned (.agg (tabV (tblF n))) ∧ Below w.heap.size w w' := by
  have Z := hide zero_tab9
  have B := hide built_tab9
  have O0 := hide ((Own.start w).alloc (.cells (tabV (tblF 0)) 24))
  have s8z := s147_tab9 (tblF 0)
  have X1 := hide (tabV_one (tblF 0))
  obtain ⟨ZV, hZV⟩ : ∃ ZV, ZV = tabV (tblF 0) := ⟨_, rfl⟩
  rw [← hZV] at Z B s8z X1 O0
  have HZV := hide hZV
  clear hZV
  go_enter Try.func14, Try.ntmps14
  go_upto_region 1 with (with_reducible refine wpList_allocZ (by with_unfolding_all rfl) 24 (by with_unfolding_all rfl) ZV (unhide Z) ?_)
  have hlt1 : w.heap.size < (w.alloc (.cells ZV 24)).heap.size := by simp
  generalize w.alloc (.cells ZV 24) = w1 at *
  have O2 := hide ((unhide O0).alloc (.cells ZV 24))
  go_upto_region 2 with (first | (with_reducible refine wpList_allocZ (by with_unfolding_all rfl) 24 (by with_unfolding_all rfl) ZV (unhide Z) ?_) | (with_reducible refine wpList_build0 (by with_unfolding_all rfl) 24 (by with_unfolding_all rfl) ZV (unhide B) ?_) | (with_reducible refine wpList_store_row (by with_unfolding_all rfl) 24 _ _ (by with_unfolding_all rfl) w1.heap.size ZV (by with_unfolding_all rfl) (by with_unfolding_all rfl) 24 ZV (heap_new w1 _) s8z rfl (unhide X1) ?_; rw [setRow_alloc]))
  obtain ⟨g1, hg1⟩ : ∃ g1, g1 = w1.heap.size := ⟨_, rfl⟩
  rw [← hg1] at O2 hlt1 ⊢
  generalize w1.alloc (.cells ZV 24) = w2 at *
  have HNE : Hid (w.heap.size ≠ g1) := by show _ ≠ _; omega
  have HLE : Hid (w.heap.size ≤ g1) := by show _ ≤ _; omega
  clear O0 Z B hg1
  go_wp2_with fail
  go_loopw [4] (fun c wr => ∃ j : Nat, j ≤ n ∧ c = .int .i64 j ∧ Own w wr [(g1, .cells (tabV (tblF j)) 24), (w.heap.size, .cells ZV 24)]) (fun c _ => 49 - (intOf c).toNat)
  case atStart => exact ⟨0, by omega, rfl, by rw [← unhide HZV]; exact unhide O2⟩
  case round =>
    clear O2
    obtain ⟨j, hj, rfl, hh⟩ := hrel
    have HH := hide hh
    clear hh
    by_cases hlt : j < n
    · have kg := (unhide HH).at g1 (.cells (tabV (tblF j)) 24) (by simp)
      have H2 := hide (own_put3 (unhide HH) (unhide HLE) (by simpa using unhide HNE) j (by omega) ⟨1 + (j : Int) % 4, (j : Int), 20 + (j : Int)⟩)
      rw [tblF_next] at H2
      have TB : wr.there g1 (j * 3) 3 := there_en (rowE 49 (tblF j)) kg j (by rw [rowE_len]; omega)
      have HTB := hide TB
      have hlt' : (j : Int) < (n : Int) := by omega
      have hlt2 : (j : Int) < 49 := by omega
      clear kg TB
      go_upto_region 5 with fail
      go_wp2_with (with_reducible refine wpList_store_en (by with_unfolding_all rfl) _ _ (by with_unfolding_all rfl) g1 (j * 3) ⟨1 + (j : Int) % 4, (j : Int), 20 + (j : Int)⟩ (by with_unfolding_all rfl) (by with_unfolding_all rfl) (unhide HTB) ?_)
      go_roundw
      case rel => exact ⟨j + 1, by omega, by go_num, unhide H2⟩
      case measure => simp [intOf]; omega
    · obtain rfl : j = n := by omega
      have hge : ¬ ((j : Int) < (j : Int)) := by omega
      have s8 := s147_tab9 (tblF j)
      have XF := hide (tabV_one (tblF j))
      have szf : Hid (ZV.size = (tabV (tblF j)).size) := by show _ = _; rw [unhide HZV, tabV_size, tabV_size]
      have KN := hide ((unhide HH).at g1 (.cells (tabV (tblF j)) 24) (by simp))
      have KM := hide ((unhide HH).at w.heap.size (.cells ZV 24) (by simp))
      generalize hDF : tabV (tblF j) = DF at *
      have HDF := hide hDF
      clear hDF
      go_wp2_with (first | (with_reducible refine wpList_load_row (by with_unfolding_all rfl) 24 _ (by with_unfolding_all rfl) g1 (by with_unfolding_all rfl) _ _ _ _ (unhide KN) Try.underlying24 (by with_unfolding_all rfl) s8 ?_) | (with_reducible refine wpList_store_row (by with_unfolding_all rfl) 24 _ _ (by with_unfolding_all rfl) w.heap.size DF (by with_unfolding_all rfl) (by with_unfolding_all rfl) 24 ZV (unhide KM) s8 (unhide szf) (unhide XF) ?_))
      exact bodyPost_ret (v := .agg DF) (results_cell_row Try.results14 _ _ w.heap.size 24 DF (0, 0) _ rfl (setRow_heap _ _ _ _ _ _ (unhide KM)) Try.underlying24 rfl s8) rfl ⟨by rw [unhide HDF], below_row (unhide HH).1 (Nat.le_refl _) _⟩

end Go.Proofs.Ytjmgmbigbkllgaa
