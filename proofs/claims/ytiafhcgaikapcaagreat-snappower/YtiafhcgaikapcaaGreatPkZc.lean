import Derived.Test.YtiafhcgaikapcaaGreatPkShow
import Derived.Test.YtiafhcgaikapcaaGreatPkZa
import Derived.Test.YtiafhcgaikapcaaGreatPkIv
import Derived.Test.YtiafhcgaikapcaaGreatXRLeaf
import Derived.Test.YtiafhcgaikapcaaGreatXRRoot
import Derived.Test.YtiafhcgaikapcaaGreatNLines
import Derived.OwnWalk
import Derived.Test.YtiafhcgaikapcaaGreatPkZb

/-
  The kind, table and dir of steadfastlaw11: as those of steadfastlaw10.
-/
namespace Go.Proofs.YtiafhcgaikapcaaGreat
open Go.ChangeShapes Go.WideShapes Go.ChangeAt Go.RowKit Go.Joins
set_option maxRecDepth 100000
set_option linter.unusedVariables false
set_option linter.unusedSimpArgs false

theorem zkind_any (z : Int) (hz : -9223372036854775808 ≤ z ∧ z ≤ 9223372036854775807) (n : Nat) (hn : 1 ≤ n) (hn2 : n ≤ 2000) (w : World) :
    Calls Tryz.prog 9 #[.int .i64 z, .int .i64 (n : Int)] w fun e w' => e = .returned (.int .i64 ((kindN z n : Nat) : Int)) ∧ w' = w := by
  obtain ⟨z0, z1⟩ := hz
  by_cases hneg : z < 0
  · go_enter Tryz.func9, Tryz.ntmps9
    go_wp2
    go_ret
    refine ⟨oret_int ?_, rfl⟩
    unfold kindN
    rw [if_pos hneg]
    exact otmod_neg z hneg _ (by omega)
  · go_enter Tryz.func9, Tryz.ntmps9
    go_wp2
    go_ret
    refine ⟨oret_int ?_, rfl⟩
    unfold kindN
    rw [if_neg (by omega)]
    first | exact oemod_toNat z _ (by omega) | exact otmod_pos z (by omega) _ (by omega)
theorem zdir_any (w : World) : Calls Tryz.prog 15 #[] w fun e w' => e = .returned (.agg (dirV dirF)) ∧ Below w.heap.size w w' := by
  have Z := hide zero_dir8
  have B := hide built_dir8
  have O0 := hide ((Own.start w).alloc (.cells (dirV (dirU 0)) 44))
  have s8z := s8_dir8 (dirU 0)
  have X1 := hide (dirV_one (dirU 0))
  obtain ⟨ZV, hZV⟩ : ∃ ZV, ZV = dirV (dirU 0) := ⟨_, rfl⟩
  rw [← hZV] at Z B s8z X1
  have HZV := hide hZV
  clear hZV
  rw [← unhide HZV] at O0
  go_enter Tryz.func15, Tryz.ntmps15
  go_upto_region 1 with (with_reducible refine wpList_allocZ (by with_unfolding_all rfl) 44 (by with_unfolding_all rfl) ZV (unhide Z) ?_)
  have hlt1 : w.heap.size < (w.alloc (.cells ZV 44)).heap.size := by simp
  generalize w.alloc (.cells ZV 44) = w1 at *
  have O2 := hide ((unhide O0).alloc (.cells ZV 44))
  go_upto_region 2 with (first | (with_reducible refine wpList_allocZ (by with_unfolding_all rfl) 44 (by with_unfolding_all rfl) ZV (unhide Z) ?_) | (with_reducible refine wpList_build0 (by with_unfolding_all rfl) 44 (by with_unfolding_all rfl) ZV (unhide B) ?_) | (with_reducible refine wpList_store_row (by with_unfolding_all rfl) 44 _ _ (by with_unfolding_all rfl) w1.heap.size ZV (by with_unfolding_all rfl) (by with_unfolding_all rfl) 44 ZV (heap_new w1 _) s8z rfl (unhide X1) ?_; rw [setRow_alloc]))
  obtain ⟨g1, hg1⟩ : ∃ g1, g1 = w1.heap.size := ⟨_, rfl⟩
  rw [← hg1] at O2 hlt1 ⊢
  generalize w1.alloc (.cells ZV 44) = w2 at *
  have HNE : Hid (w.heap.size ≠ g1) := by show _ ≠ _; omega
  have HLE : Hid (w.heap.size ≤ g1) := by show _ ≤ _; omega
  clear O0 Z B hg1
  go_wp2_with fail
  go_loopw [2] (fun c wr => ∃ j : Nat, j ≤ 8 ∧ c = .int .i64 j ∧ Own w wr [(g1, .cells (dirV (dirU j)) 44), (w.heap.size, .cells ZV 44)]) (fun c _ => 8 - (intOf c).toNat)
  case atStart => exact ⟨0, by omega, rfl, by rw [← unhide HZV]; exact unhide O2⟩
  case round =>
    clear O2
    obtain ⟨j, hj, rfl, hh⟩ := hrel
    have HH := hide hh
    clear hh
    by_cases hlt : j < 8
    · have kg := (unhide HH).at g1 (.cells (dirV (dirU j)) 44) (by simp)
      have cg : wr.cell? ⟨g1, j, none⟩ = some (.int .i64 (dirU j j)) := by rw [cell_of_block kg]; exact dirV_cell _ _ hlt
      have fg : wr.frozen? ⟨g1, j, none⟩ = false := unfrozen_of_block kg _
      have H2 := hide (own_cell (unhide HH) (unhide HLE) (by simpa using unhide HNE) j (.int .i64 (10 + (j : Int))))
      rw [dirV_set, dirU_next] at H2
      have hlt' : (j : Int) < 8 := by omega
      clear kg
      generalize dirU j j = old at cg
      go_wp2_with fail
      go_roundw
      case rel => exact ⟨j + 1, by omega, by go_num, unhide H2⟩
      case measure => simp [intOf]; omega
    · obtain rfl : j = 8 := by omega
      rw [dirU_all] at HH
      have s8 := s8_dir8 dirF
      have XF := hide (dirV_one dirF)
      have szf : Hid (ZV.size = (dirV dirF).size) := by show _ = _; rw [unhide HZV, dirV_size, dirV_size]
      have KN := hide ((unhide HH).at g1 (.cells (dirV dirF) 44) (by simp))
      have KM := hide ((unhide HH).at w.heap.size (.cells ZV 44) (by simp))
      generalize hDF : dirV dirF = DF at *
      have HDF := hide hDF
      clear hDF
      go_wp2_with (first | (with_reducible refine wpList_load_row (by with_unfolding_all rfl) 44 _ (by with_unfolding_all rfl) g1 (by with_unfolding_all rfl) _ _ _ _ (unhide KN) Tryz.underlying44 (by with_unfolding_all rfl) s8 ?_) | (with_reducible refine wpList_store_row (by with_unfolding_all rfl) 44 _ _ (by with_unfolding_all rfl) w.heap.size DF (by with_unfolding_all rfl) (by with_unfolding_all rfl) 44 ZV (unhide KM) s8 (unhide szf) (unhide XF) ?_))
      exact bodyPost_ret (v := .agg DF) (results_cell_row Tryz.results15 _ _ w.heap.size 44 DF (0, 0) _ rfl (setRow_heap _ _ _ _ _ _ (unhide KM)) Tryz.underlying44 rfl s8) rfl ⟨by rw [unhide HDF], below_row (unhide HH).1 (Nat.le_refl _) _⟩
theorem ztable_any (n : Nat) (hn : n ≤ 49) (w : World) : Calls Tryz.prog 14 #[.int .i64 (n : Int)] w fun e w' => e = .returned (.agg (tabV (tblF n))) ∧ Below w.heap.size w w' := by
  have Z := hide zero_tab9
  have B := hide built_tab9
  have O0 := hide ((Own.start w).alloc (.cells (tabV (tblF 0)) 42))
  have s8z := s147_tab9 (tblF 0)
  have X1 := hide (tabV_one (tblF 0))
  obtain ⟨ZV, hZV⟩ : ∃ ZV, ZV = tabV (tblF 0) := ⟨_, rfl⟩
  rw [← hZV] at Z B s8z X1 O0
  have HZV := hide hZV
  clear hZV
  go_enter Tryz.func14, Tryz.ntmps14
  go_upto_region 1 with (with_reducible refine wpList_allocZ (by with_unfolding_all rfl) 42 (by with_unfolding_all rfl) ZV (unhide Z) ?_)
  have hlt1 : w.heap.size < (w.alloc (.cells ZV 42)).heap.size := by simp
  generalize w.alloc (.cells ZV 42) = w1 at *
  have O2 := hide ((unhide O0).alloc (.cells ZV 42))
  go_upto_region 2 with (first | (with_reducible refine wpList_allocZ (by with_unfolding_all rfl) 42 (by with_unfolding_all rfl) ZV (unhide Z) ?_) | (with_reducible refine wpList_build0 (by with_unfolding_all rfl) 42 (by with_unfolding_all rfl) ZV (unhide B) ?_) | (with_reducible refine wpList_store_row (by with_unfolding_all rfl) 42 _ _ (by with_unfolding_all rfl) w1.heap.size ZV (by with_unfolding_all rfl) (by with_unfolding_all rfl) 42 ZV (heap_new w1 _) s8z rfl (unhide X1) ?_; rw [setRow_alloc]))
  obtain ⟨g1, hg1⟩ : ∃ g1, g1 = w1.heap.size := ⟨_, rfl⟩
  rw [← hg1] at O2 hlt1 ⊢
  generalize w1.alloc (.cells ZV 42) = w2 at *
  have HNE : Hid (w.heap.size ≠ g1) := by show _ ≠ _; omega
  have HLE : Hid (w.heap.size ≤ g1) := by show _ ≤ _; omega
  clear O0 Z B hg1
  go_wp2_with fail
  go_loopw [4] (fun c wr => ∃ j : Nat, j ≤ n ∧ c = .int .i64 j ∧ Own w wr [(g1, .cells (tabV (tblF j)) 42), (w.heap.size, .cells ZV 42)]) (fun c _ => 49 - (intOf c).toNat)
  case atStart => exact ⟨0, by omega, rfl, by rw [← unhide HZV]; exact unhide O2⟩
  case round =>
    clear O2
    obtain ⟨j, hj, rfl, hh⟩ := hrel
    have HH := hide hh
    clear hh
    by_cases hlt : j < n
    · have kg := (unhide HH).at g1 (.cells (tabV (tblF j)) 42) (by simp)
      have H2 := hide (own_put3 (unhide HH) (unhide HLE) (by simpa using unhide HNE) j (by omega) ⟨1 + (j : Int) % 4, (j : Int), 20 + (j : Int)⟩)
      rw [tblF_next] at H2
      have TB : wr.there g1 (j * 3) 3 := there_en (rowE 49 (tblF j)) kg j (by rw [rowE_len]; omega)
      have HTB := hide TB
      have hlt' : (j : Int) < (n : Int) := by omega
      have hlt2 : (j : Int) < 49 := by omega
      clear kg TB
      go_upto_region 5 with fail
      go_wp2_with (with_reducible refine wpList_store_en (by with_unfolding_all rfl) _ _ (by with_unfolding_all rfl) g1 (j * 3) ⟨1 + (j : Int) % 4, (j : Int), 20 + (j : Int)⟩ (by with_unfolding_all rfl) (by with_unfolding_all rfl) (unhide HTB) ?_)
      go_roundw
      case rel => exact ⟨j + 1, by omega, by go_num, unhide H2⟩
      case measure => simp [intOf]; omega
    · obtain rfl : j = n := by omega
      have hge : ¬ ((j : Int) < (j : Int)) := by omega
      have s8 := s147_tab9 (tblF j)
      have XF := hide (tabV_one (tblF j))
      have szf : Hid (ZV.size = (tabV (tblF j)).size) := by show _ = _; rw [unhide HZV, tabV_size, tabV_size]
      have KN := hide ((unhide HH).at g1 (.cells (tabV (tblF j)) 42) (by simp))
      have KM := hide ((unhide HH).at w.heap.size (.cells ZV 42) (by simp))
      generalize hDF : tabV (tblF j) = DF at *
      have HDF := hide hDF
      clear hDF
      go_wp2_with (first | (with_reducible refine wpList_load_row (by with_unfolding_all rfl) 42 _ (by with_unfolding_all rfl) g1 (by with_unfolding_all rfl) _ _ _ _ (unhide KN) Tryz.underlying42 (by with_unfolding_all rfl) s8 ?_) | (with_reducible refine wpList_store_row (by with_unfolding_all rfl) 42 _ _ (by with_unfolding_all rfl) w.heap.size DF (by with_unfolding_all rfl) (by with_unfolding_all rfl) 42 ZV (unhide KM) s8 (unhide szf) (unhide XF) ?_))
      exact bodyPost_ret (v := .agg DF) (results_cell_row Tryz.results14 _ _ w.heap.size 42 DF (0, 0) _ rfl (setRow_heap _ _ _ _ _ _ (unhide KM)) Tryz.underlying42 rfl s8) rfl ⟨by rw [unhide HDF], below_row (unhide HH).1 (Nat.le_refl _) _⟩

end Go.Proofs.YtiafhcgaikapcaaGreat


/-
  The lines that steadfastlaw11's statements begin with: a directory's, from the line 10 on.
-/
namespace Go.Proofs.YtiafhcgaikapcaaGreat
open Go.ChangeShapes Go.WideShapes Go.ChangeAt Go.RowKit Go.Joins
set_option maxRecDepth 100000
set_option linter.unusedVariables false
set_option linter.unusedSimpArgs false

/-- No state at all: what is there stays. -/
def NoSt (W w : World) (G : Nat → Prop) : Prop := Keeps (fun _ => False) W w ∧ ∀ k, G k → k < w.heap.size
theorem NoSt.stay (W : World) : Stay W (NoSt W) where
  al := fun w G o h => ⟨h.1.alloc _, fun k hk => by
    have hs : (w.alloc o).heap.size = w.heap.size + 1 := by simp
    rcases hk with hk | hk
    · have := h.2 k hk; omega
    · omega⟩
  ls := fun w G G' h hs => ⟨h.1, fun k hk => h.2 k (hs k hk)⟩
  bl := fun w w' G h hk => ⟨h.1.trans' hk, fun k hk' => Nat.lt_of_lt_of_le (h.2 k hk') hk.size⟩
  ow := fun w w' G L h hL hW hk => ⟨⟨hk.os.trans h.1.os, hk.tape.trans h.1.tape, hk.output.trans h.1.output, Nat.le_trans h.1.size hk.size, fun k hk' _ => (hk.block k (Nat.lt_of_lt_of_le hk' h.1.size) (fun e => by subst e; omega)).trans (h.1.block k hk' id)⟩, fun k hk' => Nat.lt_of_lt_of_le (h.2 k hk') hk.size⟩
  lt := fun w G h => h.2
  sz := fun w G h => h.1

/-! ### the row of lines -/
def kV (N : Nat) (K : Nat → Nat → Int) : Array Value := tab (N * 8) fun c => .int .u64 (K (c / 8) (c % 8))
/-- The image of n objects: leaves in the lines 10 to 16, the root in 17. -/
def lfI (n k : Nat) : List Int := leafKV (rowE 49 (tblF n)) (k : Int)
def rtI : List Int := rootV (tab7 dirF)
def sI (n : Nat) (i j : Nat) : Int := if 10 ≤ i ∧ i < 17 then (lfI n (i - 10)).getD j 0 else if i = 17 then rtI.getD j 0 else 0
def imgTo (n k : Nat) (i j : Nat) : Int := if 10 ≤ i ∧ i < 10 + k then (lfI n (i - 10)).getD j 0 else 0
theorem kV_ext {N : Nat} {K K' : Nat → Nat → Int} (h : ∀ i j, i < N → j < 8 → K i j = K' i j) : kV N K = kV N K' := by
  unfold kV
  refine tab_ext fun c hc => ?_
  rw [h _ _ (by omega) (by omega)]
theorem kV_put {w : World} {g N : Nat} {T : TypeId} {K : Nat → Nat → Int} {k : Nat} (l : List Int) (hl : l.length = 8) (hk : k < N) (h : w.heap[g]? = some (.cells (kV N K) T (0, 0))) :
    (w.setCells g (k * 8) (iv .u64 l).toList).heap[g]? = some (.cells (kV N (fun i j => if i = k then l.getD j 0 else K i j)) T (0, 0)) := by
  rw [block_sets _ _ _ _ h]
  congr 2
  refine tab_ext fun c hc => ?_
  rw [Array.length_toList, iv_size, hl]
  show _ = Value.int .u64 (if c / 8 = k then l.getD (c % 8) 0 else K (c / 8) (c % 8))
  by_cases e : k * 8 ≤ c ∧ c < k * 8 + 8
  · rw [if_pos e, if_pos (show c / 8 = k by omega), List.getD_eq_getElem?_getD]
    have h8 : c % 8 = c - k * 8 := by omega
    rw [h8]
    have hlt : c - k * 8 < l.length := by omega
    simp [iv, hlt]
  · rw [if_neg e, if_neg (show ¬ c / 8 = k by omega)]
theorem kV_there {w : World} {g N : Nat} {T : TypeId} {K : Nat → Nat → Int} {k : Nat} (hk : k < N) (h : w.heap[g]? = some (.cells (kV N K) T (0, 0))) : w.there g (k * 8) 8 := (Blk.of_tab (T := T) h).there _ _ (by omega)
theorem kV_range {w : World} {g N : Nat} {T : TypeId} {K : Nat → Nat → Int} {k : Nat} (hk : k < N) (h : w.heap[g]? = some (.cells (kV N K) T (0, 0))) : w.rangeAt g (k * 8) ((List.range 8).map fun j => .int .u64 (K k j)) :=
  (Blk.of_tab (T := T) h).range (k * 8) 8 (by omega) (fun q => .int .u64 (K k q)) (fun j hj => by
    show Value.int .u64 (K ((k * 8 + j) / 8) ((k * 8 + j) % 8)) = _
    rw [show (k * 8 + j) / 8 = k by omega, show (k * 8 + j) % 8 = j by omega])
theorem made_kV {w : World} {base g N : Nat} {T : TypeId} (h : w.ownsRow base T 8 (.slice (some ⟨g, 0, none⟩) N N) N (madeCells (Value.agg (lnV fun _ => 0)).cells (N * 8)).toList) :
    w.heap[g]? = some (.cells (kV N fun _ _ => 0) T (0, 0)) := by
  rcases h.2 with ⟨h', _⟩ | ⟨g', cap, cur, h', _, hg, _, _, hcs, htake⟩
  · simp at h'
  · simp only [Value.slice.injEq, Option.some.injEq, Addr.mk.injEq, and_true, true_and] at h'
    obtain ⟨rfl, rfl⟩ := h'
    have hcur : cur = kV N fun _ _ => 0 := by
      rw [List.take_of_length_le (by simp [hcs])] at htake
      have h2 : cur = madeCells (Value.agg (lnV fun _ => 0)).cells (N * 8) := by rw [← Array.toArray_toList (xs := cur), htake, Array.toArray_toList]
      rw [h2]
      apply Array.ext_getElem?
      intro i
      by_cases hi : i < N * 8
      · unfold kV
        rw [tab_get _ _ _ hi]
        simp only [madeCells, Array.getElem?_map, Array.getElem?_range, hi, if_true, Option.map_some]
        show some ((lnV fun _ => 0)[i % (lnV fun _ => 0).size]!) = _
        rw [lnV_size]
        have := tab_get 8 (fun _ => Value.int .u64 0) (i % 8) (Nat.mod_lt _ (by decide))
        rw [getElem!_def, show (lnV fun _ => 0)[i % 8]? = _ from this]
      · unfold kV
        rw [tab_none _ _ _ (by omega), Array.getElem?_eq_none (by rw [size_madeCells]; omega)]
    rw [← hcur]; exact hg
theorem imgTo_next (n k : Nat) : (fun i j => if i = 10 + k then (lfI n k).getD j 0 else imgTo n k i j) = imgTo n (k + 1) := by
  funext i j
  unfold imgTo
  by_cases e : i = 10 + k
  · rw [if_pos e, if_pos (by omega), show i - 10 = k by omega]
  · rw [if_neg e]
    by_cases h : 10 ≤ i ∧ i < 10 + k
    · rw [if_pos h, if_pos (by omega)]
    · rw [if_neg h, if_neg (by omega)]
theorem imgTo_zero (n : Nat) : (fun _ _ => (0 : Int)) = imgTo n 0 := by
  funext i j; unfold imgTo; rw [if_neg (by omega)]
theorem imgTo_root (n : Nat) : (fun i j => if i = 17 then rtI.getD j 0 else imgTo n 7 i j) = sI n := by
  funext i j
  unfold imgTo sI
  by_cases e : i = 17
  · rw [if_pos e, if_neg (by omega), if_pos e]
  · rw [if_neg e]
    by_cases h : 10 ≤ i ∧ i < 17
    · rw [if_pos (by omega), if_pos h]
    · rw [if_neg (by omega), if_neg h, if_neg e]
theorem lfI_len (n k : Nat) : (lfI n k).length = 8 := leafKV_len _ _
theorem rtI_len : rtI.length = 8 := rootV_len _
theorem sI_in (n i j : Nat) : InU (sI n i j) := by
  unfold sI
  split
  · exact getD_inU (zleafKV_wf _ _) j
  · split
    · exact getD_inU (rootV_wf _) j
    · exact ⟨by decide, by decide⟩
theorem zero_7z : (Tryz.prog.info? 95).map (·.zero) = some (some (.agg (iv .i64 zs7))) := by kernel_rfl
theorem info_linez : (Tryz.prog.info? 83).map (fun i => (i.zero, i.size, i.bytes)) = some (some (.agg (lnV fun _ => 0)), 8, 64) := by kernel_rfl

set_option maxHeartbeats 8000000 in
theorem image_any (N n : Nat) (h1 : 64 ≤ N) (h2 : N ≤ 1024) (hn : n ≤ 49) (w : World) :
    Calls Tryz.prog 12 #[.int .i64 (N : Int), .int .i64 (n : Int)] w fun e w' => ∃ g, e = .returned (.slice (some ⟨g, 0, none⟩) N N) ∧ Keeps (fun _ => False) w w' ∧ w'.heap[g]? = some (.cells (kV N (sI n)) 83 (0, 0)) ∧ w.heap.size ≤ g := by
  have T0 := hide (NoSt.stay w)
  have N0 : Hid (NoSt w w (fun _ => False)) := ⟨Keeps.refl _ _, fun _ h => h.elim⟩
  go_enter Tryz.func12, Tryz.ntmps12
  obtain ⟨i0, hi, hz0, hz1, hz2⟩ := info_parts info_linez
  go_upto_region 2 with (at_make; refine wpList_make_full _ rfl _ _ 35 rfl w.heap.size 83 i0 _ 8 Tryz.underlying35 hi hz0 hz1 .i64 .i64 _ _ N rfl rfl rfl rfl (by rw [hz2]; omega) (by unfold maxLen; omega) (Nat.le_refl _) ?_; intro w1 hown hgrow)
  have O0 := hide (((Held.start (unhide T0) (unhide N0)).alloc (unhide T0) (.cells (kV N fun _ _ => 0) 83)).keeps (unhide T0) (keeps_made (Keeps.grown (Keeps.refl _ _) hgrow (fun k hk => by simp at hk)) (made_kV hown)))
  clear hown hgrow i0 hi hz0 hz1 hz2 N0
  rw [imgTo_zero n] at O0
  obtain ⟨gk, hgk⟩ : ∃ gk, gk = w.heap.size := ⟨_, rfl⟩
  have HGK : Hid (w.heap.size ≤ gk) := by show _ ≤ _; omega
  rw [← hgk] at O0 ⊢
  clear hgk
  have st := s147_tab9 (tblF n)
  have Zt := hide zero_tab9
  have Xt := hide (tabV_one (tblF n))
  have SZt : Hid ((tabV (tblF 0)).size = (tabV (tblF n)).size) := by show _ = _; rw [tabV_size, tabV_size]
  have CR := hide (fun (k : Nat) w' => rleaf_any (rowE 49 (tblF n)) (rowE_len _ _) (k : Int) w')
  have eT : iv .i64 (rowE 49 (tblF n)) = tabV (tblF n) := rfl
  rw [eT] at CR
  have CTb := hide (ztable_any n hn w1)
  generalize tabV (tblF 0) = ZT at *
  generalize tabV (tblF n) = TV at *
  clear eT
  go_wp2_with fail
  refine (unhide CTb).mono ?_
  rintro e w2 ⟨rfl, hb⟩
  have O0b := hide ((unhide O0).below (unhide T0) hb)
  have h6 : gk < w2.heap.size := (unhide O0b).lt (gk, _) List.mem_cons_self
  have O1 := hide ((unhide O0b).alloc (unhide T0) (.cells TV 42))
  clear hb O0 CTb O0b
  go_upto_region 3 with (first | (with_reducible refine wpList_allocZ (by with_unfolding_all rfl) 42 (by with_unfolding_all rfl) ZT (unhide Zt) ?_) | (with_reducible refine wpList_store_row (by with_unfolding_all rfl) 42 _ _ (by with_unfolding_all rfl) w2.heap.size TV (by with_unfolding_all rfl) (by with_unfolding_all rfl) 42 ZT (heap_new w2 _) st (unhide SZt) (unhide Xt) ?_; rw [setRow_alloc]))
  obtain ⟨g6, hg6⟩ : ∃ g6, g6 = w2.heap.size := ⟨_, rfl⟩
  rw [← hg6] at O1 h6 ⊢
  clear hg6
  generalize w2.alloc (.cells TV 42) = w3 at *
  have h7 : g6 < w3.heap.size := (unhide O1).lt (g6, _) List.mem_cons_self
  have Z7 := hide zero_7z
  have B7 := hide build7x
  have s7 := s7_of zs7 rfl
  have X7 := hide (iv_one .i64 zs7)
  have SZ7 : Hid ((iv .i64 zs7).size = (iv .i64 zs7).size) := rfl
  have O2 := hide ((unhide O1).alloc (unhide T0) (.cells (iv .i64 zs7) 95))
  have hz7 : zs7 = tab7 fun i => if i < 0 then (10 : Int) + i else 0 := (tab7_zero fun i => (10 : Int) + i).symm
  have HZ7 := hide hz7
  clear hz7 O1
  generalize hZV : iv .i64 zs7 = ZV at *
  go_upto_region 5 with (first | (with_reducible refine wpList_build0 (by with_unfolding_all rfl) 95 (by with_unfolding_all rfl) ZV (unhide B7) ?_) | (with_reducible refine wpList_allocZ (by with_unfolding_all rfl) 95 (by with_unfolding_all rfl) ZV (unhide Z7) ?_) | (with_reducible refine wpList_store_row (by with_unfolding_all rfl) 95 _ _ (by with_unfolding_all rfl) w3.heap.size ZV (by with_unfolding_all rfl) (by with_unfolding_all rfl) 95 ZV (heap_new w3 _) s7 rfl (unhide X7) ?_; rw [setRow_alloc]))
  clear Z7 B7 X7 SZ7 s7 Zt Xt SZt
  obtain ⟨g7, hg7⟩ : ∃ g7, g7 = w3.heap.size := ⟨_, rfl⟩
  rw [← hg7] at O2 h7 ⊢
  clear hg7
  generalize w3.alloc (.cells ZV 95) = w4 at *
  rw [← hZV, unhide HZ7] at O2
  clear hZV HZ7
  go_wp2_with fail
  go_loopw [8] (fun q wr => ∃ j : Nat, j ≤ 7 ∧ q = .int .i64 j ∧ Held w (NoSt w) w wr (fun _ => False) [(g7, .cells (iv .i64 (tab7 fun i => if i < j then (10 : Int) + i else 0)) 95), (g6, .cells TV 42), (gk, .cells (kV N (imgTo n j)) 83)]) (fun q _ => 7 - (intOf q).toNat)
  case atStart => exact ⟨0, by omega, rfl, unhide O2⟩
  case round =>
    clear O2
    obtain ⟨j, hj, rfl, hh⟩ := hrel
    have HH := hide hh
    clear hh
    by_cases hlt : j < 7
    · have hlt7 : (j : Int) < 7 := by omega
      have K6 := hide ((unhide HH).at g6 (.cells TV 42) (by simp))
      obtain ⟨kk, hkk⟩ : ∃ kk, kk = 10 + j := ⟨_, rfl⟩
      have E10 : Hid ((10 : Int) + (j : Int) = (kk : Int)) := by show _ = _; omega
      have CRj := hide (unhide CR j)
      have NX : Hid ((fun i q => if i = kk then (lfI n j).getD q 0 else imgTo n j i q) = imgTo n (j + 1)) := by show _ = _; rw [hkk]; exact imgTo_next n j
      have hlen := lfI_len n j
      have hkN : kk < N := by omega
      have eL : leafKV (rowE 49 (tblF n)) (j : Int) = lfI n j := rfl
      rw [eL] at CRj
      clear eL hkk
      have s8 := s8_of (lfI n j) hlen
      have X8 := hide (iv_one .u64 (lfI n j))
      have z8 : (iv .u64 (lfI n j)).size = 8 := by rw [iv_size, hlen]
      have KP := hide (fun (w' : World) (h : w'.heap[gk]? = some (.cells (kV N (imgTo n j)) 83 (0, 0))) => kV_put (lfI n j) hlen hkN h)
      rw [unhide NX] at KP
      generalize iv .u64 (lfI n j) = LV at *
      generalize leafKE (rowE 49 (tblF n)) (j : Int) = er at *
      go_wp2_with (with_reducible refine wpList_load_row (by with_unfolding_all rfl) 42 _ (by with_unfolding_all rfl) g6 (by with_unfolding_all rfl) _ _ _ _ (unhide K6) Tryz.underlying42 (by with_unfolding_all rfl) st ?_)
      refine (unhide CRj _).mono ?_
      rintro e w5 ⟨rfl, hb⟩
      rw [unhide E10]
      have O3 := hide ((unhide HH).below (unhide T0) hb)
      clear hb HH K6 CRj E10
      have bk := (unhide O3).at gk (.cells (kV N (imgTo n j)) 83) (by simp)
      have TB : Hid (w5.there gk (kk * 8) LV.size) := by rw [z8]; exact kV_there hkN bk
      have O4 := hide ((unhide O3).turnOwn (unhide T0) gk (.cells (kV N (imgTo n j)) 83) _ (by simp) (keeps_sets LV.toList (kk * 8) _ _ (Keeps.refl _ _)) (unhide KP _ bk))
      clear bk KP
      have hkz : (kk : Int) < (N : Int) := by omega
      go_upto_region 8 with (with_reducible refine wpList_store_mid (by with_unfolding_all rfl) 83 _ _ (by with_unfolding_all rfl) gk (kk * 8) LV (by with_unfolding_all rfl) (by with_unfolding_all rfl) (unhide TB) s8 (unhide X8) ?_)
      have O5 := hide ((unhide O4).less (unhide T0) (L' := [(g7, .cells (iv .i64 (tab7 fun i => if i < j then (10 : Int) + i else 0)) 95), (g6, .cells TV 42), (gk, .cells (kV N (imgTo n (j + 1))) 83)]) (fun p hp => by
        rcases List.mem_cons.1 hp with rfl | hp
        · exact List.mem_cons_of_mem _ (List.mem_filter.2 ⟨List.mem_cons_self, by simp; omega⟩)
        · rcases List.mem_cons.1 hp with rfl | hp
          · exact List.mem_cons_of_mem _ (List.mem_filter.2 ⟨by simp, by simp; omega⟩)
          · rcases List.mem_cons.1 hp with rfl | hp
            · exact List.mem_cons_self
            · cases hp))
      clear O3 O4 TB s8 X8
      generalize w5.setCells gk (kk * 8) LV.toList = w6 at *
      have b7 := (unhide O5).at g7 (.cells (iv .i64 (tab7 fun i => if i < j then (10 : Int) + i else 0)) 95) (by simp)
      have f7 : w6.frozen? ⟨g7, j, none⟩ = false := unfrozen_of_block b7 j
      obtain ⟨old, c7⟩ : ∃ old : Int, w6.cell? ⟨g7, j, none⟩ = some (.int .i64 old) := ⟨(tab7 fun i => if i < j then (10 : Int) + i else 0).getD j 0, by
        rw [cell_of_block b7]
        have hl7 : j < (tab7 fun i => if i < j then (10 : Int) + i else 0).length := by rw [tab7_len]; exact hlt
        simp [iv, hl7]⟩
      have O6 := hide ((unhide O5).cellHd (unhide T0) (by simp; omega) j (.int .i64 (10 + (j : Int))))
      rw [iv_set, tab7_set (fun i => (10 : Int) + i) j hlt] at O6
      clear b7 O5
      go_wp2_with fail
      go_roundw
      case rel => exact ⟨j + 1, by omega, by go_num, unhide O6⟩
      case measure => simp [intOf]; omega
    · have ej : j = 7 := by omega
      have hge : ¬ ((j : Int) < 7) := by omega
      rw [ej] at HH
      have e7 : (tab7 fun i => if i < 7 then (10 : Int) + i else 0) = tab7 dirF := tab7_all fun i => (10 : Int) + i
      rw [e7] at HH
      have CRr := hide (fun w' => rroot_any (tab7 dirF) (tab7_len _) w')
      have NX : Hid ((fun i q => if i = 17 then rtI.getD q 0 else imgTo n 7 i q) = sI n) := imgTo_root n
      have hlen := rtI_len
      have eL : rootV (tab7 dirF) = rtI := rfl
      rw [eL] at CRr
      have s8 := s8_of rtI hlen
      have X8 := hide (iv_one .u64 rtI)
      have z8 : (iv .u64 rtI).size = 8 := by rw [iv_size, hlen]
      have KP := hide (fun (w' : World) (h : w'.heap[gk]? = some (.cells (kV N (imgTo n 7)) 83 (0, 0))) => kV_put rtI hlen (show 17 < N by omega) h)
      rw [unhide NX] at KP
      have s7l := s7_of (tab7 dirF) (tab7_len _)
      clear eL e7 ej hlt hlen NX
      generalize iv .u64 rtI = LV at *
      generalize rootE (tab7 dirF) = er at *
      generalize iv .i64 (tab7 dirF) = DV at *
      go_upto_region 9 with fail
      clear hge
      generalize (j : Int) = lastj at *
      have K7 := hide ((unhide HH).at g7 (.cells DV 95) (by simp))
      go_wp2_with (with_reducible refine wpList_load_row (by with_unfolding_all rfl) 95 _ (by with_unfolding_all rfl) g7 (by with_unfolding_all rfl) _ _ _ _ (unhide K7) Tryz.underlying95 (by with_unfolding_all rfl) s7l ?_)
      refine (unhide CRr _).mono ?_
      rintro e w5 ⟨rfl, hb⟩
      have O3 := hide ((unhide HH).below (unhide T0) hb)
      clear hb HH K7 CRr
      have bk := (unhide O3).at gk (.cells (kV N (imgTo n 7)) 83) (by simp)
      have TB : Hid (w5.there gk (17 * 8) LV.size) := by rw [z8]; exact kV_there (show 17 < N by omega) bk
      have O4 := hide (((unhide O3).turnOwn (unhide T0) gk (.cells (kV N (imgTo n 7)) 83) _ (by simp) (keeps_sets LV.toList (17 * 8) _ _ (Keeps.refl _ _)) (unhide KP _ bk)).less (unhide T0) (L' := [(gk, .cells (kV N (sI n)) 83)]) (by simp))
      clear bk KP O3
      have h17 : (17 : Int) < (N : Int) := by omega
      go_wp2_with (first | (with_reducible refine wpList_store_mid (by with_unfolding_all rfl) 83 _ _ (by with_unfolding_all rfl) gk (17 * 8) LV (by with_unfolding_all rfl) (by with_unfolding_all rfl) (unhide TB) s8 (unhide X8) ?_) | (with_reducible refine wpList_store_mid (by with_unfolding_all rfl) 83 _ _ (by with_unfolding_all rfl) gk 136 LV (by with_unfolding_all rfl) (by with_unfolding_all rfl) (unhide TB) s8 (unhide X8) ?_))
      go_ret
      exact ⟨gk, rfl, (unhide O4).1.1, (unhide O4).at gk _ List.mem_cons_self, unhide HGK⟩

end Go.Proofs.YtiafhcgaikapcaaGreat


/-
  The store, memory and worker that steadfastlaw11's statements begin with.
-/
namespace Go.Proofs.YtiafhcgaikapcaaGreat
open Go.ChangeShapes Go.WideShapes Go.ChangeAt Go.RowKit Go.Joins
set_option maxRecDepth 100000
set_option linter.unusedVariables false
set_option linter.unusedSimpArgs false

def iA (n N : Nat) : Mm := Mm.new N (sI n)
def wk0 : Wk := Wk.new [1, 17, 0, 1] 0
theorem iA_ok (n N : Nat) (h1 : 64 ≤ N) (h2 : N ≤ 1024) : (iA n N).ok 0 := ok_new h1 h2 (sI_in n)
theorem begin0_any (w : World) : Calls Tryz.prog 17 #[] w fun e w' => e = .returned (.agg (iv .i64 [1, 17, 0, 1])) ∧ Below w.heap.size w w' := by
  have KB := hide ((Below.refl w.heap.size w).alloc (Nat.le_refl _) (.cells (iv .i64 [1, 17, 0, 1]) 49))
  have s4 := s4_sup [1, 17, 0, 1] rfl
  have B := hide (built_sup 1 17 0 1)
  have X4 := hide (iv_one .i64 [1, 17, 0, 1])
  have Z4 : Hid ((Tryz.prog.info? 49).map (·.zero) = some (some (.agg #[.int .i64 0, .int .i64 0, .int .i64 0, .int .i64 0]))) := by show _ = _; kernel_rfl
  have SZ : Hid ((#[.int .i64 0, .int .i64 0, .int .i64 0, .int .i64 0] : Array Value).size = (iv .i64 [1, 17, 0, 1]).size) := rfl
  generalize iv .i64 [1, 17, 0, 1] = SV at *
  go_enter Tryz.func17, Tryz.ntmps17
  go_wp2_with (first | (with_reducible refine wpList_allocZ (by with_unfolding_all rfl) 49 (by with_unfolding_all rfl) #[.int .i64 0, .int .i64 0, .int .i64 0, .int .i64 0] (unhide Z4) ?_) | (with_reducible refine wpList_build4v (by with_unfolding_all rfl) 49 _ _ _ _ (by with_unfolding_all rfl) (.int .i64 1) (.int .i64 17) (.int .i64 0) (.int .i64 1) (by with_unfolding_all rfl) (by with_unfolding_all rfl) (by with_unfolding_all rfl) (by with_unfolding_all rfl) SV (unhide B) ?_) | (with_reducible refine wpList_store_row (by with_unfolding_all rfl) 49 _ _ (by with_unfolding_all rfl) w.heap.size SV (by with_unfolding_all rfl) (by with_unfolding_all rfl) 49 #[.int .i64 0, .int .i64 0, .int .i64 0, .int .i64 0] (heap_new w _) s4 (unhide SZ) (unhide X4) ?_; rw [setRow_alloc]))
  exact bodyPost_ret (v := .agg SV) (results_cell_row Tryz.results17 _ _ w.heap.size 49 SV (0, 0) _ rfl (heap_new w _) Tryz.underlying49 rfl s4) rfl ⟨rfl, unhide KB⟩

set_option maxHeartbeats 4000000 in
theorem zmade_any (W w : World) (hW : Keeps (fun _ => False) W w) (G : Nat → Prop) (hG : ∀ k, G k → k < w.heap.size) (N n : Nat) (h1 : 64 ≤ N) (h2 : N ≤ 1024) (hn : n < 31) :
    Calls Tryz.prog 10 #[.int .i64 (N : Int), .int .i64 (n : Int)] w fun e w' => ∃ m b x, e = .returned (.tuple #[.pointer (some ⟨m, 0, none⟩), .pointer (some ⟨b, 0, none⟩), .pointer (some ⟨x, 0, none⟩)]) ∧ WHas W m b x (fun A w G => Has W w G m A) (sS n N) (iA n N) wk0 w' G ∧ Same G w w' := by
  have CI := hide (image_any N n h1 h2 (by omega) w)
  have HW := hide hW
  have HG := hide hG
  clear hW hG
  go_enter Tryz.func10, Tryz.ntmps10
  go_wp2_with fail
  refine (unhide CI).mono ?_
  rintro e w1 ⟨g, rfl, hk, hb, hg⟩
  have CO := hide (of_any w1 (some ⟨g, 0, none⟩) N N (sI n) h1 h2 (Or.inr ⟨g, 0, rfl, fun i hi => by rw [Nat.zero_add]; exact kV_range hi hb⟩))
  have HK := hide ((unhide HW).trans' hk)
  have SM : Hid (Same G w w1) := fun k q => hk.block k (unhide HG k q) id
  have HG1 : Hid (∀ k, G k → k < w1.heap.size) := fun k q => Nat.lt_of_lt_of_le (unhide HG k q) hk.size
  clear hk hb hg CI HW HG
  go_wp2_with fail
  refine (unhide CO).mono ?_
  intro e w2 hm
  obtain ⟨m, rfl, h0, hs⟩ := made_has W (unhide HK) hm G (unhide HG1)
  have H0 : Hid (Has W w2 G m (iA n N)) := h0
  have SM2 : Hid (Same G w w2) := (unhide SM).trans hs
  clear hm h0 hs CO HK SM HG1
  go_wp2_with fail
  refine (ztable_any n (by omega) w2).mono ?_
  rintro e w3 ⟨rfl, hb⟩
  have O1 := hide ((Held.start (Has.stay W m (iA n N)) (unhide H0)).below (Has.stay W m (iA n N)) hb)
  clear hb H0
  go_wp2_with fail
  refine (zdir_any w3).mono ?_
  rintro e w4 ⟨rfl, hb⟩
  have O2 := hide ((unhide O1).below (Has.stay W m (iA n N)) hb)
  clear hb O1
  have CS := hide (sof_any (Has.memL W m) ((Has.stay W m (iA n N)).ls _ _ G (unhide O2).st (fun k hk => Or.inl hk)) 10 (tblF n) dirF (by show 10 ≤ N; omega) h2)
  have SM3 : Hid (Same G w w4) := (unhide SM2).trans (unhide O2).2.2
  have e0 : Hid (ofB (Fr.new 10 (iA n N).n) (tblF n) dirF = true) := ofB_tbl n N hn h1
  clear O2 SM2
  go_wp2_with fail
  refine (unhide CS).mono ?_
  intro e w5 hp
  unfold OfPost at hp
  rw [if_pos (unhide e0)] at hp
  obtain ⟨b, rfl, hs, hsm⟩ := hp
  have HS : Hid (SHas W m b (fun A w G => Has W w G m A) (sS n N) (iA n N) w5 G) := hs
  have SM4 : Hid (Same G w w5) := (unhide SM3).trans hsm
  clear hs hsm CS SM3 e0
  go_wp2_with fail
  refine (begin0_any w5).mono ?_
  rintro e w6 ⟨rfl, hb⟩
  have HS6 := (unhide HS).quiet (Has.memL W m) hb
  have CN := hide (wnew_any (Has.memL W m) HS6.1 1 17 0 1 0)
  have SM5 : Hid (Same G w w6) := (unhide SM4).trans HS6.2
  clear hb HS HS6 SM4
  go_wp2_with fail
  refine (unhide CN).mono ?_
  rintro e w7 ⟨x, rfl, hw, hsm⟩
  have HWK := hide hw
  have SM6 : Hid (Same G w w7) := (unhide SM5).trans hsm
  clear hw hsm CN SM5
  go_wp2_with fail
  go_ret3
  exact ⟨m, b, x, rfl, unhide HWK, unhide SM6⟩

end Go.Proofs.YtiafhcgaikapcaaGreat


/-
  What the statements change ahead of a checkpoint, and in between.
-/
namespace Go.Proofs.YtiafhcgaikapcaaGreat
open Go.ChangeShapes Go.WideShapes Go.ChangeAt Go.RowKit Go.Joins
set_option maxRecDepth 100000
set_option linter.unusedVariables false
set_option linter.unusedSimpArgs false

def chS (S : Sto) (A : Mm) (p : OOp) : Sto :=
  if kindN p.kind 4 < 2 then S.setS A (kindN p.id 20 : Nat) (kindN p.word 8 : Nat) p.v
  else if kindN p.kind 4 = 2 then S.makeS A (1 + (kindN p.word 2 : Nat) : Int) else S.endS (kindN p.id 20 : Nat)
def chM (S : Sto) (A : Mm) (p : OOp) : Mm :=
  if kindN p.kind 4 < 2 then S.setM A (kindN p.id 20 : Nat) (kindN p.word 8 : Nat) p.v
  else if kindN p.kind 4 = 2 then S.makeM A (1 + (kindN p.word 2 : Nat) : Int) else A

set_option maxHeartbeats 8000000 in
theorem change_any {W w : World} {m b : Nat} {St : Mm → World → (Nat → Prop) → Prop} {S : Sto} {A : Mm} {G : Nat → Prop} (M : MemL W m St) (h : SHas W m b St S A w G) (hS : S.ok) (hA : A.ok 800) (kd id wd v : Int) (hp : In64 kd ∧ In64 id ∧ In64 wd ∧ InU v) :
    Calls Tryz.prog 41 #[.pointer (some ⟨b, 0, none⟩), .agg #[.int .i64 kd, .int .i64 id, .int .i64 wd, .int .u64 v]] w (Done (SHas W m b St (chS S A ⟨kd, id, wd, v⟩) (chM S A ⟨kd, id, wd, v⟩)) w G (.tuple #[])) := by
  obtain ⟨p1, p2, p3, p4⟩ := hp
  have T0 := hide (SHas.stay M b S A)
  have O0 := hide ((Held.start (unhide T0) h).alloc (unhide T0) (.cells #[.int .i64 kd, .int .i64 id, .int .i64 wd, .int .u64 v] 54))
  have C4 := hide (zkind_any kd p1 4 (by decide) (by decide))
  have CC : Hid (∀ {g : Nat} (w' : World), w'.heap[g]? = some (.cells #[.int .i64 kd, .int .i64 id, .int .i64 wd, .int .u64 v] 54 (0, 0)) → w'.cell? ⟨g, 0, none⟩ = some (.int .i64 kd) ∧ w'.cell? ⟨g, 1, none⟩ = some (.int .i64 id) ∧ w'.cell? ⟨g, 2, none⟩ = some (.int .i64 wd) ∧ w'.cell? ⟨g, 3, none⟩ = some (.int .u64 v)) := fun w' h => by
    refine ⟨?_, ?_, ?_, ?_⟩ <;> rw [cell_of_block h] <;> rfl
  have k4 := kindN_lt kd 4 (by decide)
  have eS : Hid (chS S A ⟨kd, id, wd, v⟩ = if kindN kd 4 < 2 then S.setS A (kindN id 20 : Nat) (kindN wd 8 : Nat) v else if kindN kd 4 = 2 then S.makeS A (1 + (kindN wd 2 : Nat) : Int) else S.endS (kindN id 20 : Nat)) := rfl
  have eM : Hid (chM S A ⟨kd, id, wd, v⟩ = if kindN kd 4 < 2 then S.setM A (kindN id 20 : Nat) (kindN wd 8 : Nat) v else if kindN kd 4 = 2 then S.makeM A (1 + (kindN wd 2 : Nat) : Int) else A) := rfl
  have CI := hide (zkind_any id p2 20 (by decide) (by decide))
  have CW := hide (zkind_any wd p3 8 (by decide) (by decide))
  have CW2 := hide (zkind_any wd p3 2 (by decide) (by decide))
  have CS := hide (fun (w' : World) (G' : Nat → Prop) (h' : SHas W m b St S A w' G') => set_any M h' hS hA (kindN id 20 : Nat) (kindN wd 8 : Nat) v p4)
  have CM := hide (fun (w' : World) (G' : Nat → Prop) (h' : SHas W m b St S A w' G') => make_any M h' hS (ok_mono hA (by omega)) (1 + (kindN wd 2 : Nat) : Int))
  have CE := hide (fun (w' : World) (G' : Nat → Prop) (h' : SHas W m b St S A w' G') => end_obj M h' hS (kindN id 20 : Nat))
  have l20 := kindN_lt id 20 (by decide)
  have l8 := kindN_lt wd 8 (by decide)
  have l2 := kindN_lt wd 2 (by decide)
  clear h hS hA p1 p2 p3 p4
  generalize chS S A ⟨kd, id, wd, v⟩ = S2 at *
  generalize chM S A ⟨kd, id, wd, v⟩ = A2 at *
  generalize kindN kd 4 = kk at *
  generalize kindN id 20 = ii at *
  generalize kindN wd 8 = ww at *
  generalize kindN wd 2 = uu at *
  generalize S.setE A (ii : Int) (ww : Int) v = ee at *
  generalize S.findE (ii : Int) = fe at *
  generalize S.makeI A (1 + (uu : Int)) = mi at *
  generalize S.makeE A (1 + (uu : Int)) = me at *
  by_cases h2 : kk < 2
  · rw [if_pos h2] at eS eM
    generalize S.setS A (ii : Int) (ww : Int) v = S3 at *
    generalize S.setM A (ii : Int) (ww : Int) v = A3 at *
    have hk : Hid (kk = 0 ∨ kk = 1) := by show _ ∨ _; omega
    have hd : ((kk : Int) == 0 || (kk : Int) == 1) = true := by
      rcases unhide hk with e | e <;> rw [e] <;> rfl
    go_enter Tryz.func41, Tryz.ntmps41
    go_upto_region 1 with fail
    obtain ⟨g, hg⟩ : ∃ g, g = w.heap.size := ⟨_, rfl⟩
    rw [← hg] at O0 ⊢
    clear hg
    generalize w.alloc (.cells #[.int .i64 kd, .int .i64 id, .int .i64 wd, .int .u64 v] 54) = w1 at *
    obtain ⟨c0, c1, c2, c3⟩ := unhide CC _ ((unhide O0).at g (.cells #[.int .i64 kd, .int .i64 id, .int .i64 wd, .int .u64 v] 54) (by simp))
    go_wp2_with fail
    refine (unhide C4 _).mono ?_
    rintro e w1 ⟨rfl, rfl⟩
    clear C4
    rcases unhide hk with e | e
    · subst e
      go_upto_region 4 with fail
      have O1 := hide ((unhide O0).drew (unhide T0))
      refine wp_region_noPanic ?_
      refine wp_region_held_drew (S := fun w' => w'.cell? ⟨g, 1, none⟩ = some (.int .i64 id) ∧ w'.cell? ⟨g, 2, none⟩ = some (.int .i64 wd) ∧ w'.cell? ⟨g, 3, none⟩ = some (.int .u64 v)) (by kernel_rfl) ⟨c1, c2, c3⟩ (fun hHeld => ?_)
      clear O0 c0 c1 c2 c3
      generalize w1.drew = w2 at *
      refine take_at 0 10 (v := ?_) rfl rfl (by kernel_rfl) (by kernel_rfl) (by kernel_rfl) (Or.inl ⟨by rfl, ?_⟩) hHeld ?_
      rotate_left
      · intro w hSw; go_simp; with_reducible rfl
      simp only [Act.put, List.setIfInBounds_toArray, List.set_cons_zero, List.set_cons_succ]
      refine take_at 1 11 (v := ?_) rfl rfl (by kernel_rfl) (by kernel_rfl) (by kernel_rfl) (Or.inl ⟨by rfl, ?_⟩) hHeld ?_
      rotate_left
      · intro w hSw; go_simp; with_reducible rfl
      simp only [Act.put, List.setIfInBounds_toArray, List.set_cons_zero, List.set_cons_succ]
      refine take_at 2 12 (v := ?_) rfl rfl (by kernel_rfl) (by kernel_rfl) (by kernel_rfl) (Or.inl ⟨by rfl, ?_⟩) hHeld ?_
      rotate_left
      · intro w hSw; have c := hSw.1; go_simp; with_reducible rfl
      simp only [Act.put, List.setIfInBounds_toArray, List.set_cons_zero, List.set_cons_succ]
      refine take_at 4 14 (v := ?_) rfl rfl (by kernel_rfl) (by kernel_rfl) (by kernel_rfl) (Or.inl ⟨by rfl, ?_⟩) hHeld ?_
      rotate_left
      · intro w hSw; go_simp; with_reducible rfl
      simp only [Act.put, List.setIfInBounds_toArray, List.set_cons_zero, List.set_cons_succ]
      refine take_at 5 15 (v := ?_) rfl rfl (by kernel_rfl) (by kernel_rfl) (by kernel_rfl) (Or.inl ⟨by rfl, ?_⟩) hHeld ?_
      rotate_left
      · intro w hSw; have c := hSw.2.1; go_simp; with_reducible rfl
      simp only [Act.put, List.setIfInBounds_toArray, List.set_cons_zero, List.set_cons_succ]
      refine take_at 7 17 (v := ?_) rfl rfl (by kernel_rfl) (by kernel_rfl) (by kernel_rfl) (Or.inl ⟨by rfl, ?_⟩) hHeld ?_
      rotate_left
      · intro w hSw; go_simp; with_reducible rfl
      simp only [Act.put, List.setIfInBounds_toArray, List.set_cons_zero, List.set_cons_succ]
      refine take_at 8 18 (v := ?_) rfl rfl (by kernel_rfl) (by kernel_rfl) (by kernel_rfl) (Or.inl ⟨by rfl, ?_⟩) hHeld ?_
      rotate_left
      · intro w hSw; have c := hSw.2.2; go_simp; with_reducible rfl
      simp only [Act.put, List.setIfInBounds_toArray, List.set_cons_zero, List.set_cons_succ]
      refine wpAnyH_ready (rs := [3]) (by kernel_rfl) (by simp) ?_
      refine AllReadyH.cons rfl (fun K2 hK => ?_) AllReadyH.nil
      go_simp
      refine (unhide CI _).mono ?_
      rintro e w2 ⟨rfl, rfl⟩
      go_wp2_with fail
      refine hK.out _ _ hHeld (fun hNew => ?_)
      clear hK K2 hNew
      refine wpAnyH_ready (rs := [6]) (by kernel_rfl) (by simp) ?_
      refine AllReadyH.cons rfl (fun K2 hK => ?_) AllReadyH.nil
      go_simp
      refine (unhide CW _).mono ?_
      rintro e w2 ⟨rfl, rfl⟩
      go_wp2_with fail
      refine hK.out _ _ hHeld (fun hNew => ?_)
      clear hK K2 hNew
      refine wpAnyH_ready (rs := [9]) (by kernel_rfl) (by simp) ?_
      refine AllReadyH.cons rfl (fun K2 hK => ?_) AllReadyH.nil
      go_simp
      refine (unhide CS _ _ (unhide O1).st).mono ?_
      rintro e w3 ⟨rfl, q1, q2⟩
      have O2 := hide ((unhide O1).call (St' := SHas W m b St S3 A3) q1 q2)
      clear q1 q2 O1
      have B3 := unhide CC _ ((unhide O2).at g (.cells #[.int .i64 kd, .int .i64 id, .int .i64 wd, .int .u64 v] 54) (by simp))
      go_wp2_with fail
      refine hK.out _ _ ⟨B3.2.1, B3.2.2.1, B3.2.2.2⟩ (fun hNew => ?_)
      clear hK K2 hNew hHeld
      refine wpAnyH_done (by kernel_rfl) ?_ _
      refine NoPanic.normal ?_
      go_wp2_with fail
      go_end0
      rw [unhide eS, unhide eM]
      exact (unhide O2).done (SHas.stay M b S3 A3) _
    · subst e
      go_upto_region 4 with fail
      have O1 := hide ((unhide O0).drew (unhide T0))
      refine wp_region_noPanic ?_
      refine wp_region_held_drew (S := fun w' => w'.cell? ⟨g, 1, none⟩ = some (.int .i64 id) ∧ w'.cell? ⟨g, 2, none⟩ = some (.int .i64 wd) ∧ w'.cell? ⟨g, 3, none⟩ = some (.int .u64 v)) (by kernel_rfl) ⟨c1, c2, c3⟩ (fun hHeld => ?_)
      clear O0 c0 c1 c2 c3
      generalize w1.drew = w2 at *
      refine take_at 0 10 (v := ?_) rfl rfl (by kernel_rfl) (by kernel_rfl) (by kernel_rfl) (Or.inl ⟨by rfl, ?_⟩) hHeld ?_
      rotate_left
      · intro w hSw; go_simp; with_reducible rfl
      simp only [Act.put, List.setIfInBounds_toArray, List.set_cons_zero, List.set_cons_succ]
      refine take_at 1 11 (v := ?_) rfl rfl (by kernel_rfl) (by kernel_rfl) (by kernel_rfl) (Or.inl ⟨by rfl, ?_⟩) hHeld ?_
      rotate_left
      · intro w hSw; go_simp; with_reducible rfl
      simp only [Act.put, List.setIfInBounds_toArray, List.set_cons_zero, List.set_cons_succ]
      refine take_at 2 12 (v := ?_) rfl rfl (by kernel_rfl) (by kernel_rfl) (by kernel_rfl) (Or.inl ⟨by rfl, ?_⟩) hHeld ?_
      rotate_left
      · intro w hSw; have c := hSw.1; go_simp; with_reducible rfl
      simp only [Act.put, List.setIfInBounds_toArray, List.set_cons_zero, List.set_cons_succ]
      refine take_at 4 14 (v := ?_) rfl rfl (by kernel_rfl) (by kernel_rfl) (by kernel_rfl) (Or.inl ⟨by rfl, ?_⟩) hHeld ?_
      rotate_left
      · intro w hSw; go_simp; with_reducible rfl
      simp only [Act.put, List.setIfInBounds_toArray, List.set_cons_zero, List.set_cons_succ]
      refine take_at 5 15 (v := ?_) rfl rfl (by kernel_rfl) (by kernel_rfl) (by kernel_rfl) (Or.inl ⟨by rfl, ?_⟩) hHeld ?_
      rotate_left
      · intro w hSw; have c := hSw.2.1; go_simp; with_reducible rfl
      simp only [Act.put, List.setIfInBounds_toArray, List.set_cons_zero, List.set_cons_succ]
      refine take_at 7 17 (v := ?_) rfl rfl (by kernel_rfl) (by kernel_rfl) (by kernel_rfl) (Or.inl ⟨by rfl, ?_⟩) hHeld ?_
      rotate_left
      · intro w hSw; go_simp; with_reducible rfl
      simp only [Act.put, List.setIfInBounds_toArray, List.set_cons_zero, List.set_cons_succ]
      refine take_at 8 18 (v := ?_) rfl rfl (by kernel_rfl) (by kernel_rfl) (by kernel_rfl) (Or.inl ⟨by rfl, ?_⟩) hHeld ?_
      rotate_left
      · intro w hSw; have c := hSw.2.2; go_simp; with_reducible rfl
      simp only [Act.put, List.setIfInBounds_toArray, List.set_cons_zero, List.set_cons_succ]
      refine wpAnyH_ready (rs := [3]) (by kernel_rfl) (by simp) ?_
      refine AllReadyH.cons rfl (fun K2 hK => ?_) AllReadyH.nil
      go_simp
      refine (unhide CI _).mono ?_
      rintro e w2 ⟨rfl, rfl⟩
      go_wp2_with fail
      refine hK.out _ _ hHeld (fun hNew => ?_)
      clear hK K2 hNew
      refine wpAnyH_ready (rs := [6]) (by kernel_rfl) (by simp) ?_
      refine AllReadyH.cons rfl (fun K2 hK => ?_) AllReadyH.nil
      go_simp
      refine (unhide CW _).mono ?_
      rintro e w2 ⟨rfl, rfl⟩
      go_wp2_with fail
      refine hK.out _ _ hHeld (fun hNew => ?_)
      clear hK K2 hNew
      refine wpAnyH_ready (rs := [9]) (by kernel_rfl) (by simp) ?_
      refine AllReadyH.cons rfl (fun K2 hK => ?_) AllReadyH.nil
      go_simp
      refine (unhide CS _ _ (unhide O1).st).mono ?_
      rintro e w3 ⟨rfl, q1, q2⟩
      have O2 := hide ((unhide O1).call (St' := SHas W m b St S3 A3) q1 q2)
      clear q1 q2 O1
      have B3 := unhide CC _ ((unhide O2).at g (.cells #[.int .i64 kd, .int .i64 id, .int .i64 wd, .int .u64 v] 54) (by simp))
      go_wp2_with fail
      refine hK.out _ _ ⟨B3.2.1, B3.2.2.1, B3.2.2.2⟩ (fun hNew => ?_)
      clear hK K2 hNew hHeld
      refine wpAnyH_done (by kernel_rfl) ?_ _
      refine NoPanic.normal ?_
      go_wp2_with fail
      go_end0
      rw [unhide eS, unhide eM]
      exact (unhide O2).done (SHas.stay M b S3 A3) _
  · rw [if_neg h2] at eS eM
    by_cases h3 : kk = 2
    · rw [if_pos h3] at eS eM
      subst h3
      generalize S.makeS A (1 + (uu : Int)) = S3 at *
      generalize S.makeM A (1 + (uu : Int)) = A3 at *
      go_enter Tryz.func41, Tryz.ntmps41
      go_upto_region 1 with fail
      obtain ⟨g, hg⟩ : ∃ g, g = w.heap.size := ⟨_, rfl⟩
      rw [← hg] at O0 ⊢
      clear hg
      generalize w.alloc (.cells #[.int .i64 kd, .int .i64 id, .int .i64 wd, .int .u64 v] 54) = w1 at *
      obtain ⟨c0, c1, c2, c3⟩ := unhide CC _ ((unhide O0).at g (.cells #[.int .i64 kd, .int .i64 id, .int .i64 wd, .int .u64 v] 54) (by simp))
      go_wp2_with fail
      refine (unhide C4 _).mono ?_
      rintro e w1 ⟨rfl, rfl⟩
      clear C4
      clear c0 c1 c3
      go_wp2_with fail
      refine (unhide CW2 _).mono ?_
      rintro e w1 ⟨rfl, rfl⟩
      go_wp2_with fail
      refine (unhide CM _ _ (unhide O0).st).mono ?_
      rintro e w2 ⟨rfl, q1, q2⟩
      have O1 := hide ((unhide O0).call (St' := SHas W m b St S3 A3) q1 q2)
      clear q1 q2 c2 O0
      go_wp2_with fail
      go_end0
      rw [unhide eS, unhide eM]
      exact (unhide O1).done (SHas.stay M b S3 A3) _
    · rw [if_neg h3] at eS eM
      have h4 : kk = 3 := by omega
      subst h4
      generalize S.endS (ii : Int) = S3 at *
      go_enter Tryz.func41, Tryz.ntmps41
      go_upto_region 1 with fail
      obtain ⟨g, hg⟩ : ∃ g, g = w.heap.size := ⟨_, rfl⟩
      rw [← hg] at O0 ⊢
      clear hg
      generalize w.alloc (.cells #[.int .i64 kd, .int .i64 id, .int .i64 wd, .int .u64 v] 54) = w1 at *
      obtain ⟨c0, c1, c2, c3⟩ := unhide CC _ ((unhide O0).at g (.cells #[.int .i64 kd, .int .i64 id, .int .i64 wd, .int .u64 v] 54) (by simp))
      go_wp2_with fail
      refine (unhide C4 _).mono ?_
      rintro e w1 ⟨rfl, rfl⟩
      clear C4
      clear c0 c2 c3
      go_wp2_with fail
      refine (unhide CI _).mono ?_
      rintro e w1 ⟨rfl, rfl⟩
      go_wp2_with fail
      refine (unhide CE _ _ (unhide O0).st).mono ?_
      rintro e w2 ⟨rfl, q1, q2⟩
      have O1 := hide ((unhide O0).call (St' := SHas W m b St S3 A) q1 q2)
      clear q1 q2 c1 O0
      go_wp2_with fail
      go_end0
      rw [unhide eS, unhide eM]
      exact (unhide O1).done (SHas.stay M b S3 A) _

end Go.Proofs.YtiafhcgaikapcaaGreat
