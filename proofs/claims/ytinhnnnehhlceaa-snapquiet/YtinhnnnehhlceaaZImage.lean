
/-
  The lines that steadfastlaw11's statements begin with: a directory's, from the line 10 on.
-/
import Derived.Test.YtinhnnnehhlceaaZLaw
import Derived.Test.YtinhnnnehhlceaaZMath
import Derived.Test.YtinhnnnehhlceaaPkIv
import Derived.Test.YtinhnnnehhlceaaXRLeaf
import Derived.Test.YtinhnnnehhlceaaXRRoot
import Derived.Test.YtinhnnnehhlceaaNLines
import Derived.OwnWalk
namespace Go.Proofs.Ytinhnnnehhlceaa
open Go.ChangeShapes Go.WideShapes Go.ChangeAt Go.RowKit Go.Joins
set_option maxRecDepth 100000
set_option linter.unusedVariables false
set_option linter.unusedSimpArgs false

/-- No state at all: what is there stays. -/
def NoSt (W w : World) (G : Nat → Prop) : Prop := Keeps (fun _ => False) W w ∧ ∀ k, G k → k < w.heap.size
theorem NoSt.stay (W : World) : Stay W (NoSt W) where
  al := fun w G o h => ⟨h.1.alloc _, fun k hk => by
    have hs : (w.alloc o).heap.size = w.heap.size + 1 := by simp
    rcases hk with hk | hk
    · have := h.2 k hk; omega
    · omega⟩
  ls := fun w G G' h hs => ⟨h.1, fun k hk => h.2 k (hs k hk)⟩
  bl := fun w w' G h hk => ⟨h.1.trans' hk, fun k hk' => Nat.lt_of_lt_of_le (h.2 k hk') hk.size⟩
  ow := fun w w' G L h hL hW hk => ⟨⟨hk.os.trans h.1.os, hk.tape.trans h.1.tape, hk.output.trans h.1.output, Nat.le_trans h.1.size hk.size, fun k hk' _ => (hk.block k (Nat.lt_of_lt_of_le hk' h.1.size) (fun e => by subst e; omega)).trans (h.1.block k hk' id)⟩, fun k hk' => Nat.lt_of_lt_of_le (h.2 k hk') hk.size⟩
  lt := fun w G h => h.2
  sz := fun w G h => h.1

/-! ### the row of lines -/
def kV (N : Nat) (K : Nat → Nat → Int) : Array Value := tab (N * 8) fun c => .int .u64 (K (c / 8) (c % 8))
/-- The image of n objects: leaves in the lines 10 to 16, the root in 17. -/
def lfI (n k : Nat) : List Int := leafKV (rowE 49 (tblF n)) (k : Int)
def rtI : List Int := rootV (tab7 dirF)
def sI (n : Nat) (i j : Nat) : Int := if 10 ≤ i ∧ i < 17 then (lfI n (i - 10)).getD j 0 else if i = 17 then rtI.getD j 0 else 0
def imgTo (n k : Nat) (i j : Nat) : Int := if 10 ≤ i ∧ i < 10 + k then (lfI n (i - 10)).getD j 0 else 0
theorem kV_ext {N : Nat} {K K' : Nat → Nat → Int} (h : ∀ i j, i < N → j < 8 → K i j = K' i j) : kV N K = kV N K' := by
  unfold kV
  refine tab_ext fun c hc => ?_
  rw [h _ _ (by omega) (by omega)]
theorem kV_put {w : World} {g N : Nat} {T : TypeId} {K : Nat → Nat → Int} {k : Nat} (l : List Int) (hl : l.length = 8) (hk : k < N) (h : w.heap[g]? = some (.cells (kV N K) T (0, 0))) :
    (w.setCells g (k * 8) (iv .u64 l).toList).heap[g]? = some (.cells (kV N (fun i j => if i = k then l.getD j 0 else K i j)) T (0, 0)) := by
  rw [block_sets _ _ _ _ h]
  congr 2
  refine tab_ext fun c hc => ?_
  rw [Array.length_toList, iv_size, hl]
  show _ = Value.int .u64 (if c / 8 = k then l.getD (c % 8) 0 else K (c / 8) (c % 8))
  by_cases e : k * 8 ≤ c ∧ c < k * 8 + 8
  · rw [if_pos e, if_pos (show c / 8 = k by omega), List.getD_eq_getElem?_getD]
    have h8 : c % 8 = c - k * 8 := by omega
    rw [h8]
    have hlt : c - k * 8 < l.length := by omega
    simp [iv, hlt]
  · rw [if_neg e, if_neg (show ¬ c / 8 = k by omega)]
theorem kV_there {w : World} {g N : Nat} {T : TypeId} {K : Nat → Nat → Int} {k : Nat} (hk : k < N) (h : w.heap[g]? = some (.cells (kV N K) T (0, 0))) : w.there g (k * 8) 8 := (Blk.of_tab (T := T) h).there _ _ (by omega)
theorem kV_range {w : World} {g N : Nat} {T : TypeId} {K : Nat → Nat → Int} {k : Nat} (hk : k < N) (h : w.heap[g]? = some (.cells (kV N K) T (0, 0))) : w.rangeAt g (k * 8) ((List.range 8).map fun j => .int .u64 (K k j)) :=
  (Blk.of_tab (T := T) h).range (k * 8) 8 (by omega) (fun q => .int .u64 (K k q)) (fun j hj => by
    show Value.int .u64 (K ((k * 8 + j) / 8) ((k * 8 + j) % 8)) = _
    rw [show (k * 8 + j) / 8 = k by omega, show (k * 8 + j) % 8 = j by omega])
theorem made_kV {w : World} {base g N : Nat} {T : TypeId} (h : w.ownsRow base T 8 (.slice (some ⟨g, 0, none⟩) N N) N (madeCells (Value.agg (lnV fun _ => 0)).cells (N * 8)).toList) :
    w.heap[g]? = some (.cells (kV N fun _ _ => 0) T (0, 0)) := by
  rcases h.2 with ⟨h', _⟩ | ⟨g', cap, cur, h', _, hg, _, _, hcs, htake⟩
  · simp at h'
  · simp only [Value.slice.injEq, Option.some.injEq, Addr.mk.injEq, and_true, true_and] at h'
    obtain ⟨rfl, rfl⟩ := h'
    have hcur : cur = kV N fun _ _ => 0 := by
      rw [List.take_of_length_le (by simp [hcs])] at htake
      have h2 : cur = madeCells (Value.agg (lnV fun _ => 0)).cells (N * 8) := by rw [← Array.toArray_toList (xs := cur), htake, Array.toArray_toList]
      rw [h2]
      apply Array.ext_getElem?
      intro i
      by_cases hi : i < N * 8
      · unfold kV
        rw [tab_get _ _ _ hi]
        simp only [madeCells, Array.getElem?_map, Array.getElem?_range, hi, if_true, Option.map_some]
        show some ((lnV fun _ => 0)[i % (lnV fun _ => 0).size]!) = _
        rw [lnV_size]
        have := tab_get 8 (fun _ => Value.int .u64 0) (i % 8) (Nat.mod_lt _ (by decide))
        rw [getElem!_def, show (lnV fun _ => 0)[i % 8]? = _ from this]
      · unfold kV
        rw [tab_none _ _ _ (by omega), Array.getElem?_eq_none (by rw [size_madeCells]; omega)]
    rw [← hcur]; exact hg
theorem imgTo_next (n k : Nat) : (fun i j => if i = 10 + k then (lfI n k).getD j 0 else imgTo n k i j) = imgTo n (k + 1) := by
  funext i j
  unfold imgTo
  by_cases e : i = 10 + k
  · rw [if_pos e, if_pos (by omega), show i - 10 = k by omega]
  · rw [if_neg e]
    by_cases h : 10 ≤ i ∧ i < 10 + k
    · rw [if_pos h, if_pos (by omega)]
    · rw [if_neg h, if_neg (by omega)]
theorem imgTo_zero (n : Nat) : (fun _ _ => (0 : Int)) = imgTo n 0 := by
  funext i j; unfold imgTo; rw [if_neg (by omega)]
theorem imgTo_root (n : Nat) : (fun i j => if i = 17 then rtI.getD j 0 else imgTo n 7 i j) = sI n := by
  funext i j
  unfold imgTo sI
  by_cases e : i = 17
  · rw [if_pos e, if_neg (by omega), if_pos e]
  · rw [if_neg e]
    by_cases h : 10 ≤ i ∧ i < 17
    · rw [if_pos (by omega), if_pos h]
    · rw [if_neg (by omega), if_neg h, if_neg e]
theorem lfI_len (n k : Nat) : (lfI n k).length = 8 := leafKV_len _ _
theorem rtI_len : rtI.length = 8 := rootV_len _
theorem sI_in (n i j : Nat) : InU (sI n i j) := by
  unfold sI
  split
  · exact getD_inU (leafKV_wf _ _) j
  · split
    · exact getD_inU (rootV_wf _) j
    · exact ⟨by decide, by decide⟩
theorem zero_7z : (Try.prog.info? 102).map (·.zero) = some (some (.agg (iv .i64 zs7))) := by kernel_rfl
theorem info_linez : (Try.prog.info? 54).map (fun i => (i.zero, i.size, i.bytes)) = some (some (.agg (lnV fun _ => 0)), 8, 64) := by kernel_rfl

set_option maxHeartbeats 8000000 in
theorem image_any (N n : Nat) (h1 : 64 ≤ N) (h2 : N ≤ 1024) (hn : n ≤ 49) (w : World) :
    Calls Try.prog 20 #[.int .i64 (N : Int), .int .i64 (n : Int)] w fun e w' => ∃ g, e = .returned (.slice (some ⟨g, 0, none⟩) N N) ∧ Keeps (fun _ => False) w w' ∧ w'.heap[g]? = some (.cells (kV N (sI n)) 54 (0, 0)) ∧ w.heap.size ≤ g := by
  have T0 := hide (NoSt.stay w)
  have N0 : Hid (NoSt w w (fun _ => False)) := ⟨Keeps.refl _ _, fun _ h => h.elim⟩
  go_enter Try.func20, Try.ntmps20
  obtain ⟨i0, hi, hz0, hz1, hz2⟩ := info_parts info_linez
  go_upto_region 2 with (at_make; refine wpList_make_full _ rfl _ _ 66 rfl w.heap.size 54 i0 _ 8 Try.underlying66 hi hz0 hz1 .i64 .i64 _ _ N rfl rfl rfl rfl (by rw [hz2]; omega) (by unfold maxLen; omega) (Nat.le_refl _) ?_; intro w1 hown hgrow)
  have O0 := hide (((Held.start (unhide T0) (unhide N0)).alloc (unhide T0) (.cells (kV N fun _ _ => 0) 54)).keeps (unhide T0) (keeps_made (Keeps.grown (Keeps.refl _ _) hgrow (fun k hk => by simp at hk)) (made_kV hown)))
  clear hown hgrow i0 hi hz0 hz1 hz2 N0
  rw [imgTo_zero n] at O0
  obtain ⟨gk, hgk⟩ : ∃ gk, gk = w.heap.size := ⟨_, rfl⟩
  have HGK : Hid (w.heap.size ≤ gk) := by show _ ≤ _; omega
  rw [← hgk] at O0 ⊢
  clear hgk
  have st := s147_tab9 (tblF n)
  have Zt := hide zero_tab9
  have Xt := hide (tabV_one (tblF n))
  have SZt : Hid ((tabV (tblF 0)).size = (tabV (tblF n)).size) := by show _ = _; rw [tabV_size, tabV_size]
  have CR := hide (fun (k : Nat) w' => rleaf_any (rowE 49 (tblF n)) (rowE_len _ _) (k : Int) w')
  have eT : iv .i64 (rowE 49 (tblF n)) = tabV (tblF n) := rfl
  rw [eT] at CR
  have CTb := hide (ztable_any n hn w1)
  generalize tabV (tblF 0) = ZT at *
  generalize tabV (tblF n) = TV at *
  clear eT
  go_wp2_with fail
  refine (unhide CTb).mono ?_
  rintro e w2 ⟨rfl, hb⟩
  have O0b := hide ((unhide O0).below (unhide T0) hb)
  have h6 : gk < w2.heap.size := (unhide O0b).lt (gk, _) List.mem_cons_self
  have O1 := hide ((unhide O0b).alloc (unhide T0) (.cells TV 40))
  clear hb O0 CTb O0b
  go_upto_region 3 with (first | (with_reducible refine wpList_allocZ (by with_unfolding_all rfl) 40 (by with_unfolding_all rfl) ZT (unhide Zt) ?_) | (with_reducible refine wpList_store_row (by with_unfolding_all rfl) 40 _ _ (by with_unfolding_all rfl) w2.heap.size TV (by with_unfolding_all rfl) (by with_unfolding_all rfl) 40 ZT (heap_new w2 _) st (unhide SZt) (unhide Xt) ?_; rw [setRow_alloc]))
  obtain ⟨g6, hg6⟩ : ∃ g6, g6 = w2.heap.size := ⟨_, rfl⟩
  rw [← hg6] at O1 h6 ⊢
  clear hg6
  generalize w2.alloc (.cells TV 40) = w3 at *
  have h7 : g6 < w3.heap.size := (unhide O1).lt (g6, _) List.mem_cons_self
  have Z7 := hide zero_7z
  have B7 := hide build7x
  have s7 := s7_of zs7 rfl
  have X7 := hide (iv_one .i64 zs7)
  have SZ7 : Hid ((iv .i64 zs7).size = (iv .i64 zs7).size) := rfl
  have O2 := hide ((unhide O1).alloc (unhide T0) (.cells (iv .i64 zs7) 102))
  have hz7 : zs7 = tab7 fun i => if i < 0 then (10 : Int) + i else 0 := (tab7_zero fun i => (10 : Int) + i).symm
  have HZ7 := hide hz7
  clear hz7 O1
  generalize hZV : iv .i64 zs7 = ZV at *
  go_upto_region 5 with (first | (with_reducible refine wpList_build0 (by with_unfolding_all rfl) 102 (by with_unfolding_all rfl) ZV (unhide B7) ?_) | (with_reducible refine wpList_allocZ (by with_unfolding_all rfl) 102 (by with_unfolding_all rfl) ZV (unhide Z7) ?_) | (with_reducible refine wpList_store_row (by with_unfolding_all rfl) 102 _ _ (by with_unfolding_all rfl) w3.heap.size ZV (by with_unfolding_all rfl) (by with_unfolding_all rfl) 102 ZV (heap_new w3 _) s7 rfl (unhide X7) ?_; rw [setRow_alloc]))
  clear Z7 B7 X7 SZ7 s7 Zt Xt SZt
  obtain ⟨g7, hg7⟩ : ∃ g7, g7 = w3.heap.size := ⟨_, rfl⟩
  rw [← hg7] at O2 h7 ⊢
  clear hg7
  generalize w3.alloc (.cells ZV 102) = w4 at *
  rw [← hZV, unhide HZ7] at O2
  clear hZV HZ7
  go_wp2_with fail
  go_loopw [8] (fun q wr => ∃ j : Nat, j ≤ 7 ∧ q = .int .i64 j ∧ Held w (NoSt w) w wr (fun _ => False) [(g7, .cells (iv .i64 (tab7 fun i => if i < j then (10 : Int) + i else 0)) 102), (g6, .cells TV 40), (gk, .cells (kV N (imgTo n j)) 54)]) (fun q _ => 7 - (intOf q).toNat)
  case atStart => exact ⟨0, by omega, rfl, unhide O2⟩
  case round =>
    clear O2
    obtain ⟨j, hj, rfl, hh⟩ := hrel
    have HH := hide hh
    clear hh
    by_cases hlt : j < 7
    · have hlt7 : (j : Int) < 7 := by omega
      have K6 := hide ((unhide HH).at g6 (.cells TV 40) (by simp))
      obtain ⟨kk, hkk⟩ : ∃ kk, kk = 10 + j := ⟨_, rfl⟩
      have E10 : Hid ((10 : Int) + (j : Int) = (kk : Int)) := by show _ = _; omega
      have CRj := hide (unhide CR j)
      have NX : Hid ((fun i q => if i = kk then (lfI n j).getD q 0 else imgTo n j i q) = imgTo n (j + 1)) := by show _ = _; rw [hkk]; exact imgTo_next n j
      have hlen := lfI_len n j
      have hkN : kk < N := by omega
      have eL : leafKV (rowE 49 (tblF n)) (j : Int) = lfI n j := rfl
      rw [eL] at CRj
      clear eL hkk
      have s8 := s8_of (lfI n j) hlen
      have X8 := hide (iv_one .u64 (lfI n j))
      have z8 : (iv .u64 (lfI n j)).size = 8 := by rw [iv_size, hlen]
      have KP := hide (fun (w' : World) (h : w'.heap[gk]? = some (.cells (kV N (imgTo n j)) 54 (0, 0))) => kV_put (lfI n j) hlen hkN h)
      rw [unhide NX] at KP
      generalize iv .u64 (lfI n j) = LV at *
      generalize leafKE (rowE 49 (tblF n)) (j : Int) = er at *
      go_wp2_with (with_reducible refine wpList_load_row (by with_unfolding_all rfl) 40 _ (by with_unfolding_all rfl) g6 (by with_unfolding_all rfl) _ _ _ _ (unhide K6) Try.underlying40 (by with_unfolding_all rfl) st ?_)
      refine (unhide CRj _).mono ?_
      rintro e w5 ⟨rfl, hb⟩
      rw [unhide E10]
      have O3 := hide ((unhide HH).below (unhide T0) hb)
      clear hb HH K6 CRj E10
      have bk := (unhide O3).at gk (.cells (kV N (imgTo n j)) 54) (by simp)
      have TB : Hid (w5.there gk (kk * 8) LV.size) := by rw [z8]; exact kV_there hkN bk
      have O4 := hide ((unhide O3).turnOwn (unhide T0) gk (.cells (kV N (imgTo n j)) 54) _ (by simp) (keeps_sets LV.toList (kk * 8) _ _ (Keeps.refl _ _)) (unhide KP _ bk))
      clear bk KP
      have hkz : (kk : Int) < (N : Int) := by omega
      go_upto_region 8 with (with_reducible refine wpList_store_mid (by with_unfolding_all rfl) 54 _ _ (by with_unfolding_all rfl) gk (kk * 8) LV (by with_unfolding_all rfl) (by with_unfolding_all rfl) (unhide TB) s8 (unhide X8) ?_)
      have O5 := hide ((unhide O4).less (unhide T0) (L' := [(g7, .cells (iv .i64 (tab7 fun i => if i < j then (10 : Int) + i else 0)) 102), (g6, .cells TV 40), (gk, .cells (kV N (imgTo n (j + 1))) 54)]) (fun p hp => by
        rcases List.mem_cons.1 hp with rfl | hp
        · exact List.mem_cons_of_mem _ (List.mem_filter.2 ⟨List.mem_cons_self, by simp; omega⟩)
        · rcases List.mem_cons.1 hp with rfl | hp
          · exact List.mem_cons_of_mem _ (List.mem_filter.2 ⟨by simp, by simp; omega⟩)
          · rcases List.mem_cons.1 hp with rfl | hp
            · exact List.mem_cons_self
            · cases hp))
      clear O3 O4 TB s8 X8
      generalize w5.setCells gk (kk * 8) LV.toList = w6 at *
      have b7 := (unhide O5).at g7 (.cells (iv .i64 (tab7 fun i => if i < j then (10 : Int) + i else 0)) 102) (by simp)
      have f7 : w6.frozen? ⟨g7, j, none⟩ = false := unfrozen_of_block b7 j
      obtain ⟨old, c7⟩ : ∃ old : Int, w6.cell? ⟨g7, j, none⟩ = some (.int .i64 old) := ⟨(tab7 fun i => if i < j then (10 : Int) + i else 0).getD j 0, by
        rw [cell_of_block b7]
        have hl7 : j < (tab7 fun i => if i < j then (10 : Int) + i else 0).length := by rw [tab7_len]; exact hlt
        simp [iv, hl7]⟩
      have O6 := hide ((unhide O5).cellHd (unhide T0) (by simp; omega) j (.int .i64 (10 + (j : Int))))
      rw [iv_set, tab7_set (fun i => (10 : Int) + i) j hlt] at O6
      clear b7 O5
      go_wp2_with fail
      go_roundw
      case rel => exact ⟨j + 1, by omega, by go_num, unhide O6⟩
      case measure => simp [intOf]; omega
    · have ej : j = 7 := by omega
      have hge : ¬ ((j : Int) < 7) := by omega
      rw [ej] at HH
      have e7 : (tab7 fun i => if i < 7 then (10 : Int) + i else 0) = tab7 dirF := tab7_all fun i => (10 : Int) + i
      rw [e7] at HH
      have CRr := hide (fun w' => rroot_any (tab7 dirF) (tab7_len _) w')
      have NX : Hid ((fun i q => if i = 17 then rtI.getD q 0 else imgTo n 7 i q) = sI n) := imgTo_root n
      have hlen := rtI_len
      have eL : rootV (tab7 dirF) = rtI := rfl
      rw [eL] at CRr
      have s8 := s8_of rtI hlen
      have X8 := hide (iv_one .u64 rtI)
      have z8 : (iv .u64 rtI).size = 8 := by rw [iv_size, hlen]
      have KP := hide (fun (w' : World) (h : w'.heap[gk]? = some (.cells (kV N (imgTo n 7)) 54 (0, 0))) => kV_put rtI hlen (show 17 < N by omega) h)
      rw [unhide NX] at KP
      have s7l := s7_of (tab7 dirF) (tab7_len _)
      clear eL e7 ej hlt hlen NX
      generalize iv .u64 rtI = LV at *
      generalize rootE (tab7 dirF) = er at *
      generalize iv .i64 (tab7 dirF) = DV at *
      go_upto_region 9 with fail
      clear hge
      generalize (j : Int) = lastj at *
      have K7 := hide ((unhide HH).at g7 (.cells DV 102) (by simp))
      go_wp2_with (with_reducible refine wpList_load_row (by with_unfolding_all rfl) 102 _ (by with_unfolding_all rfl) g7 (by with_unfolding_all rfl) _ _ _ _ (unhide K7) Try.underlying102 (by with_unfolding_all rfl) s7l ?_)
      refine (unhide CRr _).mono ?_
      rintro e w5 ⟨rfl, hb⟩
      have O3 := hide ((unhide HH).below (unhide T0) hb)
      clear hb HH K7 CRr
      have bk := (unhide O3).at gk (.cells (kV N (imgTo n 7)) 54) (by simp)
      have TB : Hid (w5.there gk (17 * 8) LV.size) := by rw [z8]; exact kV_there (show 17 < N by omega) bk
      have O4 := hide (((unhide O3).turnOwn (unhide T0) gk (.cells (kV N (imgTo n 7)) 54) _ (by simp) (keeps_sets LV.toList (17 * 8) _ _ (Keeps.refl _ _)) (unhide KP _ bk)).less (unhide T0) (L' := [(gk, .cells (kV N (sI n)) 54)]) (by simp))
      clear bk KP O3
      have h17 : (17 : Int) < (N : Int) := by omega
      go_wp2_with (first | (with_reducible refine wpList_store_mid (by with_unfolding_all rfl) 54 _ _ (by with_unfolding_all rfl) gk (17 * 8) LV (by with_unfolding_all rfl) (by with_unfolding_all rfl) (unhide TB) s8 (unhide X8) ?_) | (with_reducible refine wpList_store_mid (by with_unfolding_all rfl) 54 _ _ (by with_unfolding_all rfl) gk 136 LV (by with_unfolding_all rfl) (by with_unfolding_all rfl) (unhide TB) s8 (unhide X8) ?_))
      go_ret
      exact ⟨gk, rfl, (unhide O4).1.1, (unhide O4).at gk _ List.mem_cons_self, unhide HGK⟩

end Go.Proofs.Ytinhnnnehhlceaa
