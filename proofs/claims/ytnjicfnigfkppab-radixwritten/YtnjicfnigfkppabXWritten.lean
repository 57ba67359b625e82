
/-
  For every kinds and versions of 49 objects, RadixWritten returns true and leaves its arguments as they were: a table whose leaves and root are written to lines of their own is loaded as it was. No condition.
-/
import Derived.Test.YtnjicfnigfkppabXWMath
import Derived.Test.YtnjicfnigfkppabXArgs
import Derived.Deep.Cut
namespace Go.Proofs.Ytnjicfnigfkppab.radixWritten
open Go.ChangeShapes Go.WideShapes Go.ChangeAt Go.RowKit Go.Joins Go.Deep
set_option linter.unusedVariables false
set_option linter.unusedSimpArgs false
set_option maxRecDepth 100000

def Is49 (t : List Int) : Prop := t.length = 49 ∧ ∀ z ∈ t, (Lit.int .i64 z).wf = true
theorem open_49 {H : Type} {enc : TypeId × Value → H} {W : World} {r : Reach} {b0 base : Nat} {sp : Nat → Bool} {hd : Bool} {v : Value} {d : DataW H} {p : List MemPlace}
    (hv : Value.okWide Try.prog W r b0 22 v) (h : DataW.Trod enc Try.prog W base sp hd 22 v d p) : ∃ zs : List Int, v = .agg (iv .i64 zs) ∧ Is49 zs := by
  obtain ⟨cs, rfl, hfit⟩ := flat_open 3 (ks := List.replicate 49 (some .i64)) (by kernel_rfl) (Or.inr ⟨_, _, Try.underlying22⟩) hv h
  obtain ⟨zs, hl, hz, hw⟩ := allFit_ints .i64 49 cs.toList hfit
  exact ⟨zs, by rw [iv, ← hz], hl, hw⟩
theorem table_guard : Try.prog.eqGuardType Try.prog.depth 27 = false := by kernel_rfl
theorem put3_l (zs : List Int) (j : Nat) (k v l : Int) : (put3 zs j ⟨k, v, 0⟩).set (3 * j + 2) l = put3 zs j ⟨k, v, l⟩ := by
  unfold put3; rw [List.set_set]
theorem own_head {W w w' : World} {L : List (Nat × Obj)} {g : Nat} {o o' : Obj} (h : Own W w ((g, o) :: L)) (hg : W.heap.size ≤ g) (hL : ∀ p ∈ L, p.1 ≠ g) (hk : Keeps (· = g) w w') (ho : w'.heap[g]? = some o') : Own W w' ((g, o') :: L) :=
  ⟨h.1.trans (hk.below h.1.size (fun k e => by rw [e]; exact hg)), fun p hp => by
    rcases List.mem_cons.1 hp with rfl | hp
    · exact ho
    · exact (hk.block _ (h.lt p (List.mem_cons_of_mem _ hp)) (hL p hp)).trans (h.2 p (List.mem_cons_of_mem _ hp))⟩
theorem own_other {W w w' : World} {L : List (Nat × Obj)} {g : Nat} (h : Own W w L) (hg : W.heap.size ≤ g) (hL : ∀ p ∈ L, p.1 ≠ g) (hk : Keeps (· = g) w w') : Own W w' L :=
  ⟨h.1.trans (hk.below h.1.size (fun k e => by rw [e]; exact hg)), fun p hp => (hk.block _ (h.lt p hp) (hL p hp)).trans (h.2 p hp)⟩
/-- The lines up to the leaf k. -/
def upW (ks vs : List Int) (k : Nat) : Nat → Value := fun i => if i < (20 + k) * 8 then .int .u64 (sW ks vs (i / 8) (i % 8)) else .int .u64 0
theorem upW_zero (ks vs : List Int) (i : Nat) : upW ks vs 0 i = .int .u64 0 := by
  unfold upW
  split
  · unfold sW; rw [if_neg (by omega), if_neg (by omega)]
  · rfl
theorem upW_next (ks vs : List Int) (k : Nat) (hk : k ≤ 7) (l : List Int) (hl : l.length = 8) (h : ∀ j, sW ks vs (20 + k) j = l.getD j 0) (i : Nat) :
    (if (20 + k) * 8 ≤ i ∧ i < (20 + k) * 8 + (iv .u64 l).toList.length then (iv .u64 l).toList.getD (i - (20 + k) * 8) undef else upW ks vs k i) = upW ks vs (k + 1) i := by
  have hlen : (iv .u64 l).toList.length = 8 := by rw [Array.length_toList, iv_size, hl]
  rw [hlen]
  unfold upW
  by_cases h1 : (20 + k) * 8 ≤ i ∧ i < (20 + k) * 8 + 8
  · rw [if_pos h1, if_pos (by omega), show i / 8 = 20 + k by omega, h, List.getD_eq_getElem?_getD, Array.getElem?_toList, iv_get _ _ _ (by omega), show i % 8 = i - (20 + k) * 8 by omega]; rfl
  · rw [if_neg h1]
    by_cases h2 : i < (20 + k) * 8
    · rw [if_pos h2, if_pos (by omega)]
    · rw [if_neg h2, if_neg (by omega)]
theorem upW_all (ks vs : List Int) (i : Nat) (hi : i < 800) : upW ks vs 8 i = .int .u64 (sW ks vs (i / 8) (i % 8)) := by
  unfold upW
  split
  · rfl
  · unfold sW; rw [if_neg (by omega), if_neg (by omega)]
def sgn (x m z : Int) : Prop := z = absM x m
set_option maxHeartbeats 8000000 in
theorem walk (ks vs : List Int) (hks : Is49 ks) (hvs : Is49 vs) (W : World) :
    Calls Try.prog 3 #[.agg (iv .i64 ks), .agg (iv .i64 vs)] W fun e W' => e = .returned (.bool true) ∧ Below W.heap.size W W' := by
  have HLK := hide hks.1
  have HLV := hide hvs.1
  have HWK := hide hks.2
  have HWV := hide hvs.2
  clear hks hvs
  have O0 := hide (((Own.start W).alloc (.cells (iv .i64 ks) 22)).alloc (.cells (iv .i64 vs) 22))
  have g0 : (W.alloc (.cells (iv .i64 ks) 22)).heap.size = W.heap.size + 1 := by simp
  rw [g0] at O0
  clear g0
  have n147 := iv_newg .i64 (zrow 49) 27 147 (zrow_len 49)
  have hzv := zval147
  have hzne := zrow_ne
  have zZ : (iv .i64 (zrow 49)).size = 147 := by rw [iv_size, zrow_len]
  have B147 := hide build147
  go_enter Try.func3, Try.ntmps3
  go_wp2_with fail
  refine (shown9_any _).mono ?_
  rintro e w1 ⟨rfl, hb⟩
  have O1 := hide (((unhide O0).call hb).alloc (.cells (iv .i64 (zrow 49)) 27))
  have hs1 : W.heap.size + 1 < w1.heap.size := ((unhide O0).call hb).lt (W.heap.size + 1, .cells (iv .i64 vs) 22) (by simp)
  clear hb O0
  go_upto_region 3 with (refine wpList_build0 rfl 27 rfl _ (unhide B147) ?_)
  clear n147 B147
  obtain ⟨BT, hBT⟩ : ∃ BT, BT = w1.heap.size := ⟨_, rfl⟩
  obtain ⟨W1, hW1⟩ : ∃ W1, W1 = w1.alloc (.cells (iv .i64 (zrow 49)) 27) := ⟨_, rfl⟩
  rw [← hBT, ← hW1] at O1
  rw [← hBT, ← hW1]
  rw [← hBT] at hs1
  have HT0 : Hid (rowE 49 (upTo (enW ks vs) 0) = zrow 49) := upTo_zero 49 _
  have O2 : Hid (Own W W1 [(BT, .cells (iv .i64 (rowE 49 (upTo (enW ks vs) 0))) 27), (W.heap.size, .cells (iv .i64 ks) 22), (W.heap.size + 1, .cells (iv .i64 vs) 22)]) := by
    show Own _ _ _
    rw [unhide HT0]
    exact (unhide O1).less (by intro p hp; simp only [List.mem_cons, List.not_mem_nil, or_false] at hp ⊢; rcases hp with rfl | rfl | rfl <;> simp)
  clear hBT hW1 O1 HT0
  go_wp2_with fail
  go_loopw [7] (fun c wr => ∃ j : Nat, j ≤ 49 ∧ c = .int .i64 j ∧ Own W wr [(BT, .cells (iv .i64 (rowE 49 (upTo (enW ks vs) j))) 27), (W.heap.size, .cells (iv .i64 ks) 22), (W.heap.size + 1, .cells (iv .i64 vs) 22)]) (fun c _ => 49 - (intOf c).toNat)
  case atStart => exact ⟨0, by omega, rfl, unhide O2⟩
  case round =>
    clear O2
    obtain ⟨j, hj, rfl, ow⟩ := hrel
    have OW := hide ow
    have KT := hide (ow.at BT (.cells (iv .i64 (rowE 49 (upTo (enW ks vs) j))) 27) (by simp))
    have gk := ow.at W.heap.size (.cells (iv .i64 ks) 22) (by simp)
    have gv := ow.at (W.heap.size + 1) (.cells (iv .i64 vs) 22) (by simp)
    clear ow
    by_cases hlt : j < 49
    · obtain ⟨x, hx⟩ : ∃ x, x = ks.getD j 0 := ⟨_, rfl⟩
      obtain ⟨y, hy⟩ : ∃ y, y = vs.getD j 0 := ⟨_, rfl⟩
      have ck : wr.cell? ⟨W.heap.size, j, none⟩ = some (.int .i64 x) := by rw [cell_of_block gk, iv_get _ _ _ (by rw [unhide HLK]; omega), hx]
      have cv : wr.cell? ⟨W.heap.size + 1, j, none⟩ = some (.int .i64 y) := by rw [cell_of_block gv, iv_get _ _ _ (by rw [unhide HLV]; omega), hy]
      have HXX := hide hx
      have HY := hide hy
      clear gk gv hx hy
      by_cases hkneg : x.tmod 5 < 0
      · go_upto_region 10 with fail
        obtain ⟨kk, hkk⟩ : ∃ kk, kk = wrap64 (-x.tmod 5) := ⟨_, rfl⟩
        have HK1 : Hid (kk = absM (ks.getD j 0) 5) := by
          show _ = _
          rw [hkk, ← unhide HXX]
          unfold absM wrap64
          rw [if_pos hkneg]
          have := Int.lt_tmod_of_pos x (show (0 : Int) < 5 by omega)
          omega
        have hkb := absM_bd (ks.getD j 0) 5 (by omega)
        rw [← unhide HK1] at hkb
        rw [← hkk]
        clear hkk hkneg ck cv
        by_cases hvneg : y.tmod 1000 < 0
        · go_upto_region 12 with fail
          obtain ⟨vv, hvv⟩ : ∃ vv, vv = wrap64 (-y.tmod 1000) := ⟨_, rfl⟩
          have HV1 : Hid (vv = absM (vs.getD j 0) 1000) := by
            show _ = _
            rw [hvv, ← unhide HY]
            unfold absM wrap64
            rw [if_pos hvneg]
            have := Int.lt_tmod_of_pos y (show (0 : Int) < 1000 by omega)
            omega
          have hvb := absM_bd (vs.getD j 0) 1000 (by omega)
          rw [← unhide HV1] at hvb
          rw [← hvv]
          clear hvv hvneg
          have R0 : Hid (wr.there BT (j * 3) 3) := there_en _ (unhide KT) j (by rw [rowE_len]; omega)
          have KT1 := hide (block_put3 _ (unhide KT) j ⟨kk, vv, 0⟩)
          have OW1 := hide (own_head (unhide OW) (by omega) (by intro p hp; simp only [List.mem_cons, List.not_mem_nil, or_false] at hp; rcases hp with rfl | rfl <;> (simp <;> omega)) (w' := wr.setCells BT (j * 3) (ev ⟨kk, vv, 0⟩).toList) (Keeps.setCells (F := (· = BT)) (Or.inl rfl) _ _ _ (Keeps.refl _ _)) (unhide KT1))
          have hev : (#[.int .i64 kk, .int .i64 vv, .int .i64 0] : Array Value) = ev ⟨kk, vv, 0⟩ := rfl
          go_upto_region 13 with (with_reducible refine wpList_store_en (by with_unfolding_all rfl) _ _ (by with_unfolding_all rfl) BT (j * 3) ⟨kk, vv, 0⟩ (by with_unfolding_all rfl) (by with_unfolding_all rfl) (unhide R0) ?_)
          clear R0 hev KT OW
          generalize wr.setCells BT (j * 3) (ev ⟨kk, vv, 0⟩).toList = WS at *
          have Hlen : Hid ((put3 (rowE 49 (upTo (enW ks vs) j)) j ⟨kk, vv, 0⟩).length = 147) := by show _ = _; rw [put3_len, rowE_len]
          by_cases hk0 : kk = 0
          · have hk1 : (kk != 0) = false := by simpa using hk0
            have hset : put3 (rowE 49 (upTo (enW ks vs) j)) j ⟨kk, vv, 0⟩ = rowE 49 (upTo (enW ks vs) (j + 1)) := by
              rw [← put3_upTo 49 _ j hlt]
              congr 1
              unfold enW
              rw [← unhide HK1, ← unhide HV1, if_pos hk0]
            have HS := hide hset
            clear hset hk0
            go_wp2_with fail
            go_roundw
            case rel => exact ⟨j + 1, by omega, by go_num, by rw [← unhide HS]; exact unhide OW1⟩
            case measure => simp [intOf]; omega
          · have hk1 : (kk != 0) = true := by simpa using hk0
            have hset : (put3 (rowE 49 (upTo (enW ks vs) j)) j ⟨kk, vv, 0⟩).set (j * 3 + 2) (30 + (j : Int)) = rowE 49 (upTo (enW ks vs) (j + 1)) := by
              rw [Nat.mul_comm, put3_l, ← put3_upTo 49 _ j hlt]
              congr 1
              unfold enW
              rw [← unhide HK1, ← unhide HV1, if_neg hk0]
            have HS := hide hset
            have c2 : WS.cell? ⟨BT, j * 3 + 2, none⟩ = some (.int .i64 ((put3 (rowE 49 (upTo (enW ks vs) j)) j ⟨kk, vv, 0⟩).getD (j * 3 + 2) 0)) := by rw [cell_of_block (unhide KT1), iv_get _ _ _ (by rw [unhide Hlen]; omega)]
            have f2 : WS.frozen? ⟨BT, j * 3 + 2, none⟩ = false := unfrozen_of_block (unhide KT1) _
            have OW2 := hide (own_head (unhide OW1) (by omega) (by intro p hp; simp only [List.mem_cons, List.not_mem_nil, or_false] at hp; rcases hp with rfl | rfl <;> (simp <;> omega)) (w' := WS.setCell ⟨BT, j * 3 + 2, none⟩ (.int .i64 (30 + (j : Int)))) (Keeps.setCell (F := (· = BT)) (p := ⟨BT, j * 3 + 2, none⟩) (Keeps.refl _ _) rfl _) ((block_setCell (unhide KT1) _).trans (by rw [iv_set])))
            generalize (put3 (rowE 49 (upTo (enW ks vs) j)) j ⟨kk, vv, 0⟩).getD (j * 3 + 2) 0 = old at *
            clear hset hk0
            go_wp2_with fail
            go_roundw
            case rel => exact ⟨j + 1, by omega, by go_num, by rw [← unhide HS]; exact unhide OW2⟩
            case measure => simp [intOf]; omega
        · go_upto_region 12 with fail
          obtain ⟨vv, hvv⟩ : ∃ vv, vv = y.tmod 1000 := ⟨_, rfl⟩
          have HV1 : Hid (vv = absM (vs.getD j 0) 1000) := by
            show _ = _
            rw [hvv, ← unhide HY]
            unfold absM
            rw [if_neg hvneg]
          have hvb := absM_bd (vs.getD j 0) 1000 (by omega)
          rw [← unhide HV1] at hvb
          rw [← hvv]
          clear hvv hvneg
          have R0 : Hid (wr.there BT (j * 3) 3) := there_en _ (unhide KT) j (by rw [rowE_len]; omega)
          have KT1 := hide (block_put3 _ (unhide KT) j ⟨kk, vv, 0⟩)
          have OW1 := hide (own_head (unhide OW) (by omega) (by intro p hp; simp only [List.mem_cons, List.not_mem_nil, or_false] at hp; rcases hp with rfl | rfl <;> (simp <;> omega)) (w' := wr.setCells BT (j * 3) (ev ⟨kk, vv, 0⟩).toList) (Keeps.setCells (F := (· = BT)) (Or.inl rfl) _ _ _ (Keeps.refl _ _)) (unhide KT1))
          have hev : (#[.int .i64 kk, .int .i64 vv, .int .i64 0] : Array Value) = ev ⟨kk, vv, 0⟩ := rfl
          go_upto_region 13 with (with_reducible refine wpList_store_en (by with_unfolding_all rfl) _ _ (by with_unfolding_all rfl) BT (j * 3) ⟨kk, vv, 0⟩ (by with_unfolding_all rfl) (by with_unfolding_all rfl) (unhide R0) ?_)
          clear R0 hev KT OW
          generalize wr.setCells BT (j * 3) (ev ⟨kk, vv, 0⟩).toList = WS at *
          have Hlen : Hid ((put3 (rowE 49 (upTo (enW ks vs) j)) j ⟨kk, vv, 0⟩).length = 147) := by show _ = _; rw [put3_len, rowE_len]
          by_cases hk0 : kk = 0
          · have hk1 : (kk != 0) = false := by simpa using hk0
            have hset : put3 (rowE 49 (upTo (enW ks vs) j)) j ⟨kk, vv, 0⟩ = rowE 49 (upTo (enW ks vs) (j + 1)) := by
              rw [← put3_upTo 49 _ j hlt]
              congr 1
              unfold enW
              rw [← unhide HK1, ← unhide HV1, if_pos hk0]
            have HS := hide hset
            clear hset hk0
            go_wp2_with fail
            go_roundw
            case rel => exact ⟨j + 1, by omega, by go_num, by rw [← unhide HS]; exact unhide OW1⟩
            case measure => simp [intOf]; omega
          · have hk1 : (kk != 0) = true := by simpa using hk0
            have hset : (put3 (rowE 49 (upTo (enW ks vs) j)) j ⟨kk, vv, 0⟩).set (j * 3 + 2) (30 + (j : Int)) = rowE 49 (upTo (enW ks vs) (j + 1)) := by
              rw [Nat.mul_comm, put3_l, ← put3_upTo 49 _ j hlt]
              congr 1
              unfold enW
              rw [← unhide HK1, ← unhide HV1, if_neg hk0]
            have HS := hide hset
            have c2 : WS.cell? ⟨BT, j * 3 + 2, none⟩ = some (.int .i64 ((put3 (rowE 49 (upTo (enW ks vs) j)) j ⟨kk, vv, 0⟩).getD (j * 3 + 2) 0)) := by rw [cell_of_block (unhide KT1), iv_get _ _ _ (by rw [unhide Hlen]; omega)]
            have f2 : WS.frozen? ⟨BT, j * 3 + 2, none⟩ = false := unfrozen_of_block (unhide KT1) _
            have OW2 := hide (own_head (unhide OW1) (by omega) (by intro p hp; simp only [List.mem_cons, List.not_mem_nil, or_false] at hp; rcases hp with rfl | rfl <;> (simp <;> omega)) (w' := WS.setCell ⟨BT, j * 3 + 2, none⟩ (.int .i64 (30 + (j : Int)))) (Keeps.setCell (F := (· = BT)) (p := ⟨BT, j * 3 + 2, none⟩) (Keeps.refl _ _) rfl _) ((block_setCell (unhide KT1) _).trans (by rw [iv_set])))
            generalize (put3 (rowE 49 (upTo (enW ks vs) j)) j ⟨kk, vv, 0⟩).getD (j * 3 + 2) 0 = old at *
            clear hset hk0
            go_wp2_with fail
            go_roundw
            case rel => exact ⟨j + 1, by omega, by go_num, by rw [← unhide HS]; exact unhide OW2⟩
            case measure => simp [intOf]; omega
      · go_upto_region 10 with fail
        obtain ⟨kk, hkk⟩ : ∃ kk, kk = x.tmod 5 := ⟨_, rfl⟩
        have HK1 : Hid (kk = absM (ks.getD j 0) 5) := by
          show _ = _
          rw [hkk, ← unhide HXX]
          unfold absM
          rw [if_neg hkneg]
        have hkb := absM_bd (ks.getD j 0) 5 (by omega)
        rw [← unhide HK1] at hkb
        rw [← hkk]
        clear hkk hkneg ck cv
        by_cases hvneg : y.tmod 1000 < 0
        · go_upto_region 12 with fail
          obtain ⟨vv, hvv⟩ : ∃ vv, vv = wrap64 (-y.tmod 1000) := ⟨_, rfl⟩
          have HV1 : Hid (vv = absM (vs.getD j 0) 1000) := by
            show _ = _
            rw [hvv, ← unhide HY]
            unfold absM wrap64
            rw [if_pos hvneg]
            have := Int.lt_tmod_of_pos y (show (0 : Int) < 1000 by omega)
            omega
          have hvb := absM_bd (vs.getD j 0) 1000 (by omega)
          rw [← unhide HV1] at hvb
          rw [← hvv]
          clear hvv hvneg
          have R0 : Hid (wr.there BT (j * 3) 3) := there_en _ (unhide KT) j (by rw [rowE_len]; omega)
          have KT1 := hide (block_put3 _ (unhide KT) j ⟨kk, vv, 0⟩)
          have OW1 := hide (own_head (unhide OW) (by omega) (by intro p hp; simp only [List.mem_cons, List.not_mem_nil, or_false] at hp; rcases hp with rfl | rfl <;> (simp <;> omega)) (w' := wr.setCells BT (j * 3) (ev ⟨kk, vv, 0⟩).toList) (Keeps.setCells (F := (· = BT)) (Or.inl rfl) _ _ _ (Keeps.refl _ _)) (unhide KT1))
          have hev : (#[.int .i64 kk, .int .i64 vv, .int .i64 0] : Array Value) = ev ⟨kk, vv, 0⟩ := rfl
          go_upto_region 13 with (with_reducible refine wpList_store_en (by with_unfolding_all rfl) _ _ (by with_unfolding_all rfl) BT (j * 3) ⟨kk, vv, 0⟩ (by with_unfolding_all rfl) (by with_unfolding_all rfl) (unhide R0) ?_)
          clear R0 hev KT OW
          generalize wr.setCells BT (j * 3) (ev ⟨kk, vv, 0⟩).toList = WS at *
          have Hlen : Hid ((put3 (rowE 49 (upTo (enW ks vs) j)) j ⟨kk, vv, 0⟩).length = 147) := by show _ = _; rw [put3_len, rowE_len]
          by_cases hk0 : kk = 0
          · have hk1 : (kk != 0) = false := by simpa using hk0
            have hset : put3 (rowE 49 (upTo (enW ks vs) j)) j ⟨kk, vv, 0⟩ = rowE 49 (upTo (enW ks vs) (j + 1)) := by
              rw [← put3_upTo 49 _ j hlt]
              congr 1
              unfold enW
              rw [← unhide HK1, ← unhide HV1, if_pos hk0]
            have HS := hide hset
            clear hset hk0
            go_wp2_with fail
            go_roundw
            case rel => exact ⟨j + 1, by omega, by go_num, by rw [← unhide HS]; exact unhide OW1⟩
            case measure => simp [intOf]; omega
          · have hk1 : (kk != 0) = true := by simpa using hk0
            have hset : (put3 (rowE 49 (upTo (enW ks vs) j)) j ⟨kk, vv, 0⟩).set (j * 3 + 2) (30 + (j : Int)) = rowE 49 (upTo (enW ks vs) (j + 1)) := by
              rw [Nat.mul_comm, put3_l, ← put3_upTo 49 _ j hlt]
              congr 1
              unfold enW
              rw [← unhide HK1, ← unhide HV1, if_neg hk0]
            have HS := hide hset
            have c2 : WS.cell? ⟨BT, j * 3 + 2, none⟩ = some (.int .i64 ((put3 (rowE 49 (upTo (enW ks vs) j)) j ⟨kk, vv, 0⟩).getD (j * 3 + 2) 0)) := by rw [cell_of_block (unhide KT1), iv_get _ _ _ (by rw [unhide Hlen]; omega)]
            have f2 : WS.frozen? ⟨BT, j * 3 + 2, none⟩ = false := unfrozen_of_block (unhide KT1) _
            have OW2 := hide (own_head (unhide OW1) (by omega) (by intro p hp; simp only [List.mem_cons, List.not_mem_nil, or_false] at hp; rcases hp with rfl | rfl <;> (simp <;> omega)) (w' := WS.setCell ⟨BT, j * 3 + 2, none⟩ (.int .i64 (30 + (j : Int)))) (Keeps.setCell (F := (· = BT)) (p := ⟨BT, j * 3 + 2, none⟩) (Keeps.refl _ _) rfl _) ((block_setCell (unhide KT1) _).trans (by rw [iv_set])))
            generalize (put3 (rowE 49 (upTo (enW ks vs) j)) j ⟨kk, vv, 0⟩).getD (j * 3 + 2) 0 = old at *
            clear hset hk0
            go_wp2_with fail
            go_roundw
            case rel => exact ⟨j + 1, by omega, by go_num, by rw [← unhide HS]; exact unhide OW2⟩
            case measure => simp [intOf]; omega
        · go_upto_region 12 with fail
          obtain ⟨vv, hvv⟩ : ∃ vv, vv = y.tmod 1000 := ⟨_, rfl⟩
          have HV1 : Hid (vv = absM (vs.getD j 0) 1000) := by
            show _ = _
            rw [hvv, ← unhide HY]
            unfold absM
            rw [if_neg hvneg]
          have hvb := absM_bd (vs.getD j 0) 1000 (by omega)
          rw [← unhide HV1] at hvb
          rw [← hvv]
          clear hvv hvneg
          have R0 : Hid (wr.there BT (j * 3) 3) := there_en _ (unhide KT) j (by rw [rowE_len]; omega)
          have KT1 := hide (block_put3 _ (unhide KT) j ⟨kk, vv, 0⟩)
          have OW1 := hide (own_head (unhide OW) (by omega) (by intro p hp; simp only [List.mem_cons, List.not_mem_nil, or_false] at hp; rcases hp with rfl | rfl <;> (simp <;> omega)) (w' := wr.setCells BT (j * 3) (ev ⟨kk, vv, 0⟩).toList) (Keeps.setCells (F := (· = BT)) (Or.inl rfl) _ _ _ (Keeps.refl _ _)) (unhide KT1))
          have hev : (#[.int .i64 kk, .int .i64 vv, .int .i64 0] : Array Value) = ev ⟨kk, vv, 0⟩ := rfl
          go_upto_region 13 with (with_reducible refine wpList_store_en (by with_unfolding_all rfl) _ _ (by with_unfolding_all rfl) BT (j * 3) ⟨kk, vv, 0⟩ (by with_unfolding_all rfl) (by with_unfolding_all rfl) (unhide R0) ?_)
          clear R0 hev KT OW
          generalize wr.setCells BT (j * 3) (ev ⟨kk, vv, 0⟩).toList = WS at *
          have Hlen : Hid ((put3 (rowE 49 (upTo (enW ks vs) j)) j ⟨kk, vv, 0⟩).length = 147) := by show _ = _; rw [put3_len, rowE_len]
          by_cases hk0 : kk = 0
          · have hk1 : (kk != 0) = false := by simpa using hk0
            have hset : put3 (rowE 49 (upTo (enW ks vs) j)) j ⟨kk, vv, 0⟩ = rowE 49 (upTo (enW ks vs) (j + 1)) := by
              rw [← put3_upTo 49 _ j hlt]
              congr 1
              unfold enW
              rw [← unhide HK1, ← unhide HV1, if_pos hk0]
            have HS := hide hset
            clear hset hk0
            go_wp2_with fail
            go_roundw
            case rel => exact ⟨j + 1, by omega, by go_num, by rw [← unhide HS]; exact unhide OW1⟩
            case measure => simp [intOf]; omega
          · have hk1 : (kk != 0) = true := by simpa using hk0
            have hset : (put3 (rowE 49 (upTo (enW ks vs) j)) j ⟨kk, vv, 0⟩).set (j * 3 + 2) (30 + (j : Int)) = rowE 49 (upTo (enW ks vs) (j + 1)) := by
              rw [Nat.mul_comm, put3_l, ← put3_upTo 49 _ j hlt]
              congr 1
              unfold enW
              rw [← unhide HK1, ← unhide HV1, if_neg hk0]
            have HS := hide hset
            have c2 : WS.cell? ⟨BT, j * 3 + 2, none⟩ = some (.int .i64 ((put3 (rowE 49 (upTo (enW ks vs) j)) j ⟨kk, vv, 0⟩).getD (j * 3 + 2) 0)) := by rw [cell_of_block (unhide KT1), iv_get _ _ _ (by rw [unhide Hlen]; omega)]
            have f2 : WS.frozen? ⟨BT, j * 3 + 2, none⟩ = false := unfrozen_of_block (unhide KT1) _
            have OW2 := hide (own_head (unhide OW1) (by omega) (by intro p hp; simp only [List.mem_cons, List.not_mem_nil, or_false] at hp; rcases hp with rfl | rfl <;> (simp <;> omega)) (w' := WS.setCell ⟨BT, j * 3 + 2, none⟩ (.int .i64 (30 + (j : Int)))) (Keeps.setCell (F := (· = BT)) (p := ⟨BT, j * 3 + 2, none⟩) (Keeps.refl _ _) rfl _) ((block_setCell (unhide KT1) _).trans (by rw [iv_set])))
            generalize (put3 (rowE 49 (upTo (enW ks vs) j)) j ⟨kk, vv, 0⟩).getD (j * 3 + 2) 0 = old at *
            clear hset hk0
            go_wp2_with fail
            go_roundw
            case rel => exact ⟨j + 1, by omega, by go_num, by rw [← unhide HS]; exact unhide OW2⟩
            case measure => simp [intOf]; omega
    · obtain rfl : j = 49 := by omega
      rw [upTo_all] at OW
      have O3 : Hid (Own W wr [(BT, .cells (iv .i64 (tabW ks vs)) 27)]) := (unhide OW).less (by intro p hp; simp only [List.mem_cons, List.not_mem_nil, or_false] at hp ⊢; rcases hp with rfl <;> simp [tabW])
      clear OW KT gk gv HLK HLV HWK HWV
      obtain ⟨i0, hi, hz0, hz1, hz2⟩ := info_parts info_line
      have hBTl : BT < wr.heap.size := (unhide O3).lt (BT, .cells (iv .i64 (tabW ks vs)) 27) (by simp)
      go_upto_region 16 with (at_make; refine wpList_make_full _ rfl _ _ 28 rfl wr.heap.size 32 i0 _ 8 Try.underlying28 hi hz0 hz1 .i64 .i64 _ _ 100 rfl rfl rfl rfl (by rw [hz2]; omega) (by unfold maxLen; omega) (Nat.le_refl _) ?_; intro w2 hown hgrow)
      have hb : Blk w2 wr.heap.size (100 * 8) 32 (upW ks vs 0) := made_blk hown fun i _ => by
        show (lnV fun _ => 0)[i % (lnV fun _ => 0).size]! = _
        rw [lnV_size]
        have := tab_get 8 (fun _ => Value.int .u64 0) (i % 8) (Nat.mod_lt _ (by decide))
        rw [getElem!_def, show (lnV fun _ => 0)[i % 8]? = _ from this, upW_zero]
      have O4 := hide ((unhide O3).call ((Below.refl _ wr).grown hgrow (Nat.le_refl _) (by simp)))
      obtain ⟨G, hG⟩ : ∃ G, G = wr.heap.size := ⟨_, rfl⟩
      have HWG : W.heap.size ≤ G := by rw [hG]; exact (unhide O3).below.size
      have hGlt : G < w2.heap.size := by rw [hG]; exact hb.lt
      rw [← hG] at hb hBTl
      rw [← hG]
      have HB2 := hide hb
      clear hb hown hgrow hG hi hz0 hz1 hz2 i0 O3
      have n7 := iv_newg .i64 zs7 29 7 rfl
      go_upto_region 17 with (refine wpList_build0 rfl 29 rfl _ build7x ?_)
      clear n7
      have O5 := hide ((unhide O4).alloc (.cells (iv .i64 zs7) 29))
      have HB3 := hide ((unhide HB2).alloc (.cells (iv .i64 zs7) 29))
      obtain ⟨BN, hBN⟩ : ∃ BN, BN = w2.heap.size := ⟨_, rfl⟩
      rw [← hBN] at O5 hGlt
      rw [← hBN]
      generalize w2.alloc (.cells (iv .i64 zs7) 29) = W3 at *
      have HWB : W.heap.size ≤ BN := by omega
      clear hBN O4 HB2
      have HT0 : Hid ((tab7 fun i => if i < 0 then 20 + (i : Int) else 0) = zs7) := tab7_zero _
      have s54T := s147_of (tabW ks vs) (tabW_len ks vs)
      go_wp2_with fail
      go_loopw [12] (fun c wr => ∃ k : Nat, k ≤ 7 ∧ c = .int .i64 k ∧ Own W wr [(BN, .cells (iv .i64 (tab7 fun i => if i < k then 20 + (i : Int) else 0)) 29), (BT, .cells (iv .i64 (tabW ks vs)) 27)] ∧ Blk wr G (100 * 8) 32 (upW ks vs k)) (fun c _ => 7 - (intOf c).toNat)
      case atStart => exact ⟨0, by omega, rfl, by rw [unhide HT0]; exact unhide O5, unhide HB3⟩
      case round =>
        clear O5 HB3 HT0
        obtain ⟨k, hk, rfl, ow, hb⟩ := hrel
        have OW := hide ow
        have HB := hide hb
        have KT := hide (ow.at BT (.cells (iv .i64 (tabW ks vs)) 27) (by simp))
        clear ow hb
        by_cases hlt7 : k < 7
        · have C1 := hide (leaf_any (tabW ks vs) (tabW_len ks vs) (k : Int))
          rw [(leafW ks vs k hlt7).1, (leafW ks vs k hlt7).2] at C1
          have n8 := iv_newx .u64 (leafS (partT (tabW ks vs) k)) 32 8 (lineG_len _)
          have z8 : (iv .u64 (leafS (partT (tabW ks vs) k))).size = 8 := by rw [iv_size]; exact lineG_len _
          have s8 : (Try.prog.info? 32).map (·.size) = some (iv .u64 (leafS (partT (tabW ks vs) k))).size := s8_of _ (lineG_len _)
          have HUP : Hid (∀ i, (if (20 + k) * 8 ≤ i ∧ i < (20 + k) * 8 + (iv .u64 (leafS (partT (tabW ks vs) k))).toList.length then (iv .u64 (leafS (partT (tabW ks vs) k))).toList.getD (i - (20 + k) * 8) undef else upW ks vs k i) = upW ks vs (k + 1) i) := upW_next ks vs k (by omega) _ (lineG_len _) (fun j => by
            unfold sW
            rw [if_pos (by omega), show 20 + k - 20 = k by omega])
          have HSET : Hid ((tab7 fun i => if i < k then 20 + (i : Int) else 0).set k (20 + (k : Int)) = tab7 fun i => if i < k + 1 then 20 + (i : Int) else 0) := tab7_set (fun i => 20 + (i : Int)) k hlt7
          have HCN : Hid ((iv .i64 (tab7 fun i => if i < k then 20 + (i : Int) else 0))[k]? = some (.int .i64 0)) := by
            show _ = _
            rw [iv_get _ _ _ (by rw [tab7_len]; omega), tab7_get _ _ hlt7, if_neg (by omega)]
          generalize leafS (partT (tabW ks vs) k) = LS at *
          go_wp2_with (with_reducible refine wpList_load_row (by with_unfolding_all rfl) 27 _ (by with_unfolding_all rfl) BT (by with_unfolding_all rfl) _ _ _ _ (unhide KT) Try.underlying27 (by with_unfolding_all rfl) s54T ?_)
          refine (unhide C1 _).mono ?_
          rintro e w4 ⟨rfl, hb4⟩
          have O6 := hide (((unhide OW).call hb4).alloc (.cells (iv .u64 LS) 32))
          have HB6 := hide (((unhide HB).keeps (Keeps.of_below (F := fun _ => False) hb4) id).alloc (.cells (iv .u64 LS) 32))
          have hBL : BN < w4.heap.size := ((unhide OW).call hb4).lt (BN, .cells (iv .i64 (tab7 fun i => if i < k then 20 + (i : Int) else 0)) 29) (by simp)
          clear hb4 C1 KT OW HB
          go_upto_region 21 with fail
          clear n8 z8
          obtain ⟨BL, hBLe⟩ : ∃ BL, BL = w4.heap.size := ⟨_, rfl⟩
          rw [← hBLe] at O6 hBL
          rw [← hBLe]
          generalize w4.alloc (.cells (iv .u64 LS) 32) = W5 at *
          clear hBLe
          have KN := hide ((unhide O6).at BN (.cells (iv .i64 (tab7 fun i => if i < k then 20 + (i : Int) else 0)) 29) (by simp))
          have cN : W5.cell? ⟨BN, k, none⟩ = some (.int .i64 0) := by rw [cell_of_block (unhide KN)]; exact unhide HCN
          have fN : W5.frozen? ⟨BN, k, none⟩ = false := unfrozen_of_block (unhide KN) _
          have O7 : Hid (Own W (W5.setCell ⟨BN, k, none⟩ (.int .i64 (20 + (k : Int)))) [(BN, .cells (iv .i64 (tab7 fun i => if i < k + 1 then 20 + (i : Int) else 0)) 29), (BT, .cells (iv .i64 (tabW ks vs)) 27), (BL, .cells (iv .u64 LS) 32)]) := own_head (o := .cells (iv .i64 (tab7 fun i => if i < k then 20 + (i : Int) else 0)) 29) ((unhide O6).less (by intro p hp; simp only [List.mem_cons, List.not_mem_nil, or_false] at hp ⊢; rcases hp with rfl | rfl | rfl <;> simp)) HWB (by intro p hp; simp only [List.mem_cons, List.not_mem_nil, or_false] at hp; rcases hp with rfl | rfl <;> (simp <;> omega)) (Keeps.setCell (F := (· = BN)) (p := ⟨BN, k, none⟩) (Keeps.refl _ _) rfl _) ((block_setCell (unhide KN) _).trans (by rw [iv_set, unhide HSET]))
          have HB7 : Hid (Blk (W5.setCell ⟨BN, k, none⟩ (.int .i64 (20 + (k : Int)))) G (100 * 8) 32 (upW ks vs k)) := (unhide HB6).keeps (Keeps.setCell (F := (· = BN)) (p := ⟨BN, k, none⟩) (Keeps.refl _ _) rfl _) (by omega)
          go_upto_region 24 with fail
          clear cN fN KN O6 HB6 HSET HCN
          generalize W5.setCell ⟨BN, k, none⟩ (.int .i64 (20 + (k : Int))) = W6 at *
          have KL := hide ((unhide O7).at BL (.cells (iv .u64 LS) 32) (by simp))
          have hls : (iv .u64 LS).size = 8 := by have := s8; rw [size8] at this; simpa using this.symm
          have hth : Hid (W6.there G ((20 + k) * 8) (iv .u64 LS).size) := by rw [hls]; exact (unhide HB7).there _ 8 (by omega)
          have O8 : Hid (Own W (W6.setCells G ((20 + k) * 8) (iv .u64 LS).toList) [(BN, .cells (iv .i64 (tab7 fun i => if i < k + 1 then 20 + (i : Int) else 0)) 29), (BT, .cells (iv .i64 (tabW ks vs)) 27)]) := own_other ((unhide O7).less (by intro p hp; simp only [List.mem_cons, List.not_mem_nil, or_false] at hp ⊢; rcases hp with rfl | rfl <;> simp)) HWG (by intro p hp; simp only [List.mem_cons, List.not_mem_nil, or_false] at hp; rcases hp with rfl | rfl <;> (simp <;> omega)) (Keeps.setCells (F := (· = G)) (Or.inl rfl) _ _ _ (Keeps.refl _ _))
          have HB8 : Hid (Blk (W6.setCells G ((20 + k) * 8) (iv .u64 LS).toList) G (100 * 8) 32 (upW ks vs (k + 1))) := (Blk.sets _ _ _ _ (unhide HB7)).ext fun i hi => unhide HUP i
          clear hls HUP
          go_wp2_with (first | (with_reducible refine wpList_load_row (by with_unfolding_all rfl) 32 _ (by with_unfolding_all rfl) BL (by with_unfolding_all rfl) _ _ _ _ (unhide KL) Try.underlying32 (by with_unfolding_all rfl) s8 ?_) | (with_reducible refine wpList_store_mid (by with_unfolding_all rfl) 32 _ _ (by with_unfolding_all rfl) G ((20 + k) * 8) (iv .u64 LS) (by with_unfolding_all rfl) (by with_unfolding_all rfl) (unhide hth) s8 (iv_one _ _) ?_))
          go_roundw
          case rel => exact ⟨k + 1, by omega, by go_num, unhide O8, unhide HB8⟩
          case measure => simp [intOf]; omega
        · obtain rfl : k = 7 := by omega
          have hn7 : (tab7 fun i => if i < 7 then 20 + (i : Int) else 0) = ns7 := tab7_all _
          rw [hn7] at OW
          have KN := hide ((unhide OW).at BN (.cells (iv .i64 ns7) 29) (by simp))
          have s7n := s7_of ns7 (tab7_len _)
          have C2 := hide (root_any ns7 (tab7_len _))
          rw [show rootV ns7 = rootS ns7 by unfold rootV; rw [if_pos ns7_may], show rootE ns7 = 0 by unfold rootE; rw [if_pos ns7_may]] at C2
          have n8 := iv_newx .u64 (rootS ns7) 32 8 (lineG_len _)
          have z8 : (iv .u64 (rootS ns7)).size = 8 := by rw [iv_size]; exact lineG_len _
          have s8 : (Try.prog.info? 32).map (·.size) = some (iv .u64 (rootS ns7)).size := s8_of _ (lineG_len _)
          have HUP : Hid (∀ i, (if (20 + 7) * 8 ≤ i ∧ i < (20 + 7) * 8 + (iv .u64 (rootS ns7)).toList.length then (iv .u64 (rootS ns7)).toList.getD (i - (20 + 7) * 8) undef else upW ks vs 7 i) = upW ks vs (7 + 1) i) := upW_next ks vs 7 (by omega) _ (lineG_len _) (fun j => by
            unfold sW
            rw [if_neg (by omega), if_pos rfl])
          clear hn7
          generalize rootS ns7 = RS at *
          go_wp2_with (with_reducible refine wpList_load_row (by with_unfolding_all rfl) 29 _ (by with_unfolding_all rfl) BN (by with_unfolding_all rfl) _ _ _ _ (unhide KN) Try.underlying29 (by with_unfolding_all rfl) s7n ?_)
          refine (unhide C2 _).mono ?_
          rintro e w4 ⟨rfl, hb4⟩
          have O6 := hide (((unhide OW).call hb4).alloc (.cells (iv .u64 RS) 32))
          have HB6 := hide (((unhide HB).keeps (Keeps.of_below (F := fun _ => False) hb4) id).alloc (.cells (iv .u64 RS) 32))
          have hGl : G < w4.heap.size := ((unhide HB).keeps (Keeps.of_below (F := fun _ => False) hb4) id).lt
          clear hb4 C2 KT OW HB KN
          go_upto_region 26 with fail
          clear n8
          generalize w4.alloc (.cells (iv .u64 RS) 32) = W5 at *
          have KL := hide ((unhide O6).at w4.heap.size (.cells (iv .u64 RS) 32) (by simp))
          have hth : Hid (W5.there G 216 (iv .u64 RS).size) := by rw [z8]; exact (unhide HB6).there 216 8 (by omega)
          have O8 : Hid (Own W (W5.setCells G 216 (iv .u64 RS).toList) [(BN, .cells (iv .i64 ns7) 29), (BT, .cells (iv .i64 (tabW ks vs)) 27)]) := own_other ((unhide O6).less (by intro p hp; simp only [List.mem_cons, List.not_mem_nil, or_false] at hp ⊢; rcases hp with rfl | rfl <;> simp)) HWG (by intro p hp; simp only [List.mem_cons, List.not_mem_nil, or_false] at hp; rcases hp with rfl | rfl <;> (simp <;> omega)) (Keeps.setCells (F := (· = G)) (Or.inl rfl) _ _ _ (Keeps.refl _ _))
          have HB8 : Hid (Blk (W5.setCells G 216 (iv .u64 RS).toList) G (100 * 8) 32 (fun i => .int .u64 (sW ks vs (i / 8) (i % 8)))) := (Blk.sets _ _ _ _ (unhide HB6)).ext fun i hi => (unhide HUP i).trans (upW_all ks vs i hi)
          clear z8 HUP
          go_upto_region 27 with (first | (with_reducible refine wpList_load_row (by with_unfolding_all rfl) 32 _ (by with_unfolding_all rfl) w4.heap.size (by with_unfolding_all rfl) _ _ _ _ (unhide KL) Try.underlying32 (by with_unfolding_all rfl) s8 ?_) | (with_reducible refine wpList_store_mid (by with_unfolding_all rfl) 32 _ _ (by with_unfolding_all rfl) G 216 (iv .u64 RS) (by with_unfolding_all rfl) (by with_unfolding_all rfl) (unhide hth) s8 (iv_one _ _) ?_))
          clear KL hth O6 HB6
          generalize W5.setCells G 216 (iv .u64 RS).toList = W6 at *
          have COF : Hid (Calls Try.prog 7 #[.slice (some ⟨G, 0, none⟩) 100 100] W6 (Made W6 100 (sW ks vs))) := of_any W6 _ 100 100 _ (by omega) (by omega) (Or.inr ⟨G, 0, rfl, fun i hi => (unhide HB8).range _ 8 (by omega) _ (fun j hj => by
            show Value.int .u64 (sW ks vs ((0 + i * 8 + j) / 8) ((0 + i * 8 + j) % 8)) = _
            rw [show (0 + i * 8 + j) / 8 = i by omega, show (0 + i * 8 + j) % 8 = j by omega])⟩)
          have HOKA : Hid ((memW ks vs).ok 1000) := ok_mono (ok_new (by omega) (by omega) (sW_in ks vs)) (by omega)
          have HLD := hide (ldW ks vs)
          unfold Made at COF
          have COF2 : Hid (Calls Try.prog 7 #[.slice (some ⟨G, 0, none⟩) 100 100] W6 fun e w' => ∃ b c F cs, e = .returned (.tuple #[.pointer (some ⟨b, 0, none⟩), .int .i64 0]) ∧ Rep w' F b (memW ks vs) c cs ∧ Keeps (fun _ => False) W6 w' ∧ ∀ k, F k → W6.heap.size ≤ k) := unhide COF
          clear HB8 COF
          generalize memW ks vs = A at *
          go_wp2_with fail
          refine (unhide COF2).mono ?_
          rintro e w7 ⟨b, c, F, cs, rfl, hr, hk7, hF⟩
          have R7 := hide hr
          have O9 := hide ((unhide O8).call (hk7.below (Nat.le_refl _) (fun _ h => h.elim)))
          clear hr hk7 hF O8 COF2
          have hok := unhide HOKA
          have CL1 := hide (xload_any (unhide R7) hok.2.1 hok.2.2.1 20 27 (by decide))
          have CL2 : Hid (∀ w' : World, Keeps (fun _ => False) w7 w' → Calls Try.prog 8 #[.pointer (some ⟨b, 0, none⟩), .int .i64 21, .int .i64 27] w' (LdPost w' (ldT A 21 27) (ldL A 21 27) (ldE A 21 27))) := fun w' hk' => xload_any ((unhide R7).keeps hk' (fun _ _ => id)) hok.2.1 hok.2.2.1 21 27 (by decide)
          obtain ⟨⟨q1, q2, q3⟩, q4⟩ := unhide HLD
          rw [q1, q2, q3] at CL1
          rw [q4] at CL2
          have lX2 := ldT_len A 21 27
          have lY2 := ldL_len A 21 27
          clear hok q1 q2 q3 q4 HLD HOKA R7
          generalize ldT A 21 27 = X2 at *
          generalize ldL A 21 27 = Y2 at *
          have lX := tabW_len ks vs
          have lY : ns7.length = 7 := tab7_len _
          generalize tabW ks vs = X at *
          generalize ns7 = Y at *
          have s54X := s54T
          have s7Y := s7n
          have s54X2 := s147_of X2 lX2
          have s7Y2 := s7_of Y2 lY2
          have e54X : (iv .i64 (zrow 49)).size = (iv .i64 X).size := by rw [iv_size, iv_size, zrow_len, lX]
          have e54X2 : (iv .i64 (zrow 49)).size = (iv .i64 X2).size := by rw [iv_size, iv_size, zrow_len, lX2]
          have e7Y : (#[.int .i64 0, .int .i64 0, .int .i64 0, .int .i64 0, .int .i64 0, .int .i64 0, .int .i64 0] : Array Value).size = (iv .i64 Y).size := by rw [iv_size, lY]; rfl
          have e7Y2 : (#[.int .i64 0, .int .i64 0, .int .i64 0, .int .i64 0, .int .i64 0, .int .i64 0, .int .i64 0] : Array Value).size = (iv .i64 Y2).size := by rw [iv_size, lY2]; rfl
          have EX : Hid (∀ w, (Op.equalIn 10000 27 (.agg (iv .i64 X)) (.agg (iv .i64 X))).run Try.prog w = .ok true w) := fun w => by rw [equal_rows 27 49 Try.underlying27 _ _ lX lX]; simp
          have EY : Hid (∀ w, (Op.equalIn 10000 29 (.agg (iv .i64 Y)) (.agg (iv .i64 Y))).run Try.prog w = .ok true w) := fun w => by rw [equal_seven _ _ lY lY]; simp
          clear lX lY lX2 lY2
          go_wp2_with fail
          refine (unhide CL1).mono ?_
          rintro e w8 ⟨rfl, hk8⟩
          have KA8 := hide (heap2 w8 (.cells (iv .i64 (zrow 49)) 27) (.cells #[.int .i64 0, .int .i64 0, .int .i64 0, .int .i64 0, .int .i64 0, .int .i64 0, .int .i64 0] 29))
          have KB8 := hide ((setRow_other ((w8.alloc (.cells (iv .i64 (zrow 49)) 27)).alloc (.cells #[.int .i64 0, .int .i64 0, .int .i64 0, .int .i64 0, .int .i64 0, .int .i64 0, .int .i64 0] 29)) w8.heap.size (w8.heap.size + 1) (iv .i64 X) (by omega)).trans (unhide KA8).2)
          have KC8 := hide ((setRow_other (((w8.alloc (.cells (iv .i64 (zrow 49)) 27)).alloc (.cells #[.int .i64 0, .int .i64 0, .int .i64 0, .int .i64 0, .int .i64 0, .int .i64 0, .int .i64 0] 29)).setRow w8.heap.size (iv .i64 X)) (w8.heap.size + 1) w8.heap.size (iv .i64 Y) (by omega)).trans (setRow_heap _ _ _ (iv .i64 X) _ _ (unhide KA8).1))
          have KD8 := hide (setRow_heap (((w8.alloc (.cells (iv .i64 (zrow 49)) 27)).alloc (.cells #[.int .i64 0, .int .i64 0, .int .i64 0, .int .i64 0, .int .i64 0, .int .i64 0, .int .i64 0] 29)).setRow w8.heap.size (iv .i64 X)) (w8.heap.size + 1) _ (iv .i64 Y) _ _ (unhide KB8))
          have hsz8 := hk8.size
          have HKK8 : Hid (Keeps (fun _ => False) w7 ((((w8.alloc (.cells (iv .i64 (zrow 49)) 27)).alloc (.cells #[.int .i64 0, .int .i64 0, .int .i64 0, .int .i64 0, .int .i64 0, .int .i64 0, .int .i64 0] 29)).setRow w8.heap.size (iv .i64 X)).setRow (w8.heap.size + 1) (iv .i64 Y))) := Keeps.setRow (Keeps.setRow ((hk8.alloc _).alloc _) (Or.inr (by omega)) _) (Or.inr (by omega)) _
          clear hk8
          go_upto_region 31 with (first | (with_reducible refine wpList_store_row (by with_unfolding_all rfl) 27 _ _ (by with_unfolding_all rfl) w8.heap.size (iv .i64 X) (by with_unfolding_all rfl) (by with_unfolding_all rfl) _ _ (unhide KA8).1 s54X e54X (iv_one _ _) ?_) | (with_reducible refine wpList_store_row (by with_unfolding_all rfl) 29 _ _ (by with_unfolding_all rfl) (w8.heap.size + 1) (iv .i64 Y) (by with_unfolding_all rfl) (by with_unfolding_all rfl) _ _ (unhide KB8) s7Y e7Y (iv_one _ _) ?_))
          clear KA8 KB8
          generalize (((w8.alloc (.cells (iv .i64 (zrow 49)) 27)).alloc (.cells #[.int .i64 0, .int .i64 0, .int .i64 0, .int .i64 0, .int .i64 0, .int .i64 0, .int .i64 0] 29)).setRow w8.heap.size (iv .i64 X)).setRow (w8.heap.size + 1) (iv .i64 Y) = W8 at *
          clear CL1
          go_wp2_with fail
          refine (unhide CL2 W8 (unhide HKK8)).mono ?_
          rintro e w9 ⟨rfl, hk9⟩
          have KA9 := hide (heap2 w9 (.cells (iv .i64 (zrow 49)) 27) (.cells #[.int .i64 0, .int .i64 0, .int .i64 0, .int .i64 0, .int .i64 0, .int .i64 0, .int .i64 0] 29))
          have KB9 := hide ((setRow_other ((w9.alloc (.cells (iv .i64 (zrow 49)) 27)).alloc (.cells #[.int .i64 0, .int .i64 0, .int .i64 0, .int .i64 0, .int .i64 0, .int .i64 0, .int .i64 0] 29)) w9.heap.size (w9.heap.size + 1) (iv .i64 X2) (by omega)).trans (unhide KA9).2)
          have KC9 := hide ((setRow_other (((w9.alloc (.cells (iv .i64 (zrow 49)) 27)).alloc (.cells #[.int .i64 0, .int .i64 0, .int .i64 0, .int .i64 0, .int .i64 0, .int .i64 0, .int .i64 0] 29)).setRow w9.heap.size (iv .i64 X2)) (w9.heap.size + 1) w9.heap.size (iv .i64 Y2) (by omega)).trans (setRow_heap _ _ _ (iv .i64 X2) _ _ (unhide KA9).1))
          have KD9 := hide (setRow_heap (((w9.alloc (.cells (iv .i64 (zrow 49)) 27)).alloc (.cells #[.int .i64 0, .int .i64 0, .int .i64 0, .int .i64 0, .int .i64 0, .int .i64 0, .int .i64 0] 29)).setRow w9.heap.size (iv .i64 X2)) (w9.heap.size + 1) _ (iv .i64 Y2) _ _ (unhide KB9))
          have hsz9 := hk9.size
          have HKK9 : Hid (Keeps (fun _ => False) W8 ((((w9.alloc (.cells (iv .i64 (zrow 49)) 27)).alloc (.cells #[.int .i64 0, .int .i64 0, .int .i64 0, .int .i64 0, .int .i64 0, .int .i64 0, .int .i64 0] 29)).setRow w9.heap.size (iv .i64 X2)).setRow (w9.heap.size + 1) (iv .i64 Y2))) := Keeps.setRow (Keeps.setRow ((hk9.alloc _).alloc _) (Or.inr (by omega)) _) (Or.inr (by omega)) _
          clear hk9
          go_upto_region 32 with (first | (with_reducible refine wpList_store_row (by with_unfolding_all rfl) 27 _ _ (by with_unfolding_all rfl) w9.heap.size (iv .i64 X2) (by with_unfolding_all rfl) (by with_unfolding_all rfl) _ _ (unhide KA9).1 s54X2 e54X2 (iv_one _ _) ?_) | (with_reducible refine wpList_store_row (by with_unfolding_all rfl) 29 _ _ (by with_unfolding_all rfl) (w9.heap.size + 1) (iv .i64 Y2) (by with_unfolding_all rfl) (by with_unfolding_all rfl) _ _ (unhide KB9) s7Y2 e7Y2 (iv_one _ _) ?_))
          clear KA9 KB9
          generalize (((w9.alloc (.cells (iv .i64 (zrow 49)) 27)).alloc (.cells #[.int .i64 0, .int .i64 0, .int .i64 0, .int .i64 0, .int .i64 0, .int .i64 0, .int .i64 0] 29)).setRow w9.heap.size (iv .i64 X2)).setRow (w9.heap.size + 1) (iv .i64 Y2) = W9 at *
          clear CL2
          have hl5 := lt_of_heap (unhide KC8)
          have hl5d := lt_of_heap (unhide KD8)
          have K19 := hide (((unhide HKK9).block _ hl5 id).trans (unhide KC8))
          have K20 := hide (((unhide HKK9).block _ hl5d id).trans (unhide KD8))
          have OE := hide (((unhide O9).call ((unhide HKK8).below (Nat.le_refl _) (fun _ h => h.elim))).call ((unhide HKK9).below (Nat.le_refl _) (fun _ h => h.elim)))
          have K6 := hide ((unhide OE).at BT (.cells (iv .i64 X) 27) (by simp))
          have K11 := hide ((unhide OE).at BN (.cells (iv .i64 Y) 29) (by simp))
          clear O9 HKK8 HKK9 KC8 KD8 KC9 KD9
          go_wp2_with (first | (with_reducible refine wpList_load_row_g (by with_unfolding_all rfl) 27 (.tmp 19) (by with_unfolding_all rfl) w8.heap.size (by with_unfolding_all rfl) _ _ _ _ (unhide K19) Try.underlying27 (by with_unfolding_all rfl) s54X ?_) | (with_reducible refine wpList_load_row_g (by with_unfolding_all rfl) 27 (.tmp 6) (by with_unfolding_all rfl) BT (by with_unfolding_all rfl) _ _ _ _ (unhide K6) Try.underlying27 (by with_unfolding_all rfl) s54X ?_) | (with_reducible refine wpList_eqlA (by with_unfolding_all rfl) 27 27 (.tmp 120) (.tmp 121) (by with_unfolding_all rfl) (iv .i64 X) (iv .i64 X) (by with_unfolding_all rfl) (by with_unfolding_all rfl) table_guard _ (unhide EX) ?_) | (with_reducible refine wpList_load_row_g (by with_unfolding_all rfl) 29 (.tmp 20) (by with_unfolding_all rfl) (w8.heap.size + 1) (by with_unfolding_all rfl) _ _ _ _ (unhide K20) Try.underlying29 (by with_unfolding_all rfl) s7Y ?_) | (with_reducible refine wpList_load_row_g (by with_unfolding_all rfl) 29 (.tmp 11) (by with_unfolding_all rfl) BN (by with_unfolding_all rfl) _ _ _ _ (unhide K11) Try.underlying29 (by with_unfolding_all rfl) s7Y ?_) | (with_reducible refine wpList_eqlA (by with_unfolding_all rfl) 29 29 (.tmp 125) (.tmp 126) (by with_unfolding_all rfl) (iv .i64 Y) (iv .i64 Y) (by with_unfolding_all rfl) (by with_unfolding_all rfl) seven_guard _ (unhide EY) ?_))
          go_ret
          exact ⟨rfl, (unhide OE).below⟩

set_option maxRecDepth 100000 in
theorem lifted (os : Os) (started : os.Started) (H : Type) (enc : TypeId × Value → H) :
    ReturnsInHanded {} Try.checked os 3 .any (Rows.radixWrittenSpec.pre6 enc Try.prog Try.f3 Rows.radixWrittenRow.domain false) (Rows.radixWrittenSpec.post enc Try.prog Try.f3 false true false false) := by
  refine law_frame (C := Try.checked) (ts := [22, 22]) (tb := 4) (by kernel_rfl) started (by kernel_rfl) Try.func3 Try.params3 (by kernel_rfl) Try.underlying4 (by kernel_rfl) (by kernel_rfl) rfl ?_
    (ChangeSpec.witness6 (enc := enc) (C := Try.checked) false ⟨#[], #[.agg (iv .i64 (List.replicate 49 0)), .agg (iv .i64 (List.replicate 49 0))], []⟩ 8 (by kernel_rfl) (by kernel_rfl) (by kernel_rfl) (by kernel_rfl)) ?_
  · intro ds hd
    match ds, hd with
    | [d0, d1], _ => rfl
  · intro W base args ds p hval hA
    obtain ⟨v0, vs0, d0, ds0, p0, q0, hargs, rfl, rfl, h0, r0⟩ := trodAll_cons hA
    obtain ⟨v1, vs1, d1, ds1, p1, q1, rfl, rfl, rfl, h1, r1⟩ := trodAll_cons r0
    obtain ⟨rfl, rfl, rfl⟩ := trodAll_nil r1
    obtain rfl : args = #[v0, v1] := by cases args; simp_all
    obtain ⟨ks, rfl, hks⟩ := open_49 (hval 0 22 v0 rfl rfl) h0
    obtain ⟨vs, rfl, hvs⟩ := open_49 (hval 1 22 v1 rfl rfl) h1
    exact walk ks vs hks hvs W

theorem over : Rows.radixWrittenRow.holds Try.pinned (OpenSpec.ofChange Rows.radixWrittenSpec) :=
  OpenClaim.holds_of_wide 3 Try.f3 rfl rfl rfl rfl rfl rfl rfl ⟨rfl, rfl, rfl, rfl, rfl⟩ rfl rfl rfl rfl rfl (by kernel_rfl) Try.func3 (by kernel_rfl)
    (of_decide_eq_true (by kernel_rfl)) (by unfold Func.isWrapper; first | (rw [if_pos (by decide +kernel)]; kernel_rfl) | (rw [if_neg (by decide +kernel)]; exact ⟨rfl, rfl⟩))
    (fun os started H enc _ => lifted os started H enc)

end Go.Proofs.Ytnjicfnigfkppab.radixWritten
namespace Go.Proofs.Ytnjicfnigfkppab
theorem radixWritten_holds : Rows.RadixWrittenSaid := radixWritten.over
end Go.Proofs.Ytnjicfnigfkppab
