
/-
  For every table, every number and every entry, RadixOne returns true and leaves its arguments as they were: two tables of which one entry is another one differ in just that one's leaf. No condition.
-/
import Derived.Test.YtnjicfnigfkppaaXArgs
import Derived.Test.YtnjicfnigfkppaaXRDiff
import Derived.Deep.Cut
namespace Go.Proofs.Ytnjicfnigfkppaa.radixOne
open Go.ChangeShapes Go.WideShapes Go.ChangeAt Go.RowKit Go.Joins
set_option linter.unusedVariables false
set_option linter.unusedSimpArgs false
set_option maxRecDepth 100000

theorem df_filter (a b : List Int) (f : Nat → Bool) (h : ∀ j, j < 7 → dfB a b j = f j) : dfTo a b 7 = ((List.range 7).filter f).map fun k : Nat => (k : Int) := by
  unfold dfTo
  congr 1
  apply List.filter_congr
  intro j hj
  exact h j (by simpa using hj)
theorem df_same (a : List Int) : dfTo a a 7 = [] := by
  rw [df_filter a a (fun _ => false) fun j _ => by unfold dfB; simp]
  rfl
theorem df_put_same (t : List Int) (ht : t.length = 147) (k : Nat) (hk : k < 49) (c : En) (hc : enAt t k = c) : dfTo t (put3 t k c) 7 = [] := by
  have : put3 t k c = t := (row_eq_iff _ _ 49 (by rw [put3_len, ht]) ht).2 fun i hi => by
    rw [put3_at t 49 k c ht hk i hi]
    by_cases e : i = k
    · rw [if_pos e, e, hc]
    · rw [if_neg e]
  rw [this]; exact df_same t
theorem df_put (t : List Int) (ht : t.length = 147) (k : Nat) (hk : k < 49) (c : En) (hc : enAt t k ≠ c) : dfTo t (put3 t k c) 7 = [(k : Int) / 7] := by
  have key : ∀ j, j < 7 → dfB t (put3 t k c) j = decide (j = k / 7) := by
    intro j hj
    have h2 := row_eq_iff (partT t j) (partT (put3 t k c) j) 7 (partT_len _ _) (partT_len _ _)
    unfold dfB
    rw [decide_eq_decide, ne_eq, h2]
    constructor
    · intro h
      by_cases e : j = k / 7
      · exact e
      · exfalso
        apply h
        intro i hi
        rw [partT_at _ _ _ hi, partT_at _ _ _ hi, put3_at t 49 k c ht hk _ (by omega), if_neg (by omega)]
    · rintro rfl h
      have := h (k % 7) (by omega)
      rw [partT_at _ _ _ (by omega), partT_at _ _ _ (by omega), show 7 * (k / 7) + k % 7 = k by omega, put3_at t 49 k c ht hk _ hk, if_pos rfl] at this
      exact hc this
  rw [df_filter _ _ _ key]
  have hq : ∀ q, q < 7 → ((List.range 7).filter fun j => decide (j = q)).map (fun k : Nat => (k : Int)) = [(q : Int)] := by decide
  rw [hq (k / 7) (by omega)]
  simp
def IsEnX (c : En) : Prop := (Lit.int .i64 c.k).wf = true ∧ (Lit.int .i64 c.v).wf = true ∧ (Lit.int .i64 c.l).wf = true
theorem fit_enX : ∀ (vs : List Value), AllFit [some .i64, some .i64, some .i64] vs → ∃ c : En, vs = (ev c).toList ∧ IsEnX c
  | [], h => by simp [AllFit] at h
  | [_], h => by simp [AllFit] at h
  | [_, _], h => by simp [AllFit] at h
  | [a, b, c], h => by
    obtain ⟨h1, h2, h3, -⟩ := h
    obtain ⟨x, rfl, w1⟩ := h1
    obtain ⟨y, rfl, w2⟩ := h2
    obtain ⟨z, rfl, w3⟩ := h3
    exact ⟨⟨x, y, z⟩, rfl, w1, w2, w3⟩
  | _ :: _ :: _ :: _ :: _, h => by simp [AllFit] at h
theorem open_enX {H : Type} {enc : TypeId × Value → H} {W : World} {r : Reach} {b0 base : Nat} {sp : Nat → Bool} {hd : Bool} {v : Value} {d : DataW H} {p : List MemPlace}
    (hv : Value.okWide Try.prog W r b0 23 v) (h : DataW.Trod enc Try.prog W base sp hd 23 v d p) : ∃ x : En, v = .agg (ev x) ∧ IsEnX x := by
  obtain ⟨cs, rfl, hfit⟩ := flat_open 3 (ks := [some .i64, some .i64, some .i64]) (by kernel_rfl) (Or.inl ⟨_, Try.underlying23⟩) hv h
  obtain ⟨x, hx, hw⟩ := fit_enX cs.toList hfit
  refine ⟨x, ?_, hw⟩
  congr 1
  rw [← Array.toArray_toList (xs := cs), hx]
theorem own_put3 {W w : World} {L : List (Nat × Obj)} {b : Nat} {T : TypeId} {fr : Nat × Nat} (zs : List Int) (h : Own W w ((b, .cells (iv .i64 zs) T fr) :: L)) (hb : W.heap.size ≤ b) (hL : ∀ p ∈ L, p.1 ≠ b) (i : Nat) (c : En) : Own W (w.setCells b (i * 3) (ev c).toList) ((b, .cells (iv .i64 (put3 zs i c)) T fr) :: L) :=
  ⟨below_put3 h.1 hb _ _, fun p hp => by
    rcases List.mem_cons.1 hp with rfl | hp
    · exact block_put3 zs (h.at b _ (List.mem_cons_self ..)) i c
    · rw [heap_put3 (hL p hp)]; exact h.2 p (List.mem_cons_of_mem _ hp)⟩

set_option maxHeartbeats 8000000 in
theorem walk (t : List Int) (x : Int) (c : En) (ht : IsTab t) (hx : (Lit.int .i64 x).wf = true) (hc : IsEnX c) (W : World) :
    Calls Try.prog 8 #[.agg (iv .i64 t), .int .i64 x, .agg (ev c)] W fun e W' => e = .returned (.bool true) ∧ Below W.heap.size W W' := by
  have hx2 : -9223372036854775808 ≤ x ∧ x ≤ 9223372036854775807 := by
    simp [Lit.wf, IntKind.min, IntKind.max, IntKind.signed, IntKind.bits] at hx; omega
  obtain ⟨hx0, hx1⟩ := hx2
  clear hx hc
  have sT := s147o_of t ht.1
  have O0 := hide (((Own.start W).alloc (.cells (iv .i64 t) 24)).alloc (.cells (ev c) 23))
  have g0 : (W.alloc (.cells (iv .i64 t) 24)).heap.size = W.heap.size + 1 := by simp
  rw [g0] at O0
  clear g0
  by_cases hneg : x.tmod 49 < 0
  · go_enter Try.func8, Try.ntmps8
    go_wp2_with fail
    refine (shown9_any _).mono ?_
    rintro e w1 ⟨rfl, hb⟩
    have O1 := hide ((unhide O0).call hb)
    clear hb O0
    go_upto_region 5 with fail
    obtain ⟨k, hk, ek⟩ : ∃ k : Nat, k < 49 ∧ wrap64 (-x.tmod 49) = (k : Int) := by
      have h1 := Int.lt_tmod_of_pos x (show (0 : Int) < 49 by omega)
      refine ⟨(-x.tmod 49).toNat, by omega, ?_⟩
      unfold wrap64
      omega
    rw [ek]
    clear ek hneg hx0 hx1
    have D1 := hide (differ_any t (put3 t k c) ht.1 (by rw [put3_len, ht.1]))
    have D2 := hide (differ_any t t ht.1 ht.1)
    rw [df_same t] at D2
    have O2 := hide ((unhide O1).alloc (.cells (iv .i64 t) 24))
    have hs1 : W.heap.size + 1 < w1.heap.size := lt_of_heap ((unhide O1).at (W.heap.size + 1) (.cells (ev c) 23) (by simp))
    have O3 := hide (own_put3 t (unhide O2) (by omega) (fun p hp => by
        simp only [List.mem_cons, List.not_mem_nil, or_false] at hp
        rcases hp with rfl | rfl
        · show W.heap.size + 1 ≠ w1.heap.size; omega
        · show W.heap.size ≠ w1.heap.size; omega) k c)
    have KT := hide ((unhide O1).at W.heap.size (.cells (iv .i64 t) 24) (by simp))
    have RC : Hid ((w1.alloc (.cells (iv .i64 t) 24)).rangeAt (W.heap.size + 1) 0 (ev c).toList) := fun m v hv => by
      rw [cell_of_block ((unhide O2).at (W.heap.size + 1) (.cells (ev c) 23) (by simp)), Nat.zero_add, ← Array.getElem?_toList]; exact hv
    have TK := hide (there_en t (heap_new w1 (.cells (iv .i64 t) 24)) k (by rw [ht.1]; omega))
    have sU := s147o_of (put3 t k c) (by rw [put3_len, ht.1])
    clear O1 O2
    have RT0 : Hid (∀ w' : World, w'.heap[W.heap.size]? = some (.cells (iv .i64 t) 24) → w'.rangeAt W.heap.size (k * 3) (ev (enAt t k)).toList) := fun w' h => range_en t h k (by rw [ht.1]; omega)
    have hkz : (k : Int) < 49 := by omega
    have DF1 : Hid (enAt t k = c → dfTo t (put3 t k c) 7 = []) := df_put_same t ht.1 k hk c
    have DF2 : Hid (enAt t k ≠ c → dfTo t (put3 t k c) 7 = [(k : Int) / 7]) := df_put t ht.1 k hk c
    have nT := iv_newx .i64 t 24 147 ht.1
    have zT : (iv .i64 t).size = 147 := by rw [iv_size, ht.1]
    clear ht
    generalize iv .i64 (put3 t k c) = U at *
    generalize iv .i64 t = T at *
    go_upto_region 7 with (first | (with_reducible refine wpList_load_row (by with_unfolding_all rfl) 24 _ (by with_unfolding_all rfl) W.heap.size (by with_unfolding_all rfl) _ _ _ _ (unhide KT) Try.underlying24 (by with_unfolding_all rfl) sT ?_) | (with_reducible refine wpList_load_en (by with_unfolding_all rfl) (.tmp 5) (by with_unfolding_all rfl) (W.heap.size + 1) 0 (by with_unfolding_all rfl) c (unhide RC) ?_) | (with_reducible refine wpList_store_en (by with_unfolding_all rfl) _ _ (by with_unfolding_all rfl) w1.heap.size (k * 3) c (by with_unfolding_all rfl) (by with_unfolding_all rfl) (unhide TK) ?_))
    clear KT RC TK nT zT
    generalize (w1.alloc (.cells T 24)).setCells w1.heap.size (k * 3) (ev c).toList = w2 at *
    have K1 := hide ((unhide O3).at W.heap.size (.cells T 24) (by simp))
    have K2 := hide ((unhide O3).at w1.heap.size (.cells U 24) (by simp))
    go_wp2_with (first | (with_reducible refine wpList_load_row (by with_unfolding_all rfl) 24 (.tmp 3) (by with_unfolding_all rfl) W.heap.size (by with_unfolding_all rfl) _ _ _ _ (unhide K1) Try.underlying24 (by with_unfolding_all rfl) sT ?_) | (with_reducible refine wpList_load_row (by with_unfolding_all rfl) 24 (.tmp 9) (by with_unfolding_all rfl) w1.heap.size (by with_unfolding_all rfl) _ _ _ _ (unhide K2) Try.underlying24 (by with_unfolding_all rfl) sU ?_))
    refine (unhide D1 _).mono ?_
    rintro e w3 ⟨v1, rfl, hb, r1⟩
    have O4 := hide ((unhide O3).call hb)
    have R1 := hide r1
    clear hb r1 D1 O3 K1 K2
    have K1 := hide ((unhide O4).at W.heap.size (.cells T 24) (by simp))
    go_wp2_with (with_reducible refine wpList_load_row (by with_unfolding_all rfl) 24 _ (by with_unfolding_all rfl) W.heap.size (by with_unfolding_all rfl) _ _ _ _ (unhide K1) Try.underlying24 (by with_unfolding_all rfl) sT ?_)
    refine (unhide D2 _).mono ?_
    rintro e w4 ⟨v2, rfl, hb, r2⟩
    have O5 := hide ((unhide O4).call hb)
    have R2 := hide ((unhide R1).below hb)
    obtain ⟨a2, cap2, rfl⟩ := r2.none
    clear hb r2 D2 O4 K1 R1
    have RA : Hid (∀ w' : World, Below w4.heap.size w4 w' → w'.rangeAt W.heap.size (k * 3) (ev (enAt t k)).toList) := fun w' hb' =>
      unhide RT0 w' ((hb'.block _ (lt_of_heap ((unhide O5).at W.heap.size (.cells T 24) (by simp)))).trans ((unhide O5).at W.heap.size (.cells T 24) (by simp)))
    have RC : Hid (∀ w' : World, Below w4.heap.size w4 w' → w'.rangeAt (W.heap.size + 1) 0 (ev c).toList) := fun w' hb' m v hv => by
      rw [cell_of_block ((hb'.block _ (lt_of_heap ((unhide O5).at (W.heap.size + 1) (.cells (ev c) 23) (by simp)))).trans ((unhide O5).at (W.heap.size + 1) (.cells (ev c) 23) (by simp))), Nat.zero_add, ← Array.getElem?_toList]; exact hv
    have EQ : Hid (∀ w, _) := fun w => equal_en (enAt t k) c w
    clear RT0
    go_wp2_with fail
    refine wp_region_noPanic ?_
    refine wp_region_held_drew (S := fun w' => Below w4.heap.size w4 w') (by kernel_rfl) ((Below.refl _ _).drew) (fun hHeld => ?_)
    refine take_at 0 29 (v := ?_) rfl rfl (by kernel_rfl) (by kernel_rfl) (by kernel_rfl) (Or.inl ⟨by rfl, ?_⟩) hHeld ?_
    rotate_left
    · intro w hSw; go_simp; with_reducible rfl
    simp only [Act.put, List.setIfInBounds_toArray, List.set_cons_zero, List.set_cons_succ]
    refine take_at 1 30 (v := ?_) rfl rfl (by kernel_rfl) (by kernel_rfl) (by kernel_rfl) (Or.inl ⟨by rfl, ?_⟩) hHeld ?_
    rotate_left
    · intro w hSw; go_simp; with_reducible rfl
    simp only [Act.put, List.setIfInBounds_toArray, List.set_cons_zero, List.set_cons_succ]
    refine take_at 2 31 rfl rfl (by kernel_rfl) (by kernel_rfl) (by kernel_rfl) (yieldsIf_load_en (by rfl) _ rfl W.heap.size (k * 3) rfl (enAt t k) (fun w h => unhide RA w h)) hHeld ?_
    simp only [Act.put, List.setIfInBounds_toArray, List.set_cons_zero, List.set_cons_succ]
    refine take_at 3 32 rfl rfl (by kernel_rfl) (by kernel_rfl) (by kernel_rfl) (yieldsIf_load_en (by rfl) _ rfl (W.heap.size + 1) 0 rfl c (fun w h => unhide RC w h)) hHeld ?_
    simp only [Act.put, List.setIfInBounds_toArray, List.set_cons_zero, List.set_cons_succ]
    refine take_at 4 33 rfl rfl (by kernel_rfl) (by kernel_rfl) (by kernel_rfl) (yieldsIf_eql (by rfl) 23 23 _ _ rfl (ev (enAt t k)) (ev c) rfl rfl en_guard _ (unhide EQ)) hHeld ?_
    simp only [Act.put, List.setIfInBounds_toArray, List.set_cons_zero, List.set_cons_succ]
    refine wpAnyH_done (by kernel_rfl) ?_ _
    refine NoPanic.normal ?_
    have O6 := hide ((unhide O5).call hHeld)
    have R3 := hide ((unhide R2).below hHeld)
    clear hHeld O5 R2 RA RC EQ
    cases hd : decide (enAt t k = c) with
    | true =>
      have r3 := unhide R3
      rw [unhide DF1 (of_decide_eq_true hd)] at r3
      obtain ⟨a1, cap1, rfl⟩ := r3.none
      clear hd DF1 DF2 R3 r3
      go_wp2_with fail
      go_ret
      exact ⟨rfl, (unhide O6).below⟩
    | false =>
      have r3 := unhide R3
      rw [unhide DF2 (of_decide_eq_false hd)] at r3
      obtain ⟨g, cap1, rfl, c0, h0⟩ := r3.one
      clear hd DF1 DF2 R3 r3
      go_wp2_with fail
      go_ret
      exact ⟨rfl, (unhide O6).below⟩
  · go_enter Try.func8, Try.ntmps8
    go_wp2_with fail
    refine (shown9_any _).mono ?_
    rintro e w1 ⟨rfl, hb⟩
    have O1 := hide ((unhide O0).call hb)
    clear hb O0
    go_upto_region 5 with fail
    obtain ⟨k, hk, ek⟩ : ∃ k : Nat, k < 49 ∧ x.tmod 49 = (k : Int) := by
      have h1 := Int.tmod_lt_of_pos x (show (0 : Int) < 49 by omega)
      exact ⟨(x.tmod 49).toNat, by omega, by omega⟩
    rw [ek]
    clear ek hneg hx0 hx1
    have D1 := hide (differ_any t (put3 t k c) ht.1 (by rw [put3_len, ht.1]))
    have D2 := hide (differ_any t t ht.1 ht.1)
    rw [df_same t] at D2
    have O2 := hide ((unhide O1).alloc (.cells (iv .i64 t) 24))
    have hs1 : W.heap.size + 1 < w1.heap.size := lt_of_heap ((unhide O1).at (W.heap.size + 1) (.cells (ev c) 23) (by simp))
    have O3 := hide (own_put3 t (unhide O2) (by omega) (fun p hp => by
        simp only [List.mem_cons, List.not_mem_nil, or_false] at hp
        rcases hp with rfl | rfl
        · show W.heap.size + 1 ≠ w1.heap.size; omega
        · show W.heap.size ≠ w1.heap.size; omega) k c)
    have KT := hide ((unhide O1).at W.heap.size (.cells (iv .i64 t) 24) (by simp))
    have RC : Hid ((w1.alloc (.cells (iv .i64 t) 24)).rangeAt (W.heap.size + 1) 0 (ev c).toList) := fun m v hv => by
      rw [cell_of_block ((unhide O2).at (W.heap.size + 1) (.cells (ev c) 23) (by simp)), Nat.zero_add, ← Array.getElem?_toList]; exact hv
    have TK := hide (there_en t (heap_new w1 (.cells (iv .i64 t) 24)) k (by rw [ht.1]; omega))
    have sU := s147o_of (put3 t k c) (by rw [put3_len, ht.1])
    clear O1 O2
    have RT0 : Hid (∀ w' : World, w'.heap[W.heap.size]? = some (.cells (iv .i64 t) 24) → w'.rangeAt W.heap.size (k * 3) (ev (enAt t k)).toList) := fun w' h => range_en t h k (by rw [ht.1]; omega)
    have hkz : (k : Int) < 49 := by omega
    have DF1 : Hid (enAt t k = c → dfTo t (put3 t k c) 7 = []) := df_put_same t ht.1 k hk c
    have DF2 : Hid (enAt t k ≠ c → dfTo t (put3 t k c) 7 = [(k : Int) / 7]) := df_put t ht.1 k hk c
    have nT := iv_newx .i64 t 24 147 ht.1
    have zT : (iv .i64 t).size = 147 := by rw [iv_size, ht.1]
    clear ht
    generalize iv .i64 (put3 t k c) = U at *
    generalize iv .i64 t = T at *
    go_upto_region 7 with (first | (with_reducible refine wpList_load_row (by with_unfolding_all rfl) 24 _ (by with_unfolding_all rfl) W.heap.size (by with_unfolding_all rfl) _ _ _ _ (unhide KT) Try.underlying24 (by with_unfolding_all rfl) sT ?_) | (with_reducible refine wpList_load_en (by with_unfolding_all rfl) (.tmp 5) (by with_unfolding_all rfl) (W.heap.size + 1) 0 (by with_unfolding_all rfl) c (unhide RC) ?_) | (with_reducible refine wpList_store_en (by with_unfolding_all rfl) _ _ (by with_unfolding_all rfl) w1.heap.size (k * 3) c (by with_unfolding_all rfl) (by with_unfolding_all rfl) (unhide TK) ?_))
    clear KT RC TK nT zT
    generalize (w1.alloc (.cells T 24)).setCells w1.heap.size (k * 3) (ev c).toList = w2 at *
    have K1 := hide ((unhide O3).at W.heap.size (.cells T 24) (by simp))
    have K2 := hide ((unhide O3).at w1.heap.size (.cells U 24) (by simp))
    go_wp2_with (first | (with_reducible refine wpList_load_row (by with_unfolding_all rfl) 24 (.tmp 3) (by with_unfolding_all rfl) W.heap.size (by with_unfolding_all rfl) _ _ _ _ (unhide K1) Try.underlying24 (by with_unfolding_all rfl) sT ?_) | (with_reducible refine wpList_load_row (by with_unfolding_all rfl) 24 (.tmp 9) (by with_unfolding_all rfl) w1.heap.size (by with_unfolding_all rfl) _ _ _ _ (unhide K2) Try.underlying24 (by with_unfolding_all rfl) sU ?_))
    refine (unhide D1 _).mono ?_
    rintro e w3 ⟨v1, rfl, hb, r1⟩
    have O4 := hide ((unhide O3).call hb)
    have R1 := hide r1
    clear hb r1 D1 O3 K1 K2
    have K1 := hide ((unhide O4).at W.heap.size (.cells T 24) (by simp))
    go_wp2_with (with_reducible refine wpList_load_row (by with_unfolding_all rfl) 24 _ (by with_unfolding_all rfl) W.heap.size (by with_unfolding_all rfl) _ _ _ _ (unhide K1) Try.underlying24 (by with_unfolding_all rfl) sT ?_)
    refine (unhide D2 _).mono ?_
    rintro e w4 ⟨v2, rfl, hb, r2⟩
    have O5 := hide ((unhide O4).call hb)
    have R2 := hide ((unhide R1).below hb)
    obtain ⟨a2, cap2, rfl⟩ := r2.none
    clear hb r2 D2 O4 K1 R1
    have RA : Hid (∀ w' : World, Below w4.heap.size w4 w' → w'.rangeAt W.heap.size (k * 3) (ev (enAt t k)).toList) := fun w' hb' =>
      unhide RT0 w' ((hb'.block _ (lt_of_heap ((unhide O5).at W.heap.size (.cells T 24) (by simp)))).trans ((unhide O5).at W.heap.size (.cells T 24) (by simp)))
    have RC : Hid (∀ w' : World, Below w4.heap.size w4 w' → w'.rangeAt (W.heap.size + 1) 0 (ev c).toList) := fun w' hb' m v hv => by
      rw [cell_of_block ((hb'.block _ (lt_of_heap ((unhide O5).at (W.heap.size + 1) (.cells (ev c) 23) (by simp)))).trans ((unhide O5).at (W.heap.size + 1) (.cells (ev c) 23) (by simp))), Nat.zero_add, ← Array.getElem?_toList]; exact hv
    have EQ : Hid (∀ w, _) := fun w => equal_en (enAt t k) c w
    clear RT0
    go_wp2_with fail
    refine wp_region_noPanic ?_
    refine wp_region_held_drew (S := fun w' => Below w4.heap.size w4 w') (by kernel_rfl) ((Below.refl _ _).drew) (fun hHeld => ?_)
    refine take_at 0 29 (v := ?_) rfl rfl (by kernel_rfl) (by kernel_rfl) (by kernel_rfl) (Or.inl ⟨by rfl, ?_⟩) hHeld ?_
    rotate_left
    · intro w hSw; go_simp; with_reducible rfl
    simp only [Act.put, List.setIfInBounds_toArray, List.set_cons_zero, List.set_cons_succ]
    refine take_at 1 30 (v := ?_) rfl rfl (by kernel_rfl) (by kernel_rfl) (by kernel_rfl) (Or.inl ⟨by rfl, ?_⟩) hHeld ?_
    rotate_left
    · intro w hSw; go_simp; with_reducible rfl
    simp only [Act.put, List.setIfInBounds_toArray, List.set_cons_zero, List.set_cons_succ]
    refine take_at 2 31 rfl rfl (by kernel_rfl) (by kernel_rfl) (by kernel_rfl) (yieldsIf_load_en (by rfl) _ rfl W.heap.size (k * 3) rfl (enAt t k) (fun w h => unhide RA w h)) hHeld ?_
    simp only [Act.put, List.setIfInBounds_toArray, List.set_cons_zero, List.set_cons_succ]
    refine take_at 3 32 rfl rfl (by kernel_rfl) (by kernel_rfl) (by kernel_rfl) (yieldsIf_load_en (by rfl) _ rfl (W.heap.size + 1) 0 rfl c (fun w h => unhide RC w h)) hHeld ?_
    simp only [Act.put, List.setIfInBounds_toArray, List.set_cons_zero, List.set_cons_succ]
    refine take_at 4 33 rfl rfl (by kernel_rfl) (by kernel_rfl) (by kernel_rfl) (yieldsIf_eql (by rfl) 23 23 _ _ rfl (ev (enAt t k)) (ev c) rfl rfl en_guard _ (unhide EQ)) hHeld ?_
    simp only [Act.put, List.setIfInBounds_toArray, List.set_cons_zero, List.set_cons_succ]
    refine wpAnyH_done (by kernel_rfl) ?_ _
    refine NoPanic.normal ?_
    have O6 := hide ((unhide O5).call hHeld)
    have R3 := hide ((unhide R2).below hHeld)
    clear hHeld O5 R2 RA RC EQ
    cases hd : decide (enAt t k = c) with
    | true =>
      have r3 := unhide R3
      rw [unhide DF1 (of_decide_eq_true hd)] at r3
      obtain ⟨a1, cap1, rfl⟩ := r3.none
      clear hd DF1 DF2 R3 r3
      go_wp2_with fail
      go_ret
      exact ⟨rfl, (unhide O6).below⟩
    | false =>
      have r3 := unhide R3
      rw [unhide DF2 (of_decide_eq_false hd)] at r3
      obtain ⟨g, cap1, rfl, c0, h0⟩ := r3.one
      clear hd DF1 DF2 R3 r3
      go_wp2_with fail
      go_ret
      exact ⟨rfl, (unhide O6).below⟩

set_option maxRecDepth 100000 in
theorem lifted (os : Os) (started : os.Started) (H : Type) (enc : TypeId × Value → H) :
    ReturnsInHanded {} Try.checked os 8 .any (Rows.radixOneSpec.pre6 enc Try.prog Try.f8 Rows.radixOneRow.domain false) (Rows.radixOneSpec.post enc Try.prog Try.f8 false true false false) := by
  refine law_frame (C := Try.checked) (ts := [24, 3, 23]) (tb := 4) (by kernel_rfl) started (by kernel_rfl) Try.func8 Try.params8 (by kernel_rfl) Try.underlying4 (by kernel_rfl) (by kernel_rfl) rfl ?_
    (ChangeSpec.witness6 (enc := enc) (C := Try.checked) false ⟨#[], #[.agg (iv .i64 (List.replicate 147 0)), .int .i64 0, .agg (ev ze)], []⟩ 8 (by kernel_rfl) (by kernel_rfl) (by kernel_rfl) (by kernel_rfl)) ?_
  · intro ds hd
    match ds, hd with
    | [d0, d1, d2], _ => rfl
  · intro W base args ds p hval hA
    obtain ⟨v0, vs0, d0, ds0, p0, q0, hargs, rfl, rfl, h0, r0⟩ := trodAll_cons hA
    obtain ⟨v1, vs1, d1, ds1, p1, q1, rfl, rfl, rfl, h1, r1⟩ := trodAll_cons r0
    obtain ⟨v2, vs2, d2, ds2, p2, q2, rfl, rfl, rfl, h2, r2⟩ := trodAll_cons r1
    obtain ⟨rfl, rfl, rfl⟩ := trodAll_nil r2
    obtain rfl : args = #[v0, v1, v2] := by cases args; simp_all
    obtain ⟨t, rfl, ht⟩ := open_tab (hval 0 24 v0 rfl rfl) h0
    obtain ⟨x, rfl, rfl, rfl, wx⟩ := open_int Try.underlying3 (hval 1 3 v1 rfl rfl) h1
    obtain ⟨c, rfl, hc⟩ := open_enX (hval 2 23 v2 rfl rfl) h2
    exact walk t x c ht wx hc W

theorem over : Rows.radixOneRow.holds Try.pinned (OpenSpec.ofChange Rows.radixOneSpec) :=
  OpenClaim.holds_of_wide 8 Try.f8 rfl rfl rfl rfl rfl rfl rfl ⟨rfl, rfl, rfl, rfl, rfl⟩ rfl rfl rfl rfl rfl (by kernel_rfl) Try.func8 (by kernel_rfl)
    (of_decide_eq_true (by kernel_rfl)) (by unfold Func.isWrapper; first | (rw [if_pos (by decide +kernel)]; kernel_rfl) | (rw [if_neg (by decide +kernel)]; exact ⟨rfl, rfl⟩))
    (fun os started H enc _ => lifted os started H enc)

end Go.Proofs.Ytnjicfnigfkppaa.radixOne
namespace Go.Proofs.Ytnjicfnigfkppaa
theorem radixOne_holds : Rows.RadixOneSaid := radixOne.over
end Go.Proofs.Ytnjicfnigfkppaa
