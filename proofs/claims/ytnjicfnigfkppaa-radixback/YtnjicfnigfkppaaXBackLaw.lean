
/-
  For every table, every number and every seven numbers, RadixBack returns true and leaves its arguments as they were: what is written is read as it was. No condition.
-/
import Derived.Test.YtnjicfnigfkppaaXArgs
import Derived.Test.YtnjicfnigfkppaaXRDiff
import Derived.Deep.Cut
namespace Go.Proofs.Ytnjicfnigfkppaa.radixBack
open Go.ChangeShapes Go.WideShapes Go.ChangeAt Go.RowKit Go.Joins
set_option linter.unusedVariables false
set_option linter.unusedSimpArgs false
set_option maxRecDepth 100000

theorem rootV_wf (n : List Int) : ∀ z ∈ rootV n, (Lit.int .u64 z).wf = true := by
  unfold rootV
  split
  · rename_i hm
    exact sealOf_wf _ (wUp_wf _ _ fun i h _ => by have := (mayT_iff n).1 hm i h; omega)
  · exact zs8_wf
set_option maxHeartbeats 8000000 in
theorem walk (t : List Int) (x : Int) (n : List Int) (ht : IsTab t) (hx : (Lit.int .i64 x).wf = true) (hn : IsSeven n) (W : World) :
    Calls Try.prog 5 #[.agg (iv .i64 t), .int .i64 x, .agg (iv .i64 n)] W fun e W' => e = .returned (.bool true) ∧ Below W.heap.size W W' := by
  have hx2 : -9223372036854775808 ≤ x ∧ x ≤ 9223372036854775807 := by
    simp [Lit.wf, IntKind.min, IntKind.max, IntKind.signed, IntKind.bits] at hx; omega
  obtain ⟨hx0, hx1⟩ := hx2
  clear hx
  have sT := s147o_of t ht.1
  have sN := s7_of n hn.1
  have C3 := hide (root_any n hn.1)
  have C4 := hide (readRoot_any (rootV n) (rootV_len n) (rootV_wf n))
  have sR := s8_of (rootV n) (rootV_len n)
  have nR := iv_newx .u64 (rootV n) 27 8 (rootV_len n)
  have zR : (iv .u64 (rootV n)).size = 8 := by rw [iv_size, rootV_len]
  have sM := s7_of (readTV (rootV n)) (readTV_len _)
  have nM := iv_newx .i64 (readTV (rootV n)) 37 7 (readTV_len _)
  have zM : (iv .i64 (readTV (rootV n))).size = 7 := by rw [iv_size, readTV_len]
  have HR : Hid (rootE n = 1 ∨ (rootE n = 0 ∧ isT (rootV n) = true ∧ ∀ w, (Op.equalIn 10000 37 (.agg (iv .i64 (readTV (rootV n)))) (.agg (iv .i64 n))).run Try.prog w = .ok true w)) := by
    show _ ∨ _
    cases hm : mayT n with
    | false => exact Or.inl (by simp [rootE, hm])
    | true =>
      have e1 : rootV n = rootS n := by simp [rootV, hm]
      obtain ⟨a1, a2⟩ := root_back n hn.1 hm
      refine Or.inr ⟨by simp [rootE, hm], by rw [e1]; exact a1, fun w => ?_⟩
      rw [equal_seven _ _ (readTV_len _) hn.1, e1, a2]; simp
  generalize rootE n = F at *
  generalize isT (rootV n) = Q at *
  generalize iv .i64 (readTV (rootV n)) = M at *
  generalize iv .u64 (rootV n) = R at *
  generalize iv .i64 n = N at *
  clear hn
  have O0 := hide (((Own.start W).alloc (.cells (iv .i64 t) 24)).alloc (.cells N 37))
  have g0 : (W.alloc (.cells (iv .i64 t) 24)).heap.size = W.heap.size + 1 := by simp
  rw [g0] at O0
  clear g0
  by_cases hneg : x < 0
  · go_enter Try.func5, Try.ntmps5
    go_wp2_with fail
    refine (shown9_any _).mono ?_
    rintro e w1 ⟨rfl, hb⟩
    have O1 := hide ((unhide O0).call hb)
    clear hb O0
    go_upto_region 5 with fail
    obtain ⟨k, hk, ek⟩ : ∃ k : Nat, k < 7 ∧ -(x + 1).tmod 7 = (k : Int) := by
      refine ⟨(-(x + 1).tmod 7).toNat, ?_, ?_⟩
      · have h1 := Int.tmod_lt_of_pos (-(x + 1)) (show (0 : Int) < 7 by omega)
        rw [Int.neg_tmod] at h1
        omega
      · have h1 := Int.tmod_nonneg (7 : Int) (show 0 ≤ -(x + 1) by omega)
        rw [Int.neg_tmod] at h1
        omega
    rw [ek]
    clear ek hneg
    have HF : Hid (leafKE t (k : Int) = 0 → isX (leafKV t (k : Int)) = true ∧ readXV (leafKV t (k : Int)) = partT t k) := fun h => by
      have hm : mayX (partT t k) = true := by
        unfold leafKE leafE at h
        rw [if_pos (by omega), Int.toNat_natCast] at h
        cases hm : mayX (partT t k) with
        | true => rfl
        | false => rw [hm] at h; simp at h
      have e1 : leafKV t (k : Int) = leafS (partT t k) := by
        unfold leafKV leafV
        rw [if_pos (by omega), Int.toNat_natCast, if_pos hm]
      rw [e1]
      exact leaf_back _ (partT_len _ _) hm
    have HE : Hid (leafKE t (k : Int) = 0 ∨ leafKE t (k : Int) = 1) := by
      show _ ∨ _
      unfold leafKE leafE
      split
      · split
        · exact Or.inl rfl
        · exact Or.inr rfl
      · exact Or.inr rfl
    have C1 := hide (leaf_any t ht.1 (k : Int))
    have C2 := hide (readLeaf_any (leafKV t (k : Int)) (leafKV_len _ _) (leafKV_wf _ _))
    have sL := s8_of (leafKV t (k : Int)) (leafKV_len _ _)
    have nL := iv_newx .u64 (leafKV t (k : Int)) 27 8 (leafKV_len _ _)
    have zL : (iv .u64 (leafKV t (k : Int))).size = 8 := by rw [iv_size, leafKV_len]
    have nX := iv_newx .i64 (readXV (leafKV t (k : Int))) 33 21 (readXV_len _)
    have zX : (iv .i64 (readXV (leafKV t (k : Int)))).size = 21 := by rw [iv_size, readXV_len]
    have LX := hide (readXV_len (leafKV t (k : Int)))
    generalize leafKE t (k : Int) = E at *
    generalize isX (leafKV t (k : Int)) = p at *
    generalize readXV (leafKV t (k : Int)) = xs at *
    generalize iv .u64 (leafKV t (k : Int)) = L at *
    have KT := hide ((unhide O1).at W.heap.size (.cells (iv .i64 t) 24) (by simp))
    generalize hT : iv .i64 t = T at *
    have HT := hide hT
    clear hT
    go_wp2_with (with_reducible refine wpList_load_row (by with_unfolding_all rfl) 24 _ (by with_unfolding_all rfl) W.heap.size (by with_unfolding_all rfl) _ _ _ _ (unhide KT) Try.underlying24 (by with_unfolding_all rfl) sT ?_)
    refine (unhide C1 _).mono ?_
    rintro e w2 ⟨rfl, hb⟩
    have O2 := hide (((unhide O1).call hb).alloc (.cells L 27))
    clear hb O1 KT C1
    have KL := hide ((unhide O2).at w2.heap.size (.cells L 27) (by simp))
    go_wp2_with (with_reducible refine wpList_load_row (by with_unfolding_all rfl) 27 _ (by with_unfolding_all rfl) w2.heap.size (by with_unfolding_all rfl) _ _ _ _ (unhide KL) Try.underlying27 (by with_unfolding_all rfl) sL ?_)
    refine (unhide C2 _).mono ?_
    rintro e w3 ⟨rfl, hb⟩
    have O3 := hide (((unhide O2).call hb).alloc (.cells (iv .i64 xs) 33))
    clear hb O2 KL C2
    rcases unhide HE with hE | hE
    · obtain ⟨hp, hxs⟩ := unhide HF hE
      subst hE hp hxs
      have O4 : Hid (Own W (w3.alloc (.cells (iv .i64 (partT t k)) 33)) [(W.heap.size + 1, .cells N 37), (W.heap.size, .cells T 24), (w3.heap.size, .cells (iv .i64 (partT t k)) 33)]) := (unhide O3).less fun p hp => by
        simp only [List.mem_cons, List.not_mem_nil, or_false] at hp ⊢
        rcases hp with rfl | rfl | rfl
        · exact Or.inr (Or.inr (Or.inl rfl))
        · exact Or.inr (Or.inr (Or.inr rfl))
        · exact Or.inl rfl
      clear O3 HF HE nL zL
      go_wp2_with fail
      go_loopw [12] (fun c wr => ∃ j : Nat, j ≤ 7 ∧ c = .int .i64 j ∧ Own W wr [(W.heap.size + 1, .cells N 37), (W.heap.size, .cells T 24), (w3.heap.size, .cells (iv .i64 (partT t k)) 33)]) (fun c _ => 7 - (intOf c).toNat)
      case atStart => exact ⟨0, by omega, rfl, unhide O4⟩
      case round =>
        clear O4 nX zX
        obtain ⟨j, hj, rfl, o4⟩ := hrel
        have O5 := hide o4
        have KT := hide (o4.at W.heap.size (.cells T 24) (by simp))
        have KX := hide (o4.at w3.heap.size (.cells (iv .i64 (partT t k)) 33) (by simp))
        clear o4
        by_cases hlt : j < 7
        · obtain ⟨q, hq⟩ : ∃ q : Nat, q = 7 * k + j := ⟨_, rfl⟩
          have RX : Hid (∀ w' : World, Below wr.heap.size wr w' → w'.rangeAt w3.heap.size (j * 3) (ev (enAt t q)).toList) := fun w' hb' => by
            have := range_en (partT t k) ((hb'.block _ (lt_of_heap (unhide KX))).trans (unhide KX)) j (by rw [partT_len]; omega)
            rwa [partT_at _ _ _ hlt, ← hq] at this
          have RT : Hid (∀ w' : World, Below wr.heap.size wr w' → w'.rangeAt W.heap.size (q * 3) (ev (enAt t q)).toList) := fun w' hb' => by
            have hk2 := unhide KT
            rw [← unhide HT] at hk2
            exact range_en t ((hb'.block _ (lt_of_heap hk2)).trans hk2) q (by rw [ht.1]; omega)
          have EQ : Hid (∀ w, (Op.equalIn 10000 23 (.agg (ev (enAt t q))) (.agg (ev (enAt t q)))).run Try.prog w = .ok true w) := fun w => by rw [equal_en]; simp
          have m1 : IntKind.i64.wrap (7 * (k : Int)) = 7 * (k : Int) := by simp [IntKind.wrap, IntKind.signed, IntKind.bits]; omega
          have m2 : IntKind.i64.wrap (7 * (k : Int) + (j : Int)) = (q : Int) := by simp [IntKind.wrap, IntKind.signed, IntKind.bits]; omega
          have q0 : (0 : Int) ≤ (q : Int) := by omega
          have q1 : (q : Int) < 49 := by omega
          clear hq KT KX
          generalize enAt t q = c at *
          go_wp2_with fail
          refine wp_region_noPanic ?_
          refine wp_region_held_drew (S := fun w' => Below wr.heap.size wr w') (by kernel_rfl) ((Below.refl _ _).drew) (fun hHeld => ?_)
          refine take_at 0 42 (v := ?_) rfl rfl (by kernel_rfl) (by kernel_rfl) (by kernel_rfl) (Or.inl ⟨by rfl, ?_⟩) hHeld ?_
          rotate_left
          · intro w hSw; go_simp; with_reducible rfl
          simp only [Act.put, List.setIfInBounds_toArray, List.set_cons_zero, List.set_cons_succ]
          refine take_at 1 43 (v := ?_) rfl rfl (by kernel_rfl) (by kernel_rfl) (by kernel_rfl) (Or.inl ⟨by rfl, ?_⟩) hHeld ?_
          rotate_left
          · intro w hSw; go_simp; with_reducible rfl
          simp only [Act.put, List.setIfInBounds_toArray, List.set_cons_zero, List.set_cons_succ]
          refine take_at 2 44 (v := ?_) rfl rfl (by kernel_rfl) (by kernel_rfl) (by kernel_rfl) (Or.inl ⟨by rfl, ?_⟩) hHeld ?_
          rotate_left
          · intro w hSw; go_simp; with_reducible rfl
          simp only [Act.put, List.setIfInBounds_toArray, List.set_cons_zero, List.set_cons_succ]
          refine take_at 3 45 (v := ?_) rfl rfl (by kernel_rfl) (by kernel_rfl) (by kernel_rfl) (Or.inl ⟨by rfl, ?_⟩) hHeld ?_
          rotate_left
          · intro w hSw; go_simp; with_reducible rfl
          simp only [Act.put, List.setIfInBounds_toArray, List.set_cons_zero, List.set_cons_succ]
          refine take_at 4 46 (v := ?_) rfl rfl (by kernel_rfl) (by kernel_rfl) (by kernel_rfl) (Or.inl ⟨by rfl, ?_⟩) hHeld ?_
          rotate_left
          · intro w hSw; go_simp; with_reducible rfl
          simp only [Act.put, List.setIfInBounds_toArray, List.set_cons_zero, List.set_cons_succ]
          refine take_at 5 47 rfl rfl (by kernel_rfl) (by kernel_rfl) (by kernel_rfl) (yieldsIf_load_en (by rfl) _ rfl w3.heap.size (j * 3) rfl c (fun w h => unhide RX w h)) hHeld ?_
          simp only [Act.put, List.setIfInBounds_toArray, List.set_cons_zero, List.set_cons_succ]
          refine take_at 6 48 (v := ?_) rfl rfl (by kernel_rfl) (by kernel_rfl) (by kernel_rfl) (Or.inl ⟨by rfl, ?_⟩) hHeld ?_
          rotate_left
          · intro w hSw; go_simp; with_reducible rfl
          simp only [Act.put, List.setIfInBounds_toArray, List.set_cons_zero, List.set_cons_succ]
          refine take_at 7 49 (v := ?_) rfl rfl (by kernel_rfl) (by kernel_rfl) (by kernel_rfl) (Or.inl ⟨by rfl, ?_⟩) hHeld ?_
          rotate_left
          · intro w hSw; go_simp; with_reducible rfl
          simp only [Act.put, List.setIfInBounds_toArray, List.set_cons_zero, List.set_cons_succ]
          refine take_at 8 50 (v := ?_) rfl rfl (by kernel_rfl) (by kernel_rfl) (by kernel_rfl) (Or.inl ⟨by rfl, ?_⟩) hHeld ?_
          rotate_left
          · intro w hSw; go_simp; with_reducible rfl
          simp only [Act.put, List.setIfInBounds_toArray, List.set_cons_zero, List.set_cons_succ]
          refine take_at 9 51 (v := ?_) rfl rfl (by kernel_rfl) (by kernel_rfl) (by kernel_rfl) (Or.inl ⟨by rfl, ?_⟩) hHeld ?_
          rotate_left
          · intro w hSw; go_simp; with_reducible rfl
          simp only [Act.put, List.setIfInBounds_toArray, List.set_cons_zero, List.set_cons_succ]
          refine take_at 10 52 (v := ?_) rfl rfl (by kernel_rfl) (by kernel_rfl) (by kernel_rfl) (Or.inl ⟨by rfl, ?_⟩) hHeld ?_
          rotate_left
          · intro w hSw; go_simp; with_reducible rfl
          simp only [Act.put, List.setIfInBounds_toArray, List.set_cons_zero, List.set_cons_succ]
          refine take_at 11 53 rfl rfl (by kernel_rfl) (by kernel_rfl) (by kernel_rfl) (yieldsIf_load_en (by rfl) _ rfl W.heap.size (q * 3) rfl c (fun w h => unhide RT w h)) hHeld ?_
          simp only [Act.put, List.setIfInBounds_toArray, List.set_cons_zero, List.set_cons_succ]
          refine take_at 12 54 rfl rfl (by kernel_rfl) (by kernel_rfl) (by kernel_rfl) (yieldsIf_neqA (by rfl) 23 23 _ _ rfl (ev c) (ev c) rfl rfl en_guard _ (unhide EQ)) hHeld ?_
          simp only [Act.put, List.setIfInBounds_toArray, List.set_cons_zero, List.set_cons_succ]
          refine take_at 13 55 (v := ?_) rfl rfl (by kernel_rfl) (by kernel_rfl) (by kernel_rfl) (Or.inl ⟨by rfl, ?_⟩) hHeld ?_
          rotate_left
          · intro w hSw; go_simp; with_reducible rfl
          simp only [Act.put, List.setIfInBounds_toArray, List.set_cons_zero, List.set_cons_succ]
          refine wpAnyH_done (by kernel_rfl) ?_ _
          refine NoPanic.normal ?_
          have O6 := hide ((unhide O5).call hHeld)
          clear hHeld O5 RX RT EQ
          go_wp2_with fail
          go_roundw
          case rel => exact ⟨j + 1, by omega, by go_num, unhide O6⟩
          case measure => simp [intOf]; omega
        · obtain rfl : j = 7 := by omega
          clear KT KX HT
          have KN := hide ((unhide O5).at (W.heap.size + 1) (.cells N 37) (by simp))
          go_wp2_with (with_reducible refine wpList_load_row (by with_unfolding_all rfl) 37 _ (by with_unfolding_all rfl) (W.heap.size + 1) (by with_unfolding_all rfl) _ _ _ _ (unhide KN) Try.underlying37 (by with_unfolding_all rfl) sN ?_)
          refine (unhide C3 _).mono ?_
          rintro e w6 ⟨rfl, hb⟩
          have O6 := hide (((unhide O5).call hb).alloc (.cells R 27))
          clear hb O5 KN
          have KR := hide ((unhide O6).at w6.heap.size (.cells R 27) (by simp))
          go_wp2_with (with_reducible refine wpList_load_row (by with_unfolding_all rfl) 27 _ (by with_unfolding_all rfl) w6.heap.size (by with_unfolding_all rfl) _ _ _ _ (unhide KR) Try.underlying27 (by with_unfolding_all rfl) sR ?_)
          refine (unhide C4 _).mono ?_
          rintro e w7 ⟨rfl, hb⟩
          have O7 := hide (((unhide O6).call hb).alloc (.cells M 37))
          clear hb O6 KR
          have KM := hide ((unhide O7).at w7.heap.size (.cells M 37) (by simp))
          have KN := hide ((unhide O7).at (W.heap.size + 1) (.cells N 37) (by simp))
          rcases unhide HR with hF | ⟨hF, hQ, EN⟩
          · subst hF
            go_wp2_with fail
            go_ret
            exact ⟨rfl, (unhide O7).below⟩
          · subst hF hQ
            go_wp2_with (first | (with_reducible refine wpList_load_row_g (by with_unfolding_all rfl) 37 (.tmp 15) (by with_unfolding_all rfl) w7.heap.size (by with_unfolding_all rfl) _ _ _ _ (unhide KM) Try.underlying37 (by with_unfolding_all rfl) sM ?_) | (with_reducible refine wpList_load_row_g (by with_unfolding_all rfl) 37 (.tmp 5) (by with_unfolding_all rfl) (W.heap.size + 1) (by with_unfolding_all rfl) _ _ _ _ (unhide KN) Try.underlying37 (by with_unfolding_all rfl) sN ?_) | (with_reducible refine wpList_eqlA (by with_unfolding_all rfl) 37 37 (.tmp 73) (.tmp 74) (by with_unfolding_all rfl) M N (by with_unfolding_all rfl) (by with_unfolding_all rfl) seven_guard _ EN ?_))
            go_ret
            exact ⟨rfl, (unhide O7).below⟩
    · subst hE
      have O5 := O3
      clear HF HE O3 HT
      have KN := hide ((unhide O5).at (W.heap.size + 1) (.cells N 37) (by simp))
      go_wp2_with (with_reducible refine wpList_load_row (by with_unfolding_all rfl) 37 _ (by with_unfolding_all rfl) (W.heap.size + 1) (by with_unfolding_all rfl) _ _ _ _ (unhide KN) Try.underlying37 (by with_unfolding_all rfl) sN ?_)
      refine (unhide C3 _).mono ?_
      rintro e w6 ⟨rfl, hb⟩
      have O6 := hide (((unhide O5).call hb).alloc (.cells R 27))
      clear hb O5 KN
      have KR := hide ((unhide O6).at w6.heap.size (.cells R 27) (by simp))
      go_wp2_with (with_reducible refine wpList_load_row (by with_unfolding_all rfl) 27 _ (by with_unfolding_all rfl) w6.heap.size (by with_unfolding_all rfl) _ _ _ _ (unhide KR) Try.underlying27 (by with_unfolding_all rfl) sR ?_)
      refine (unhide C4 _).mono ?_
      rintro e w7 ⟨rfl, hb⟩
      have O7 := hide (((unhide O6).call hb).alloc (.cells M 37))
      clear hb O6 KR
      have KM := hide ((unhide O7).at w7.heap.size (.cells M 37) (by simp))
      have KN := hide ((unhide O7).at (W.heap.size + 1) (.cells N 37) (by simp))
      rcases unhide HR with hF | ⟨hF, hQ, EN⟩
      · subst hF
        go_wp2_with fail
        go_ret
        exact ⟨rfl, (unhide O7).below⟩
      · subst hF hQ
        go_wp2_with (first | (with_reducible refine wpList_load_row_g (by with_unfolding_all rfl) 37 (.tmp 15) (by with_unfolding_all rfl) w7.heap.size (by with_unfolding_all rfl) _ _ _ _ (unhide KM) Try.underlying37 (by with_unfolding_all rfl) sM ?_) | (with_reducible refine wpList_load_row_g (by with_unfolding_all rfl) 37 (.tmp 5) (by with_unfolding_all rfl) (W.heap.size + 1) (by with_unfolding_all rfl) _ _ _ _ (unhide KN) Try.underlying37 (by with_unfolding_all rfl) sN ?_) | (with_reducible refine wpList_eqlA (by with_unfolding_all rfl) 37 37 (.tmp 73) (.tmp 74) (by with_unfolding_all rfl) M N (by with_unfolding_all rfl) (by with_unfolding_all rfl) seven_guard _ EN ?_))
        go_ret
        exact ⟨rfl, (unhide O7).below⟩
  · go_enter Try.func5, Try.ntmps5
    go_wp2_with fail
    refine (shown9_any _).mono ?_
    rintro e w1 ⟨rfl, hb⟩
    have O1 := hide ((unhide O0).call hb)
    clear hb O0
    go_upto_region 5 with fail
    obtain ⟨k, hk, ek⟩ : ∃ k : Nat, k < 7 ∧ x % 7 = (k : Int) := ⟨(x % 7).toNat, by omega, by omega⟩
    rw [ek]
    clear ek hneg
    have HF : Hid (leafKE t (k : Int) = 0 → isX (leafKV t (k : Int)) = true ∧ readXV (leafKV t (k : Int)) = partT t k) := fun h => by
      have hm : mayX (partT t k) = true := by
        unfold leafKE leafE at h
        rw [if_pos (by omega), Int.toNat_natCast] at h
        cases hm : mayX (partT t k) with
        | true => rfl
        | false => rw [hm] at h; simp at h
      have e1 : leafKV t (k : Int) = leafS (partT t k) := by
        unfold leafKV leafV
        rw [if_pos (by omega), Int.toNat_natCast, if_pos hm]
      rw [e1]
      exact leaf_back _ (partT_len _ _) hm
    have HE : Hid (leafKE t (k : Int) = 0 ∨ leafKE t (k : Int) = 1) := by
      show _ ∨ _
      unfold leafKE leafE
      split
      · split
        · exact Or.inl rfl
        · exact Or.inr rfl
      · exact Or.inr rfl
    have C1 := hide (leaf_any t ht.1 (k : Int))
    have C2 := hide (readLeaf_any (leafKV t (k : Int)) (leafKV_len _ _) (leafKV_wf _ _))
    have sL := s8_of (leafKV t (k : Int)) (leafKV_len _ _)
    have nL := iv_newx .u64 (leafKV t (k : Int)) 27 8 (leafKV_len _ _)
    have zL : (iv .u64 (leafKV t (k : Int))).size = 8 := by rw [iv_size, leafKV_len]
    have nX := iv_newx .i64 (readXV (leafKV t (k : Int))) 33 21 (readXV_len _)
    have zX : (iv .i64 (readXV (leafKV t (k : Int)))).size = 21 := by rw [iv_size, readXV_len]
    have LX := hide (readXV_len (leafKV t (k : Int)))
    generalize leafKE t (k : Int) = E at *
    generalize isX (leafKV t (k : Int)) = p at *
    generalize readXV (leafKV t (k : Int)) = xs at *
    generalize iv .u64 (leafKV t (k : Int)) = L at *
    have KT := hide ((unhide O1).at W.heap.size (.cells (iv .i64 t) 24) (by simp))
    generalize hT : iv .i64 t = T at *
    have HT := hide hT
    clear hT
    go_wp2_with (with_reducible refine wpList_load_row (by with_unfolding_all rfl) 24 _ (by with_unfolding_all rfl) W.heap.size (by with_unfolding_all rfl) _ _ _ _ (unhide KT) Try.underlying24 (by with_unfolding_all rfl) sT ?_)
    refine (unhide C1 _).mono ?_
    rintro e w2 ⟨rfl, hb⟩
    have O2 := hide (((unhide O1).call hb).alloc (.cells L 27))
    clear hb O1 KT C1
    have KL := hide ((unhide O2).at w2.heap.size (.cells L 27) (by simp))
    go_wp2_with (with_reducible refine wpList_load_row (by with_unfolding_all rfl) 27 _ (by with_unfolding_all rfl) w2.heap.size (by with_unfolding_all rfl) _ _ _ _ (unhide KL) Try.underlying27 (by with_unfolding_all rfl) sL ?_)
    refine (unhide C2 _).mono ?_
    rintro e w3 ⟨rfl, hb⟩
    have O3 := hide (((unhide O2).call hb).alloc (.cells (iv .i64 xs) 33))
    clear hb O2 KL C2
    rcases unhide HE with hE | hE
    · obtain ⟨hp, hxs⟩ := unhide HF hE
      subst hE hp hxs
      have O4 : Hid (Own W (w3.alloc (.cells (iv .i64 (partT t k)) 33)) [(W.heap.size + 1, .cells N 37), (W.heap.size, .cells T 24), (w3.heap.size, .cells (iv .i64 (partT t k)) 33)]) := (unhide O3).less fun p hp => by
        simp only [List.mem_cons, List.not_mem_nil, or_false] at hp ⊢
        rcases hp with rfl | rfl | rfl
        · exact Or.inr (Or.inr (Or.inl rfl))
        · exact Or.inr (Or.inr (Or.inr rfl))
        · exact Or.inl rfl
      clear O3 HF HE nL zL
      go_wp2_with fail
      go_loopw [12] (fun c wr => ∃ j : Nat, j ≤ 7 ∧ c = .int .i64 j ∧ Own W wr [(W.heap.size + 1, .cells N 37), (W.heap.size, .cells T 24), (w3.heap.size, .cells (iv .i64 (partT t k)) 33)]) (fun c _ => 7 - (intOf c).toNat)
      case atStart => exact ⟨0, by omega, rfl, unhide O4⟩
      case round =>
        clear O4 nX zX
        obtain ⟨j, hj, rfl, o4⟩ := hrel
        have O5 := hide o4
        have KT := hide (o4.at W.heap.size (.cells T 24) (by simp))
        have KX := hide (o4.at w3.heap.size (.cells (iv .i64 (partT t k)) 33) (by simp))
        clear o4
        by_cases hlt : j < 7
        · obtain ⟨q, hq⟩ : ∃ q : Nat, q = 7 * k + j := ⟨_, rfl⟩
          have RX : Hid (∀ w' : World, Below wr.heap.size wr w' → w'.rangeAt w3.heap.size (j * 3) (ev (enAt t q)).toList) := fun w' hb' => by
            have := range_en (partT t k) ((hb'.block _ (lt_of_heap (unhide KX))).trans (unhide KX)) j (by rw [partT_len]; omega)
            rwa [partT_at _ _ _ hlt, ← hq] at this
          have RT : Hid (∀ w' : World, Below wr.heap.size wr w' → w'.rangeAt W.heap.size (q * 3) (ev (enAt t q)).toList) := fun w' hb' => by
            have hk2 := unhide KT
            rw [← unhide HT] at hk2
            exact range_en t ((hb'.block _ (lt_of_heap hk2)).trans hk2) q (by rw [ht.1]; omega)
          have EQ : Hid (∀ w, (Op.equalIn 10000 23 (.agg (ev (enAt t q))) (.agg (ev (enAt t q)))).run Try.prog w = .ok true w) := fun w => by rw [equal_en]; simp
          have m1 : IntKind.i64.wrap (7 * (k : Int)) = 7 * (k : Int) := by simp [IntKind.wrap, IntKind.signed, IntKind.bits]; omega
          have m2 : IntKind.i64.wrap (7 * (k : Int) + (j : Int)) = (q : Int) := by simp [IntKind.wrap, IntKind.signed, IntKind.bits]; omega
          have q0 : (0 : Int) ≤ (q : Int) := by omega
          have q1 : (q : Int) < 49 := by omega
          clear hq KT KX
          generalize enAt t q = c at *
          go_wp2_with fail
          refine wp_region_noPanic ?_
          refine wp_region_held_drew (S := fun w' => Below wr.heap.size wr w') (by kernel_rfl) ((Below.refl _ _).drew) (fun hHeld => ?_)
          refine take_at 0 42 (v := ?_) rfl rfl (by kernel_rfl) (by kernel_rfl) (by kernel_rfl) (Or.inl ⟨by rfl, ?_⟩) hHeld ?_
          rotate_left
          · intro w hSw; go_simp; with_reducible rfl
          simp only [Act.put, List.setIfInBounds_toArray, List.set_cons_zero, List.set_cons_succ]
          refine take_at 1 43 (v := ?_) rfl rfl (by kernel_rfl) (by kernel_rfl) (by kernel_rfl) (Or.inl ⟨by rfl, ?_⟩) hHeld ?_
          rotate_left
          · intro w hSw; go_simp; with_reducible rfl
          simp only [Act.put, List.setIfInBounds_toArray, List.set_cons_zero, List.set_cons_succ]
          refine take_at 2 44 (v := ?_) rfl rfl (by kernel_rfl) (by kernel_rfl) (by kernel_rfl) (Or.inl ⟨by rfl, ?_⟩) hHeld ?_
          rotate_left
          · intro w hSw; go_simp; with_reducible rfl
          simp only [Act.put, List.setIfInBounds_toArray, List.set_cons_zero, List.set_cons_succ]
          refine take_at 3 45 (v := ?_) rfl rfl (by kernel_rfl) (by kernel_rfl) (by kernel_rfl) (Or.inl ⟨by rfl, ?_⟩) hHeld ?_
          rotate_left
          · intro w hSw; go_simp; with_reducible rfl
          simp only [Act.put, List.setIfInBounds_toArray, List.set_cons_zero, List.set_cons_succ]
          refine take_at 4 46 (v := ?_) rfl rfl (by kernel_rfl) (by kernel_rfl) (by kernel_rfl) (Or.inl ⟨by rfl, ?_⟩) hHeld ?_
          rotate_left
          · intro w hSw; go_simp; with_reducible rfl
          simp only [Act.put, List.setIfInBounds_toArray, List.set_cons_zero, List.set_cons_succ]
          refine take_at 5 47 rfl rfl (by kernel_rfl) (by kernel_rfl) (by kernel_rfl) (yieldsIf_load_en (by rfl) _ rfl w3.heap.size (j * 3) rfl c (fun w h => unhide RX w h)) hHeld ?_
          simp only [Act.put, List.setIfInBounds_toArray, List.set_cons_zero, List.set_cons_succ]
          refine take_at 6 48 (v := ?_) rfl rfl (by kernel_rfl) (by kernel_rfl) (by kernel_rfl) (Or.inl ⟨by rfl, ?_⟩) hHeld ?_
          rotate_left
          · intro w hSw; go_simp; with_reducible rfl
          simp only [Act.put, List.setIfInBounds_toArray, List.set_cons_zero, List.set_cons_succ]
          refine take_at 7 49 (v := ?_) rfl rfl (by kernel_rfl) (by kernel_rfl) (by kernel_rfl) (Or.inl ⟨by rfl, ?_⟩) hHeld ?_
          rotate_left
          · intro w hSw; go_simp; with_reducible rfl
          simp only [Act.put, List.setIfInBounds_toArray, List.set_cons_zero, List.set_cons_succ]
          refine take_at 8 50 (v := ?_) rfl rfl (by kernel_rfl) (by kernel_rfl) (by kernel_rfl) (Or.inl ⟨by rfl, ?_⟩) hHeld ?_
          rotate_left
          · intro w hSw; go_simp; with_reducible rfl
          simp only [Act.put, List.setIfInBounds_toArray, List.set_cons_zero, List.set_cons_succ]
          refine take_at 9 51 (v := ?_) rfl rfl (by kernel_rfl) (by kernel_rfl) (by kernel_rfl) (Or.inl ⟨by rfl, ?_⟩) hHeld ?_
          rotate_left
          · intro w hSw; go_simp; with_reducible rfl
          simp only [Act.put, List.setIfInBounds_toArray, List.set_cons_zero, List.set_cons_succ]
          refine take_at 10 52 (v := ?_) rfl rfl (by kernel_rfl) (by kernel_rfl) (by kernel_rfl) (Or.inl ⟨by rfl, ?_⟩) hHeld ?_
          rotate_left
          · intro w hSw; go_simp; with_reducible rfl
          simp only [Act.put, List.setIfInBounds_toArray, List.set_cons_zero, List.set_cons_succ]
          refine take_at 11 53 rfl rfl (by kernel_rfl) (by kernel_rfl) (by kernel_rfl) (yieldsIf_load_en (by rfl) _ rfl W.heap.size (q * 3) rfl c (fun w h => unhide RT w h)) hHeld ?_
          simp only [Act.put, List.setIfInBounds_toArray, List.set_cons_zero, List.set_cons_succ]
          refine take_at 12 54 rfl rfl (by kernel_rfl) (by kernel_rfl) (by kernel_rfl) (yieldsIf_neqA (by rfl) 23 23 _ _ rfl (ev c) (ev c) rfl rfl en_guard _ (unhide EQ)) hHeld ?_
          simp only [Act.put, List.setIfInBounds_toArray, List.set_cons_zero, List.set_cons_succ]
          refine take_at 13 55 (v := ?_) rfl rfl (by kernel_rfl) (by kernel_rfl) (by kernel_rfl) (Or.inl ⟨by rfl, ?_⟩) hHeld ?_
          rotate_left
          · intro w hSw; go_simp; with_reducible rfl
          simp only [Act.put, List.setIfInBounds_toArray, List.set_cons_zero, List.set_cons_succ]
          refine wpAnyH_done (by kernel_rfl) ?_ _
          refine NoPanic.normal ?_
          have O6 := hide ((unhide O5).call hHeld)
          clear hHeld O5 RX RT EQ
          go_wp2_with fail
          go_roundw
          case rel => exact ⟨j + 1, by omega, by go_num, unhide O6⟩
          case measure => simp [intOf]; omega
        · obtain rfl : j = 7 := by omega
          clear KT KX HT
          have KN := hide ((unhide O5).at (W.heap.size + 1) (.cells N 37) (by simp))
          go_wp2_with (with_reducible refine wpList_load_row (by with_unfolding_all rfl) 37 _ (by with_unfolding_all rfl) (W.heap.size + 1) (by with_unfolding_all rfl) _ _ _ _ (unhide KN) Try.underlying37 (by with_unfolding_all rfl) sN ?_)
          refine (unhide C3 _).mono ?_
          rintro e w6 ⟨rfl, hb⟩
          have O6 := hide (((unhide O5).call hb).alloc (.cells R 27))
          clear hb O5 KN
          have KR := hide ((unhide O6).at w6.heap.size (.cells R 27) (by simp))
          go_wp2_with (with_reducible refine wpList_load_row (by with_unfolding_all rfl) 27 _ (by with_unfolding_all rfl) w6.heap.size (by with_unfolding_all rfl) _ _ _ _ (unhide KR) Try.underlying27 (by with_unfolding_all rfl) sR ?_)
          refine (unhide C4 _).mono ?_
          rintro e w7 ⟨rfl, hb⟩
          have O7 := hide (((unhide O6).call hb).alloc (.cells M 37))
          clear hb O6 KR
          have KM := hide ((unhide O7).at w7.heap.size (.cells M 37) (by simp))
          have KN := hide ((unhide O7).at (W.heap.size + 1) (.cells N 37) (by simp))
          rcases unhide HR with hF | ⟨hF, hQ, EN⟩
          · subst hF
            go_wp2_with fail
            go_ret
            exact ⟨rfl, (unhide O7).below⟩
          · subst hF hQ
            go_wp2_with (first | (with_reducible refine wpList_load_row_g (by with_unfolding_all rfl) 37 (.tmp 15) (by with_unfolding_all rfl) w7.heap.size (by with_unfolding_all rfl) _ _ _ _ (unhide KM) Try.underlying37 (by with_unfolding_all rfl) sM ?_) | (with_reducible refine wpList_load_row_g (by with_unfolding_all rfl) 37 (.tmp 5) (by with_unfolding_all rfl) (W.heap.size + 1) (by with_unfolding_all rfl) _ _ _ _ (unhide KN) Try.underlying37 (by with_unfolding_all rfl) sN ?_) | (with_reducible refine wpList_eqlA (by with_unfolding_all rfl) 37 37 (.tmp 73) (.tmp 74) (by with_unfolding_all rfl) M N (by with_unfolding_all rfl) (by with_unfolding_all rfl) seven_guard _ EN ?_))
            go_ret
            exact ⟨rfl, (unhide O7).below⟩
    · subst hE
      have O5 := O3
      clear HF HE O3 HT
      have KN := hide ((unhide O5).at (W.heap.size + 1) (.cells N 37) (by simp))
      go_wp2_with (with_reducible refine wpList_load_row (by with_unfolding_all rfl) 37 _ (by with_unfolding_all rfl) (W.heap.size + 1) (by with_unfolding_all rfl) _ _ _ _ (unhide KN) Try.underlying37 (by with_unfolding_all rfl) sN ?_)
      refine (unhide C3 _).mono ?_
      rintro e w6 ⟨rfl, hb⟩
      have O6 := hide (((unhide O5).call hb).alloc (.cells R 27))
      clear hb O5 KN
      have KR := hide ((unhide O6).at w6.heap.size (.cells R 27) (by simp))
      go_wp2_with (with_reducible refine wpList_load_row (by with_unfolding_all rfl) 27 _ (by with_unfolding_all rfl) w6.heap.size (by with_unfolding_all rfl) _ _ _ _ (unhide KR) Try.underlying27 (by with_unfolding_all rfl) sR ?_)
      refine (unhide C4 _).mono ?_
      rintro e w7 ⟨rfl, hb⟩
      have O7 := hide (((unhide O6).call hb).alloc (.cells M 37))
      clear hb O6 KR
      have KM := hide ((unhide O7).at w7.heap.size (.cells M 37) (by simp))
      have KN := hide ((unhide O7).at (W.heap.size + 1) (.cells N 37) (by simp))
      rcases unhide HR with hF | ⟨hF, hQ, EN⟩
      · subst hF
        go_wp2_with fail
        go_ret
        exact ⟨rfl, (unhide O7).below⟩
      · subst hF hQ
        go_wp2_with (first | (with_reducible refine wpList_load_row_g (by with_unfolding_all rfl) 37 (.tmp 15) (by with_unfolding_all rfl) w7.heap.size (by with_unfolding_all rfl) _ _ _ _ (unhide KM) Try.underlying37 (by with_unfolding_all rfl) sM ?_) | (with_reducible refine wpList_load_row_g (by with_unfolding_all rfl) 37 (.tmp 5) (by with_unfolding_all rfl) (W.heap.size + 1) (by with_unfolding_all rfl) _ _ _ _ (unhide KN) Try.underlying37 (by with_unfolding_all rfl) sN ?_) | (with_reducible refine wpList_eqlA (by with_unfolding_all rfl) 37 37 (.tmp 73) (.tmp 74) (by with_unfolding_all rfl) M N (by with_unfolding_all rfl) (by with_unfolding_all rfl) seven_guard _ EN ?_))
        go_ret
        exact ⟨rfl, (unhide O7).below⟩

set_option maxRecDepth 100000 in
theorem lifted (os : Os) (started : os.Started) (H : Type) (enc : TypeId × Value → H) :
    ReturnsInHanded {} Try.checked os 5 .any (Rows.radixBackSpec.pre6 enc Try.prog Try.f5 Rows.radixBackRow.domain false) (Rows.radixBackSpec.post enc Try.prog Try.f5 false true false false) := by
  refine law_frame (C := Try.checked) (ts := [24, 3, 37]) (tb := 4) (by kernel_rfl) started (by kernel_rfl) Try.func5 Try.params5 (by kernel_rfl) Try.underlying4 (by kernel_rfl) (by kernel_rfl) rfl ?_
    (ChangeSpec.witness6 (enc := enc) (C := Try.checked) false ⟨#[], #[.agg (iv .i64 (List.replicate 147 0)), .int .i64 0, .agg (iv .i64 (List.replicate 7 0))], []⟩ 8 (by kernel_rfl) (by kernel_rfl) (by kernel_rfl) (by kernel_rfl)) ?_
  · intro ds hd
    match ds, hd with
    | [d0, d1, d2], _ => rfl
  · intro W base args ds p hval hA
    obtain ⟨v0, vs0, d0, ds0, p0, q0, hargs, rfl, rfl, h0, r0⟩ := trodAll_cons hA
    obtain ⟨v1, vs1, d1, ds1, p1, q1, rfl, rfl, rfl, h1, r1⟩ := trodAll_cons r0
    obtain ⟨v2, vs2, d2, ds2, p2, q2, rfl, rfl, rfl, h2, r2⟩ := trodAll_cons r1
    obtain ⟨rfl, rfl, rfl⟩ := trodAll_nil r2
    obtain rfl : args = #[v0, v1, v2] := by cases args; simp_all
    obtain ⟨t, rfl, ht⟩ := open_tab (hval 0 24 v0 rfl rfl) h0
    obtain ⟨x, rfl, rfl, rfl, wx⟩ := open_int Try.underlying3 (hval 1 3 v1 rfl rfl) h1
    obtain ⟨n, rfl, hn⟩ := open_seven (hval 2 37 v2 rfl rfl) h2
    exact walk t x n ht wx hn W

theorem over : Rows.radixBackRow.holds Try.pinned (OpenSpec.ofChange Rows.radixBackSpec) :=
  OpenClaim.holds_of_wide 5 Try.f5 rfl rfl rfl rfl rfl rfl rfl ⟨rfl, rfl, rfl, rfl, rfl⟩ rfl rfl rfl rfl rfl (by kernel_rfl) Try.func5 (by kernel_rfl)
    (of_decide_eq_true (by kernel_rfl)) (by unfold Func.isWrapper; first | (rw [if_pos (by decide +kernel)]; kernel_rfl) | (rw [if_neg (by decide +kernel)]; exact ⟨rfl, rfl⟩))
    (fun os started H enc _ => lifted os started H enc)

end Go.Proofs.Ytnjicfnigfkppaa.radixBack
namespace Go.Proofs.Ytnjicfnigfkppaa
theorem radixBack_holds : Rows.RadixBackSaid := radixBack.over
end Go.Proofs.Ytnjicfnigfkppaa
