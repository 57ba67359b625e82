
/-
  The document's examples, at the head of each statement of layer 9: they hold, and leave what was there as it was.
-/
import Derived.Test.YtnjicfnigfkppabXDiff
import Derived.Test.YtnjicfnigfkppabFlat
import Derived.Test.YtnjicfnigfkppabLaw
import Derived.Deep.Cut
namespace Go.Proofs.Ytnjicfnigfkppab
open Go.ChangeShapes Go.WideShapes Go.ChangeAt Go.RowKit Go.Joins
set_option maxRecDepth 100000
set_option linter.unusedVariables false
set_option linter.unusedSimpArgs false

theorem build147 : Try.prog.built 27 [] = some (iv .i64 (zrow 49)) := by
  rw [zrow_zero]; kernel_rfl
/-- The zero value of a table. -/
theorem zval147 : ∀ w : World, Sem.run Try.prog (zeroValue 27) w = .ok (.agg (iv .i64 (zrow 49))) w := fun w => by
  have hz : (Try.prog.info? 27).map (·.zero) = some (some (.agg (iv .i64 (zrow 49)))) := by rw [zrow_zero]; kernel_rfl
  cases hq : Try.prog.info? 27 with
  | none => rw [hq] at hz; simp at hz
  | some i =>
    have h2 : i.zero = some (.agg (iv .i64 (zrow 49))) := by rw [hq] at hz; simpa using hz
    simp [zeroValue, typeInfo, hq, h2]
theorem zrow_ne : ¬ (iv .i64 (zrow 49) = #[]) := fun h => by
  have := congrArg Array.size h
  rw [iv_size, zrow_len] at this
  simp at this
theorem isX_nought (l : List Int) (h : l.getD 7 0 = 0) : isX l = false := by
  unfold isX goodB
  rw [h, decide_eq_false (by have := sealW_bd l; omega), Bool.and_false]
theorem isT_word (l : List Int) (h : l.getD 0 0 < 4294967296) : isT l = false := by
  cases hi : isT l with
  | false => rfl
  | true => have := ((isT_iff l).1 hi).1 0 (by omega); omega

def oneT : List Int := put3 (zrow 49) 8 ⟨1, 0, 5⟩
theorem oneT_len : oneT.length = 147 := by unfold oneT; rw [put3_len, zrow_len]
theorem oneT_cells : ((((iv .i64 (zrow 49)).setIfInBounds 24 (.int .i64 1)).setIfInBounds 25 (.int .i64 0)).setIfInBounds 26 (.int .i64 5)) = iv .i64 oneT := by
  rw [iv_set, iv_set, iv_set]; rfl
theorem df_one : dfTo (zrow 49) oneT 7 = [1] := by decide +kernel
theorem leaf_seven : leafKE (zrow 49) 7 = 1 := by decide
theorem leaf_zero : leafKE (zrow 49) 0 = 0 := by decide +kernel
theorem root_six : rootE [0, 0, 0, 0, 0, 0, 1024] = 1 := by decide
theorem leaf_word : (leafKV (zrow 49) 0).getD 0 0 = 0 := by
  have h1 : mayX (partT (zrow 49) 0) = true := by decide +kernel
  have h2 : leafKV (zrow 49) 0 = leafS (partT (zrow 49) 0) := by
    unfold leafKV leafV
    rw [if_pos (by decide), show Int.toNat 0 = 0 from rfl, if_pos h1]
  rw [h2]
  unfold leafS
  rw [lineG_get _ 0 (by omega), partT_at _ _ _ (by omega)]
  decide +kernel
theorem leafKV_wf (t : List Int) (k : Int) : ∀ z ∈ leafKV t k, (Lit.int .u64 z).wf = true := by
  have h8 : ∀ z ∈ zs8, (Lit.int .u64 z).wf = true := by decide
  unfold leafKV
  split
  · unfold leafV
    split
    · rename_i hm
      exact sealOf_wf _ (wUp_wf _ _ fun i h _ => by have := wordN_bd _ ((mayX_iff _).1 hm i h); omega)
    · exact h8
  · exact h8
theorem zs8_wf : ∀ z ∈ zs8, (Lit.int .u64 z).wf = true := by decide

theorem RowX.cell {w : World} {base : Nat} {v : Value} {zs : List Int} (h : RowX base v zs w) (hne : zs ≠ []) : ∃ g cap, v = .slice (some ⟨g, 0, none⟩) zs.length cap ∧ base ≤ g ∧ zs.length ≤ cap ∧ ∀ i, i < zs.length → w.cell? ⟨g, i, none⟩ = some (.int .i64 (zs.getD i 0)) := by
  have hl : 0 < zs.length := List.length_pos_iff.2 hne
  rcases h.2 with ⟨rfl, h'⟩ | ⟨g, cap, cur, rfl, h1, h2, h3, h4, h5, h6⟩
  · omega
  · refine ⟨g, cap, rfl, h1, h3, fun i hi => ?_⟩
    rw [cell_of_block h2]
    have : (cur.toList.take (zs.length * 1))[i]? = some (.int .i64 (zs.getD i 0)) := by rw [h6]; simp [intsX, hi]
    rw [List.getElem?_take, if_pos (by omega), Array.getElem?_toList] at this
    exact this
theorem RowX.one {w : World} {base : Nat} {v : Value} {z : Int} (h : RowX base v [z] w) : ∃ g cap, v = .slice (some ⟨g, 0, none⟩) 1 cap ∧ w.cell? ⟨g, 0, none⟩ = some (.int .i64 z) ∧ 1 ≤ cap := by
  obtain ⟨g, cap, h1, -, h3, h4⟩ := h.cell (by simp)
  exact ⟨g, cap, h1, h4 0 (by simp), h3⟩
theorem RowX.none {w : World} {base : Nat} {v : Value} (h : RowX base v [] w) : (∃ a cap, v = .slice a 0 cap) := by
  rcases h.2 with ⟨rfl, h'⟩ | ⟨g, cap, cur, rfl, h1⟩
  · exact ⟨_, _, rfl⟩
  · exact ⟨_, _, rfl⟩

set_option maxHeartbeats 4000000 in
theorem shown9_any (w : World) : Calls Try.prog 4 #[] w fun e w' => e = .returned (.bool true) ∧ Below w.heap.size w w' := by
  have zL : (zrow 49).length = 147 := zrow_len 49
  have n147 := iv_newg .i64 (zrow 49) 27 147 zL
  have hzv := zval147
  have hzne := zrow_ne
  have s147 := s147_of (zrow 49) zL
  have sO := s147_of oneT oneT_len
  have OC := hide oneT_cells
  have C1 := hide (leaf_any (zrow 49) zL 7)
  rw [leaf_seven] at C1
  have C2 := hide (root_any [0, 0, 0, 0, 0, 0, 1024] rfl)
  rw [root_six] at C2
  have C3 := hide (readLeaf_any zs8 rfl zs8_wf)
  rw [isX_nought zs8 rfl] at C3
  have C4 := hide (leaf_any (zrow 49) zL 0)
  rw [leaf_zero] at C4
  have C5 := hide (readRoot_any (leafKV (zrow 49) 0) (leafKV_len _ _) (leafKV_wf _ _))
  rw [isT_word _ (by rw [leaf_word]; omega)] at C5
  have C6 := hide (differ_any (zrow 49) oneT zL oneT_len)
  rw [df_one] at C6
  have nA := iv_newx .u64 (leafKV (zrow 49) 7) 32 8 (leafKV_len _ _)
  have zA : (iv .u64 (leafKV (zrow 49) 7)).size = 8 := by rw [iv_size, leafKV_len]
  have nB := iv_newx .u64 (rootV [0, 0, 0, 0, 0, 0, 1024]) 32 8 (rootV_len _)
  have zB : (iv .u64 (rootV [0, 0, 0, 0, 0, 0, 1024])).size = 8 := by rw [iv_size, rootV_len]
  have nC := iv_newx .i64 (readXV zs8) 43 21 (readXV_len _)
  have zC : (iv .i64 (readXV zs8)).size = 21 := by rw [iv_size, readXV_len]
  have nD := iv_newx .u64 (leafKV (zrow 49) 0) 32 8 (leafKV_len _ _)
  have zD : (iv .u64 (leafKV (zrow 49) 0)).size = 8 := by rw [iv_size, leafKV_len]
  have sD := s8_of (leafKV (zrow 49) 0) (leafKV_len _ _)
  have nE := iv_newx .i64 (readTV (leafKV (zrow 49) 0)) 29 7 (readTV_len _)
  have zE : (iv .i64 (readTV (leafKV (zrow 49) 0))).size = 7 := by rw [iv_size, readTV_len]
  generalize iv .u64 (leafKV (zrow 49) 7) = A at *
  generalize iv .u64 (rootV [0, 0, 0, 0, 0, 0, 1024]) = B at *
  generalize iv .i64 (readXV zs8) = C at *
  generalize iv .i64 (readTV (leafKV (zrow 49) 0)) = E at *
  generalize iv .u64 (leafKV (zrow 49) 0) = D at *
  have e7 : iv .i64 [0, 0, 0, 0, 0, 0, 1024] = #[.int .i64 0, .int .i64 0, .int .i64 0, .int .i64 0, .int .i64 0, .int .i64 0, .int .i64 1024] := rfl
  rw [e7] at C2
  clear e7
  have e8 : iv .u64 zs8 = #[.int .u64 0, .int .u64 0, .int .u64 0, .int .u64 0, .int .u64 0, .int .u64 0, .int .u64 0, .int .u64 0] := rfl
  rw [e8] at C3
  clear e8
  have B147 := hide build147
  have zO : (iv .i64 oneT).size = 147 := by rw [iv_size, oneT_len]
  have zZ : (iv .i64 (zrow 49)).size = 147 := by rw [iv_size, zL]
  generalize iv .i64 oneT = O at *
  generalize iv .i64 (zrow 49) = Z at *
  have O0 := hide (((Own.start w).alloc (.cells Z 27)).alloc (.cells O 27))
  go_enter Try.func4, Try.ntmps4
  go_upto_region 4 with (refine wpList_build0 rfl 27 rfl _ (unhide B147) ?_)
  rw [unhide OC]
  have O1 : Hid (Own w ((w.alloc (.cells Z 27)).alloc (.cells O 27)) [(w.heap.size, .cells Z 27), (w.heap.size + 1, .cells O 27)]) := (unhide O0).less fun p hp => by
    simp only [List.mem_cons, List.not_mem_nil, or_false] at hp ⊢
    rcases hp with rfl | rfl
    · exact Or.inr rfl
    · exact Or.inl (by simp)
  clear O0 OC B147 n147 zL
  generalize (w.alloc (.cells Z 27)).alloc (.cells O 27) = w0 at *
  have K1 := hide ((unhide O1).at w.heap.size (.cells Z 27) (by simp))
  go_wp2_with (with_reducible refine wpList_load_row (by with_unfolding_all rfl) 27 _ (by with_unfolding_all rfl) w.heap.size (by with_unfolding_all rfl) _ _ _ _ (unhide K1) Try.underlying27 (by with_unfolding_all rfl) s147 ?_)
  refine (unhide C1 _).mono ?_
  rintro e w1 ⟨rfl, hb⟩
  have O2 := hide (((unhide O1).call hb).alloc (.cells A 32))
  clear hb C1 K1 O1
  go_wp2_with fail
  refine (unhide C2 _).mono ?_
  rintro e w2 ⟨rfl, hb⟩
  have O3 := hide (((unhide O2).call hb).alloc (.cells B 32))
  clear hb C2 O2 nA zA
  go_wp2_with fail
  refine (unhide C3 _).mono ?_
  rintro e w3 ⟨rfl, hb⟩
  have O4 := hide (((unhide O3).call hb).alloc (.cells C 43))
  clear hb C3 O3 nB zB
  have K4 := hide ((unhide O4).at w.heap.size (.cells Z 27) (by simp))
  go_wp2_with (with_reducible refine wpList_load_row (by with_unfolding_all rfl) 27 _ (by with_unfolding_all rfl) w.heap.size (by with_unfolding_all rfl) _ _ _ _ (unhide K4) Try.underlying27 (by with_unfolding_all rfl) s147 ?_)
  refine (unhide C4 _).mono ?_
  rintro e w4 ⟨rfl, hb⟩
  have O5 := hide (((unhide O4).call hb).alloc (.cells D 32))
  clear hb C4 O4 nC zC K4
  have K5 := hide ((unhide O5).at w4.heap.size (.cells D 32) (by simp))
  go_wp2_with (with_reducible refine wpList_load_row (by with_unfolding_all rfl) 32 _ (by with_unfolding_all rfl) w4.heap.size (by with_unfolding_all rfl) _ _ _ _ (unhide K5) Try.underlying32 (by with_unfolding_all rfl) sD ?_)
  refine (unhide C5 _).mono ?_
  rintro e w5 ⟨rfl, hb⟩
  have O6 := hide (((unhide O5).call hb).alloc (.cells E 29))
  clear hb C5 O5 nD zD K5
  have K6 := hide ((unhide O6).at w.heap.size (.cells Z 27) (by simp))
  have K7 := hide ((unhide O6).at (w.heap.size + 1) (.cells O 27) (by simp))
  go_wp2_with (first | (with_reducible refine wpList_load_row (by with_unfolding_all rfl) 27 (.tmp 1) (by with_unfolding_all rfl) w.heap.size (by with_unfolding_all rfl) _ _ _ _ (unhide K6) Try.underlying27 (by with_unfolding_all rfl) s147 ?_) | (with_reducible refine wpList_load_row (by with_unfolding_all rfl) 27 (.tmp 2) (by with_unfolding_all rfl) (w.heap.size + 1) (by with_unfolding_all rfl) _ _ _ _ (unhide K7) Try.underlying27 (by with_unfolding_all rfl) sO ?_))
  refine (unhide C6 _).mono ?_
  rintro e w6 ⟨v, rfl, hb, hrow⟩
  obtain ⟨g, cap, rfl, c0, h0⟩ : ∃ g cap, v = .slice (some ⟨g, 0, none⟩) 1 cap ∧ w6.cell? ⟨g, 0, none⟩ = some (.int .i64 1) ∧ 1 ≤ cap := RowX.one hrow
  have O7 := hide ((unhide O6).call hb)
  clear hb C6 O6 nE zE K6 K7 hrow
  go_wp2_with fail
  go_ret
  exact ⟨rfl, (unhide O7).below⟩

end Go.Proofs.Ytnjicfnigfkppab
