
/-
  For every table, every number and every line, RadixLeaves returns true and leaves its arguments as they were: any leaf's line is the document's, or refused, and any line is read as one, or as none. No condition.
-/
import Derived.Test.YtnjicfnigfkppaaXArgs
import Derived.Test.YtnjicfnigfkppaaXRRead
namespace Go.Proofs.Ytnjicfnigfkppaa.radixLeaves
open Go.ChangeShapes Go.WideShapes Go.ChangeAt Go.RowKit Go.Joins
set_option linter.unusedVariables false
set_option linter.unusedSimpArgs false

set_option maxHeartbeats 4000000 in
set_option maxRecDepth 100000 in
theorem walk (t : List Int) (k : Int) (l : List Int) (ht : IsTab t) (hk : (Lit.int .i64 k).wf = true) (hl : IsLineX l) (W : World) :
    Calls Try.prog 3 #[.agg (iv .i64 t), .int .i64 k, .agg (iv .u64 l)] W fun e W' => e = .returned (.bool true) ∧ Below W.heap.size W W' := by
  have C1 := hide (leaf_any t ht.1 k)
  have C2 := hide (rleaf_any t ht.1 k)
  have C3 := hide (readLeaf_any l hl.1 hl.2)
  have C4 := hide (rreadLeaf_any l hl.1 hl.2)
  have sS := s147o_of t ht.1
  have sL := s8_of l hl.1
  have sX := s8_of (leafKV t k) (leafKV_len t k)
  have sY := s21_of (readXV l) (readXV_len l)
  have nX := iv_newx .u64 (leafKV t k) 27 8 (leafKV_len _ _)
  have nY := iv_newx .i64 (readXV l) 33 21 (readXV_len _)
  have zX : (iv .u64 (leafKV t k)).size = 8 := by rw [iv_size, leafKV_len]
  have zY : (iv .i64 (readXV l)).size = 21 := by rw [iv_size, readXV_len]
  have EX : Hid (∀ w, (Op.equalIn 10000 27 (.agg (iv .u64 (leafKV t k))) (.agg (iv .u64 (leafKV t k)))).run Try.prog w = .ok true w) := fun w => by rw [equal_line _ _ (leafKV_len t k) (leafKV_len t k)]; simp
  have EY : Hid (∀ w, (Op.equalIn 10000 33 (.agg (iv .i64 (readXV l))) (.agg (iv .i64 (readXV l)))).run Try.prog w = .ok true w) := fun w => by rw [equal_rows 33 7 Try.underlying33 _ _ (readXV_len l) (readXV_len l)]; simp
  generalize iv .u64 (leafKV t k) = X at *
  generalize iv .i64 (readXV l) = Y at *
  generalize leafKE t k = E at *
  generalize isX l = p at *
  generalize iv .i64 t = S at *
  generalize iv .u64 l = L at *
  clear ht hl hk
  have O0 := hide (((Own.start W).alloc (.cells S 24)).alloc (.cells L 27))
  have g0 : (W.alloc (.cells S 24)).heap.size = W.heap.size + 1 := by simp
  rw [g0] at O0
  clear g0
  go_enter Try.func3, Try.ntmps3
  go_wp2_with fail
  refine (shown9_any _).mono ?_
  rintro e w1 ⟨rfl, hb⟩
  have O1 := hide ((unhide O0).call hb)
  clear hb O0
  have KS := hide ((unhide O1).at W.heap.size (.cells S 24) (by simp))
  go_wp2_with (with_reducible refine wpList_load_row (by with_unfolding_all rfl) 24 _ (by with_unfolding_all rfl) W.heap.size (by with_unfolding_all rfl) _ _ _ _ (unhide KS) Try.underlying24 (by with_unfolding_all rfl) sS ?_)
  refine (unhide C1 _).mono ?_
  rintro e w2 ⟨rfl, hb⟩
  have O2 := hide (((unhide O1).call hb).alloc (.cells X 27))
  clear hb O1 KS
  have KS := hide ((unhide O2).at W.heap.size (.cells S 24) (by simp))
  go_wp2_with (with_reducible refine wpList_load_row (by with_unfolding_all rfl) 24 _ (by with_unfolding_all rfl) W.heap.size (by with_unfolding_all rfl) _ _ _ _ (unhide KS) Try.underlying24 (by with_unfolding_all rfl) sS ?_)
  refine (unhide C2 _).mono ?_
  rintro e w3 ⟨rfl, hb⟩
  have O3 := hide (((unhide O2).call hb).alloc (.cells X 27))
  clear hb O2 KS
  have KL := hide ((unhide O3).at (W.heap.size + 1) (.cells L 27) (by simp))
  go_wp2_with (with_reducible refine wpList_load_row (by with_unfolding_all rfl) 27 _ (by with_unfolding_all rfl) (W.heap.size + 1) (by with_unfolding_all rfl) _ _ _ _ (unhide KL) Try.underlying27 (by with_unfolding_all rfl) sL ?_)
  refine (unhide C3 _).mono ?_
  rintro e w4 ⟨rfl, hb⟩
  have O4 := hide (((unhide O3).call hb).alloc (.cells Y 33))
  clear hb O3 KL
  have KL := hide ((unhide O4).at (W.heap.size + 1) (.cells L 27) (by simp))
  go_wp2_with (with_reducible refine wpList_load_row (by with_unfolding_all rfl) 27 _ (by with_unfolding_all rfl) (W.heap.size + 1) (by with_unfolding_all rfl) _ _ _ _ (unhide KL) Try.underlying27 (by with_unfolding_all rfl) sL ?_)
  refine (unhide C4 _).mono ?_
  rintro e w5 ⟨rfl, hb⟩
  have O5 := hide (((unhide O4).call hb).alloc (.cells Y 33))
  clear hb O4 KL
  have K6 := hide ((unhide O5).at w2.heap.size (.cells X 27) (by simp))
  have K8 := hide ((unhide O5).at w3.heap.size (.cells X 27) (by simp))
  have K10 := hide ((unhide O5).at w4.heap.size (.cells Y 33) (by simp))
  have K12 := hide ((unhide O5).at w5.heap.size (.cells Y 33) (by simp))
  have hp : (p == p) = true := by simp
  have hE : (E == E) = true := by simp
  go_wp2_with (first | (with_reducible refine wpList_load_row_g (by with_unfolding_all rfl) 27 (.tmp 8) (by with_unfolding_all rfl) w2.heap.size (by with_unfolding_all rfl) _ _ _ _ (unhide K6) Try.underlying27 (by with_unfolding_all rfl) sX ?_) | (with_reducible refine wpList_load_row_g (by with_unfolding_all rfl) 27 (.tmp 10) (by with_unfolding_all rfl) w3.heap.size (by with_unfolding_all rfl) _ _ _ _ (unhide K8) Try.underlying27 (by with_unfolding_all rfl) sX ?_) | (with_reducible refine wpList_eqlA (by with_unfolding_all rfl) 27 27 (.tmp 41) (.tmp 42) (by with_unfolding_all rfl) X X (by with_unfolding_all rfl) (by with_unfolding_all rfl) line_guard2 _ (unhide EX) ?_) | (with_reducible refine wpList_load_row_g (by with_unfolding_all rfl) 33 (.tmp 12) (by with_unfolding_all rfl) w4.heap.size (by with_unfolding_all rfl) _ _ _ _ (unhide K10) Try.underlying33 (by with_unfolding_all rfl) sY ?_) | (with_reducible refine wpList_load_row_g (by with_unfolding_all rfl) 33 (.tmp 14) (by with_unfolding_all rfl) w5.heap.size (by with_unfolding_all rfl) _ _ _ _ (unhide K12) Try.underlying33 (by with_unfolding_all rfl) sY ?_) | (with_reducible refine wpList_eqlA (by with_unfolding_all rfl) 33 33 (.tmp 51) (.tmp 52) (by with_unfolding_all rfl) Y Y (by with_unfolding_all rfl) (by with_unfolding_all rfl) rows7_guard _ (unhide EY) ?_))
  go_ret
  exact ⟨rfl, (unhide O5).below⟩

set_option maxRecDepth 100000 in
theorem lifted (os : Os) (started : os.Started) (H : Type) (enc : TypeId × Value → H) :
    ReturnsInHanded {} Try.checked os 3 .any (Rows.radixLeavesSpec.pre6 enc Try.prog Try.f3 Rows.radixLeavesRow.domain false) (Rows.radixLeavesSpec.post enc Try.prog Try.f3 false true false false) := by
  refine law_frame (C := Try.checked) (ts := [24, 3, 27]) (tb := 4) (by kernel_rfl) started (by kernel_rfl) Try.func3 Try.params3 (by kernel_rfl) Try.underlying4 (by kernel_rfl) (by kernel_rfl) rfl ?_
    (ChangeSpec.witness6 (enc := enc) (C := Try.checked) false ⟨#[], #[.agg (iv .i64 (List.replicate 147 0)), .int .i64 0, .agg (iv .u64 (List.replicate 8 0))], []⟩ 8 (by kernel_rfl) (by kernel_rfl) (by kernel_rfl) (by kernel_rfl)) ?_
  · intro ds hd
    match ds, hd with
    | [d0, d1, d2], _ => rfl
  · intro W base args ds p hval hA
    obtain ⟨v0, vs0, d0, ds0, p0, q0, hargs, rfl, rfl, h0, r0⟩ := trodAll_cons hA
    obtain ⟨v1, vs1, d1, ds1, p1, q1, rfl, rfl, rfl, h1, r1⟩ := trodAll_cons r0
    obtain ⟨v2, vs2, d2, ds2, p2, q2, rfl, rfl, rfl, h2, r2⟩ := trodAll_cons r1
    obtain ⟨rfl, rfl, rfl⟩ := trodAll_nil r2
    obtain rfl : args = #[v0, v1, v2] := by cases args; simp_all
    obtain ⟨t, rfl, ht⟩ := open_tab (hval 0 24 v0 rfl rfl) h0
    obtain ⟨k, rfl, rfl, rfl, wk⟩ := open_int Try.underlying3 (hval 1 3 v1 rfl rfl) h1
    obtain ⟨l, rfl, hl⟩ := open_lineX (hval 2 27 v2 rfl rfl) h2
    exact walk t k l ht wk hl W

theorem over : Rows.radixLeavesRow.holds Try.pinned (OpenSpec.ofChange Rows.radixLeavesSpec) :=
  OpenClaim.holds_of_wide 3 Try.f3 rfl rfl rfl rfl rfl rfl rfl ⟨rfl, rfl, rfl, rfl, rfl⟩ rfl rfl rfl rfl rfl (by kernel_rfl) Try.func3 (by kernel_rfl)
    (of_decide_eq_true (by kernel_rfl)) (by unfold Func.isWrapper; first | (rw [if_pos (by decide +kernel)]; kernel_rfl) | (rw [if_neg (by decide +kernel)]; exact ⟨rfl, rfl⟩))
    (fun os started H enc _ => lifted os started H enc)

end Go.Proofs.Ytnjicfnigfkppaa.radixLeaves
namespace Go.Proofs.Ytnjicfnigfkppaa
theorem radixLeaves_holds : Rows.RadixLeavesSaid := radixLeaves.over
end Go.Proofs.Ytnjicfnigfkppaa
