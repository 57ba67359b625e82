
/-
  For every seven numbers and every line, RadixRoots returns true and leaves its arguments as they were: any root's line is the document's, or refused, and any line is read as one, or as none. No condition.
-/
import Derived.Test.YtnjicfnigfkppaaXArgs
import Derived.Test.YtnjicfnigfkppaaXRRoot
namespace Go.Proofs.Ytnjicfnigfkppaa.radixRoots
open Go.ChangeShapes Go.WideShapes Go.ChangeAt Go.RowKit Go.Joins
set_option linter.unusedVariables false
set_option linter.unusedSimpArgs false

set_option maxHeartbeats 4000000 in
set_option maxRecDepth 100000 in
theorem walk (n l : List Int) (hn : IsSeven n) (hl : IsLineX l) (W : World) :
    Calls Try.prog 4 #[.agg (iv .i64 n), .agg (iv .u64 l)] W fun e W' => e = .returned (.bool true) ∧ Below W.heap.size W W' := by
  have C1 := hide (root_any n hn.1)
  have C2 := hide (rroot_any n hn.1)
  have C3 := hide (readRoot_any l hl.1 hl.2)
  have C4 := hide (rreadRoot_any l hl.1 hl.2)
  have sS := s7_of n hn.1
  have sL := s8_of l hl.1
  have sX := s8_of (rootV n) (rootV_len n)
  have sY := s7_of (readTV l) (readTV_len l)
  have nX := iv_newx .u64 (rootV n) 27 8 (rootV_len _)
  have nY := iv_newx .i64 (readTV l) 37 7 (readTV_len _)
  have zX : (iv .u64 (rootV n)).size = 8 := by rw [iv_size, rootV_len]
  have zY : (iv .i64 (readTV l)).size = 7 := by rw [iv_size, readTV_len]
  have EX : Hid (∀ w, (Op.equalIn 10000 27 (.agg (iv .u64 (rootV n))) (.agg (iv .u64 (rootV n)))).run Try.prog w = .ok true w) := fun w => by rw [equal_line _ _ (rootV_len n) (rootV_len n)]; simp
  have EY : Hid (∀ w, (Op.equalIn 10000 37 (.agg (iv .i64 (readTV l))) (.agg (iv .i64 (readTV l)))).run Try.prog w = .ok true w) := fun w => by rw [equal_seven _ _ (readTV_len l) (readTV_len l)]; simp
  generalize iv .u64 (rootV n) = X at *
  generalize iv .i64 (readTV l) = Y at *
  generalize rootE n = E at *
  generalize isT l = p at *
  generalize iv .i64 n = S at *
  generalize iv .u64 l = L at *
  clear hn hl
  have O0 := hide (((Own.start W).alloc (.cells S 37)).alloc (.cells L 27))
  have g0 : (W.alloc (.cells S 37)).heap.size = W.heap.size + 1 := by simp
  rw [g0] at O0
  clear g0
  go_enter Try.func4, Try.ntmps4
  go_wp2_with fail
  refine (shown9_any _).mono ?_
  rintro e w1 ⟨rfl, hb⟩
  have O1 := hide ((unhide O0).call hb)
  clear hb O0
  have KS := hide ((unhide O1).at W.heap.size (.cells S 37) (by simp))
  go_wp2_with (with_reducible refine wpList_load_row (by with_unfolding_all rfl) 37 _ (by with_unfolding_all rfl) W.heap.size (by with_unfolding_all rfl) _ _ _ _ (unhide KS) Try.underlying37 (by with_unfolding_all rfl) sS ?_)
  refine (unhide C1 _).mono ?_
  rintro e w2 ⟨rfl, hb⟩
  have O2 := hide (((unhide O1).call hb).alloc (.cells X 27))
  clear hb O1 KS
  have KS := hide ((unhide O2).at W.heap.size (.cells S 37) (by simp))
  go_wp2_with (with_reducible refine wpList_load_row (by with_unfolding_all rfl) 37 _ (by with_unfolding_all rfl) W.heap.size (by with_unfolding_all rfl) _ _ _ _ (unhide KS) Try.underlying37 (by with_unfolding_all rfl) sS ?_)
  refine (unhide C2 _).mono ?_
  rintro e w3 ⟨rfl, hb⟩
  have O3 := hide (((unhide O2).call hb).alloc (.cells X 27))
  clear hb O2 KS
  have KL := hide ((unhide O3).at (W.heap.size + 1) (.cells L 27) (by simp))
  go_wp2_with (with_reducible refine wpList_load_row (by with_unfolding_all rfl) 27 _ (by with_unfolding_all rfl) (W.heap.size + 1) (by with_unfolding_all rfl) _ _ _ _ (unhide KL) Try.underlying27 (by with_unfolding_all rfl) sL ?_)
  refine (unhide C3 _).mono ?_
  rintro e w4 ⟨rfl, hb⟩
  have O4 := hide (((unhide O3).call hb).alloc (.cells Y 37))
  clear hb O3 KL
  have KL := hide ((unhide O4).at (W.heap.size + 1) (.cells L 27) (by simp))
  go_wp2_with (with_reducible refine wpList_load_row (by with_unfolding_all rfl) 27 _ (by with_unfolding_all rfl) (W.heap.size + 1) (by with_unfolding_all rfl) _ _ _ _ (unhide KL) Try.underlying27 (by with_unfolding_all rfl) sL ?_)
  refine (unhide C4 _).mono ?_
  rintro e w5 ⟨rfl, hb⟩
  have O5 := hide (((unhide O4).call hb).alloc (.cells Y 37))
  clear hb O4 KL
  have K6 := hide ((unhide O5).at w2.heap.size (.cells X 27) (by simp))
  have K8 := hide ((unhide O5).at w3.heap.size (.cells X 27) (by simp))
  have K10 := hide ((unhide O5).at w4.heap.size (.cells Y 37) (by simp))
  have K12 := hide ((unhide O5).at w5.heap.size (.cells Y 37) (by simp))
  have hp : (p == p) = true := by simp
  have hE : (E == E) = true := by simp
  go_wp2_with (first | (with_reducible refine wpList_load_row_g (by with_unfolding_all rfl) 27 (.tmp 6) (by with_unfolding_all rfl) w2.heap.size (by with_unfolding_all rfl) _ _ _ _ (unhide K6) Try.underlying27 (by with_unfolding_all rfl) sX ?_) | (with_reducible refine wpList_load_row_g (by with_unfolding_all rfl) 27 (.tmp 8) (by with_unfolding_all rfl) w3.heap.size (by with_unfolding_all rfl) _ _ _ _ (unhide K8) Try.underlying27 (by with_unfolding_all rfl) sX ?_) | (with_reducible refine wpList_eqlA (by with_unfolding_all rfl) 27 27 (.tmp 37) (.tmp 38) (by with_unfolding_all rfl) X X (by with_unfolding_all rfl) (by with_unfolding_all rfl) line_guard2 _ (unhide EX) ?_) | (with_reducible refine wpList_load_row_g (by with_unfolding_all rfl) 37 (.tmp 10) (by with_unfolding_all rfl) w4.heap.size (by with_unfolding_all rfl) _ _ _ _ (unhide K10) Try.underlying37 (by with_unfolding_all rfl) sY ?_) | (with_reducible refine wpList_load_row_g (by with_unfolding_all rfl) 37 (.tmp 12) (by with_unfolding_all rfl) w5.heap.size (by with_unfolding_all rfl) _ _ _ _ (unhide K12) Try.underlying37 (by with_unfolding_all rfl) sY ?_) | (with_reducible refine wpList_eqlA (by with_unfolding_all rfl) 37 37 (.tmp 47) (.tmp 48) (by with_unfolding_all rfl) Y Y (by with_unfolding_all rfl) (by with_unfolding_all rfl) seven_guard _ (unhide EY) ?_))
  go_ret
  exact ⟨rfl, (unhide O5).below⟩

set_option maxRecDepth 100000 in
theorem lifted (os : Os) (started : os.Started) (H : Type) (enc : TypeId × Value → H) :
    ReturnsInHanded {} Try.checked os 4 .any (Rows.radixRootsSpec.pre6 enc Try.prog Try.f4 Rows.radixRootsRow.domain false) (Rows.radixRootsSpec.post enc Try.prog Try.f4 false true false false) := by
  refine law_frame (C := Try.checked) (ts := [37, 27]) (tb := 4) (by kernel_rfl) started (by kernel_rfl) Try.func4 Try.params4 (by kernel_rfl) Try.underlying4 (by kernel_rfl) (by kernel_rfl) rfl ?_
    (ChangeSpec.witness6 (enc := enc) (C := Try.checked) false ⟨#[], #[.agg (iv .i64 (List.replicate 7 0)), .agg (iv .u64 (List.replicate 8 0))], []⟩ 8 (by kernel_rfl) (by kernel_rfl) (by kernel_rfl) (by kernel_rfl)) ?_
  · intro ds hd
    match ds, hd with
    | [d0, d1], _ => rfl
  · intro W base args ds p hval hA
    obtain ⟨v0, vs0, d0, ds0, p0, q0, hargs, rfl, rfl, h0, r0⟩ := trodAll_cons hA
    obtain ⟨v1, vs1, d1, ds1, p1, q1, rfl, rfl, rfl, h1, r1⟩ := trodAll_cons r0
    obtain ⟨rfl, rfl, rfl⟩ := trodAll_nil r1
    obtain rfl : args = #[v0, v1] := by cases args; simp_all
    obtain ⟨n, rfl, hn⟩ := open_seven (hval 0 37 v0 rfl rfl) h0
    obtain ⟨l, rfl, hl⟩ := open_lineX (hval 1 27 v1 rfl rfl) h1
    exact walk n l hn hl W

theorem over : Rows.radixRootsRow.holds Try.pinned (OpenSpec.ofChange Rows.radixRootsSpec) :=
  OpenClaim.holds_of_wide 4 Try.f4 rfl rfl rfl rfl rfl rfl rfl ⟨rfl, rfl, rfl, rfl, rfl⟩ rfl rfl rfl rfl rfl (by kernel_rfl) Try.func4 (by kernel_rfl)
    (of_decide_eq_true (by kernel_rfl)) (by unfold Func.isWrapper; first | (rw [if_pos (by decide +kernel)]; kernel_rfl) | (rw [if_neg (by decide +kernel)]; exact ⟨rfl, rfl⟩))
    (fun os started H enc _ => lifted os started H enc)

end Go.Proofs.Ytnjicfnigfkppaa.radixRoots
namespace Go.Proofs.Ytnjicfnigfkppaa
theorem radixRoots_holds : Rows.RadixRootsSaid := radixRoots.over
end Go.Proofs.Ytnjicfnigfkppaa
