
/-
  For every superblock and every line, SuperLines returns true and leaves its arguments as they were: any superblock's line is the document's, or refused, and any line is read as one, or as none. No condition.
-/
import Derived.Test.YtmmgacpipcgkdaaSArgs
namespace Go.Proofs.Ytmmgacpipcgkdaa.superLines
open Go.ChangeShapes Go.WideShapes Go.ChangeAt Go.RowKit Go.Joins
set_option linter.unusedVariables false
set_option linter.unusedSimpArgs false

set_option maxHeartbeats 4000000 in
set_option maxRecDepth 100000 in
theorem walk (s l : List Int) (hs : IsSuper s) (hl : IsLine l) (W : World) :
    Calls Try.prog 3 #[.agg (iv .i64 s), .agg (iv .u64 l)] W fun e W' => e = .returned (.bool true) ∧ Below W.heap.size W W' := by
  have C1 := hide (line_any s hs.1)
  have C2 := hide (rline_any s hs.1)
  have C3 := hide (read_any l hl.1 hl.2)
  have C4 := hide (rread_any l hl.1 hl.2)
  have sS := info4 hs.1
  have sL := infoL hl.1
  have sX := infoL (lineV_len s)
  have sY := info4 (readV_len l)
  have nX := iv_new .u64 (lineV s) 8 (lineV_len _) 26
  have nY := iv_new .i64 (readV l) 4 (readV_len _) 23
  have zX : (iv .u64 (lineV s)).size = 8 := by rw [iv_size, lineV_len]
  have zY : (iv .i64 (readV l)).size = 4 := by rw [iv_size, readV_len]
  have EX : Hid (∀ w, (Op.equalIn 10000 26 (.agg (iv .u64 (lineV s))) (.agg (iv .u64 (lineV s)))).run Try.prog w = .ok true w) := fun w => by rw [equal_line _ _ (lineV_len s) (lineV_len s)]; simp
  have EY : Hid (∀ w, (Op.equalIn 10000 23 (.agg (iv .i64 (readV l))) (.agg (iv .i64 (readV l)))).run Try.prog w = .ok true w) := fun w => by rw [equal_super _ _ (readV_len l) (readV_len l)]; simp
  generalize iv .u64 (lineV s) = X at *
  generalize iv .i64 (readV l) = Y at *
  generalize lineE s = E at *
  generalize isS l = p at *
  generalize iv .i64 s = S at *
  generalize iv .u64 l = L at *
  clear hs hl
  have O0 := hide (((Own.start W).alloc (.cells S 23)).alloc (.cells L 26))
  have g0 : (W.alloc (.cells S 23)).heap.size = W.heap.size + 1 := by simp
  rw [g0] at O0
  clear g0
  go_enter Try.func3, Try.ntmps3
  go_wp2_with fail
  refine (shown_any _).mono ?_
  rintro e w1 ⟨rfl, hb⟩
  have O1 := hide ((unhide O0).call hb)
  clear hb O0
  have KS := hide ((unhide O1).at W.heap.size (.cells S 23) (by simp))
  go_wp2_with (refine wpList_load_row rfl 23 _ rfl W.heap.size rfl _ _ _ _ (unhide KS) Try.underlying23 rfl sS ?_)
  refine (unhide C1 _).mono ?_
  rintro e w2 ⟨rfl, hb⟩
  have O2 := hide (((unhide O1).call hb).alloc (.cells X 26))
  clear hb O1 KS
  have KS := hide ((unhide O2).at W.heap.size (.cells S 23) (by simp))
  go_wp2_with (refine wpList_load_row rfl 23 _ rfl W.heap.size rfl _ _ _ _ (unhide KS) Try.underlying23 rfl sS ?_)
  refine (unhide C2 _).mono ?_
  rintro e w3 ⟨rfl, hb⟩
  have O3 := hide (((unhide O2).call hb).alloc (.cells X 26))
  clear hb O2 KS
  have KL := hide ((unhide O3).at (W.heap.size + 1) (.cells L 26) (by simp))
  go_wp2_with (refine wpList_load_row rfl 26 _ rfl (W.heap.size + 1) rfl _ _ _ _ (unhide KL) Try.underlying26 rfl sL ?_)
  refine (unhide C3 _).mono ?_
  rintro e w4 ⟨rfl, hb⟩
  have O4 := hide (((unhide O3).call hb).alloc (.cells Y 23))
  clear hb O3 KL
  have KL := hide ((unhide O4).at (W.heap.size + 1) (.cells L 26) (by simp))
  go_wp2_with (refine wpList_load_row rfl 26 _ rfl (W.heap.size + 1) rfl _ _ _ _ (unhide KL) Try.underlying26 rfl sL ?_)
  refine (unhide C4 _).mono ?_
  rintro e w5 ⟨rfl, hb⟩
  have O5 := hide (((unhide O4).call hb).alloc (.cells Y 23))
  clear hb O4 KL
  have K6 := hide ((unhide O5).at w2.heap.size (.cells X 26) (by simp))
  have K8 := hide ((unhide O5).at w3.heap.size (.cells X 26) (by simp))
  have K10 := hide ((unhide O5).at w4.heap.size (.cells Y 23) (by simp))
  have K12 := hide ((unhide O5).at w5.heap.size (.cells Y 23) (by simp))
  have hp : (p == p) = true := by simp
  have hE : (E == E) = true := by simp
  go_wp2_with (first | (refine wpList_load_row_g (by rfl) 26 (.tmp 6) rfl w2.heap.size rfl _ _ _ _ (unhide K6) Try.underlying26 rfl sX ?_) | (refine wpList_load_row_g (by rfl) 26 (.tmp 8) rfl w3.heap.size rfl _ _ _ _ (unhide K8) Try.underlying26 rfl sX ?_) | (refine wpList_load_row_g (by rfl) 23 (.tmp 10) rfl w4.heap.size rfl _ _ _ _ (unhide K10) Try.underlying23 rfl sY ?_) | (refine wpList_load_row_g (by rfl) 23 (.tmp 12) rfl w5.heap.size rfl _ _ _ _ (unhide K12) Try.underlying23 rfl sY ?_) | (refine wpList_eqlA (by rfl) 26 26 (.tmp 37) (.tmp 38) rfl X X rfl rfl line_guard2 _ (unhide EX) ?_) | (refine wpList_eqlA (by rfl) 23 23 (.tmp 47) (.tmp 48) rfl Y Y rfl rfl super_guard _ (unhide EY) ?_))
  go_ret
  exact ⟨rfl, (unhide O5).below⟩

set_option maxRecDepth 100000 in
theorem lifted (os : Os) (started : os.Started) (H : Type) (enc : TypeId × Value → H) :
    ReturnsInHanded {} Try.checked os 3 .any (Rows.superLinesSpec.pre6 enc Try.prog Try.f3 Rows.superLinesRow.domain false) (Rows.superLinesSpec.post enc Try.prog Try.f3 false true false false) := by
  refine law_frame (C := Try.checked) (ts := [23, 26]) (tb := 4) (by kernel_rfl) started (by kernel_rfl) Try.func3 Try.params3 (by kernel_rfl) Try.underlying4 (by kernel_rfl) (by kernel_rfl) rfl ?_
    (ChangeSpec.witness6 (enc := enc) (C := Try.checked) false ⟨#[], #[.agg (iv .i64 (List.replicate 4 0)), .agg (iv .u64 (List.replicate 8 0))], []⟩ 8 (by kernel_rfl) (by kernel_rfl) (by kernel_rfl) (by kernel_rfl)) ?_
  · intro ds hd
    match ds, hd with
    | [d0, d1], _ => rfl
  · intro W base args ds p hval hA
    obtain ⟨v0, vs0, d0, ds0, p0, q0, hargs, rfl, rfl, h0, r0⟩ := trodAll_cons hA
    obtain ⟨v1, vs1, d1, ds1, p1, q1, rfl, rfl, rfl, h1, r1⟩ := trodAll_cons r0
    obtain ⟨rfl, rfl, rfl⟩ := trodAll_nil r1
    obtain rfl : args = #[v0, v1] := by cases args; simp_all
    obtain ⟨s, rfl, hs⟩ := open_super (hval 0 23 v0 rfl rfl) h0
    obtain ⟨l, rfl, hl⟩ := open_line (hval 1 26 v1 rfl rfl) h1
    exact walk s l hs hl W

theorem over : Rows.superLinesRow.holds Try.pinned (OpenSpec.ofChange Rows.superLinesSpec) :=
  OpenClaim.holds_of_wide 3 Try.f3 rfl rfl rfl rfl rfl rfl rfl ⟨rfl, rfl, rfl, rfl, rfl⟩ rfl rfl rfl rfl rfl (by kernel_rfl) Try.func3 (by kernel_rfl)
    (of_decide_eq_true (by kernel_rfl)) (by unfold Func.isWrapper; first | (rw [if_pos (by decide +kernel)]; kernel_rfl) | (rw [if_neg (by decide +kernel)]; exact ⟨rfl, rfl⟩))
    (fun os started H enc _ => lifted os started H enc)

end Go.Proofs.Ytmmgacpipcgkdaa.superLines
namespace Go.Proofs.Ytmmgacpipcgkdaa
theorem superLines_holds : Rows.SuperLinesSaid := superLines.over
end Go.Proofs.Ytmmgacpipcgkdaa
