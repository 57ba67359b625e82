
/-
  For every two lines, SuperBest returns true and leaves its arguments as they were: of any two lines the one that counts is the document's. No condition.
-/
import Derived.Test.YtmmgacpipcgkdaaSArgs
namespace Go.Proofs.Ytmmgacpipcgkdaa.superBest
open Go.ChangeShapes Go.WideShapes Go.ChangeAt Go.RowKit Go.Joins
set_option linter.unusedVariables false
set_option linter.unusedSimpArgs false

set_option maxHeartbeats 4000000 in
set_option maxRecDepth 100000 in
theorem walk (a b : List Int) (ha : IsLine a) (hb : IsLine b) (W : World) :
    Calls Try.prog 5 #[.agg (iv .u64 a), .agg (iv .u64 b)] W fun e W' => e = .returned (.bool true) ∧ Below W.heap.size W W' := by
  have C1 := hide (best_any a b ha hb)
  have C2 := hide (rbest_any a b ha hb)
  have sA := infoL ha.1
  have sB := infoL hb.1
  have sY := info4 (bestV_len a b)
  have nY := iv_new .i64 (bestV a b) 4 (bestV_len _ _) 23
  have zY : (iv .i64 (bestV a b)).size = 4 := by rw [iv_size, bestV_len]
  have EY : Hid (∀ w, (Op.equalIn 10000 23 (.agg (iv .i64 (bestV a b))) (.agg (iv .i64 (bestV a b)))).run Try.prog w = .ok true w) := fun w => by rw [equal_super _ _ (bestV_len a b) (bestV_len a b)]; simp
  generalize iv .i64 (bestV a b) = Y at *
  generalize bestAt a b = E at *
  generalize bestIs a b = p at *
  generalize iv .u64 a = A at *
  generalize iv .u64 b = B at *
  clear ha hb
  have O0 := hide (((Own.start W).alloc (.cells A 26)).alloc (.cells B 26))
  have g0 : (W.alloc (.cells A 26)).heap.size = W.heap.size + 1 := by simp
  rw [g0] at O0
  clear g0
  go_enter Try.func5, Try.ntmps5
  go_wp2_with fail
  refine (shown_any _).mono ?_
  rintro e w1 ⟨rfl, hb⟩
  have O1 := hide ((unhide O0).call hb)
  clear hb O0
  have KA := hide ((unhide O1).at W.heap.size (.cells A 26) (by simp))
  have KB := hide ((unhide O1).at (W.heap.size + 1) (.cells B 26) (by simp))
  go_wp2_with (first | (refine wpList_load_row rfl 26 (.tmp 2) rfl W.heap.size rfl _ _ _ _ (unhide KA) Try.underlying26 rfl sA ?_) | (refine wpList_load_row rfl 26 (.tmp 3) rfl (W.heap.size + 1) rfl _ _ _ _ (unhide KB) Try.underlying26 rfl sB ?_))
  refine (unhide C1 _).mono ?_
  rintro e w2 ⟨rfl, hb⟩
  have O2 := hide (((unhide O1).call hb).alloc (.cells Y 23))
  clear hb O1 KA KB
  have KA := hide ((unhide O2).at W.heap.size (.cells A 26) (by simp))
  have KB := hide ((unhide O2).at (W.heap.size + 1) (.cells B 26) (by simp))
  go_wp2_with (first | (refine wpList_load_row rfl 26 (.tmp 2) rfl W.heap.size rfl _ _ _ _ (unhide KA) Try.underlying26 rfl sA ?_) | (refine wpList_load_row rfl 26 (.tmp 3) rfl (W.heap.size + 1) rfl _ _ _ _ (unhide KB) Try.underlying26 rfl sB ?_))
  refine (unhide C2 _).mono ?_
  rintro e w3 ⟨rfl, hb⟩
  have O3 := hide (((unhide O2).call hb).alloc (.cells Y 23))
  clear hb O2 KA KB
  have K6 := hide ((unhide O3).at w2.heap.size (.cells Y 23) (by simp))
  have K9 := hide ((unhide O3).at w3.heap.size (.cells Y 23) (by simp))
  have hp : (p == p) = true := by simp
  have hE : (E == E) = true := by simp
  go_wp2_with (first | (refine wpList_load_row_g (by rfl) 23 (.tmp 6) rfl w2.heap.size rfl _ _ _ _ (unhide K6) Try.underlying23 rfl sY ?_) | (refine wpList_load_row_g (by rfl) 23 (.tmp 9) rfl w3.heap.size rfl _ _ _ _ (unhide K9) Try.underlying23 rfl sY ?_) | (refine wpList_eqlA (by rfl) 23 23 (.tmp 29) (.tmp 30) rfl Y Y rfl rfl super_guard _ (unhide EY) ?_))
  go_ret
  exact ⟨rfl, (unhide O3).below⟩

set_option maxRecDepth 100000 in
theorem lifted (os : Os) (started : os.Started) (H : Type) (enc : TypeId × Value → H) :
    ReturnsInHanded {} Try.checked os 5 .any (Rows.superBestSpec.pre6 enc Try.prog Try.f5 Rows.superBestRow.domain false) (Rows.superBestSpec.post enc Try.prog Try.f5 false true false false) := by
  refine law_frame (C := Try.checked) (ts := [26, 26]) (tb := 4) (by kernel_rfl) started (by kernel_rfl) Try.func5 Try.params5 (by kernel_rfl) Try.underlying4 (by kernel_rfl) (by kernel_rfl) rfl ?_
    (ChangeSpec.witness6 (enc := enc) (C := Try.checked) false ⟨#[], #[.agg (iv .u64 (List.replicate 8 0)), .agg (iv .u64 (List.replicate 8 0))], []⟩ 8 (by kernel_rfl) (by kernel_rfl) (by kernel_rfl) (by kernel_rfl)) ?_
  · intro ds hd
    match ds, hd with
    | [d0, d1], _ => rfl
  · intro W base args ds p hval hA
    obtain ⟨v0, vs0, d0, ds0, p0, q0, hargs, rfl, rfl, h0, r0⟩ := trodAll_cons hA
    obtain ⟨v1, vs1, d1, ds1, p1, q1, rfl, rfl, rfl, h1, r1⟩ := trodAll_cons r0
    obtain ⟨rfl, rfl, rfl⟩ := trodAll_nil r1
    obtain rfl : args = #[v0, v1] := by cases args; simp_all
    obtain ⟨a, rfl, ha⟩ := open_line (hval 0 26 v0 rfl rfl) h0
    obtain ⟨b, rfl, hb⟩ := open_line (hval 1 26 v1 rfl rfl) h1
    exact walk a b ha hb W

theorem over : Rows.superBestRow.holds Try.pinned (OpenSpec.ofChange Rows.superBestSpec) :=
  OpenClaim.holds_of_wide 5 Try.f5 rfl rfl rfl rfl rfl rfl rfl ⟨rfl, rfl, rfl, rfl, rfl⟩ rfl rfl rfl rfl rfl (by kernel_rfl) Try.func5 (by kernel_rfl)
    (of_decide_eq_true (by kernel_rfl)) (by unfold Func.isWrapper; first | (rw [if_pos (by decide +kernel)]; kernel_rfl) | (rw [if_neg (by decide +kernel)]; exact ⟨rfl, rfl⟩))
    (fun os started H enc _ => lifted os started H enc)

end Go.Proofs.Ytmmgacpipcgkdaa.superBest
namespace Go.Proofs.Ytmmgacpipcgkdaa
theorem superBest_holds : Rows.SuperBestSaid := superBest.over
end Go.Proofs.Ytmmgacpipcgkdaa
