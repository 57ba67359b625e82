
/-
  For every superblock, SuperBack returns true and leaves its argument as it was: a superblock that may be is read from its line as it was, and its line is sealed; one that may not be has the line of noughts, and an error. No condition.
-/
import Derived.Test.YtmmgacpipcgkdaaSArgs
namespace Go.Proofs.Ytmmgacpipcgkdaa.superBack
open Go.ChangeShapes Go.WideShapes Go.ChangeAt Go.RowKit Go.Joins
set_option linter.unusedVariables false
set_option linter.unusedSimpArgs false

set_option maxHeartbeats 4000000 in
set_option maxRecDepth 100000 in
theorem walk (s : List Int) (hs : IsSuper s) (W : World) :
    Calls Try.prog 4 #[.agg (iv .i64 s)] W fun e W' => e = .returned (.bool true) ∧ Below W.heap.size W W' := by
  have C1 := hide (line_any s hs.1)
  have sS := info4 hs.1
  have sX := infoL (lineV_len s)
  have nX := iv_new .u64 (lineV s) 8 (lineV_len _) 26
  have zX : (iv .u64 (lineV s)).size = 8 := by rw [iv_size, lineV_len]
  cases hm : mayS s with
  | false =>
    have eE : lineE s = 1 := by simp [lineE, hm]
    have eL : lineV s = zs8 := by simp [lineV, hm]
    have EX : Hid (∀ w, (Op.equalIn 10000 26 (.agg (iv .u64 (lineV s))) (.agg (iv .u64 zs8))).run Try.prog w = .ok true w) := fun w => by rw [equal_line _ _ (lineV_len s) rfl, eL]; simp
    rw [eE] at C1
    clear eL eE hm
    generalize iv .u64 (lineV s) = X at *
    generalize iv .i64 s = S at *
    clear hs
    have O0 := hide ((Own.start W).alloc (.cells S 23))
    go_enter Try.func4, Try.ntmps4
    go_wp2_with fail
    refine (shown_any _).mono ?_
    rintro e w1 ⟨rfl, hb⟩
    have O1 := hide ((unhide O0).call hb)
    clear hb O0
    have KS := hide ((unhide O1).at W.heap.size (.cells S 23) (by simp))
    go_wp2_with (refine wpList_load_row rfl 23 _ rfl W.heap.size rfl _ _ _ _ (unhide KS) Try.underlying23 rfl sS ?_)
    refine (unhide C1 _).mono ?_
    rintro e w2 ⟨rfl, hb⟩
    have O2 := hide (((unhide O1).call hb).alloc (.cells X 26))
    clear hb O1 KS
    have K4 := hide ((unhide O2).at w2.heap.size (.cells X 26) (by simp))
    go_wp2_with (first | (refine wpList_load_row_g (by rfl) 26 (.tmp 4) rfl w2.heap.size rfl _ _ _ _ (unhide K4) Try.underlying26 rfl sX ?_) | (refine wpList_build0g (by rfl) 26 rfl _ build8 ?_) | (refine wpList_eqlA (by rfl) 26 26 (.tmp 18) (.tmp 19) rfl X (iv .u64 zs8) rfl rfl line_guard2 _ (unhide EX) ?_))
    go_ret
    exact ⟨rfl, (unhide O2).below⟩
  | true =>
    have eE : lineE s = 0 := lineE_may s hm
    have C2 : Hid (∀ w, Calls Try.prog 12 #[.agg (iv .u64 (lineV s))] w fun e w' => e = .returned (.tuple #[.agg (iv .i64 s), .bool true]) ∧ Below w.heap.size w w') := fun w => by
      have h := read_any (lineV s) (lineV_len s) (lineV_wf s) w
      rw [lineV_may s hm, readV_line s hs.1 hm, isS_line s hs.1 hm] at h
      rw [lineV_may s hm]; exact h
    have C3 : Hid (∀ w, Calls Try.prog 14 #[.agg (iv .u64 (lineV s))] w fun e w' => e = .returned (.bool true) ∧ Below w.heap.size w w') := fun w => by
      have h := good_any (lineV s) (lineV_len s) (lineV_wf s) w
      rw [lineV_may s hm, lineS_good s] at h
      rw [lineV_may s hm]; exact h
    have EY : Hid (∀ w, (Op.equalIn 10000 23 (.agg (iv .i64 s)) (.agg (iv .i64 s))).run Try.prog w = .ok true w) := fun w => by rw [equal_super _ _ hs.1 hs.1]; simp
    have nS := iv_new .i64 s 4 hs.1 23
    have zS : (iv .i64 s).size = 4 := by rw [iv_size, hs.1]
    rw [eE] at C1
    clear eE hm
    generalize iv .u64 (lineV s) = X at *
    generalize iv .i64 s = S at *
    clear hs
    have O0 := hide ((Own.start W).alloc (.cells S 23))
    go_enter Try.func4, Try.ntmps4
    go_wp2_with fail
    refine (shown_any _).mono ?_
    rintro e w1 ⟨rfl, hb⟩
    have O1 := hide ((unhide O0).call hb)
    clear hb O0
    have KS := hide ((unhide O1).at W.heap.size (.cells S 23) (by simp))
    go_wp2_with (refine wpList_load_row rfl 23 _ rfl W.heap.size rfl _ _ _ _ (unhide KS) Try.underlying23 rfl sS ?_)
    refine (unhide C1 _).mono ?_
    rintro e w2 ⟨rfl, hb⟩
    have O2 := hide (((unhide O1).call hb).alloc (.cells X 26))
    clear hb O1 KS
    have K4 := hide ((unhide O2).at w2.heap.size (.cells X 26) (by simp))
    go_wp2_with (refine wpList_load_row rfl 26 _ rfl w2.heap.size rfl _ _ _ _ (unhide K4) Try.underlying26 rfl sX ?_)
    refine (unhide C2 _).mono ?_
    rintro e w3 ⟨rfl, hb⟩
    have O3 := hide (((unhide O2).call hb).alloc (.cells S 23))
    clear hb O2 K4
    have K4 := hide ((unhide O3).at w2.heap.size (.cells X 26) (by simp))
    have K6 := hide ((unhide O3).at w3.heap.size (.cells S 23) (by simp))
    have K1 := hide ((unhide O3).at W.heap.size (.cells S 23) (by simp))
    go_wp2_with (first | (refine wpList_load_row_g (by rfl) 26 (.tmp 4) rfl w2.heap.size rfl _ _ _ _ (unhide K4) Try.underlying26 rfl sX ?_) | (refine wpList_load_row_g (by rfl) 23 (.tmp 6) rfl w3.heap.size rfl _ _ _ _ (unhide K6) Try.underlying23 rfl sS ?_) | (refine wpList_load_row_g (by rfl) 23 (.tmp 1) rfl W.heap.size rfl _ _ _ _ (unhide K1) Try.underlying23 rfl sS ?_) | (refine wpList_eqlA (by rfl) 23 23 (.tmp 32) (.tmp 33) rfl S S rfl rfl super_guard _ (unhide EY) ?_) | (go_at_call 14; refine (unhide C3 _).mono ?_; rintro e w4 ⟨rfl, hb⟩; have O4 := hide ((unhide O3).call hb); clear hb))
    go_ret
    exact ⟨rfl, (unhide O4).below⟩

set_option maxRecDepth 100000 in
theorem lifted (os : Os) (started : os.Started) (H : Type) (enc : TypeId × Value → H) :
    ReturnsInHanded {} Try.checked os 4 .any (Rows.superBackSpec.pre6 enc Try.prog Try.f4 Rows.superBackRow.domain false) (Rows.superBackSpec.post enc Try.prog Try.f4 false true false false) := by
  refine law_frame (C := Try.checked) (ts := [23]) (tb := 4) (by kernel_rfl) started (by kernel_rfl) Try.func4 Try.params4 (by kernel_rfl) Try.underlying4 (by kernel_rfl) (by kernel_rfl) rfl ?_
    (ChangeSpec.witness6 (enc := enc) (C := Try.checked) false ⟨#[], #[.agg (iv .i64 (List.replicate 4 0))], []⟩ 8 (by kernel_rfl) (by kernel_rfl) (by kernel_rfl) (by kernel_rfl)) ?_
  · intro ds hd
    match ds, hd with
    | [d0], _ => rfl
  · intro W base args ds p hval hA
    obtain ⟨v0, vs0, d0, ds0, p0, q0, hargs, rfl, rfl, h0, r0⟩ := trodAll_cons hA
    obtain ⟨rfl, rfl, rfl⟩ := trodAll_nil r0
    obtain rfl : args = #[v0] := by cases args; simp_all
    obtain ⟨s, rfl, hs⟩ := open_super (hval 0 23 v0 rfl rfl) h0
    exact walk s hs W

theorem over : Rows.superBackRow.holds Try.pinned (OpenSpec.ofChange Rows.superBackSpec) :=
  OpenClaim.holds_of_wide 4 Try.f4 rfl rfl rfl rfl rfl rfl rfl ⟨rfl, rfl, rfl, rfl, rfl⟩ rfl rfl rfl rfl rfl (by kernel_rfl) Try.func4 (by kernel_rfl)
    (of_decide_eq_true (by kernel_rfl)) (by unfold Func.isWrapper; first | (rw [if_pos (by decide +kernel)]; kernel_rfl) | (rw [if_neg (by decide +kernel)]; exact ⟨rfl, rfl⟩))
    (fun os started H enc _ => lifted os started H enc)

end Go.Proofs.Ytmmgacpipcgkdaa.superBack
namespace Go.Proofs.Ytmmgacpipcgkdaa
theorem superBack_holds : Rows.SuperBackSaid := superBack.over
end Go.Proofs.Ytmmgacpipcgkdaa
