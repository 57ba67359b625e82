
/-
  For every record, RlogBack returns true and leaves its argument as it was: a record that may be is read from its line as it was, and its line is sealed; one that may not be has the line of noughts, and an error. No condition.
-/
import Derived.Test.YtjidekjeibdbgaaPkScan
namespace Go.Proofs.Ytjidekjeibdbgaa.rlogBack
open Go.ChangeShapes Go.WideShapes Go.ChangeAt Go.RowKit Go.Joins
set_option linter.unusedVariables false
set_option linter.unusedSimpArgs false

set_option maxHeartbeats 4000000 in
set_option maxRecDepth 100000 in
theorem walk (s : Rc) (hs : IsRec s) (W : World) :
    Calls Try.prog 4 #[.agg (rv s)] W fun e W' => e = .returned (.bool true) ∧ Below W.heap.size W W' := by
  have C1 := hide (lineR_any s (isRec_ok hs))
  have sS : (Try.prog.info? 24).map (·.size) = some (rv s).size := size4R
  have sX := infoLR (lineRV_len s)
  have nX := iv_new .u64 (lineRV s) 8 (lineRV_len _) 26
  have zX : (iv .u64 (lineRV s)).size = 8 := by rw [iv_size, lineRV_len]
  cases hm : mayR s with
  | false =>
    have eE : lineRE s = 1 := by simp [lineRE, hm]
    have eL : lineRV s = zs8 := by simp [lineRV, hm]
    have EX : Hid (∀ w, (Op.equalIn 10000 26 (.agg (iv .u64 (lineRV s))) (.agg (iv .u64 zs8))).run Try.prog w = .ok true w) := fun w => by rw [equal_line _ _ (lineRV_len s) rfl, eL]; simp
    rw [eE] at C1
    clear eL eE hm
    generalize iv .u64 (lineRV s) = X at *
    generalize rv s = S at *
    clear hs
    have O0 := hide ((Own.start W).alloc (.cells S 24))
    go_enter Try.func4, Try.ntmps4
    go_wp2_with fail
    refine (shown6_any _).mono ?_
    rintro e w1 ⟨rfl, hk⟩
    have hb := hk.asBelow
    clear hk
    have O1 := hide ((unhide O0).call hb)
    clear hb O0
    have KS := hide ((unhide O1).at W.heap.size (.cells S 24) (by simp))
    go_wp2_with (refine wpList_load_row rfl 24 _ rfl W.heap.size rfl _ _ _ _ (unhide KS) Try.underlying24 rfl sS ?_)
    refine (unhide C1 _).mono ?_
    rintro e w2 ⟨rfl, hb⟩
    have O2 := hide (((unhide O1).call hb).alloc (.cells X 26))
    clear hb O1 KS
    have K4 := hide ((unhide O2).at w2.heap.size (.cells X 26) (by simp))
    go_wp2_with (first | (refine wpList_load_row_g (by rfl) 26 (.tmp 4) rfl w2.heap.size rfl _ _ _ _ (unhide K4) Try.underlying26 rfl sX ?_) | (refine wpList_build0r (by rfl) 26 rfl _ build8 ?_) | (refine wpList_eqlA (by rfl) 26 26 (.tmp 18) (.tmp 19) rfl X (iv .u64 zs8) rfl rfl line_guard2 _ (unhide EX) ?_))
    go_ret
    exact ⟨rfl, (unhide O2).below⟩
  | true =>
    have eE : lineRE s = 0 := lineRE_may s hm
    have C2 : Hid (∀ w, Calls Try.prog 12 #[.agg (iv .u64 (lineRV s))] w fun e w' => e = .returned (.tuple #[.agg (rv s), .bool true]) ∧ Below w.heap.size w w') := fun w => by
      have h := readR_any (lineRV s) (lineRV_len s) (lineRV_wf s (isRec_ok hs)) w
      rw [lineRV_may s hm, readRV_line s hm, isR_line s hm] at h
      rw [lineRV_may s hm]; exact h
    have C3 : Hid (∀ w, Calls Try.prog 14 #[.agg (iv .u64 (lineRV s))] w fun e w' => e = .returned (.bool true) ∧ Below w.heap.size w w') := fun w => by
      have h := good_any (lineRV s) (lineRV_len s) (lineRV_wf s (isRec_ok hs)) w
      rw [lineRV_may s hm, lineR_good s] at h
      rw [lineRV_may s hm]; exact h
    have EY : Hid (∀ w, (Op.equalIn 10000 24 (.agg (rv s)) (.agg (rv s))).run Try.prog w = .ok true w) := fun w => by rw [equal_rec]; simp
    have nS := rv_new s 24
    have zS := rv_size s
    rw [eE] at C1
    clear eE hm
    generalize iv .u64 (lineRV s) = X at *
    generalize rv s = S at *
    clear hs
    have O0 := hide ((Own.start W).alloc (.cells S 24))
    go_enter Try.func4, Try.ntmps4
    go_wp2_with fail
    refine (shown6_any _).mono ?_
    rintro e w1 ⟨rfl, hk⟩
    have hb := hk.asBelow
    clear hk
    have O1 := hide ((unhide O0).call hb)
    clear hb O0
    have KS := hide ((unhide O1).at W.heap.size (.cells S 24) (by simp))
    go_wp2_with (refine wpList_load_row rfl 24 _ rfl W.heap.size rfl _ _ _ _ (unhide KS) Try.underlying24 rfl sS ?_)
    refine (unhide C1 _).mono ?_
    rintro e w2 ⟨rfl, hb⟩
    have O2 := hide (((unhide O1).call hb).alloc (.cells X 26))
    clear hb O1 KS
    have K4 := hide ((unhide O2).at w2.heap.size (.cells X 26) (by simp))
    go_wp2_with (refine wpList_load_row rfl 26 _ rfl w2.heap.size rfl _ _ _ _ (unhide K4) Try.underlying26 rfl sX ?_)
    refine (unhide C2 _).mono ?_
    rintro e w3 ⟨rfl, hb⟩
    have O3 := hide (((unhide O2).call hb).alloc (.cells S 24))
    clear hb O2 K4
    have K4 := hide ((unhide O3).at w2.heap.size (.cells X 26) (by simp))
    have K6 := hide ((unhide O3).at w3.heap.size (.cells S 24) (by simp))
    have K1 := hide ((unhide O3).at W.heap.size (.cells S 24) (by simp))
    go_wp2_with (first | (refine wpList_load_row_g (by rfl) 26 (.tmp 4) rfl w2.heap.size rfl _ _ _ _ (unhide K4) Try.underlying26 rfl sX ?_) | (refine wpList_load_row_g (by rfl) 24 (.tmp 6) rfl w3.heap.size rfl _ _ _ _ (unhide K6) Try.underlying24 rfl sS ?_) | (refine wpList_load_row_g (by rfl) 24 (.tmp 1) rfl W.heap.size rfl _ _ _ _ (unhide K1) Try.underlying24 rfl sS ?_) | (refine wpList_eqlA (by rfl) 24 24 (.tmp 32) (.tmp 33) rfl S S rfl rfl rec_guard _ (unhide EY) ?_) | (go_at_call 14; refine (unhide C3 _).mono ?_; rintro e w4 ⟨rfl, hb⟩; have O4 := hide ((unhide O3).call hb); clear hb))
    go_ret
    exact ⟨rfl, (unhide O4).below⟩

set_option maxRecDepth 100000 in
theorem lifted (os : Os) (started : os.Started) (H : Type) (enc : TypeId × Value → H) :
    ReturnsInHanded {} Try.checked os 4 .any (Rows.rlogBackSpec.pre6 enc Try.prog Try.f4 Rows.rlogBackRow.domain false) (Rows.rlogBackSpec.post enc Try.prog Try.f4 false true false false) := by
  refine law_frame (C := Try.checked) (ts := [24]) (tb := 4) (by kernel_rfl) started (by kernel_rfl) Try.func4 Try.params4 (by kernel_rfl) Try.underlying4 (by kernel_rfl) (by kernel_rfl) rfl ?_
    (ChangeSpec.witness6 (enc := enc) (C := Try.checked) false ⟨#[], #[.agg (rv zr)], []⟩ 8 (by kernel_rfl) (by kernel_rfl) (by kernel_rfl) (by kernel_rfl)) ?_
  · intro ds hd
    match ds, hd with
    | [d0], _ => rfl
  · intro W base args ds p hval hA
    obtain ⟨v0, vs0, d0, ds0, p0, q0, hargs, rfl, rfl, h0, r0⟩ := trodAll_cons hA
    obtain ⟨rfl, rfl, rfl⟩ := trodAll_nil r0
    obtain rfl : args = #[v0] := by cases args; simp_all
    obtain ⟨s, rfl, hs⟩ := open_rec (hval 0 24 v0 rfl rfl) h0
    exact walk s hs W

theorem over : Rows.rlogBackRow.holds Try.pinned (OpenSpec.ofChange Rows.rlogBackSpec) :=
  OpenClaim.holds_of_wide 4 Try.f4 rfl rfl rfl rfl rfl rfl rfl ⟨rfl, rfl, rfl, rfl, rfl⟩ rfl rfl rfl rfl rfl (by kernel_rfl) Try.func4 (by kernel_rfl)
    (of_decide_eq_true (by kernel_rfl)) (by unfold Func.isWrapper; first | (rw [if_pos (by decide +kernel)]; kernel_rfl) | (rw [if_neg (by decide +kernel)]; exact ⟨rfl, rfl⟩))
    (fun os started H enc _ => lifted os started H enc)

end Go.Proofs.Ytjidekjeibdbgaa.rlogBack
namespace Go.Proofs.Ytjidekjeibdbgaa
theorem rlogBack_holds : Rows.RlogBackSaid := rlogBack.over
end Go.Proofs.Ytjidekjeibdbgaa
