
/-
  For every record and every line, RlogLines returns true and leaves its arguments as they were: any record's line is the document's, or refused, and any line is read as one, or as none. No condition.
-/
import Derived.Test.YtjidekjeibdbgaaPkScan
namespace Go.Proofs.Ytjidekjeibdbgaa.rlogLines
open Go.ChangeShapes Go.WideShapes Go.ChangeAt Go.RowKit Go.Joins
set_option linter.unusedVariables false
set_option linter.unusedSimpArgs false

set_option maxHeartbeats 4000000 in
set_option maxRecDepth 100000 in
theorem walk (s : Rc) (l : List Int) (hs : IsRec s) (hl : IsLineR l) (W : World) :
    Calls Try.prog 3 #[.agg (rv s), .agg (iv .u64 l)] W fun e W' => e = .returned (.bool true) ∧ Below W.heap.size W W' := by
  have C1 := hide (lineR_any s (isRec_ok hs))
  have C2 := hide (rlineR_any s (isRec_ok hs))
  have C3 := hide (readR_any l hl.1 hl.2)
  have C4 := hide (rreadR_any l hl.1 hl.2)
  have sS : (Try.prog.info? 24).map (·.size) = some (rv s).size := size4R
  have sL := infoLR hl.1
  have sX := infoLR (lineRV_len s)
  have sY : (Try.prog.info? 24).map (·.size) = some (rv (readRV l)).size := size4R
  have nX := iv_new .u64 (lineRV s) 8 (lineRV_len _) 26
  have nY := rv_new (readRV l) 24
  have zX : (iv .u64 (lineRV s)).size = 8 := by rw [iv_size, lineRV_len]
  have zY := rv_size (readRV l)
  have EX : Hid (∀ w, (Op.equalIn 10000 26 (.agg (iv .u64 (lineRV s))) (.agg (iv .u64 (lineRV s)))).run Try.prog w = .ok true w) := fun w => by rw [equal_line _ _ (lineRV_len s) (lineRV_len s)]; simp
  have EY : Hid (∀ w, (Op.equalIn 10000 24 (.agg (rv (readRV l))) (.agg (rv (readRV l)))).run Try.prog w = .ok true w) := fun w => by rw [equal_rec]; simp
  generalize iv .u64 (lineRV s) = X at *
  generalize rv (readRV l) = Y at *
  generalize lineRE s = E at *
  generalize isR l = p at *
  generalize rv s = S at *
  generalize iv .u64 l = L at *
  clear hs hl
  have O0 := hide (((Own.start W).alloc (.cells S 24)).alloc (.cells L 26))
  have g0 : (W.alloc (.cells S 24)).heap.size = W.heap.size + 1 := by simp
  rw [g0] at O0
  clear g0
  go_enter Try.func3, Try.ntmps3
  go_wp2_with fail
  refine (shown6_any _).mono ?_
  rintro e w1 ⟨rfl, hk⟩
  have hb := hk.asBelow
  clear hk
  have O1 := hide ((unhide O0).call hb)
  clear hb O0
  have KS := hide ((unhide O1).at W.heap.size (.cells S 24) (by simp))
  go_wp2_with (refine wpList_load_row rfl 24 _ rfl W.heap.size rfl _ _ _ _ (unhide KS) Try.underlying24 rfl sS ?_)
  refine (unhide C1 _).mono ?_
  rintro e w2 ⟨rfl, hb⟩
  have O2 := hide (((unhide O1).call hb).alloc (.cells X 26))
  clear hb O1 KS
  have KS := hide ((unhide O2).at W.heap.size (.cells S 24) (by simp))
  go_wp2_with (refine wpList_load_row rfl 24 _ rfl W.heap.size rfl _ _ _ _ (unhide KS) Try.underlying24 rfl sS ?_)
  refine (unhide C2 _).mono ?_
  rintro e w3 ⟨rfl, hb⟩
  have O3 := hide (((unhide O2).call hb).alloc (.cells X 26))
  clear hb O2 KS
  have KL := hide ((unhide O3).at (W.heap.size + 1) (.cells L 26) (by simp))
  go_wp2_with (refine wpList_load_row rfl 26 _ rfl (W.heap.size + 1) rfl _ _ _ _ (unhide KL) Try.underlying26 rfl sL ?_)
  refine (unhide C3 _).mono ?_
  rintro e w4 ⟨rfl, hb⟩
  have O4 := hide (((unhide O3).call hb).alloc (.cells Y 24))
  clear hb O3 KL
  have KL := hide ((unhide O4).at (W.heap.size + 1) (.cells L 26) (by simp))
  go_wp2_with (refine wpList_load_row rfl 26 _ rfl (W.heap.size + 1) rfl _ _ _ _ (unhide KL) Try.underlying26 rfl sL ?_)
  refine (unhide C4 _).mono ?_
  rintro e w5 ⟨rfl, hb⟩
  have O5 := hide (((unhide O4).call hb).alloc (.cells Y 24))
  clear hb O4 KL
  have K6 := hide ((unhide O5).at w2.heap.size (.cells X 26) (by simp))
  have K8 := hide ((unhide O5).at w3.heap.size (.cells X 26) (by simp))
  have K10 := hide ((unhide O5).at w4.heap.size (.cells Y 24) (by simp))
  have K12 := hide ((unhide O5).at w5.heap.size (.cells Y 24) (by simp))
  have hp : (p == p) = true := by simp
  have hE : (E == E) = true := by simp
  go_wp2_with (first | (refine wpList_load_row_g (by rfl) 26 (.tmp 6) rfl w2.heap.size rfl _ _ _ _ (unhide K6) Try.underlying26 rfl sX ?_) | (refine wpList_load_row_g (by rfl) 26 (.tmp 8) rfl w3.heap.size rfl _ _ _ _ (unhide K8) Try.underlying26 rfl sX ?_) | (refine wpList_load_row_g (by rfl) 24 (.tmp 10) rfl w4.heap.size rfl _ _ _ _ (unhide K10) Try.underlying24 rfl sY ?_) | (refine wpList_load_row_g (by rfl) 24 (.tmp 12) rfl w5.heap.size rfl _ _ _ _ (unhide K12) Try.underlying24 rfl sY ?_) | (refine wpList_eqlA (by rfl) 26 26 (.tmp 37) (.tmp 38) rfl X X rfl rfl line_guard2 _ (unhide EX) ?_) | (refine wpList_eqlA (by rfl) 24 24 (.tmp 47) (.tmp 48) rfl Y Y rfl rfl rec_guard _ (unhide EY) ?_))
  go_ret
  exact ⟨rfl, (unhide O5).below⟩

set_option maxRecDepth 100000 in
theorem lifted (os : Os) (started : os.Started) (H : Type) (enc : TypeId × Value → H) :
    ReturnsInHanded {} Try.checked os 3 .any (Rows.rlogLinesSpec.pre6 enc Try.prog Try.f3 Rows.rlogLinesRow.domain false) (Rows.rlogLinesSpec.post enc Try.prog Try.f3 false true false false) := by
  refine law_frame (C := Try.checked) (ts := [24, 26]) (tb := 4) (by kernel_rfl) started (by kernel_rfl) Try.func3 Try.params3 (by kernel_rfl) Try.underlying4 (by kernel_rfl) (by kernel_rfl) rfl ?_
    (ChangeSpec.witness6 (enc := enc) (C := Try.checked) false ⟨#[], #[.agg (rv zr), .agg (iv .u64 (List.replicate 8 0))], []⟩ 8 (by kernel_rfl) (by kernel_rfl) (by kernel_rfl) (by kernel_rfl)) ?_
  · intro ds hd
    match ds, hd with
    | [d0, d1], _ => rfl
  · intro W base args ds p hval hA
    obtain ⟨v0, vs0, d0, ds0, p0, q0, hargs, rfl, rfl, h0, r0⟩ := trodAll_cons hA
    obtain ⟨v1, vs1, d1, ds1, p1, q1, rfl, rfl, rfl, h1, r1⟩ := trodAll_cons r0
    obtain ⟨rfl, rfl, rfl⟩ := trodAll_nil r1
    obtain rfl : args = #[v0, v1] := by cases args; simp_all
    obtain ⟨s, rfl, hs⟩ := open_rec (hval 0 24 v0 rfl rfl) h0
    obtain ⟨l, rfl, hl⟩ := open_lineR (hval 1 26 v1 rfl rfl) h1
    exact walk s l hs hl W

theorem over : Rows.rlogLinesRow.holds Try.pinned (OpenSpec.ofChange Rows.rlogLinesSpec) :=
  OpenClaim.holds_of_wide 3 Try.f3 rfl rfl rfl rfl rfl rfl rfl ⟨rfl, rfl, rfl, rfl, rfl⟩ rfl rfl rfl rfl rfl (by kernel_rfl) Try.func3 (by kernel_rfl)
    (of_decide_eq_true (by kernel_rfl)) (by unfold Func.isWrapper; first | (rw [if_pos (by decide +kernel)]; kernel_rfl) | (rw [if_neg (by decide +kernel)]; exact ⟨rfl, rfl⟩))
    (fun os started H enc _ => lifted os started H enc)

end Go.Proofs.Ytjidekjeibdbgaa.rlogLines
namespace Go.Proofs.Ytjidekjeibdbgaa
theorem rlogLines_holds : Rows.RlogLinesSaid := rlogLines.over
end Go.Proofs.Ytjidekjeibdbgaa
