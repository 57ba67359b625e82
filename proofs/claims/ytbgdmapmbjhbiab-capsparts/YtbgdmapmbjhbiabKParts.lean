
/-
  For every two capabilities, CapsParts returns true and leaves its arguments as they were: two capabilities have the same word only if they are the same. No condition.
-/
import Derived.Test.YtbgdmapmbjhbiabKShown
namespace Go.Proofs.Ytbgdmapmbjhbiab.capsParts
open Go.ChangeShapes Go.WideShapes Go.ChangeAt Go.RowKit Go.Joins
set_option linter.unusedVariables false
set_option linter.unusedSimpArgs false

set_option maxHeartbeats 4000000 in
set_option maxRecDepth 100000 in
theorem walk (c d : Cp) (hc : IsCap c) (hd : IsCap d) (W : World) :
    Calls Try.prog 3 #[.agg (cv c), .agg (cv d)] W fun e W' => e = .returned (.bool true) ∧ Below W.heap.size W W' := by
  have C1 := hide (word_any c)
  have C2 := hide (word_any d)
  have sA : (Try.prog.info? 23).map (·.size) = some (cv c).size := size5
  have sB : (Try.prog.info? 23).map (·.size) = some (cv d).size := size5
  have EQ : Hid (∀ w, (Op.equalIn 10000 23 (.agg (cv c)) (.agg (cv d))).run Try.prog w = .ok (decide (c = d)) w) := fun w => equal_cap c d w
  clear hc hd
  cases hm : mayC c with
  | false =>
    rw [wordE_not c hm, wordV_not c hm] at C1
    generalize cv c = A at *
    generalize cv d = B at *
    generalize wordV d = V at *
    generalize wordE d = E at *
    clear hm EQ
    have O := hide (((Own.start W).alloc (.cells A 23)).alloc (.cells B 23))
    have g0 : (W.alloc (.cells A 23)).heap.size = W.heap.size + 1 := by simp
    rw [g0] at O
    clear g0
    go_enter Try.func3, Try.ntmps3
    go_wp2_with fail
    refine (shown7_any _).mono ?_
    rintro e w1 ⟨rfl, hb⟩
    replace O := hide ((unhide O).call hb)
    clear hb
    have KA := hide ((unhide O).at W.heap.size (.cells A 23) (by simp))
    go_wp2_with (refine wpList_load_row rfl 23 _ rfl W.heap.size rfl _ _ _ _ (unhide KA) Try.underlying23 rfl sA ?_)
    refine (unhide C1 _).mono ?_
    rintro e w2 ⟨rfl, hb⟩
    replace O := hide ((unhide O).call hb)
    clear hb KA
    have KB := hide ((unhide O).at (W.heap.size + 1) (.cells B 23) (by simp))
    go_wp2_with (refine wpList_load_row rfl 23 _ rfl (W.heap.size + 1) rfl _ _ _ _ (unhide KB) Try.underlying23 rfl sB ?_)
    refine (unhide C2 _).mono ?_
    rintro e w3 ⟨rfl, hb⟩
    replace O := hide ((unhide O).call hb)
    clear hb KB
    have KA := hide ((unhide O).at W.heap.size (.cells A 23) (by simp))
    have KB := hide ((unhide O).at (W.heap.size + 1) (.cells B 23) (by simp))
    go_wp2_with fail
    go_ret
    exact ⟨rfl, (unhide O).below⟩
  | true =>
    cases hn : mayC d with
    | false =>
      rw [wordE_not d hn, wordV_not d hn] at C2
      rw [wordE_may c hm, wordV_may c hm] at C1
      generalize cv c = A at *
      generalize cv d = B at *
      generalize wordC c = V at *
      clear hm hn EQ
      have O := hide (((Own.start W).alloc (.cells A 23)).alloc (.cells B 23))
      have g0 : (W.alloc (.cells A 23)).heap.size = W.heap.size + 1 := by simp
      rw [g0] at O
      clear g0
      go_enter Try.func3, Try.ntmps3
      go_wp2_with fail
      refine (shown7_any _).mono ?_
      rintro e w1 ⟨rfl, hb⟩
      replace O := hide ((unhide O).call hb)
      clear hb
      have KA := hide ((unhide O).at W.heap.size (.cells A 23) (by simp))
      go_wp2_with (refine wpList_load_row rfl 23 _ rfl W.heap.size rfl _ _ _ _ (unhide KA) Try.underlying23 rfl sA ?_)
      refine (unhide C1 _).mono ?_
      rintro e w2 ⟨rfl, hb⟩
      replace O := hide ((unhide O).call hb)
      clear hb KA
      have KB := hide ((unhide O).at (W.heap.size + 1) (.cells B 23) (by simp))
      go_wp2_with (refine wpList_load_row rfl 23 _ rfl (W.heap.size + 1) rfl _ _ _ _ (unhide KB) Try.underlying23 rfl sB ?_)
      refine (unhide C2 _).mono ?_
      rintro e w3 ⟨rfl, hb⟩
      replace O := hide ((unhide O).call hb)
      clear hb KB
      have KA := hide ((unhide O).at W.heap.size (.cells A 23) (by simp))
      have KB := hide ((unhide O).at (W.heap.size + 1) (.cells B 23) (by simp))
      go_wp2_with fail
      go_ret
      exact ⟨rfl, (unhide O).below⟩
    | true =>
      rw [wordE_may d hn, wordV_may d hn] at C2
      rw [wordE_may c hm, wordV_may c hm] at C1
      have hq : (wordC c == wordC d) = decide (c = d) := by
        rw [Bool.eq_iff_iff, beq_iff_eq, decide_eq_true_iff]
        exact ⟨wordC_inj c d hm hn, fun h => by rw [h]⟩
      have hz : (wordC c != 0) = true := by have := wordC_bd c hm; simp; omega
      generalize decide (c = d) = D at *
      generalize cv c = A at *
      generalize cv d = B at *
      generalize wordC c = V at *
      generalize wordC d = V' at *
      clear hm hn
      have hD : (D == D) = true := by simp
      have O := hide (((Own.start W).alloc (.cells A 23)).alloc (.cells B 23))
      have g0 : (W.alloc (.cells A 23)).heap.size = W.heap.size + 1 := by simp
      rw [g0] at O
      clear g0
      go_enter Try.func3, Try.ntmps3
      go_wp2_with fail
      refine (shown7_any _).mono ?_
      rintro e w1 ⟨rfl, hb⟩
      replace O := hide ((unhide O).call hb)
      clear hb
      have KA := hide ((unhide O).at W.heap.size (.cells A 23) (by simp))
      go_wp2_with (refine wpList_load_row rfl 23 _ rfl W.heap.size rfl _ _ _ _ (unhide KA) Try.underlying23 rfl sA ?_)
      refine (unhide C1 _).mono ?_
      rintro e w2 ⟨rfl, hb⟩
      replace O := hide ((unhide O).call hb)
      clear hb KA
      have KB := hide ((unhide O).at (W.heap.size + 1) (.cells B 23) (by simp))
      go_wp2_with (refine wpList_load_row rfl 23 _ rfl (W.heap.size + 1) rfl _ _ _ _ (unhide KB) Try.underlying23 rfl sB ?_)
      refine (unhide C2 _).mono ?_
      rintro e w3 ⟨rfl, hb⟩
      replace O := hide ((unhide O).call hb)
      clear hb KB
      have KA := hide ((unhide O).at W.heap.size (.cells A 23) (by simp))
      have KB := hide ((unhide O).at (W.heap.size + 1) (.cells B 23) (by simp))
      go_wp2_with (first | (refine wpList_load_row_g (by rfl) 23 (.tmp 2) rfl W.heap.size rfl _ _ _ _ (unhide KA) Try.underlying23 rfl sA ?_) | (refine wpList_load_row_g (by rfl) 23 (.tmp 3) rfl (W.heap.size + 1) rfl _ _ _ _ (unhide KB) Try.underlying23 rfl sB ?_) | (refine wpList_eqlA (by rfl) 23 23 (.tmp 37) (.tmp 38) rfl A B rfl rfl cap_guard _ (unhide EQ) ?_))
      go_ret
      exact ⟨rfl, (unhide O).below⟩

set_option maxRecDepth 100000 in
theorem lifted (os : Os) (started : os.Started) (H : Type) (enc : TypeId × Value → H) :
    ReturnsInHanded {} Try.checked os 3 .any (Rows.capsPartsSpec.pre6 enc Try.prog Try.f3 Rows.capsPartsRow.domain false) (Rows.capsPartsSpec.post enc Try.prog Try.f3 false true false false) := by
  refine law_frame (C := Try.checked) (ts := [23, 23]) (tb := 4) (by kernel_rfl) started (by kernel_rfl) Try.func3 Try.params3 (by kernel_rfl) Try.underlying4 (by kernel_rfl) (by kernel_rfl) rfl ?_
    (ChangeSpec.witness6 (enc := enc) (C := Try.checked) false ⟨#[], #[.agg (cv zc), .agg (cv zc)], []⟩ 8 (by kernel_rfl) (by kernel_rfl) (by kernel_rfl) (by kernel_rfl)) ?_
  · intro ds hd
    match ds, hd with
    | [d0, d1], _ => rfl
  · intro W base args ds p hval hA
    obtain ⟨v0, vs0, d0, ds0, p0, q0, hargs, rfl, rfl, h0, r0⟩ := trodAll_cons hA
    obtain ⟨v1, vs1, d1, ds1, p1, q1, rfl, rfl, rfl, h1, r1⟩ := trodAll_cons r0
    obtain ⟨rfl, rfl, rfl⟩ := trodAll_nil r1
    obtain rfl : args = #[v0, v1] := by cases args; simp_all
    obtain ⟨c, rfl, hc⟩ := open_cap (hval 0 23 v0 rfl rfl) h0
    obtain ⟨d, rfl, hd⟩ := open_cap (hval 1 23 v1 rfl rfl) h1
    exact walk c d hc hd W

theorem over : Rows.capsPartsRow.holds Try.pinned (OpenSpec.ofChange Rows.capsPartsSpec) :=
  OpenClaim.holds_of_wide 3 Try.f3 rfl rfl rfl rfl rfl rfl rfl ⟨rfl, rfl, rfl, rfl, rfl⟩ rfl rfl rfl rfl rfl (by kernel_rfl) Try.func3 (by kernel_rfl)
    (of_decide_eq_true (by kernel_rfl)) (by unfold Func.isWrapper; first | (rw [if_pos (by decide +kernel)]; kernel_rfl) | (rw [if_neg (by decide +kernel)]; exact ⟨rfl, rfl⟩))
    (fun os started H enc _ => lifted os started H enc)

end Go.Proofs.Ytbgdmapmbjhbiab.capsParts
namespace Go.Proofs.Ytbgdmapmbjhbiab
theorem capsParts_holds : Rows.CapsPartsSaid := capsParts.over
end Go.Proofs.Ytbgdmapmbjhbiab
