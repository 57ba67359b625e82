
/-
  For every two entries, EntryApart returns true and leaves its arguments as they were: two entries have the same word only if they are the same. No condition.
-/
import Derived.Test.YtdmijjncninlbabEShown
namespace Go.Proofs.Ytdmijjncninlbab.entryApart
open Go.ChangeShapes Go.WideShapes Go.ChangeAt Go.RowKit Go.Joins
set_option linter.unusedVariables false
set_option linter.unusedSimpArgs false

set_option maxHeartbeats 4000000 in
set_option maxRecDepth 100000 in
theorem walk (c d : En) (hc : IsEn c) (hd : IsEn d) (W : World) :
    Calls Try.prog 3 #[.agg (ev c), .agg (ev d)] W fun e W' => e = .returned (.bool true) ∧ Below W.heap.size W W' := by
  have C1 := hide (eword_any c)
  have C2 := hide (eword_any d)
  have sA : (Try.prog.info? 23).map (·.size) = some (ev c).size := size3
  have sB : (Try.prog.info? 23).map (·.size) = some (ev d).size := size3
  have EQ : Hid (∀ w, (Op.equalIn 10000 23 (.agg (ev c)) (.agg (ev d))).run Try.prog w = .ok (decide (c = d)) w) := fun w => equal_en c d w
  clear hc hd
  cases hm : mayN c with
  | false =>
    rw [wnE_not c hm, wnV_not c hm] at C1
    generalize ev c = A at *
    generalize ev d = B at *
    generalize wnV d = V at *
    generalize wnE d = E at *
    clear hm EQ
    have O := hide (((Own.start W).alloc (.cells A 23)).alloc (.cells B 23))
    have g0 : (W.alloc (.cells A 23)).heap.size = W.heap.size + 1 := by simp
    rw [g0] at O
    clear g0
    go_enter Try.func3, Try.ntmps3
    go_wp2_with fail
    refine (shown8_any _).mono ?_
    rintro e w1 ⟨rfl, hb⟩
    replace O := hide ((unhide O).call hb)
    clear hb
    have KA := hide ((unhide O).at W.heap.size (.cells A 23) (by simp))
    go_wp2_with (refine wpList_load_row rfl 23 _ rfl W.heap.size rfl _ _ _ _ (unhide KA) Try.underlying23 rfl sA ?_)
    refine (unhide C1 _).mono ?_
    rintro e w2 ⟨rfl, hb⟩
    replace O := hide ((unhide O).call hb)
    clear hb KA
    have KB := hide ((unhide O).at (W.heap.size + 1) (.cells B 23) (by simp))
    go_wp2_with (refine wpList_load_row rfl 23 _ rfl (W.heap.size + 1) rfl _ _ _ _ (unhide KB) Try.underlying23 rfl sB ?_)
    refine (unhide C2 _).mono ?_
    rintro e w3 ⟨rfl, hb⟩
    replace O := hide ((unhide O).call hb)
    clear hb KB
    have KA := hide ((unhide O).at W.heap.size (.cells A 23) (by simp))
    have KB := hide ((unhide O).at (W.heap.size + 1) (.cells B 23) (by simp))
    go_wp2_with fail
    go_ret
    exact ⟨rfl, (unhide O).below⟩
  | true =>
    cases hn : mayN d with
    | false =>
      rw [wnE_not d hn, wnV_not d hn] at C2
      rw [wnE_may c hm, wnV_may c hm] at C1
      generalize ev c = A at *
      generalize ev d = B at *
      generalize wordN c = V at *
      clear hm hn EQ
      have O := hide (((Own.start W).alloc (.cells A 23)).alloc (.cells B 23))
      have g0 : (W.alloc (.cells A 23)).heap.size = W.heap.size + 1 := by simp
      rw [g0] at O
      clear g0
      go_enter Try.func3, Try.ntmps3
      go_wp2_with fail
      refine (shown8_any _).mono ?_
      rintro e w1 ⟨rfl, hb⟩
      replace O := hide ((unhide O).call hb)
      clear hb
      have KA := hide ((unhide O).at W.heap.size (.cells A 23) (by simp))
      go_wp2_with (refine wpList_load_row rfl 23 _ rfl W.heap.size rfl _ _ _ _ (unhide KA) Try.underlying23 rfl sA ?_)
      refine (unhide C1 _).mono ?_
      rintro e w2 ⟨rfl, hb⟩
      replace O := hide ((unhide O).call hb)
      clear hb KA
      have KB := hide ((unhide O).at (W.heap.size + 1) (.cells B 23) (by simp))
      go_wp2_with (refine wpList_load_row rfl 23 _ rfl (W.heap.size + 1) rfl _ _ _ _ (unhide KB) Try.underlying23 rfl sB ?_)
      refine (unhide C2 _).mono ?_
      rintro e w3 ⟨rfl, hb⟩
      replace O := hide ((unhide O).call hb)
      clear hb KB
      have KA := hide ((unhide O).at W.heap.size (.cells A 23) (by simp))
      have KB := hide ((unhide O).at (W.heap.size + 1) (.cells B 23) (by simp))
      go_wp2_with fail
      go_ret
      exact ⟨rfl, (unhide O).below⟩
    | true =>
      rw [wnE_may d hn, wnV_may d hn] at C2
      rw [wnE_may c hm, wnV_may c hm] at C1
      have hq : (wordN c == wordN d) = decide (c = d) := by
        rw [Bool.eq_iff_iff, beq_iff_eq, decide_eq_true_iff]
        exact ⟨wordN_inj c d hm hn, fun h => by rw [h]⟩
      generalize decide (c = d) = D at *
      generalize ev c = A at *
      generalize ev d = B at *
      generalize wordN c = V at *
      generalize wordN d = V' at *
      clear hm hn
      have hD : (D == D) = true := by simp
      have O := hide (((Own.start W).alloc (.cells A 23)).alloc (.cells B 23))
      have g0 : (W.alloc (.cells A 23)).heap.size = W.heap.size + 1 := by simp
      rw [g0] at O
      clear g0
      go_enter Try.func3, Try.ntmps3
      go_wp2_with fail
      refine (shown8_any _).mono ?_
      rintro e w1 ⟨rfl, hb⟩
      replace O := hide ((unhide O).call hb)
      clear hb
      have KA := hide ((unhide O).at W.heap.size (.cells A 23) (by simp))
      go_wp2_with (refine wpList_load_row rfl 23 _ rfl W.heap.size rfl _ _ _ _ (unhide KA) Try.underlying23 rfl sA ?_)
      refine (unhide C1 _).mono ?_
      rintro e w2 ⟨rfl, hb⟩
      replace O := hide ((unhide O).call hb)
      clear hb KA
      have KB := hide ((unhide O).at (W.heap.size + 1) (.cells B 23) (by simp))
      go_wp2_with (refine wpList_load_row rfl 23 _ rfl (W.heap.size + 1) rfl _ _ _ _ (unhide KB) Try.underlying23 rfl sB ?_)
      refine (unhide C2 _).mono ?_
      rintro e w3 ⟨rfl, hb⟩
      replace O := hide ((unhide O).call hb)
      clear hb KB
      have KA := hide ((unhide O).at W.heap.size (.cells A 23) (by simp))
      have KB := hide ((unhide O).at (W.heap.size + 1) (.cells B 23) (by simp))
      go_wp2_with (first | (refine wpList_load_row_g (by rfl) 23 (.tmp 2) rfl W.heap.size rfl _ _ _ _ (unhide KA) Try.underlying23 rfl sA ?_) | (refine wpList_load_row_g (by rfl) 23 (.tmp 3) rfl (W.heap.size + 1) rfl _ _ _ _ (unhide KB) Try.underlying23 rfl sB ?_) | (refine wpList_eqlA (by rfl) 23 23 (.tmp 33) (.tmp 34) rfl A B rfl rfl en_guard _ (unhide EQ) ?_))
      go_ret
      exact ⟨rfl, (unhide O).below⟩

set_option maxRecDepth 100000 in
theorem lifted (os : Os) (started : os.Started) (H : Type) (enc : TypeId × Value → H) :
    ReturnsInHanded {} Try.checked os 3 .any (Rows.entryApartSpec.pre6 enc Try.prog Try.f3 Rows.entryApartRow.domain false) (Rows.entryApartSpec.post enc Try.prog Try.f3 false true false false) := by
  refine law_frame (C := Try.checked) (ts := [23, 23]) (tb := 4) (by kernel_rfl) started (by kernel_rfl) Try.func3 Try.params3 (by kernel_rfl) Try.underlying4 (by kernel_rfl) (by kernel_rfl) rfl ?_
    (ChangeSpec.witness6 (enc := enc) (C := Try.checked) false ⟨#[], #[.agg (ev ze), .agg (ev ze)], []⟩ 8 (by kernel_rfl) (by kernel_rfl) (by kernel_rfl) (by kernel_rfl)) ?_
  · intro ds hd
    match ds, hd with
    | [d0, d1], _ => rfl
  · intro W base args ds p hval hA
    obtain ⟨v0, vs0, d0, ds0, p0, q0, hargs, rfl, rfl, h0, r0⟩ := trodAll_cons hA
    obtain ⟨v1, vs1, d1, ds1, p1, q1, rfl, rfl, rfl, h1, r1⟩ := trodAll_cons r0
    obtain ⟨rfl, rfl, rfl⟩ := trodAll_nil r1
    obtain rfl : args = #[v0, v1] := by cases args; simp_all
    obtain ⟨c, rfl, hc⟩ := open_en (hval 0 23 v0 rfl rfl) h0
    obtain ⟨d, rfl, hd⟩ := open_en (hval 1 23 v1 rfl rfl) h1
    exact walk c d hc hd W

theorem over : Rows.entryApartRow.holds Try.pinned (OpenSpec.ofChange Rows.entryApartSpec) :=
  OpenClaim.holds_of_wide 3 Try.f3 rfl rfl rfl rfl rfl rfl rfl ⟨rfl, rfl, rfl, rfl, rfl⟩ rfl rfl rfl rfl rfl (by kernel_rfl) Try.func3 (by kernel_rfl)
    (of_decide_eq_true (by kernel_rfl)) (by unfold Func.isWrapper; first | (rw [if_pos (by decide +kernel)]; kernel_rfl) | (rw [if_neg (by decide +kernel)]; exact ⟨rfl, rfl⟩))
    (fun os started H enc _ => lifted os started H enc)

end Go.Proofs.Ytdmijjncninlbab.entryApart
namespace Go.Proofs.Ytdmijjncninlbab
theorem entryApart_holds : Rows.EntryApartSaid := entryApart.over
end Go.Proofs.Ytdmijjncninlbab
