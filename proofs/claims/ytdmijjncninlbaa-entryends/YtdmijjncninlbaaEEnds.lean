
/-
  For every entry, EntryEnds returns true and leaves its argument as it was: any entry whose version may be is ended, or refused, as the document says, and whether one may be made there. No condition.
-/
import Derived.Test.YtdmijjncninlbaaEShown
import Derived.Test.YtdmijjncninlbaaERef
import Derived.Deep.Cut
namespace Go.Proofs.Ytdmijjncninlbaa.entryEnds
open Go.ChangeShapes Go.WideShapes Go.ChangeAt Go.RowKit Go.Joins
set_option linter.unusedVariables false
set_option linter.unusedSimpArgs false

set_option maxHeartbeats 4000000 in
set_option maxRecDepth 100000 in
theorem walk3 (k v l : Int) (W : World) :
    Calls Try.prog 6 #[.agg #[.int .i64 k, .int .i64 v, .int .i64 l]] W fun e W' => e = .returned (.bool true) ∧ Below W.heap.size W W' := by
  by_cases hv0 : v < 0
  · skip
    have O0 := hide ((Own.start W).alloc (.cells #[.int .i64 k, .int .i64 v, .int .i64 l] 23))
    go_enter Try.func6, Try.ntmps6
    go_wp2_with fail
    refine (shown8_any _).mono ?_
    rintro e w1 ⟨rfl, hb⟩
    have O1 := hide ((unhide O0).call hb)
    clear hb O0
    have c1 : w1.cell? ⟨W.heap.size, 1, none⟩ = some (.int .i64 v) := by rw [cell_of_block ((unhide O1).at W.heap.size (.cells #[.int .i64 k, .int .i64 v, .int .i64 l] 23) (by simp))]; rfl
    go_wp2_with fail
    go_ret
    exact ⟨rfl, (unhide O1).below⟩
  by_cases hv1 : v > 16777215
  · skip
    have O0 := hide ((Own.start W).alloc (.cells #[.int .i64 k, .int .i64 v, .int .i64 l] 23))
    go_enter Try.func6, Try.ntmps6
    go_wp2_with fail
    refine (shown8_any _).mono ?_
    rintro e w1 ⟨rfl, hb⟩
    have O1 := hide ((unhide O0).call hb)
    clear hb O0
    have c1 : w1.cell? ⟨W.heap.size, 1, none⟩ = some (.int .i64 v) := by rw [cell_of_block ((unhide O1).at W.heap.size (.cells #[.int .i64 k, .int .i64 v, .int .i64 l] 23) (by simp))]; rfl
    go_wp2_with fail
    go_ret
    exact ⟨rfl, (unhide O1).below⟩
  have C1 := hide (end_any ⟨k, v, l⟩ (by show _ ≤ v; omega) (by show v < _; omega))
  have C2 := hide (reend_any ⟨k, v, l⟩ (by show _ ≤ v; omega) (by show v < _; omega))
  have C3 := hide (open_any ⟨k, v, l⟩)
  have C4 := hide (reopen_any ⟨k, v, l⟩)
  have sS : (Try.prog.info? 23).map (·.size) = some (ev ⟨k, v, l⟩).size := size3
  have tS : (Try.prog.info? 23).map (·.size) = some (ev ⟨k, v, l⟩).toList.length := size3
  have tR : (Try.prog.info? 23).map (·.size) = some (ev (endV ⟨k, v, l⟩)).toList.length := size3
  have nR := ev_new (endV ⟨k, v, l⟩) 23
  have zR := ev_size (endV ⟨k, v, l⟩)
  have EQ : Hid (∀ w, (Op.equalIn 10000 23 (.agg (ev (endV ⟨k, v, l⟩))) (.agg (ev (endV ⟨k, v, l⟩)))).run Try.prog w = .ok true w) := fun w => by rw [equal_en]; simp
  generalize endE ⟨k, v, l⟩ = E at *
  generalize ev (endV ⟨k, v, l⟩) = R at *
  generalize opB ⟨k, v, l⟩ = B at *
  have O0 := hide ((Own.start W).alloc (.cells #[.int .i64 k, .int .i64 v, .int .i64 l] 23))
  go_enter Try.func6, Try.ntmps6
  go_wp2_with fail
  refine (shown8_any _).mono ?_
  rintro e w1 ⟨rfl, hb⟩
  have O1 := hide ((unhide O0).call hb)
  clear hb O0
  have c1 : w1.cell? ⟨W.heap.size, 1, none⟩ = some (.int .i64 v) := by rw [cell_of_block ((unhide O1).at W.heap.size (.cells #[.int .i64 k, .int .i64 v, .int .i64 l] 23) (by simp))]; rfl
  go_upto_region 4 with fail
  clear c1
  rw [show (#[.int .i64 k, .int .i64 v, .int .i64 l] : Array Value) = ev ⟨k, v, l⟩ from rfl] at O1
  generalize ev ⟨k, v, l⟩ = S at *
  clear hv0 hv1
  have KS := hide ((unhide O1).at W.heap.size (.cells S 23) (by simp))
  go_wp2_with (with_reducible refine wpList_load_row (by with_unfolding_all rfl) 23 _ (by with_unfolding_all rfl) W.heap.size (by with_unfolding_all rfl) _ _ _ _ (unhide KS) Try.underlying23 (by with_unfolding_all rfl) sS ?_)
  refine (unhide C1 _).mono ?_
  rintro e w2 ⟨rfl, hb⟩
  have O2 := hide (((unhide O1).call hb).alloc (.cells R 23))
  clear hb O1 KS
  have KS := hide ((unhide O2).at W.heap.size (.cells S 23) (by simp))
  go_wp2_with (with_reducible refine wpList_load_row (by with_unfolding_all rfl) 23 _ (by with_unfolding_all rfl) W.heap.size (by with_unfolding_all rfl) _ _ _ _ (unhide KS) Try.underlying23 (by with_unfolding_all rfl) sS ?_)
  refine (unhide C2 _).mono ?_
  rintro e w3 ⟨rfl, hb⟩
  have O3 := hide (((unhide O2).call hb).alloc (.cells R 23))
  clear hb O2 KS
  go_wp2_with fail
  generalize hWW : w3.alloc (.cells R 23) = WW at *
  have HS : Hid ((fun w' : World => Own W w' [(w3.heap.size, .cells R 23), (w2.heap.size, .cells R 23), (W.heap.size, .cells S 23)]) WW.drew) := (unhide O3).drew
  clear O3 hWW
  generalize w3.heap.size = gb at *
  generalize w2.heap.size = ga at *
  have LS : Hid (∀ w' : World, Own W w' [(gb, .cells R 23), (ga, .cells R 23), (W.heap.size, .cells S 23)] → w'.rangeAt W.heap.size 0 S.toList) := fun w' h => eown_range h W.heap.size S.toList 23 (0, 0) (by simp)
  have LA : Hid (∀ w' : World, Own W w' [(gb, .cells R 23), (ga, .cells R 23), (W.heap.size, .cells S 23)] → w'.rangeAt ga 0 R.toList) := fun w' h => eown_range h ga R.toList 23 (0, 0) (by simp)
  have LB : Hid (∀ w' : World, Own W w' [(gb, .cells R 23), (ga, .cells R 23), (W.heap.size, .cells S 23)] → w'.rangeAt gb 0 R.toList) := fun w' h => eown_range h gb R.toList 23 (0, 0) (by simp)
  refine wp_region_noPanic ?_
  refine wp_region_held_drew (S := fun w' => Own W w' [(gb, .cells R 23), (ga, .cells R 23), (W.heap.size, .cells S 23)]) (by kernel_rfl) (unhide HS) (fun hHeld => ?_)
  have hE : (E == E) = true := by simp
  have hB : (B == B) = true := by simp
  refine take_at 0 28 (v := ?_) rfl rfl (by kernel_rfl) (by kernel_rfl) (by kernel_rfl) (Or.inl ⟨by rfl, ?_⟩) hHeld ?_
  rotate_left
  · intro w hSw; go_simp; with_reducible rfl
  simp only [Act.put, List.setIfInBounds_toArray, List.set_cons_zero, List.set_cons_succ]
  refine take_at 1 29 (v := ?_) rfl rfl (by kernel_rfl) (by kernel_rfl) (by kernel_rfl) (Or.inl ⟨by rfl, ?_⟩) hHeld ?_
  rotate_left
  · intro w hSw; go_simp; with_reducible rfl
  simp only [Act.put, List.setIfInBounds_toArray, List.set_cons_zero, List.set_cons_succ]
  refine take_at 2 30 rfl rfl (by kernel_rfl) (by kernel_rfl) (by kernel_rfl) (yieldsIf_load_mid (by rfl) 23 _ rfl ga 0 rfl R.toList _ (fun w h => unhide LA w h) Try.underlying23 rfl tR) hHeld ?_
  simp only [Act.put, List.setIfInBounds_toArray, List.set_cons_zero, List.set_cons_succ]
  refine take_at 3 31 rfl rfl (by kernel_rfl) (by kernel_rfl) (by kernel_rfl) (yieldsIf_load_mid (by rfl) 23 _ rfl gb 0 rfl R.toList _ (fun w h => unhide LB w h) Try.underlying23 rfl tR) hHeld ?_
  simp only [Act.put, List.setIfInBounds_toArray, List.set_cons_zero, List.set_cons_succ]
  refine take_at 4 32 rfl rfl (by kernel_rfl) (by kernel_rfl) (by kernel_rfl) (yieldsIf_eql (by rfl) 23 23 _ _ rfl R R rfl rfl en_guard true (unhide EQ)) hHeld ?_
  simp only [Act.put, List.setIfInBounds_toArray, List.set_cons_zero, List.set_cons_succ]
  refine take_at 5 33 (v := ?_) rfl rfl (by kernel_rfl) (by kernel_rfl) (by kernel_rfl) (Or.inl ⟨by rfl, ?_⟩) hHeld ?_
  rotate_left
  · intro w hSw; go_simp; with_reducible rfl
  simp only [Act.put, List.setIfInBounds_toArray, List.set_cons_zero, List.set_cons_succ]
  refine take_at 6 34 (v := ?_) rfl rfl (by kernel_rfl) (by kernel_rfl) (by kernel_rfl) (Or.inl ⟨by rfl, ?_⟩) hHeld ?_
  rotate_left
  · intro w hSw; go_simp; with_reducible rfl
  simp only [Act.put, List.setIfInBounds_toArray, List.set_cons_zero, List.set_cons_succ]
  refine take_at 7 35 (v := ?_) rfl rfl (by kernel_rfl) (by kernel_rfl) (by kernel_rfl) (Or.inl ⟨by rfl, ?_⟩) hHeld ?_
  rotate_left
  · intro w hSw; go_simp; with_reducible rfl
  simp only [Act.put, List.setIfInBounds_toArray, List.set_cons_zero, List.set_cons_succ]
  refine take_at 8 36 (v := ?_) rfl rfl (by kernel_rfl) (by kernel_rfl) (by kernel_rfl) (Or.inl ⟨by rfl, ?_⟩) hHeld ?_
  rotate_left
  · intro w hSw; go_simp; with_reducible rfl
  simp only [Act.put, List.setIfInBounds_toArray, List.set_cons_zero, List.set_cons_succ]
  refine take_at 9 37 (v := ?_) rfl rfl (by kernel_rfl) (by kernel_rfl) (by kernel_rfl) (Or.inl ⟨by rfl, ?_⟩) hHeld ?_
  rotate_left
  · intro w hSw; go_simp; with_reducible rfl
  simp only [Act.put, List.setIfInBounds_toArray, List.set_cons_zero, List.set_cons_succ]
  refine take_at 10 38 (v := ?_) rfl rfl (by kernel_rfl) (by kernel_rfl) (by kernel_rfl) (Or.inl ⟨by rfl, ?_⟩) hHeld ?_
  rotate_left
  · intro w hSw; go_simp; with_reducible rfl
  simp only [Act.put, List.setIfInBounds_toArray, List.set_cons_zero, List.set_cons_succ]
  refine take_at 11 39 (v := ?_) rfl rfl (by kernel_rfl) (by kernel_rfl) (by kernel_rfl) (Or.inl ⟨by rfl, ?_⟩) hHeld ?_
  rotate_left
  · intro w hSw; go_simp; with_reducible rfl
  simp only [Act.put, List.setIfInBounds_toArray, List.set_cons_zero, List.set_cons_succ]
  refine take_at 12 40 rfl rfl (by kernel_rfl) (by kernel_rfl) (by kernel_rfl) (yieldsIf_load_mid (by rfl) 23 _ rfl W.heap.size 0 rfl S.toList _ (fun w h => unhide LS w h) Try.underlying23 rfl tS) hHeld ?_
  simp only [Act.put, List.setIfInBounds_toArray, List.set_cons_zero, List.set_cons_succ]
  refine take_at 14 42 rfl rfl (by kernel_rfl) (by kernel_rfl) (by kernel_rfl) (yieldsIf_load_mid (by rfl) 23 _ rfl W.heap.size 0 rfl S.toList _ (fun w h => unhide LS w h) Try.underlying23 rfl tS) hHeld ?_
  simp only [Act.put, List.setIfInBounds_toArray, List.set_cons_zero, List.set_cons_succ]
  refine wpAnyH_ready (rs := [13]) (by kernel_rfl) (by simp) ?_
  refine AllReadyH.cons rfl (fun K hK => ?_) AllReadyH.nil
  go_simp
  refine (unhide C3 _).mono ?_
  rintro e w' ⟨rfl, hbx⟩
  go_wp2_with fail
  refine hK.out _ _ (hHeld.call hbx) (fun hNew => ?_)
  clear hK K hHeld hbx
  have hHeld := hNew
  clear hNew
  refine wpAnyH_ready (rs := [15]) (by kernel_rfl) (by simp) ?_
  refine AllReadyH.cons rfl (fun K hK => ?_) AllReadyH.nil
  go_simp
  refine (unhide C4 _).mono ?_
  rintro e w' ⟨rfl, hbx⟩
  go_wp2_with fail
  refine hK.out _ _ (hHeld.call hbx) (fun hNew => ?_)
  clear hK K hHeld hbx
  have hHeld := hNew
  clear hNew
  refine take_at 16 44 (v := ?_) rfl rfl (by kernel_rfl) (by kernel_rfl) (by kernel_rfl) (Or.inl ⟨by rfl, ?_⟩) hHeld ?_
  rotate_left
  · intro w hSw; go_simp; with_reducible rfl
  simp only [Act.put, List.setIfInBounds_toArray, List.set_cons_zero, List.set_cons_succ]
  refine take_at 17 45 (v := ?_) rfl rfl (by kernel_rfl) (by kernel_rfl) (by kernel_rfl) (Or.inl ⟨by rfl, ?_⟩) hHeld ?_
  rotate_left
  · intro w hSw; go_simp; with_reducible rfl
  simp only [Act.put, List.setIfInBounds_toArray, List.set_cons_zero, List.set_cons_succ]
  refine take_at 18 2 (v := ?_) rfl rfl (by kernel_rfl) (by kernel_rfl) (by kernel_rfl) (Or.inl ⟨by rfl, ?_⟩) hHeld ?_
  rotate_left
  · intro w hSw; go_simp; with_reducible rfl
  simp only [Act.put, List.setIfInBounds_toArray, List.set_cons_zero, List.set_cons_succ]
  refine wpAnyH_done (by kernel_rfl) ?_ _
  refine NoPanic.normal ?_
  go_wp2_with fail
  go_ret
  exact ⟨rfl, hHeld.below⟩
theorem walk (s : En) (hs : IsEn s) (W : World) :
    Calls Try.prog 6 #[.agg (ev s)] W fun e W' => e = .returned (.bool true) ∧ Below W.heap.size W W' := walk3 s.k s.v s.l W

set_option maxRecDepth 100000 in
theorem lifted (os : Os) (started : os.Started) (H : Type) (enc : TypeId × Value → H) :
    ReturnsInHanded {} Try.checked os 6 .any (Rows.entryEndsSpec.pre6 enc Try.prog Try.f6 Rows.entryEndsRow.domain false) (Rows.entryEndsSpec.post enc Try.prog Try.f6 false true false false) := by
  refine law_frame (C := Try.checked) (ts := [23]) (tb := 4) (by kernel_rfl) started (by kernel_rfl) Try.func6 Try.params6 (by kernel_rfl) Try.underlying4 (by kernel_rfl) (by kernel_rfl) rfl ?_
    (ChangeSpec.witness6 (enc := enc) (C := Try.checked) false ⟨#[], #[.agg (ev ze)], []⟩ 8 (by kernel_rfl) (by kernel_rfl) (by kernel_rfl) (by kernel_rfl)) ?_
  · intro ds hd
    match ds, hd with
    | [d0], _ => rfl
  · intro W base args ds p hval hA
    obtain ⟨v0, vs0, d0, ds0, p0, q0, hargs, rfl, rfl, h0, r0⟩ := trodAll_cons hA
    obtain ⟨rfl, rfl, rfl⟩ := trodAll_nil r0
    obtain rfl : args = #[v0] := by cases args; simp_all
    obtain ⟨s, rfl, hs⟩ := open_en (hval 0 23 v0 rfl rfl) h0
    exact walk s hs W

theorem over : Rows.entryEndsRow.holds Try.pinned (OpenSpec.ofChange Rows.entryEndsSpec) :=
  OpenClaim.holds_of_wide 6 Try.f6 rfl rfl rfl rfl rfl rfl rfl ⟨rfl, rfl, rfl, rfl, rfl⟩ rfl rfl rfl rfl rfl (by kernel_rfl) Try.func6 (by kernel_rfl)
    (of_decide_eq_true (by kernel_rfl)) (by unfold Func.isWrapper; first | (rw [if_pos (by decide +kernel)]; kernel_rfl) | (rw [if_neg (by decide +kernel)]; exact ⟨rfl, rfl⟩))
    (fun os started H enc _ => lifted os started H enc)

end Go.Proofs.Ytdmijjncninlbaa.entryEnds
namespace Go.Proofs.Ytdmijjncninlbaa
theorem entryEnds_holds : Rows.EntryEndsSaid := entryEnds.over
end Go.Proofs.Ytdmijjncninlbaa
