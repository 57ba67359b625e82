
/-
  For every entry, every two numbers and every word, EntryStale returns true and leaves its arguments as they were: what named an object does not name it any more when it has ended, nor what is made in its place. No condition.
-/
import Derived.Test.YtdmijjncninlbaaEShown
import Derived.Test.YtdmijjncninlbaaENames
import Derived.Deep.Cut
namespace Go.Proofs.Ytdmijjncninlbaa.entryStale
open Go.ChangeShapes Go.WideShapes Go.ChangeAt Go.RowKit Go.Joins
set_option linter.unusedVariables false
set_option linter.unusedSimpArgs false

/-- What named an entry names what is left of it no more. -/
theorem stale_ended (x : En) (i c : Int) (h : namE x i c = 0) : x.k ≠ 0 ∧ (∀ y : En, y.v ≠ x.v → namE y i c = 33) ∧ namE ⟨0, x.v, 0⟩ i c = 30 := by
  unfold namE at h
  split at h
  case isFalse => omega
  case isTrue h1 =>
    split at h
    case isFalse => omega
    case isTrue h2 =>
      split at h
      case isFalse => omega
      case isTrue h3 =>
        split at h
        case isTrue => omega
        case isFalse h4 =>
          refine ⟨h4, fun y hy => ?_, ?_⟩
          · unfold namE
            rw [if_pos h1, if_pos h2, if_neg (by omega)]
          · unfold namE
            rw [if_pos h1, if_pos h2, if_pos h3, if_pos rfl]

set_option maxHeartbeats 4000000 in
set_option maxRecDepth 100000 in
theorem walk2 (s : En) (i j x : Int) (h0 : 0 ≤ x) (h1 : x ≤ 18446744073709551615) (W : World) :
    Calls Try.prog 7 #[.agg (ev s), .agg #[.int .i64 i, .int .i64 j], .int .u64 x] W fun e W' => e = .returned (.bool true) ∧ Below W.heap.size W W' := by
  have C1 := hide (eword_any s)
  have sS : (Try.prog.info? 23).map (·.size) = some (ev s).size := size3
  cases hm : mayN s with
  | false =>
    rw [wnV_not s hm, wnE_not s hm] at C1
    clear hm
    generalize ev s = S at *
    have O0 := hide (((Own.start W).alloc (.cells S 23)).alloc (.cells #[.int .i64 i, .int .i64 j] 37))
    have g0 : (W.alloc (.cells S 23)).heap.size = W.heap.size + 1 := by simp
    rw [g0] at O0
    clear g0
    go_enter Try.func7, Try.ntmps7
    go_wp2_with fail
    refine (shown8_any _).mono ?_
    rintro e w1 ⟨rfl, hb⟩
    have O1 := hide ((unhide O0).call hb)
    clear hb O0
    have KS := hide ((unhide O1).at W.heap.size (.cells S 23) (by simp))
    go_wp2_with (with_reducible refine wpList_load_row (by with_unfolding_all rfl) 23 _ (by with_unfolding_all rfl) W.heap.size (by with_unfolding_all rfl) _ _ _ _ (unhide KS) Try.underlying23 (by with_unfolding_all rfl) sS ?_)
    refine (unhide C1 _).mono ?_
    rintro e w2 ⟨rfl, hb⟩
    have O2 := hide ((unhide O1).call hb)
    clear hb O1 KS
    go_wp2_with fail
    go_ret
    exact ⟨rfl, (unhide O2).below⟩
  | true =>
    have hr := (mayN_iff s).1 hm
    rw [wnV_may s hm, wnE_may s hm] at C1
    have C2 := hide (names_any s i x h0 h1)
    by_cases hn : namE s i x = 0
    · obtain ⟨hk, hst, hsn⟩ := stale_ended s i x hn
      rw [hn] at C2
      have C3 := hide (end_any s (by omega) (by omega))
      have hu : nextI s.v = 16777215 ∨ (nextI s.v < 16777215 ∧ 0 ≤ nextI s.v ∧ nextI s.v ≠ s.v) := by unfold nextI; split <;> omega
      have hy : namE ⟨0, nextI s.v, 0⟩ i x ≠ 0 := by
        by_cases hq : nextI s.v = s.v
        · rw [hq, hsn]; decide
        · rw [hst _ hq]; decide
      have hy2 : nextI s.v < 16777215 → namE ⟨j, nextI s.v, 0⟩ i x = 33 := fun h => hst _ (by show nextI s.v ≠ s.v; omega)
      have eV : endV s = ⟨0, nextI s.v, 0⟩ := by simp [endV, hk]
      have eE : endE s = 0 := by simp [endE, hk]
      rw [eV, eE, show ev ⟨0, nextI s.v, 0⟩ = #[.int .i64 0, .int .i64 (nextI s.v), .int .i64 0] from rfl] at C3
      have C4 := hide (names3 0 (nextI s.v) 0 i x h0 h1)
      have C5 := hide (open3 0 (nextI s.v) 0)
      have C6 := hide (names3 j (nextI s.v) 0 i x h0 h1)
      have sY : (Try.prog.info? 23).map (·.size) = some (#[.int .i64 0, .int .i64 (nextI s.v), .int .i64 0] : Array Value).size := size3
      have sZ : (Try.prog.info? 23).map (·.size) = some (#[.int .i64 j, .int .i64 (nextI s.v), .int .i64 0] : Array Value).size := size3
      have hop : opB ⟨0, nextI s.v, 0⟩ = decide (nextI s.v < 16777215) := by unfold opB; simp
      rw [hop] at C5
      have hE : (namE ⟨0, nextI s.v, 0⟩ i x == 0) = false := by simpa using hy
      clear eV eE hk hst hsn hn hm hr hy hop
      generalize namE ⟨0, nextI s.v, 0⟩ i x = E at *
      generalize wordN s = R at *
      generalize ev s = S at *
      generalize nextI s.v = u at *
      rcases hu with hu1 | ⟨hu1, hu2, hu3⟩
      · rw [show decide (u < 16777215) = false by simp; omega] at C5
        have hu' : (u == 16777215) = true := by simpa using hu1
        clear hy2 C6 sZ hu1
        have O0 := hide (((Own.start W).alloc (.cells S 23)).alloc (.cells #[.int .i64 i, .int .i64 j] 37))
        have g0 : (W.alloc (.cells S 23)).heap.size = W.heap.size + 1 := by simp
        rw [g0] at O0
        clear g0
        go_enter Try.func7, Try.ntmps7
        go_wp2_with fail
        refine (shown8_any _).mono ?_
        rintro e w1 ⟨rfl, hb⟩
        have O1 := hide ((unhide O0).call hb)
        clear hb O0
        have KS := hide ((unhide O1).at W.heap.size (.cells S 23) (by simp))
        go_wp2_with (with_reducible refine wpList_load_row (by with_unfolding_all rfl) 23 _ (by with_unfolding_all rfl) W.heap.size (by with_unfolding_all rfl) _ _ _ _ (unhide KS) Try.underlying23 (by with_unfolding_all rfl) sS ?_)
        refine (unhide C1 _).mono ?_
        rintro e w2 ⟨rfl, hb⟩
        have O2 := hide ((unhide O1).call hb)
        clear hb O1 KS
        have KS := hide ((unhide O2).at W.heap.size (.cells S 23) (by simp))
        have ci : w2.cell? ⟨W.heap.size + 1, 0, none⟩ = some (.int .i64 i) := by rw [cell_of_block ((unhide O2).at (W.heap.size + 1) (.cells #[.int .i64 i, .int .i64 j] 37) (by simp))]; rfl
        go_wp2_with (with_reducible refine wpList_load_row_g (by with_unfolding_all rfl) 23 (.tmp 3) (by with_unfolding_all rfl) W.heap.size (by with_unfolding_all rfl) _ _ _ _ (unhide KS) Try.underlying23 (by with_unfolding_all rfl) sS ?_)
        refine (unhide C2 _).mono ?_
        rintro e w3 ⟨rfl, hb⟩
        have O3 := hide ((unhide O2).call hb)
        clear hb O2 KS ci
        go_upto_region 5 with fail
        have KS := hide ((unhide O3).at W.heap.size (.cells S 23) (by simp))
        go_wp2_with (with_reducible refine wpList_load_row (by with_unfolding_all rfl) 23 _ (by with_unfolding_all rfl) W.heap.size (by with_unfolding_all rfl) _ _ _ _ (unhide KS) Try.underlying23 (by with_unfolding_all rfl) sS ?_)
        refine (unhide C3 _).mono ?_
        rintro e w4 ⟨rfl, hb⟩
        have O3' := hide ((unhide O3).call hb)
        have O4 := hide ((unhide O3').alloc (.cells #[.int .i64 0, .int .i64 u, .int .i64 0] 23))
        clear hb O3 KS
        go_upto_region 6 with fail
        have hz : W.heap.size + 1 < w4.heap.size ∧ W.heap.size < w4.heap.size := ⟨(unhide O3').lt (W.heap.size + 1, _) (List.mem_cons_self ..), (unhide O3').lt (W.heap.size, .cells S 23) (by simp)⟩
        clear O3'
        generalize hWW : w4.alloc (.cells #[.int .i64 0, .int .i64 u, .int .i64 0] 23) = WW at *
        clear hWW
        generalize w4.heap.size = ga at *
        have KY := hide ((unhide O4).at ga (.cells #[.int .i64 0, .int .i64 u, .int .i64 0] 23) (by simp))
        have ci : WW.cell? ⟨W.heap.size + 1, 0, none⟩ = some (.int .i64 i) := by rw [cell_of_block ((unhide O4).at (W.heap.size + 1) (.cells #[.int .i64 i, .int .i64 j] 37) (by simp))]; rfl
        go_wp2_with (with_reducible refine wpList_load_row_g (by with_unfolding_all rfl) 23 (.tmp 10) (by with_unfolding_all rfl) ga (by with_unfolding_all rfl) _ _ _ _ (unhide KY) Try.underlying23 (by with_unfolding_all rfl) sY ?_)
        refine (unhide C4 _).mono ?_
        rintro e w5 ⟨rfl, hb⟩
        have O5 := hide ((unhide O4).call hb)
        clear hb O4 KY ci
        go_upto_region 8 with fail
        have KY := hide ((unhide O5).at ga (.cells #[.int .i64 0, .int .i64 u, .int .i64 0] 23) (by simp))
        go_wp2_with (with_reducible refine wpList_load_row (by with_unfolding_all rfl) 23 _ (by with_unfolding_all rfl) ga (by with_unfolding_all rfl) _ _ _ _ (unhide KY) Try.underlying23 (by with_unfolding_all rfl) sY ?_)
        refine (unhide C5 _).mono ?_
        rintro e w6 ⟨rfl, hb⟩
        have O6 := hide ((unhide O5).call hb)
        clear hb O5 KY
        have cv : w6.cell? ⟨ga, 1, none⟩ = some (.int .i64 u) := by rw [cell_of_block ((unhide O6).at ga (.cells #[.int .i64 0, .int .i64 u, .int .i64 0] 23) (by simp))]; rfl
        go_wp2_with fail
        go_ret
        exact ⟨rfl, (unhide O6).below⟩
      · rw [show decide (u < 16777215) = true by simpa using hu1] at C5
        rw [hy2 hu1] at C6
        clear hy2 hu1 hu2 hu3
        have O0 := hide (((Own.start W).alloc (.cells S 23)).alloc (.cells #[.int .i64 i, .int .i64 j] 37))
        have g0 : (W.alloc (.cells S 23)).heap.size = W.heap.size + 1 := by simp
        rw [g0] at O0
        clear g0
        go_enter Try.func7, Try.ntmps7
        go_wp2_with fail
        refine (shown8_any _).mono ?_
        rintro e w1 ⟨rfl, hb⟩
        have O1 := hide ((unhide O0).call hb)
        clear hb O0
        have KS := hide ((unhide O1).at W.heap.size (.cells S 23) (by simp))
        go_wp2_with (with_reducible refine wpList_load_row (by with_unfolding_all rfl) 23 _ (by with_unfolding_all rfl) W.heap.size (by with_unfolding_all rfl) _ _ _ _ (unhide KS) Try.underlying23 (by with_unfolding_all rfl) sS ?_)
        refine (unhide C1 _).mono ?_
        rintro e w2 ⟨rfl, hb⟩
        have O2 := hide ((unhide O1).call hb)
        clear hb O1 KS
        have KS := hide ((unhide O2).at W.heap.size (.cells S 23) (by simp))
        have ci : w2.cell? ⟨W.heap.size + 1, 0, none⟩ = some (.int .i64 i) := by rw [cell_of_block ((unhide O2).at (W.heap.size + 1) (.cells #[.int .i64 i, .int .i64 j] 37) (by simp))]; rfl
        go_wp2_with (with_reducible refine wpList_load_row_g (by with_unfolding_all rfl) 23 (.tmp 3) (by with_unfolding_all rfl) W.heap.size (by with_unfolding_all rfl) _ _ _ _ (unhide KS) Try.underlying23 (by with_unfolding_all rfl) sS ?_)
        refine (unhide C2 _).mono ?_
        rintro e w3 ⟨rfl, hb⟩
        have O3 := hide ((unhide O2).call hb)
        clear hb O2 KS ci
        go_upto_region 5 with fail
        have KS := hide ((unhide O3).at W.heap.size (.cells S 23) (by simp))
        go_wp2_with (with_reducible refine wpList_load_row (by with_unfolding_all rfl) 23 _ (by with_unfolding_all rfl) W.heap.size (by with_unfolding_all rfl) _ _ _ _ (unhide KS) Try.underlying23 (by with_unfolding_all rfl) sS ?_)
        refine (unhide C3 _).mono ?_
        rintro e w4 ⟨rfl, hb⟩
        have O3' := hide ((unhide O3).call hb)
        have O4 := hide ((unhide O3').alloc (.cells #[.int .i64 0, .int .i64 u, .int .i64 0] 23))
        clear hb O3 KS
        go_upto_region 6 with fail
        have hz : W.heap.size + 1 < w4.heap.size ∧ W.heap.size < w4.heap.size := ⟨(unhide O3').lt (W.heap.size + 1, _) (List.mem_cons_self ..), (unhide O3').lt (W.heap.size, .cells S 23) (by simp)⟩
        clear O3'
        generalize hWW : w4.alloc (.cells #[.int .i64 0, .int .i64 u, .int .i64 0] 23) = WW at *
        clear hWW
        generalize w4.heap.size = ga at *
        have KY := hide ((unhide O4).at ga (.cells #[.int .i64 0, .int .i64 u, .int .i64 0] 23) (by simp))
        have ci : WW.cell? ⟨W.heap.size + 1, 0, none⟩ = some (.int .i64 i) := by rw [cell_of_block ((unhide O4).at (W.heap.size + 1) (.cells #[.int .i64 i, .int .i64 j] 37) (by simp))]; rfl
        go_wp2_with (with_reducible refine wpList_load_row_g (by with_unfolding_all rfl) 23 (.tmp 10) (by with_unfolding_all rfl) ga (by with_unfolding_all rfl) _ _ _ _ (unhide KY) Try.underlying23 (by with_unfolding_all rfl) sY ?_)
        refine (unhide C4 _).mono ?_
        rintro e w5 ⟨rfl, hb⟩
        have O5 := hide ((unhide O4).call hb)
        clear hb O4 KY ci
        go_upto_region 8 with fail
        have KY := hide ((unhide O5).at ga (.cells #[.int .i64 0, .int .i64 u, .int .i64 0] 23) (by simp))
        go_wp2_with (with_reducible refine wpList_load_row (by with_unfolding_all rfl) 23 _ (by with_unfolding_all rfl) ga (by with_unfolding_all rfl) _ _ _ _ (unhide KY) Try.underlying23 (by with_unfolding_all rfl) sY ?_)
        refine (unhide C5 _).mono ?_
        rintro e w6 ⟨rfl, hb⟩
        have O6 := hide ((unhide O5).call hb)
        clear hb O5 KY
        go_upto_region 10 with fail
        have K6 := (unhide O6).at ga (.cells #[.int .i64 0, .int .i64 u, .int .i64 0] 23) (by simp)
        have cy : w6.cell? ⟨ga, 0, none⟩ = some (.int .i64 0) := by rw [cell_of_block K6]; rfl
        have fy : w6.frozen? ⟨ga, 0, none⟩ = false := unfrozen_of_block K6 _
        have cj : w6.cell? ⟨W.heap.size + 1, 1, none⟩ = some (.int .i64 j) := by rw [cell_of_block ((unhide O6).at (W.heap.size + 1) (.cells #[.int .i64 i, .int .i64 j] 37) (by simp))]; rfl
        have O7 := hide (eown_set (unhide O6) (by omega) (by simp; omega) 0 (.int .i64 j))
        clear K6 O6
        rw [show (#[.int .i64 0, .int .i64 u, .int .i64 0] : Array Value).setIfInBounds 0 (.int .i64 j) = #[.int .i64 j, .int .i64 u, .int .i64 0] from rfl] at O7
        go_upto_region 11 with fail
        clear cy fy cj
        generalize w6.setCell ⟨ga, 0, none⟩ (.int .i64 j) = w7 at *
        have KZ := hide ((unhide O7).at ga (.cells #[.int .i64 j, .int .i64 u, .int .i64 0] 23) (by simp))
        have ci : w7.cell? ⟨W.heap.size + 1, 0, none⟩ = some (.int .i64 i) := by rw [cell_of_block ((unhide O7).at (W.heap.size + 1) (.cells #[.int .i64 i, .int .i64 j] 37) (by simp))]; rfl
        go_wp2_with (with_reducible refine wpList_load_row_g (by with_unfolding_all rfl) 23 (.tmp 10) (by with_unfolding_all rfl) ga (by with_unfolding_all rfl) _ _ _ _ (unhide KZ) Try.underlying23 (by with_unfolding_all rfl) sZ ?_)
        refine (unhide C6 _).mono ?_
        rintro e w8 ⟨rfl, hb⟩
        have O8 := hide ((unhide O7).call hb)
        clear hb O7 KZ ci
        go_wp2_with fail
        go_ret
        exact ⟨rfl, (unhide O8).below⟩
    · have hE : (namE s i x != 0) = true := by simpa using hn
      generalize namE s i x = E at *
      generalize wordN s = R at *
      generalize ev s = S at *
      clear hm hr hn
      have O0 := hide (((Own.start W).alloc (.cells S 23)).alloc (.cells #[.int .i64 i, .int .i64 j] 37))
      have g0 : (W.alloc (.cells S 23)).heap.size = W.heap.size + 1 := by simp
      rw [g0] at O0
      clear g0
      go_enter Try.func7, Try.ntmps7
      go_wp2_with fail
      refine (shown8_any _).mono ?_
      rintro e w1 ⟨rfl, hb⟩
      have O1 := hide ((unhide O0).call hb)
      clear hb O0
      have KS := hide ((unhide O1).at W.heap.size (.cells S 23) (by simp))
      go_wp2_with (with_reducible refine wpList_load_row (by with_unfolding_all rfl) 23 _ (by with_unfolding_all rfl) W.heap.size (by with_unfolding_all rfl) _ _ _ _ (unhide KS) Try.underlying23 (by with_unfolding_all rfl) sS ?_)
      refine (unhide C1 _).mono ?_
      rintro e w2 ⟨rfl, hb⟩
      have O2 := hide ((unhide O1).call hb)
      clear hb O1 KS
      have KS := hide ((unhide O2).at W.heap.size (.cells S 23) (by simp))
      have ci : w2.cell? ⟨W.heap.size + 1, 0, none⟩ = some (.int .i64 i) := by rw [cell_of_block ((unhide O2).at (W.heap.size + 1) (.cells #[.int .i64 i, .int .i64 j] 37) (by simp))]; rfl
      go_wp2_with (with_reducible refine wpList_load_row_g (by with_unfolding_all rfl) 23 (.tmp 3) (by with_unfolding_all rfl) W.heap.size (by with_unfolding_all rfl) _ _ _ _ (unhide KS) Try.underlying23 (by with_unfolding_all rfl) sS ?_)
      refine (unhide C2 _).mono ?_
      rintro e w3 ⟨rfl, hb⟩
      have O3 := hide ((unhide O2).call hb)
      clear hb O2 KS ci
      go_wp2_with fail
      go_ret
      exact ⟨rfl, (unhide O3).below⟩
theorem walk (s : En) (p : Int × Int) (x : Int) (hs : IsEn s) (hp : IsTwo p) (hx : (Lit.int .u64 x).wf = true) (W : World) :
    Calls Try.prog 7 #[.agg (ev s), .agg #[.int .i64 p.1, .int .i64 p.2], .int .u64 x] W fun e W' => e = .returned (.bool true) ∧ Below W.heap.size W W' :=
  walk2 s p.1 p.2 x (ewf_u hx).1 (ewf_u hx).2 W

set_option maxRecDepth 100000 in
theorem lifted (os : Os) (started : os.Started) (H : Type) (enc : TypeId × Value → H) :
    ReturnsInHanded {} Try.checked os 7 .any (Rows.entryStaleSpec.pre6 enc Try.prog Try.f7 Rows.entryStaleRow.domain false) (Rows.entryStaleSpec.post enc Try.prog Try.f7 false true false false) := by
  refine law_frame (C := Try.checked) (ts := [23, 37, 24]) (tb := 4) (by kernel_rfl) started (by kernel_rfl) Try.func7 Try.params7 (by kernel_rfl) Try.underlying4 (by kernel_rfl) (by kernel_rfl) rfl ?_
    (ChangeSpec.witness6 (enc := enc) (C := Try.checked) false ⟨#[], #[.agg (ev ze), .agg #[.int .i64 0, .int .i64 0], .int .u64 0], []⟩ 8 (by kernel_rfl) (by kernel_rfl) (by kernel_rfl) (by kernel_rfl)) ?_
  · intro ds hd
    match ds, hd with
    | [d0, d1, d2], _ => rfl
  · intro W base args ds p hval hA
    obtain ⟨v0, vs0, d0, ds0, p0, q0, hargs, rfl, rfl, h0, r0⟩ := trodAll_cons hA
    obtain ⟨v1, vs1, d1, ds1, p1, q1, rfl, rfl, rfl, h1, r1⟩ := trodAll_cons r0
    obtain ⟨v2, vs2, d2, ds2, p2, q2, rfl, rfl, rfl, h2, r2⟩ := trodAll_cons r1
    obtain ⟨rfl, rfl, rfl⟩ := trodAll_nil r2
    obtain rfl : args = #[v0, v1, v2] := by cases args; simp_all
    obtain ⟨s, rfl, hs⟩ := open_en (hval 0 23 v0 rfl rfl) h0
    obtain ⟨p, rfl, hp⟩ := open_two (hval 1 37 v1 rfl rfl) h1
    obtain ⟨x, rfl, rfl, rfl, wx⟩ := open_int Try.underlying24 (hval 2 24 v2 rfl rfl) h2
    exact walk s p x hs hp wx W

theorem over : Rows.entryStaleRow.holds Try.pinned (OpenSpec.ofChange Rows.entryStaleSpec) :=
  OpenClaim.holds_of_wide 7 Try.f7 rfl rfl rfl rfl rfl rfl rfl ⟨rfl, rfl, rfl, rfl, rfl⟩ rfl rfl rfl rfl rfl (by kernel_rfl) Try.func7 (by kernel_rfl)
    (of_decide_eq_true (by kernel_rfl)) (by unfold Func.isWrapper; first | (rw [if_pos (by decide +kernel)]; kernel_rfl) | (rw [if_neg (by decide +kernel)]; exact ⟨rfl, rfl⟩))
    (fun os started H enc _ => lifted os started H enc)

end Go.Proofs.Ytdmijjncninlbaa.entryStale
namespace Go.Proofs.Ytdmijjncninlbaa
theorem entryStale_holds : Rows.EntryStaleSaid := entryStale.over
end Go.Proofs.Ytdmijjncninlbaa
