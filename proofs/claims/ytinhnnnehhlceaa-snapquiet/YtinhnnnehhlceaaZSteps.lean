
/-
  The steps of a checkpoint of what is marked, as a row: objects' lines, leaves, root, fence, superblock.
-/
import Derived.Test.YtinhnnnehhlceaaZRow
namespace Go.Proofs.Ytinhnnnehhlceaa
open Go.ChangeShapes Go.WideShapes Go.ChangeAt Go.RowKit Go.Joins
set_option maxRecDepth 100000
set_option linter.unusedVariables false
set_option linter.unusedSimpArgs false

theorem objSteps_out {mk bt : Nat → En} {j : Nat} (h : ¬ ((mk j).k ≠ 0 ∧ hasB bt (mk j).l = false)) : objSteps mk bt (j + 1) = objSteps mk bt j := by
  rw [objSteps]; unfold objStep; rw [if_neg h, List.append_nil]
theorem objSteps_in {mk bt : Nat → En} {j : Nat} (h : (mk j).k ≠ 0) (h2 : hasB bt (mk j).l = false) : objSteps mk bt (j + 1) = objSteps mk bt j ++ [(1, (mk j).l)] := by
  rw [objSteps]; unfold objStep; rw [if_pos ⟨h, h2⟩]
def stepsTo (mk bt : Nat → En) (j : Nat) : List (Nat × Int) := objSteps mk bt 49 ++ leafSteps ((dfTo (rowE 49 mk) (rowE 49 bt) 7).take j)
theorem stepsTo_zero (mk bt : Nat → En) : stepsTo mk bt 0 = objSteps mk bt 49 := by unfold stepsTo leafSteps; simp
theorem stepsTo_next (mk bt : Nat → En) (j : Nat) (h : j < (dfTo (rowE 49 mk) (rowE 49 bt) 7).length) : stepsTo mk bt (j + 1) = stepsTo mk bt j ++ [(2, (dfTo (rowE 49 mk) (rowE 49 bt) 7).getD j 0)] := by
  unfold stepsTo leafSteps
  rw [List.take_succ_eq_append_getElem h, List.map_append, ← List.append_assoc]
  congr 1
  simp [List.getD_eq_getElem?_getD, h]
theorem stepsTo_all (mk bt : Nat → En) : stepsTo mk bt (dfTo (rowE 49 mk) (rowE 49 bt) 7).length ++ lastSteps = stepsOf mk bt := by unfold stepsTo stepsOf; rw [List.take_length]
theorem stepsTo_len (mk bt : Nat → En) (j : Nat) : (stepsTo mk bt j).length ≤ 56 := by
  have h1 := objSteps_len mk bt 49
  have h2 := dfTo_len (rowE 49 mk) (rowE 49 bt) 7
  unfold stepsTo leafSteps
  simp only [List.length_append, List.length_map, List.length_take]
  omega
/-- A row of ints in a block of its own, wherever that block stays. -/
theorem rowx_cells {w : World} {base : Nat} {v : Value} {zs : List Int} (h : RowX base v zs w) : ∃ a cap, v = .slice a zs.length cap ∧ (zs ≠ [] → ∃ g o, a = some ⟨g, 0, none⟩ ∧ base ≤ g ∧ w.heap[g]? = some o ∧ ∀ w' : World, w'.heap[g]? = some o → ∀ i, i < zs.length → w'.cell? ⟨g, i, none⟩ = some (.int .i64 (zs.getD i 0))) := by
  rcases h.2 with ⟨rfl, h'⟩ | ⟨g, cap, cur, rfl, h1, h2, h3, h4, h5, h6⟩
  · exact ⟨none, 0, by rw [h'], fun hn => absurd (List.eq_nil_of_length_eq_zero h') hn⟩
  · refine ⟨_, cap, rfl, fun hn => ⟨g, _, rfl, h1, h2, fun w' hw i hi => ?_⟩⟩
    rw [cell_of_block hw]
    have : (cur.toList.take (zs.length * 1))[i]? = some (.int .i64 (zs.getD i 0)) := by rw [h6]; simp [intsX, hi]
    rw [List.getElem?_take, if_pos (by omega), Array.getElem?_toList] at this
    exact this

set_option maxHeartbeats 8000000 in
theorem steps_any (mk bt : Nat → En) (w : World) :
    Calls Try.prog 32 #[.agg (tabV mk), .agg (tabV bt)] w fun e w' => ∃ v, e = .returned v ∧ Keeps (fun _ => False) w w' ∧ RowP w.heap.size v (stepsOf mk bt) w' := by
  have s147k := s147_tab mk
  have s147b := s147_tab bt
  have HX : Hid (∀ (W : World) (j : Nat), j < 49 → Sem.run Try.prog (Instr.index 41 (.agg (tabV mk)) (.int .i64 (j : Int))) W = .ok (.agg (ev (mk j))) W) := fun W j hj => by
    rw [← rowE_at 49 mk j hj]; exact run_index_en _ 49 Try.underlying41 W _ (rowE_len _ _) .i64 j hj
  have CD := hide (fun w' => differ_any (rowE 49 mk) (rowE 49 bt) (rowE_len _ _) (rowE_len _ _) w')
  have e1 : iv .i64 (rowE 49 mk) = tabV mk := rfl
  have e2 : iv .i64 (rowE 49 bt) = tabV bt := rfl
  rw [e1, e2] at CD
  have CH := hide (fun z w' => zhas_any bt z w')
  have P0 : Hid (PSt w w (.slice none 0 0) [] []) := ⟨Keeps.refl _ _, RowP.nil _ _, by simp⟩
  have P2 := hide (((unhide P0).alloc (.cells (tabV mk) 41)).alloc (.cells (tabV bt) 41))
  clear P0 e1 e2
  generalize hTK : tabV mk = TK at *
  generalize hTB : tabV bt = TB at *
  clear hTK hTB
  go_enter Try.func32, Try.ntmps32
  go_upto_region 2 with fail
  obtain ⟨g2, hg2⟩ : ∃ g, g = w.heap.size := ⟨_, rfl⟩
  have hs1 : (w.alloc (.cells TK 41)).heap.size = g2 + 1 := by rw [hg2]; simp
  rw [hs1] at P2
  rw [← hg2] at P2 ⊢
  clear hs1 hg2
  generalize (w.alloc (.cells TK 41)).alloc (.cells TB 41) = w2 at *
  have K2 := hide ((unhide P2).at g2 (.cells TK 41) (by simp))
  go_wp2_with (with_reducible refine wpList_load_row (by with_unfolding_all rfl) 41 _ (by with_unfolding_all rfl) g2 (by with_unfolding_all rfl) _ _ _ _ (unhide K2) Try.underlying41 (by with_unfolding_all rfl) s147k ?_)
  clear K2
  go_loopw [5, 11] (fun v q wr => ∃ j : Nat, j ≤ 49 ∧ q = .int .i64 j ∧ PSt w wr v (objSteps mk bt j) [(g2 + 1, .cells TB 41), (g2, .cells TK 41)]) (fun _ q _ => 49 - (intOf q).toNat)
  case atStart => exact ⟨0, by omega, rfl, unhide P2⟩
  case round =>
    clear P2
    obtain ⟨j, hj, rfl, hh⟩ := hrel
    have HH := hide hh
    clear hh
    by_cases hlt : j < 49
    · have hix := fun W => unhide HX W j hlt
      obtain ⟨k, v0, l, hx⟩ : ∃ k v l, mk j = ⟨k, v, l⟩ := ⟨_, _, _, rfl⟩
      rw [hx] at hix
      have hi2 : ∀ W : World, Sem.run Try.prog (Instr.index 41 (.agg TK) (.int .i64 (j : Int))) W = .ok (.agg #[.int .i64 k, .int .i64 v0, .int .i64 l]) W := hix
      have OUT : Hid (¬ (k ≠ 0 ∧ hasB bt l = false) → objSteps mk bt (j + 1) = objSteps mk bt j) := fun h => objSteps_out (by rw [hx]; exact h)
      have IN : Hid (k ≠ 0 → hasB bt l = false → objSteps mk bt (j + 1) = objSteps mk bt j ++ [(1, l)]) := fun h h2 => by
        have := objSteps_in (mk := mk) (bt := bt) (j := j) (by rw [hx]; exact h) (by rw [hx]; exact h2)
        rw [hx] at this; exact this
      have HA := hide ((unhide HH).alloc (.cells #[.int .i64 k, .int .i64 v0, .int .i64 l] 39))
      have hlt2 : (j : Int) < 49 := by omega
      clear hix hx HX HH
      by_cases h1 : k = 0
      · have e1 : (k != 0) = false := by simpa using h1
        have EJ := hide (unhide OUT fun q => q.1 h1)
        clear OUT IN h1
        go_wp2_with fail
        go_roundw
        case rel => exact ⟨j + 1, by omega, by go_num, by rw [unhide EJ]; exact (unhide HA).less (by simp)⟩
        case measure => simp [intOf]; omega
      · have e1 : (k != 0) = true := by simpa using h1
        have KB := hide ((unhide HA).at (g2 + 1) (.cells TB 41) (by simp))
        go_wp2_with (with_reducible refine wpList_load_row_g (by with_unfolding_all rfl) 41 _ (by with_unfolding_all rfl) (g2 + 1) (by with_unfolding_all rfl) _ _ _ _ (unhide KB) Try.underlying41 (by with_unfolding_all rfl) s147b ?_)
        refine (unhide CH l _).mono ?_
        rintro e w3 ⟨rfl, hb⟩
        have HB := hide ((unhide HA).below hb)
        clear hb HA KB CH
        cases hB : hasB bt l with
        | true =>
          have EJ := hide (unhide OUT fun q => by rw [hB] at q; exact absurd q.2 (by decide))
          clear OUT IN hB h1
          go_wp2_with fail
          go_roundw
          case rel => exact ⟨j + 1, by omega, by go_num, by rw [unhide EJ]; exact (unhide HB).less (by simp)⟩
          case measure => simp [intOf]; omega
        | false =>
          have EJ := hide (unhide IN h1 hB)
          have c2 : w3.cell? ⟨wr.heap.size, 2, none⟩ = some (.int .i64 l) := by rw [cell_of_block ((unhide HB).at wr.heap.size (.cells #[.int .i64 k, .int .i64 v0, .int .i64 l] 39) (by simp))]; rfl
          have HC := hide ((unhide HB).less (L' := [(g2 + 1, .cells TB 41), (g2, .cells TK 41)]) (by simp))
          have hlen := objSteps_len mk bt j
          clear OUT IN hB h1 HB
          go_upto_region 7 with (at_builtin; refine push_sp [(1, l)] #[fnV 1, .int .i64 l] rfl rfl (.tmp 24) (.tmp 28) rfl rfl (unhide HC) rfl (by simp; omega) ?_; intro v' w9 r1; have Q1 := hide r1; clear r1)
          clear HC c2
          go_wp2_with fail
          go_roundw
          case rel => exact ⟨j + 1, by omega, by go_num, by rw [unhide EJ]; exact unhide Q1⟩
          case measure => simp [intOf]; omega
    · have ej : j = 49 := by omega
      have HP : Hid (PSt w wr u5 (stepsTo mk bt 0) [(g2 + 1, .cells TB 41), (g2, .cells TK 41)]) := by show PSt _ _ _ _ _; rw [stepsTo_zero, ← ej]; exact unhide HH
      have hge : ¬ ((j : Int) < 49) := by omega
      clear HH HX CH hlt hj ej
      go_upto_region 8 with fail
      clear hge
      generalize (j : Int) = lastj at *
      have K2 := hide ((unhide HP).at g2 (.cells TK 41) (by simp))
      have K3 := hide ((unhide HP).at (g2 + 1) (.cells TB 41) (by simp))
      go_wp2_with (first | (with_reducible refine wpList_load_row (by with_unfolding_all rfl) 41 _ (by with_unfolding_all rfl) g2 (by with_unfolding_all rfl) _ _ _ _ (unhide K2) Try.underlying41 (by with_unfolding_all rfl) s147k ?_) | (with_reducible refine wpList_load_row (by with_unfolding_all rfl) 41 _ (by with_unfolding_all rfl) (g2 + 1) (by with_unfolding_all rfl) _ _ _ _ (unhide K3) Try.underlying41 (by with_unfolding_all rfl) s147b ?_))
      refine (unhide CD _).mono ?_
      rintro e w4 ⟨vd, rfl, hb, hr⟩
      have h1 := (unhide HP).below hb
      obtain ⟨a, cap, rfl, hc⟩ := rowx_cells hr
      have hsz := (unhide HP).2.1.lt
      obtain ⟨Ld, HD⟩ : ∃ Ld, Hid (PSt w w4 u5 (stepsTo mk bt 0) Ld ∧ ∀ w' v' l', PSt w w' v' l' Ld → ∀ i, i < (dfTo (rowE 49 mk) (rowE 49 bt) 7).length → ∃ g, a = some ⟨g, 0, none⟩ ∧ w'.cell? ⟨g, i, none⟩ = some (.int .i64 ((dfTo (rowE 49 mk) (rowE 49 bt) 7).getD i 0))) := by
        by_cases hz : dfTo (rowE 49 mk) (rowE 49 bt) 7 = []
        · exact ⟨[], h1.less (by simp), fun w' v' l' _ i hi => by rw [hz] at hi; simp at hi⟩
        · obtain ⟨g, o, ha, hg, ho, hcc⟩ := hc hz
          refine ⟨[(g, o)], (h1.less (L' := []) (by simp)).joins g o ho (fun e => by have := (hsz _ e).2; omega) (Nat.le_trans (unhide HP).1.size hg), fun w' v' l' hp i hi => ⟨g, ha, hcc w' (hp.at g o (by simp)) i hi⟩⟩
      have hdl := dfTo_len (rowE 49 mk) (rowE 49 bt) 7
      have SN := hide (stepsTo_next mk bt)
      have SA := hide (stepsTo_all mk bt)
      have SL := stepsTo_len mk bt
      clear h1 hc hsz hr hb K2 K3 HP CD
      generalize dfTo (rowE 49 mk) (rowE 49 bt) 7 = D at *
      go_upto_region 9 with fail
      obtain ⟨h5, hcell⟩ := unhide HD
      have H5 := hide h5
      have HC := hide hcell
      clear h5 hcell HD
      go_wp2_with fail
      go_loopw [5, 35] (fun v q wq => ∃ i : Nat, i ≤ D.length ∧ q = .int .i64 i ∧ PSt w wq v (stepsTo mk bt i) Ld) (fun _ q _ => D.length - (intOf q).toNat)
      case atStart => exact ⟨0, by omega, rfl, unhide H5⟩
      case round =>
        clear H5
        obtain ⟨i, hi, rfl, hh⟩ := hrel
        have HH := hide hh
        clear hh
        by_cases hlt : i < D.length
        · obtain ⟨g, ha, ci⟩ := unhide HC _ _ _ (unhide HH) i hlt
          have EN := hide (unhide SN i hlt)
          have hli := SL i
          have hlt2 : (i : Int) < (D.length : Int) := by omega
          subst ha
          generalize D.getD i 0 = z at *
          go_upto_region 12 with (at_builtin; refine push_sp [(2, z)] #[fnV 2, .int .i64 z] rfl rfl (.tmp 39) (.tmp 42) rfl rfl (unhide HH) rfl (by simp; omega) ?_; intro v' w9 r1; have Q1 := hide r1; clear r1)
          clear HH ci hli hlt2
          go_wp2_with fail
          go_roundw
          case rel => exact ⟨i + 1, by omega, by go_num, by rw [unhide EN]; exact unhide Q1⟩
          case measure => simp [intOf]; omega
        · have ei : i = D.length := by omega
          have hge : ¬ ((i : Int) < (D.length : Int)) := by omega
          have HP2 : Hid (PSt w wr u5 (stepsTo mk bt D.length) Ld) := by show PSt _ _ _ _ _; rw [← ei]; exact unhide HH
          have hl9 := SL D.length
          clear HH ei hlt HC SN
          go_upto_region 13 with fail
          clear hge
          generalize (i : Int) = lasti at *
          generalize (D.length : Int) = lastl at *
          go_wp2_with (at_builtin; refine push_sp lastSteps #[fnV 3, .int .i64 7, fnV 4, .int .i64 0, fnV 5, .int .i64 0] rfl rfl (.tmp 45) (.tmp 49) rfl rfl (unhide HP2) rfl (by have e3 : lastSteps.length = 3 := rfl; omega) ?_; intro v' w9 r1; have Q1 := hide r1; clear r1)
          go_ret
          exact ⟨_, rfl, (unhide Q1).1, by rw [← unhide SA]; exact (unhide Q1).2.1⟩

end Go.Proofs.Ytinhnnnehhlceaa
