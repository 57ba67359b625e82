
/-
  For every two numbers, EntryVersions returns true: an entry that ends again and again, with one made in its place each time, has another version each time, till the greatest one is come to; from then on none may be made there. No condition.
-/
import Derived.Test.YtdmijjncninlbaaEShown
import Derived.Deep.Cut
namespace Go.Proofs.Ytdmijjncninlbaa.entryVersions
open Go.ChangeShapes Go.WideShapes Go.ChangeAt Go.RowKit Go.Joins
set_option linter.unusedVariables false
set_option linter.unusedSimpArgs false

theorem tmod_bd (a n : Int) (hn : 0 < n) : -n < a.tmod n ∧ a.tmod n < n := by
  rcases Int.lt_or_le a 0 with h | h
  · have e : a.tmod n = -((-a) % n) := by rw [← Int.tmod_eq_emod_of_nonneg (a := -a) (by omega), Int.neg_tmod, Int.neg_neg]
    have h1 := Int.emod_nonneg (-a) (b := n) (by omega)
    have h2 := Int.emod_lt_of_pos (-a) hn
    omega
  · rw [Int.tmod_eq_emod_of_nonneg h]
    have h1 := Int.emod_nonneg a (b := n) (by omega)
    have h2 := Int.emod_lt_of_pos a hn
    omega

set_option maxHeartbeats 4000000 in
set_option maxRecDepth 100000 in
theorem walk (a b : Int) (ha : (Lit.int .i64 a).wf = true) (hb : (Lit.int .i64 b).wf = true) (W : World) :
    Calls Try.prog 8 #[.int .i64 a, .int .i64 b] W fun e W' => e = .returned (.bool true) ∧ Below W.heap.size W W' := by
  obtain ⟨a0, a1⟩ := ewf_i ha
  obtain ⟨b0, b1⟩ := ewf_i hb
  clear ha hb
  obtain ⟨p0, p1⟩ := tmod_bd a 16777216 (by omega)
  obtain ⟨q0, q1⟩ := tmod_bd b 31 (by omega)
  by_cases ca : a.tmod 16777216 < 0
  · by_cases cb : b.tmod 31 < 0
    · skip
      go_enter Try.func8, Try.ntmps8
      go_wp2_with fail
      refine (shown8_any _).mono ?_
      rintro e w1 ⟨rfl, hb⟩
      have O1 := hide ((Own.start W).call hb)
      clear hb
      go_upto_region 9 with fail
      obtain ⟨N, hN⟩ : ∃ N : Nat, -b.tmod 31 = N := ⟨(-b.tmod 31).toNat, by omega⟩
      obtain ⟨V, hV⟩ : ∃ V : Int, -a.tmod 16777216 = V := ⟨_, rfl⟩
      have hN30 : N ≤ 30 := by omega
      have hV0 : 0 ≤ V := by omega
      have hV1 : V ≤ 16777215 := by omega
      rw [hV, hN]
      clear hV hN p0 p1 q0 q1 ca cb
      generalize a.tmod 16777216 = xa at *
      generalize b.tmod 31 = xb at *
      have O2 := hide ((unhide O1).alloc (.cells #[.int .i64 0, .int .i64 V, .int .i64 0] 23))
      have hgW : W.heap.size ≤ w1.heap.size := (unhide O1).below.size
      clear O1
      generalize w1.alloc (.cells #[.int .i64 0, .int .i64 V, .int .i64 0] 23) = w2 at *
      generalize w1.heap.size = g at *
      go_upto_region 10 with fail
      go_loopw [9] (fun i wr => ∃ j : Nat, j ≤ N ∧ i = .int .i64 j ∧ V + j ≤ 16777215 ∧ Own W wr [(g, .cells #[.int .i64 0, .int .i64 (V + j), .int .i64 0] 23)]) (fun i _ => N - (intOf i).toNat)
      case atStart => exact ⟨0, by omega, rfl, by omega, by simpa using unhide O2⟩
      case round =>
        clear O2
        obtain ⟨j, hj, rfl, hvj, oj⟩ := hrel
        have OJ := hide oj
        clear oj
        by_cases hlt : j < N
        · have hjn : (j : Int) < (N : Int) := by omega
          obtain ⟨u, hu⟩ : ∃ u : Int, u = V + j := ⟨_, rfl⟩
          rw [← hu] at OJ hvj
          have hu0 : 0 ≤ u := by omega
          have HU := hide hu
          clear hu
          have C1 := hide (open3 0 u 0)
          rw [show opB ⟨0, u, 0⟩ = decide (u < 16777215) by unfold opB; simp] at C1
          have C2 := hide (end3 1 u 0 (by omega) (by omega))
          rw [show endE ⟨1, u, 0⟩ = 0 from rfl] at C2
          have sX : (Try.prog.info? 23).map (·.size) = some (#[.int .i64 0, .int .i64 u, .int .i64 0] : Array Value).size := size3
          have KX := hide ((unhide OJ).at g (.cells #[.int .i64 0, .int .i64 u, .int .i64 0] 23) (by simp))
          go_wp2_with (with_reducible refine wpList_load_row (by with_unfolding_all rfl) 23 _ (by with_unfolding_all rfl) g (by with_unfolding_all rfl) _ _ _ _ (unhide KX) Try.underlying23 (by with_unfolding_all rfl) sX ?_)
          refine (unhide C1 _).mono ?_
          rintro e w3 ⟨rfl, hb⟩
          have O3 := hide ((unhide OJ).call hb)
          clear hb OJ KX C1
          by_cases hmax : u < 16777215
          · have hmd : decide (u < 16777215) = true := by simpa using hmax
            rw [hmd]
            clear hmd
            rw [show ev (endV ⟨1, u, 0⟩) = #[.int .i64 0, .int .i64 (u + 1), .int .i64 0] by simp [endV, nextI, ev]; omega] at C2
            go_upto_region 14 with fail
            have K3 := (unhide O3).at g (.cells #[.int .i64 0, .int .i64 u, .int .i64 0] 23) (by simp)
            have cx : w3.cell? ⟨g, 0, none⟩ = some (.int .i64 0) := by rw [cell_of_block K3]; rfl
            have fx : w3.frozen? ⟨g, 0, none⟩ = false := unfrozen_of_block K3 _
            have O4 := hide (eown_set (unhide O3) hgW (by simp) 0 (.int .i64 1))
            rw [show (#[.int .i64 0, .int .i64 u, .int .i64 0] : Array Value).setIfInBounds 0 (.int .i64 1) = #[.int .i64 1, .int .i64 u, .int .i64 0] from rfl] at O4
            clear K3 O3
            go_upto_region 15 with fail
            clear cx fx
            generalize w3.setCell ⟨g, 0, none⟩ (.int .i64 1) = w4 at *
            have sP : (Try.prog.info? 23).map (·.size) = some (#[.int .i64 1, .int .i64 u, .int .i64 0] : Array Value).size := size3
            have KP := hide ((unhide O4).at g (.cells #[.int .i64 1, .int .i64 u, .int .i64 0] 23) (by simp))
            go_wp2_with (with_reducible refine wpList_load_row (by with_unfolding_all rfl) 23 _ (by with_unfolding_all rfl) g (by with_unfolding_all rfl) _ _ _ _ (unhide KP) Try.underlying23 (by with_unfolding_all rfl) sP ?_)
            refine (unhide C2 _).mono ?_
            rintro e w5 ⟨rfl, hb⟩
            have O5' := hide ((unhide O4).call hb)
            have O5 := hide ((unhide O5').alloc (.cells #[.int .i64 0, .int .i64 (u + 1), .int .i64 0] 23))
            have hg5 : g < w5.heap.size := (unhide O5').lt (g, _) (List.mem_cons_self ..)
            clear hb O4 KP C2 O5'
            go_upto_region 16 with fail
            generalize w5.alloc (.cells #[.int .i64 0, .int .i64 (u + 1), .int .i64 0] 23) = w6 at *
            generalize w5.heap.size = y at *
            have ey := (unhide O5).at y (.cells #[.int .i64 0, .int .i64 (u + 1), .int .i64 0] 23) (by simp)
            have ex := (unhide O5).at g (.cells #[.int .i64 1, .int .i64 u, .int .i64 0] 23) (by simp)
            have cy0 : w6.cell? ⟨y, 0, none⟩ = some (.int .i64 0) := by rw [cell_of_block ey]; rfl
            have cy1 : w6.cell? ⟨y, 1, none⟩ = some (.int .i64 (u + 1)) := by rw [cell_of_block ey]; rfl
            have cy2 : w6.cell? ⟨y, 2, none⟩ = some (.int .i64 0) := by rw [cell_of_block ey]; rfl
            have cx1 : w6.cell? ⟨g, 1, none⟩ = some (.int .i64 u) := by rw [cell_of_block ex]; rfl
            have KY := hide ey
            have KG := hide ex
            have hww : (u + 1 != u + 1) = false := by simp
            clear ey ex
            go_upto_region 18 with fail
            clear cy0 cy1 cy2 cx1 hww
            have sQ : (Try.prog.info? 23).map (·.size) = some (#[.int .i64 0, .int .i64 (u + 1), .int .i64 0] : Array Value).size := size3
            have O7 := hide (((unhide O5).row g #[.int .i64 0, .int .i64 (u + 1), .int .i64 0] 23 (0, 0) _ (unhide KG) hgW).less (L' := [(g, .cells #[.int .i64 0, .int .i64 (u + 1), .int .i64 0] 23)]) (by simp))
            go_wp2_with (first | (with_reducible refine wpList_load_row (by with_unfolding_all rfl) 23 _ (by with_unfolding_all rfl) y (by with_unfolding_all rfl) _ _ _ _ (unhide KY) Try.underlying23 (by with_unfolding_all rfl) sQ ?_) | (with_reducible refine wpList_store_row (by with_unfolding_all rfl) 23 _ _ (by with_unfolding_all rfl) g #[.int .i64 0, .int .i64 (u + 1), .int .i64 0] (by with_unfolding_all rfl) (by with_unfolding_all rfl) _ _ (unhide KG) sQ (by with_unfolding_all rfl) (by with_unfolding_all rfl) ?_))
            go_roundw
            case rel => exact ⟨j + 1, by omega, by go_num, by have := unhide HU; omega, by have e := unhide HU; have e2 : V + ((j + 1 : Nat) : Int) = u + 1 := by omega
                                                                                           rw [e2]; exact unhide O7⟩
            case measure => simp [intOf]; omega
          · have hue : u = 16777215 := by omega
            have hmd : decide (u < 16777215) = false := by simpa using hmax
            rw [hmd]
            have cx : w3.cell? ⟨g, 1, none⟩ = some (.int .i64 u) := by rw [cell_of_block ((unhide O3).at g (.cells #[.int .i64 0, .int .i64 u, .int .i64 0] 23) (by simp))]; rfl
            have huq : (u == 16777215) = true := by simpa using hue
            clear hmd hmax hue C2
            go_wp2_with fail
            go_ret
            exact ⟨rfl, (unhide O3).below⟩
        · obtain rfl : j = N := by omega
          have hjn : ¬ (j : Int) < (j : Int) := by omega
          have cx : wr.cell? ⟨g, 1, none⟩ = some (.int .i64 (V + j)) := by rw [cell_of_block ((unhide OJ).at g (.cells #[.int .i64 0, .int .i64 (V + j), .int .i64 0] 23) (by simp))]; rfl
          have hq : (V + j == V + (j : Int)) = true := by simp
          go_wp2_with fail
          go_ret
          exact ⟨rfl, (unhide OJ).below⟩
    · skip
      go_enter Try.func8, Try.ntmps8
      go_wp2_with fail
      refine (shown8_any _).mono ?_
      rintro e w1 ⟨rfl, hb⟩
      have O1 := hide ((Own.start W).call hb)
      clear hb
      go_upto_region 9 with fail
      obtain ⟨N, hN⟩ : ∃ N : Nat, b.tmod 31 = N := ⟨(b.tmod 31).toNat, by omega⟩
      obtain ⟨V, hV⟩ : ∃ V : Int, -a.tmod 16777216 = V := ⟨_, rfl⟩
      have hN30 : N ≤ 30 := by omega
      have hV0 : 0 ≤ V := by omega
      have hV1 : V ≤ 16777215 := by omega
      rw [hV, hN]
      clear hV hN p0 p1 q0 q1 ca cb
      generalize a.tmod 16777216 = xa at *
      have O2 := hide ((unhide O1).alloc (.cells #[.int .i64 0, .int .i64 V, .int .i64 0] 23))
      have hgW : W.heap.size ≤ w1.heap.size := (unhide O1).below.size
      clear O1
      generalize w1.alloc (.cells #[.int .i64 0, .int .i64 V, .int .i64 0] 23) = w2 at *
      generalize w1.heap.size = g at *
      go_upto_region 10 with fail
      go_loopw [9] (fun i wr => ∃ j : Nat, j ≤ N ∧ i = .int .i64 j ∧ V + j ≤ 16777215 ∧ Own W wr [(g, .cells #[.int .i64 0, .int .i64 (V + j), .int .i64 0] 23)]) (fun i _ => N - (intOf i).toNat)
      case atStart => exact ⟨0, by omega, rfl, by omega, by simpa using unhide O2⟩
      case round =>
        clear O2
        obtain ⟨j, hj, rfl, hvj, oj⟩ := hrel
        have OJ := hide oj
        clear oj
        by_cases hlt : j < N
        · have hjn : (j : Int) < (N : Int) := by omega
          obtain ⟨u, hu⟩ : ∃ u : Int, u = V + j := ⟨_, rfl⟩
          rw [← hu] at OJ hvj
          have hu0 : 0 ≤ u := by omega
          have HU := hide hu
          clear hu
          have C1 := hide (open3 0 u 0)
          rw [show opB ⟨0, u, 0⟩ = decide (u < 16777215) by unfold opB; simp] at C1
          have C2 := hide (end3 1 u 0 (by omega) (by omega))
          rw [show endE ⟨1, u, 0⟩ = 0 from rfl] at C2
          have sX : (Try.prog.info? 23).map (·.size) = some (#[.int .i64 0, .int .i64 u, .int .i64 0] : Array Value).size := size3
          have KX := hide ((unhide OJ).at g (.cells #[.int .i64 0, .int .i64 u, .int .i64 0] 23) (by simp))
          go_wp2_with (with_reducible refine wpList_load_row (by with_unfolding_all rfl) 23 _ (by with_unfolding_all rfl) g (by with_unfolding_all rfl) _ _ _ _ (unhide KX) Try.underlying23 (by with_unfolding_all rfl) sX ?_)
          refine (unhide C1 _).mono ?_
          rintro e w3 ⟨rfl, hb⟩
          have O3 := hide ((unhide OJ).call hb)
          clear hb OJ KX C1
          by_cases hmax : u < 16777215
          · have hmd : decide (u < 16777215) = true := by simpa using hmax
            rw [hmd]
            clear hmd
            rw [show ev (endV ⟨1, u, 0⟩) = #[.int .i64 0, .int .i64 (u + 1), .int .i64 0] by simp [endV, nextI, ev]; omega] at C2
            go_upto_region 14 with fail
            have K3 := (unhide O3).at g (.cells #[.int .i64 0, .int .i64 u, .int .i64 0] 23) (by simp)
            have cx : w3.cell? ⟨g, 0, none⟩ = some (.int .i64 0) := by rw [cell_of_block K3]; rfl
            have fx : w3.frozen? ⟨g, 0, none⟩ = false := unfrozen_of_block K3 _
            have O4 := hide (eown_set (unhide O3) hgW (by simp) 0 (.int .i64 1))
            rw [show (#[.int .i64 0, .int .i64 u, .int .i64 0] : Array Value).setIfInBounds 0 (.int .i64 1) = #[.int .i64 1, .int .i64 u, .int .i64 0] from rfl] at O4
            clear K3 O3
            go_upto_region 15 with fail
            clear cx fx
            generalize w3.setCell ⟨g, 0, none⟩ (.int .i64 1) = w4 at *
            have sP : (Try.prog.info? 23).map (·.size) = some (#[.int .i64 1, .int .i64 u, .int .i64 0] : Array Value).size := size3
            have KP := hide ((unhide O4).at g (.cells #[.int .i64 1, .int .i64 u, .int .i64 0] 23) (by simp))
            go_wp2_with (with_reducible refine wpList_load_row (by with_unfolding_all rfl) 23 _ (by with_unfolding_all rfl) g (by with_unfolding_all rfl) _ _ _ _ (unhide KP) Try.underlying23 (by with_unfolding_all rfl) sP ?_)
            refine (unhide C2 _).mono ?_
            rintro e w5 ⟨rfl, hb⟩
            have O5' := hide ((unhide O4).call hb)
            have O5 := hide ((unhide O5').alloc (.cells #[.int .i64 0, .int .i64 (u + 1), .int .i64 0] 23))
            have hg5 : g < w5.heap.size := (unhide O5').lt (g, _) (List.mem_cons_self ..)
            clear hb O4 KP C2 O5'
            go_upto_region 16 with fail
            generalize w5.alloc (.cells #[.int .i64 0, .int .i64 (u + 1), .int .i64 0] 23) = w6 at *
            generalize w5.heap.size = y at *
            have ey := (unhide O5).at y (.cells #[.int .i64 0, .int .i64 (u + 1), .int .i64 0] 23) (by simp)
            have ex := (unhide O5).at g (.cells #[.int .i64 1, .int .i64 u, .int .i64 0] 23) (by simp)
            have cy0 : w6.cell? ⟨y, 0, none⟩ = some (.int .i64 0) := by rw [cell_of_block ey]; rfl
            have cy1 : w6.cell? ⟨y, 1, none⟩ = some (.int .i64 (u + 1)) := by rw [cell_of_block ey]; rfl
            have cy2 : w6.cell? ⟨y, 2, none⟩ = some (.int .i64 0) := by rw [cell_of_block ey]; rfl
            have cx1 : w6.cell? ⟨g, 1, none⟩ = some (.int .i64 u) := by rw [cell_of_block ex]; rfl
            have KY := hide ey
            have KG := hide ex
            have hww : (u + 1 != u + 1) = false := by simp
            clear ey ex
            go_upto_region 18 with fail
            clear cy0 cy1 cy2 cx1 hww
            have sQ : (Try.prog.info? 23).map (·.size) = some (#[.int .i64 0, .int .i64 (u + 1), .int .i64 0] : Array Value).size := size3
            have O7 := hide (((unhide O5).row g #[.int .i64 0, .int .i64 (u + 1), .int .i64 0] 23 (0, 0) _ (unhide KG) hgW).less (L' := [(g, .cells #[.int .i64 0, .int .i64 (u + 1), .int .i64 0] 23)]) (by simp))
            go_wp2_with (first | (with_reducible refine wpList_load_row (by with_unfolding_all rfl) 23 _ (by with_unfolding_all rfl) y (by with_unfolding_all rfl) _ _ _ _ (unhide KY) Try.underlying23 (by with_unfolding_all rfl) sQ ?_) | (with_reducible refine wpList_store_row (by with_unfolding_all rfl) 23 _ _ (by with_unfolding_all rfl) g #[.int .i64 0, .int .i64 (u + 1), .int .i64 0] (by with_unfolding_all rfl) (by with_unfolding_all rfl) _ _ (unhide KG) sQ (by with_unfolding_all rfl) (by with_unfolding_all rfl) ?_))
            go_roundw
            case rel => exact ⟨j + 1, by omega, by go_num, by have := unhide HU; omega, by have e := unhide HU; have e2 : V + ((j + 1 : Nat) : Int) = u + 1 := by omega
                                                                                           rw [e2]; exact unhide O7⟩
            case measure => simp [intOf]; omega
          · have hue : u = 16777215 := by omega
            have hmd : decide (u < 16777215) = false := by simpa using hmax
            rw [hmd]
            have cx : w3.cell? ⟨g, 1, none⟩ = some (.int .i64 u) := by rw [cell_of_block ((unhide O3).at g (.cells #[.int .i64 0, .int .i64 u, .int .i64 0] 23) (by simp))]; rfl
            have huq : (u == 16777215) = true := by simpa using hue
            clear hmd hmax hue C2
            go_wp2_with fail
            go_ret
            exact ⟨rfl, (unhide O3).below⟩
        · obtain rfl : j = N := by omega
          have hjn : ¬ (j : Int) < (j : Int) := by omega
          have cx : wr.cell? ⟨g, 1, none⟩ = some (.int .i64 (V + j)) := by rw [cell_of_block ((unhide OJ).at g (.cells #[.int .i64 0, .int .i64 (V + j), .int .i64 0] 23) (by simp))]; rfl
          have hq : (V + j == V + (j : Int)) = true := by simp
          go_wp2_with fail
          go_ret
          exact ⟨rfl, (unhide OJ).below⟩
  · by_cases cb : b.tmod 31 < 0
    · skip
      go_enter Try.func8, Try.ntmps8
      go_wp2_with fail
      refine (shown8_any _).mono ?_
      rintro e w1 ⟨rfl, hb⟩
      have O1 := hide ((Own.start W).call hb)
      clear hb
      go_upto_region 9 with fail
      obtain ⟨N, hN⟩ : ∃ N : Nat, -b.tmod 31 = N := ⟨(-b.tmod 31).toNat, by omega⟩
      obtain ⟨V, hV⟩ : ∃ V : Int, a.tmod 16777216 = V := ⟨_, rfl⟩
      have hN30 : N ≤ 30 := by omega
      have hV0 : 0 ≤ V := by omega
      have hV1 : V ≤ 16777215 := by omega
      rw [hV, hN]
      clear hV hN p0 p1 q0 q1 ca cb
      generalize b.tmod 31 = xb at *
      have O2 := hide ((unhide O1).alloc (.cells #[.int .i64 0, .int .i64 V, .int .i64 0] 23))
      have hgW : W.heap.size ≤ w1.heap.size := (unhide O1).below.size
      clear O1
      generalize w1.alloc (.cells #[.int .i64 0, .int .i64 V, .int .i64 0] 23) = w2 at *
      generalize w1.heap.size = g at *
      go_upto_region 10 with fail
      go_loopw [9] (fun i wr => ∃ j : Nat, j ≤ N ∧ i = .int .i64 j ∧ V + j ≤ 16777215 ∧ Own W wr [(g, .cells #[.int .i64 0, .int .i64 (V + j), .int .i64 0] 23)]) (fun i _ => N - (intOf i).toNat)
      case atStart => exact ⟨0, by omega, rfl, by omega, by simpa using unhide O2⟩
      case round =>
        clear O2
        obtain ⟨j, hj, rfl, hvj, oj⟩ := hrel
        have OJ := hide oj
        clear oj
        by_cases hlt : j < N
        · have hjn : (j : Int) < (N : Int) := by omega
          obtain ⟨u, hu⟩ : ∃ u : Int, u = V + j := ⟨_, rfl⟩
          rw [← hu] at OJ hvj
          have hu0 : 0 ≤ u := by omega
          have HU := hide hu
          clear hu
          have C1 := hide (open3 0 u 0)
          rw [show opB ⟨0, u, 0⟩ = decide (u < 16777215) by unfold opB; simp] at C1
          have C2 := hide (end3 1 u 0 (by omega) (by omega))
          rw [show endE ⟨1, u, 0⟩ = 0 from rfl] at C2
          have sX : (Try.prog.info? 23).map (·.size) = some (#[.int .i64 0, .int .i64 u, .int .i64 0] : Array Value).size := size3
          have KX := hide ((unhide OJ).at g (.cells #[.int .i64 0, .int .i64 u, .int .i64 0] 23) (by simp))
          go_wp2_with (with_reducible refine wpList_load_row (by with_unfolding_all rfl) 23 _ (by with_unfolding_all rfl) g (by with_unfolding_all rfl) _ _ _ _ (unhide KX) Try.underlying23 (by with_unfolding_all rfl) sX ?_)
          refine (unhide C1 _).mono ?_
          rintro e w3 ⟨rfl, hb⟩
          have O3 := hide ((unhide OJ).call hb)
          clear hb OJ KX C1
          by_cases hmax : u < 16777215
          · have hmd : decide (u < 16777215) = true := by simpa using hmax
            rw [hmd]
            clear hmd
            rw [show ev (endV ⟨1, u, 0⟩) = #[.int .i64 0, .int .i64 (u + 1), .int .i64 0] by simp [endV, nextI, ev]; omega] at C2
            go_upto_region 14 with fail
            have K3 := (unhide O3).at g (.cells #[.int .i64 0, .int .i64 u, .int .i64 0] 23) (by simp)
            have cx : w3.cell? ⟨g, 0, none⟩ = some (.int .i64 0) := by rw [cell_of_block K3]; rfl
            have fx : w3.frozen? ⟨g, 0, none⟩ = false := unfrozen_of_block K3 _
            have O4 := hide (eown_set (unhide O3) hgW (by simp) 0 (.int .i64 1))
            rw [show (#[.int .i64 0, .int .i64 u, .int .i64 0] : Array Value).setIfInBounds 0 (.int .i64 1) = #[.int .i64 1, .int .i64 u, .int .i64 0] from rfl] at O4
            clear K3 O3
            go_upto_region 15 with fail
            clear cx fx
            generalize w3.setCell ⟨g, 0, none⟩ (.int .i64 1) = w4 at *
            have sP : (Try.prog.info? 23).map (·.size) = some (#[.int .i64 1, .int .i64 u, .int .i64 0] : Array Value).size := size3
            have KP := hide ((unhide O4).at g (.cells #[.int .i64 1, .int .i64 u, .int .i64 0] 23) (by simp))
            go_wp2_with (with_reducible refine wpList_load_row (by with_unfolding_all rfl) 23 _ (by with_unfolding_all rfl) g (by with_unfolding_all rfl) _ _ _ _ (unhide KP) Try.underlying23 (by with_unfolding_all rfl) sP ?_)
            refine (unhide C2 _).mono ?_
            rintro e w5 ⟨rfl, hb⟩
            have O5' := hide ((unhide O4).call hb)
            have O5 := hide ((unhide O5').alloc (.cells #[.int .i64 0, .int .i64 (u + 1), .int .i64 0] 23))
            have hg5 : g < w5.heap.size := (unhide O5').lt (g, _) (List.mem_cons_self ..)
            clear hb O4 KP C2 O5'
            go_upto_region 16 with fail
            generalize w5.alloc (.cells #[.int .i64 0, .int .i64 (u + 1), .int .i64 0] 23) = w6 at *
            generalize w5.heap.size = y at *
            have ey := (unhide O5).at y (.cells #[.int .i64 0, .int .i64 (u + 1), .int .i64 0] 23) (by simp)
            have ex := (unhide O5).at g (.cells #[.int .i64 1, .int .i64 u, .int .i64 0] 23) (by simp)
            have cy0 : w6.cell? ⟨y, 0, none⟩ = some (.int .i64 0) := by rw [cell_of_block ey]; rfl
            have cy1 : w6.cell? ⟨y, 1, none⟩ = some (.int .i64 (u + 1)) := by rw [cell_of_block ey]; rfl
            have cy2 : w6.cell? ⟨y, 2, none⟩ = some (.int .i64 0) := by rw [cell_of_block ey]; rfl
            have cx1 : w6.cell? ⟨g, 1, none⟩ = some (.int .i64 u) := by rw [cell_of_block ex]; rfl
            have KY := hide ey
            have KG := hide ex
            have hww : (u + 1 != u + 1) = false := by simp
            clear ey ex
            go_upto_region 18 with fail
            clear cy0 cy1 cy2 cx1 hww
            have sQ : (Try.prog.info? 23).map (·.size) = some (#[.int .i64 0, .int .i64 (u + 1), .int .i64 0] : Array Value).size := size3
            have O7 := hide (((unhide O5).row g #[.int .i64 0, .int .i64 (u + 1), .int .i64 0] 23 (0, 0) _ (unhide KG) hgW).less (L' := [(g, .cells #[.int .i64 0, .int .i64 (u + 1), .int .i64 0] 23)]) (by simp))
            go_wp2_with (first | (with_reducible refine wpList_load_row (by with_unfolding_all rfl) 23 _ (by with_unfolding_all rfl) y (by with_unfolding_all rfl) _ _ _ _ (unhide KY) Try.underlying23 (by with_unfolding_all rfl) sQ ?_) | (with_reducible refine wpList_store_row (by with_unfolding_all rfl) 23 _ _ (by with_unfolding_all rfl) g #[.int .i64 0, .int .i64 (u + 1), .int .i64 0] (by with_unfolding_all rfl) (by with_unfolding_all rfl) _ _ (unhide KG) sQ (by with_unfolding_all rfl) (by with_unfolding_all rfl) ?_))
            go_roundw
            case rel => exact ⟨j + 1, by omega, by go_num, by have := unhide HU; omega, by have e := unhide HU; have e2 : V + ((j + 1 : Nat) : Int) = u + 1 := by omega
                                                                                           rw [e2]; exact unhide O7⟩
            case measure => simp [intOf]; omega
          · have hue : u = 16777215 := by omega
            have hmd : decide (u < 16777215) = false := by simpa using hmax
            rw [hmd]
            have cx : w3.cell? ⟨g, 1, none⟩ = some (.int .i64 u) := by rw [cell_of_block ((unhide O3).at g (.cells #[.int .i64 0, .int .i64 u, .int .i64 0] 23) (by simp))]; rfl
            have huq : (u == 16777215) = true := by simpa using hue
            clear hmd hmax hue C2
            go_wp2_with fail
            go_ret
            exact ⟨rfl, (unhide O3).below⟩
        · obtain rfl : j = N := by omega
          have hjn : ¬ (j : Int) < (j : Int) := by omega
          have cx : wr.cell? ⟨g, 1, none⟩ = some (.int .i64 (V + j)) := by rw [cell_of_block ((unhide OJ).at g (.cells #[.int .i64 0, .int .i64 (V + j), .int .i64 0] 23) (by simp))]; rfl
          have hq : (V + j == V + (j : Int)) = true := by simp
          go_wp2_with fail
          go_ret
          exact ⟨rfl, (unhide OJ).below⟩
    · skip
      go_enter Try.func8, Try.ntmps8
      go_wp2_with fail
      refine (shown8_any _).mono ?_
      rintro e w1 ⟨rfl, hb⟩
      have O1 := hide ((Own.start W).call hb)
      clear hb
      go_upto_region 9 with fail
      obtain ⟨N, hN⟩ : ∃ N : Nat, b.tmod 31 = N := ⟨(b.tmod 31).toNat, by omega⟩
      obtain ⟨V, hV⟩ : ∃ V : Int, a.tmod 16777216 = V := ⟨_, rfl⟩
      have hN30 : N ≤ 30 := by omega
      have hV0 : 0 ≤ V := by omega
      have hV1 : V ≤ 16777215 := by omega
      rw [hV, hN]
      clear hV hN p0 p1 q0 q1 ca cb
      have O2 := hide ((unhide O1).alloc (.cells #[.int .i64 0, .int .i64 V, .int .i64 0] 23))
      have hgW : W.heap.size ≤ w1.heap.size := (unhide O1).below.size
      clear O1
      generalize w1.alloc (.cells #[.int .i64 0, .int .i64 V, .int .i64 0] 23) = w2 at *
      generalize w1.heap.size = g at *
      go_upto_region 10 with fail
      go_loopw [9] (fun i wr => ∃ j : Nat, j ≤ N ∧ i = .int .i64 j ∧ V + j ≤ 16777215 ∧ Own W wr [(g, .cells #[.int .i64 0, .int .i64 (V + j), .int .i64 0] 23)]) (fun i _ => N - (intOf i).toNat)
      case atStart => exact ⟨0, by omega, rfl, by omega, by simpa using unhide O2⟩
      case round =>
        clear O2
        obtain ⟨j, hj, rfl, hvj, oj⟩ := hrel
        have OJ := hide oj
        clear oj
        by_cases hlt : j < N
        · have hjn : (j : Int) < (N : Int) := by omega
          obtain ⟨u, hu⟩ : ∃ u : Int, u = V + j := ⟨_, rfl⟩
          rw [← hu] at OJ hvj
          have hu0 : 0 ≤ u := by omega
          have HU := hide hu
          clear hu
          have C1 := hide (open3 0 u 0)
          rw [show opB ⟨0, u, 0⟩ = decide (u < 16777215) by unfold opB; simp] at C1
          have C2 := hide (end3 1 u 0 (by omega) (by omega))
          rw [show endE ⟨1, u, 0⟩ = 0 from rfl] at C2
          have sX : (Try.prog.info? 23).map (·.size) = some (#[.int .i64 0, .int .i64 u, .int .i64 0] : Array Value).size := size3
          have KX := hide ((unhide OJ).at g (.cells #[.int .i64 0, .int .i64 u, .int .i64 0] 23) (by simp))
          go_wp2_with (with_reducible refine wpList_load_row (by with_unfolding_all rfl) 23 _ (by with_unfolding_all rfl) g (by with_unfolding_all rfl) _ _ _ _ (unhide KX) Try.underlying23 (by with_unfolding_all rfl) sX ?_)
          refine (unhide C1 _).mono ?_
          rintro e w3 ⟨rfl, hb⟩
          have O3 := hide ((unhide OJ).call hb)
          clear hb OJ KX C1
          by_cases hmax : u < 16777215
          · have hmd : decide (u < 16777215) = true := by simpa using hmax
            rw [hmd]
            clear hmd
            rw [show ev (endV ⟨1, u, 0⟩) = #[.int .i64 0, .int .i64 (u + 1), .int .i64 0] by simp [endV, nextI, ev]; omega] at C2
            go_upto_region 14 with fail
            have K3 := (unhide O3).at g (.cells #[.int .i64 0, .int .i64 u, .int .i64 0] 23) (by simp)
            have cx : w3.cell? ⟨g, 0, none⟩ = some (.int .i64 0) := by rw [cell_of_block K3]; rfl
            have fx : w3.frozen? ⟨g, 0, none⟩ = false := unfrozen_of_block K3 _
            have O4 := hide (eown_set (unhide O3) hgW (by simp) 0 (.int .i64 1))
            rw [show (#[.int .i64 0, .int .i64 u, .int .i64 0] : Array Value).setIfInBounds 0 (.int .i64 1) = #[.int .i64 1, .int .i64 u, .int .i64 0] from rfl] at O4
            clear K3 O3
            go_upto_region 15 with fail
            clear cx fx
            generalize w3.setCell ⟨g, 0, none⟩ (.int .i64 1) = w4 at *
            have sP : (Try.prog.info? 23).map (·.size) = some (#[.int .i64 1, .int .i64 u, .int .i64 0] : Array Value).size := size3
            have KP := hide ((unhide O4).at g (.cells #[.int .i64 1, .int .i64 u, .int .i64 0] 23) (by simp))
            go_wp2_with (with_reducible refine wpList_load_row (by with_unfolding_all rfl) 23 _ (by with_unfolding_all rfl) g (by with_unfolding_all rfl) _ _ _ _ (unhide KP) Try.underlying23 (by with_unfolding_all rfl) sP ?_)
            refine (unhide C2 _).mono ?_
            rintro e w5 ⟨rfl, hb⟩
            have O5' := hide ((unhide O4).call hb)
            have O5 := hide ((unhide O5').alloc (.cells #[.int .i64 0, .int .i64 (u + 1), .int .i64 0] 23))
            have hg5 : g < w5.heap.size := (unhide O5').lt (g, _) (List.mem_cons_self ..)
            clear hb O4 KP C2 O5'
            go_upto_region 16 with fail
            generalize w5.alloc (.cells #[.int .i64 0, .int .i64 (u + 1), .int .i64 0] 23) = w6 at *
            generalize w5.heap.size = y at *
            have ey := (unhide O5).at y (.cells #[.int .i64 0, .int .i64 (u + 1), .int .i64 0] 23) (by simp)
            have ex := (unhide O5).at g (.cells #[.int .i64 1, .int .i64 u, .int .i64 0] 23) (by simp)
            have cy0 : w6.cell? ⟨y, 0, none⟩ = some (.int .i64 0) := by rw [cell_of_block ey]; rfl
            have cy1 : w6.cell? ⟨y, 1, none⟩ = some (.int .i64 (u + 1)) := by rw [cell_of_block ey]; rfl
            have cy2 : w6.cell? ⟨y, 2, none⟩ = some (.int .i64 0) := by rw [cell_of_block ey]; rfl
            have cx1 : w6.cell? ⟨g, 1, none⟩ = some (.int .i64 u) := by rw [cell_of_block ex]; rfl
            have KY := hide ey
            have KG := hide ex
            have hww : (u + 1 != u + 1) = false := by simp
            clear ey ex
            go_upto_region 18 with fail
            clear cy0 cy1 cy2 cx1 hww
            have sQ : (Try.prog.info? 23).map (·.size) = some (#[.int .i64 0, .int .i64 (u + 1), .int .i64 0] : Array Value).size := size3
            have O7 := hide (((unhide O5).row g #[.int .i64 0, .int .i64 (u + 1), .int .i64 0] 23 (0, 0) _ (unhide KG) hgW).less (L' := [(g, .cells #[.int .i64 0, .int .i64 (u + 1), .int .i64 0] 23)]) (by simp))
            go_wp2_with (first | (with_reducible refine wpList_load_row (by with_unfolding_all rfl) 23 _ (by with_unfolding_all rfl) y (by with_unfolding_all rfl) _ _ _ _ (unhide KY) Try.underlying23 (by with_unfolding_all rfl) sQ ?_) | (with_reducible refine wpList_store_row (by with_unfolding_all rfl) 23 _ _ (by with_unfolding_all rfl) g #[.int .i64 0, .int .i64 (u + 1), .int .i64 0] (by with_unfolding_all rfl) (by with_unfolding_all rfl) _ _ (unhide KG) sQ (by with_unfolding_all rfl) (by with_unfolding_all rfl) ?_))
            go_roundw
            case rel => exact ⟨j + 1, by omega, by go_num, by have := unhide HU; omega, by have e := unhide HU; have e2 : V + ((j + 1 : Nat) : Int) = u + 1 := by omega
                                                                                           rw [e2]; exact unhide O7⟩
            case measure => simp [intOf]; omega
          · have hue : u = 16777215 := by omega
            have hmd : decide (u < 16777215) = false := by simpa using hmax
            rw [hmd]
            have cx : w3.cell? ⟨g, 1, none⟩ = some (.int .i64 u) := by rw [cell_of_block ((unhide O3).at g (.cells #[.int .i64 0, .int .i64 u, .int .i64 0] 23) (by simp))]; rfl
            have huq : (u == 16777215) = true := by simpa using hue
            clear hmd hmax hue C2
            go_wp2_with fail
            go_ret
            exact ⟨rfl, (unhide O3).below⟩
        · obtain rfl : j = N := by omega
          have hjn : ¬ (j : Int) < (j : Int) := by omega
          have cx : wr.cell? ⟨g, 1, none⟩ = some (.int .i64 (V + j)) := by rw [cell_of_block ((unhide OJ).at g (.cells #[.int .i64 0, .int .i64 (V + j), .int .i64 0] 23) (by simp))]; rfl
          have hq : (V + j == V + (j : Int)) = true := by simp
          go_wp2_with fail
          go_ret
          exact ⟨rfl, (unhide OJ).below⟩

set_option maxRecDepth 100000 in
theorem lifted (os : Os) (started : os.Started) (H : Type) (enc : TypeId × Value → H) :
    ReturnsInHanded {} Try.checked os 8 .any (Rows.entryVersionsSpec.pre6 enc Try.prog Try.f8 Rows.entryVersionsRow.domain false) (Rows.entryVersionsSpec.post enc Try.prog Try.f8 false true false false) := by
  refine law_frame (C := Try.checked) (ts := [3, 3]) (tb := 4) (by kernel_rfl) started (by kernel_rfl) Try.func8 Try.params8 (by kernel_rfl) Try.underlying4 (by kernel_rfl) (by kernel_rfl) rfl ?_
    (ChangeSpec.witness6 (enc := enc) (C := Try.checked) false ⟨#[], #[.int .i64 0, .int .i64 0], []⟩ 8 (by kernel_rfl) (by kernel_rfl) (by kernel_rfl) (by kernel_rfl)) ?_
  · intro ds hd
    match ds, hd with
    | [d0, d1], _ => rfl
  · intro W base args ds p hval hA
    obtain ⟨v0, vs0, d0, ds0, p0, q0, hargs, rfl, rfl, h0, r0⟩ := trodAll_cons hA
    obtain ⟨v1, vs1, d1, ds1, p1, q1, rfl, rfl, rfl, h1, r1⟩ := trodAll_cons r0
    obtain ⟨rfl, rfl, rfl⟩ := trodAll_nil r1
    obtain rfl : args = #[v0, v1] := by cases args; simp_all
    obtain ⟨a, rfl, rfl, rfl, wa⟩ := open_int Try.underlying3 (hval 0 3 v0 rfl rfl) h0
    obtain ⟨b, rfl, rfl, rfl, wb⟩ := open_int Try.underlying3 (hval 1 3 v1 rfl rfl) h1
    exact walk a b wa wb W

theorem over : Rows.entryVersionsRow.holds Try.pinned (OpenSpec.ofChange Rows.entryVersionsSpec) :=
  OpenClaim.holds_of_wide 8 Try.f8 rfl rfl rfl rfl rfl rfl rfl ⟨rfl, rfl, rfl, rfl, rfl⟩ rfl rfl rfl rfl rfl (by kernel_rfl) Try.func8 (by kernel_rfl)
    (of_decide_eq_true (by kernel_rfl)) (by unfold Func.isWrapper; first | (rw [if_pos (by decide +kernel)]; kernel_rfl) | (rw [if_neg (by decide +kernel)]; exact ⟨rfl, rfl⟩))
    (fun os started H enc _ => lifted os started H enc)

end Go.Proofs.Ytdmijjncninlbaa.entryVersions
namespace Go.Proofs.Ytdmijjncninlbaa
theorem entryVersions_holds : Rows.EntryVersionsSaid := entryVersions.over
end Go.Proofs.Ytdmijjncninlbaa
