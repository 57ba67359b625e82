
/-
  The document's lay: a frame is taken, eight words are stored there, till the memory tells an error.
-/
import Derived.Test.YtinhnnnehhlceaaGreatYHas
import Derived.Test.YtinhnnnehhlceaaGreatPkSto
namespace Go.Proofs.YtinhnnnehhlceaaGreat
open Go.ChangeShapes Go.WideShapes Go.ChangeAt Go.RowKit Go.Joins
set_option maxRecDepth 10000
set_option linter.unusedVariables false
set_option linter.unusedSimpArgs false

set_option maxHeartbeats 4000000 in
theorem ylay_any {W w : World} {z y f g : Nat} {St : Mm → World → (Nat → Prop) → Prop} {S : Sto} {K : Nat → En} {A : Mm} {G : Nat → Prop} (M : MemR W z St) (h : YHas W z y f g St S K A w G) (hS : S.ok) (hA : A.ok 900) (l : Nat → Int) (hl : ∀ j, InU (l j)) :
    Calls Tryz.prog 79 #[.pointer (some ⟨y, 0, none⟩), .agg (lnV l)] w (Done (YHas W z y f g St S.took K (S.layM A l)) w G (.tuple #[.int .i64 (S.layV A l), .int .i64 (S.layE A l)])) := by
  have T0 := hide (YHas.stay M y f g S K A)
  have O0 := hide ((Held.start (unhide T0) h).alloc (unhide T0) (.cells (lnV l) 83))
  have CA := hide (fun (w' : World) (h' : RFRep w' f g S.F) => rfalloc_any h' hS.1)
  by_cases he : S.F.allocE = 0
  · have EM : Hid (S.layM A l = (layP A S.F.allocV l 8).1) := by show _ = _; unfold Sto.layM; rw [if_pos he]
    have EE : Hid (S.layE A l = (layP A S.F.allocV l 8).2) := by show _ = _; unfold Sto.layE; rw [if_pos he]
    have EV : Hid (S.layE A l = 0 → S.layV A l = S.F.allocV) := fun q => by unfold Sto.layV; rw [if_pos q]
    have EN : Hid (S.layE A l ≠ 0 → S.layV A l = 0) := fun q => by unfold Sto.layV; rw [if_neg q]
    have HS : Hid (∀ j, (layP A S.F.allocV l j).2 = 0 → (layP A S.F.allocV l (j + 1)).1 = (layP A S.F.allocV l j).1.storeZ S.F.allocV j (l j) ∧ (layP A S.F.allocV l (j + 1)).2 = (layP A S.F.allocV l j).1.storeE S.F.allocV j) := fun j q => by
      rw [layP_next q]; exact ⟨rfl, rfl⟩
    have H8 : Hid (∀ j, j ≤ 8 → (layP A S.F.allocV l j).2 ≠ 0 → layP A S.F.allocV l 8 = layP A S.F.allocV l j) := fun j hj q => by
      have := layP_stuck q (8 - j)
      rwa [show j + (8 - j) = 8 by omega] at this
    have HO : Hid (∀ j, j ≤ 8 → (layP A S.F.allocV l j).1.ok 1000) := fun j hj => ok_mono (layP_ok hA _ l hl j) (by omega)
    have H0 : Hid ((layP A S.F.allocV l 0) = (A, 0)) := rfl
    rw [he] at CA
    obtain ⟨PM, hPM⟩ : ∃ PM, PM = layP A S.F.allocV l := ⟨_, rfl⟩
    rw [← hPM] at EM EE HS H8 HO H0
    generalize hv : S.F.allocV = V at *
    have HX : Hid (∀ j, j < 8 → (lnV l)[j]? = some (.int .u64 (l j))) := fun j hj => lnV_get l j hj
    clear hPM hv he h hl hA
    generalize lnV l = LV at *
    go_enter Tryz.func79, Tryz.ntmps79
    go_upto_region 1 with fail
    obtain ⟨g3, hg3⟩ : ∃ g3, g3 = w.heap.size := ⟨_, rfl⟩
    rw [← hg3] at O0 ⊢
    clear hg3
    generalize w.alloc (.cells LV 83) = w0 at *
    have c1 := (unhide O0).st.rep.c1
    go_wp2_with fail
    refine (unhide CA _ (unhide O0).st.fr).mono ?_
    intro e w1 hw
    obtain ⟨rfl, h1, h2⟩ := (unhide O0).st.went M hw
    have O1 : Hid (Held W (YHas W z y f g St S.took K A) w w1 G [(g3, .cells LV 83)]) := (unhide O0).call (St' := YHas W z y f g St S.took K A) h1 h2
    clear hw h1 h2 O0 CA T0 c1
    go_wp2_with fail
    go_loopw [7, 8] (fun _ c wr => ∃ j : Nat, j ≤ 8 ∧ c = .int .i64 j ∧ (PM j).2 = 0 ∧ Held W (YHas W z y f g St S.took K (PM j).1) w wr G [(g3, .cells LV 83)]) (fun _ c _ => 8 - (intOf c).toNat)
    case atStart => exact ⟨0, by omega, rfl, by rw [unhide H0], by rw [unhide H0]; exact unhide O1⟩
    case round =>
      clear O1
      obtain ⟨j, hj, rfl, hz, hh⟩ := hrel
      have HH := hide hh
      have HZ := hide hz
      clear hh hz
      by_cases hlt : j < 8
      · have hlt' : (j : Int) < 8 := by omega
        have hX := hide (unhide HX j hlt)
        have TJ := hide (YHas.stay M y f g S.took K (PM j).1)
        have HOj := hide (unhide HO j (by omega))
        have HSj := hide (unhide HS j (unhide HZ))
        generalize l j = lj at *
        go_upto_region 7 with fail
        have O2 := hide ((unhide HH).drew (unhide TJ))
        have SC : Hid (∀ (A' : Mm) (w' : World), Held W (YHas W z y f g St S.took K A') w w' G [(g3, .cells LV 83)] → w'.cell? ⟨y, 0, none⟩ = some (.pointer (some ⟨z, 0, none⟩)) ∧ w'.cell? ⟨g3, j, none⟩ = some (.int .u64 lj)) := fun A' w' hO => ⟨hO.st.rep.c0, by rw [cell_of_block (hO.at g3 (.cells LV 83) (by simp))]; exact unhide hX⟩
        refine wp_region_noPanic ?_
        refine wp_region_held_drew (S := fun w' => w'.cell? ⟨y, 0, none⟩ = some (.pointer (some ⟨z, 0, none⟩)) ∧ w'.cell? ⟨g3, j, none⟩ = some (.int .u64 lj)) (by kernel_rfl) (unhide SC _ _ (unhide O2)) (fun hHeld => ?_)
        clear HH TJ
        generalize wr.drew = wd at *
        refine take_at 0 24 (v := ?_) rfl rfl (by kernel_rfl) (by kernel_rfl) (by kernel_rfl) (Or.inl ⟨by rfl, ?_⟩) hHeld ?_
        rotate_left
        · intro w hSw; go_simp; with_reducible rfl
        simp only [Act.put, List.setIfInBounds_toArray, List.set_cons_zero, List.set_cons_succ]
        refine take_at 1 25 (v := ?_) rfl rfl (by kernel_rfl) (by kernel_rfl) (by kernel_rfl) (Or.inl ⟨by rfl, ?_⟩) hHeld ?_
        rotate_left
        · intro w hSw; go_simp; with_reducible rfl
        simp only [Act.put, List.setIfInBounds_toArray, List.set_cons_zero, List.set_cons_succ]
        refine take_at 2 26 (v := ?_) rfl rfl (by kernel_rfl) (by kernel_rfl) (by kernel_rfl) (Or.inl ⟨by rfl, ?_⟩) hHeld ?_
        rotate_left
        · intro w hSw; go_simp; with_reducible rfl
        simp only [Act.put, List.setIfInBounds_toArray, List.set_cons_zero, List.set_cons_succ]
        refine take_at 3 27 (v := ?_) rfl rfl (by kernel_rfl) (by kernel_rfl) (by kernel_rfl) (Or.inl ⟨by rfl, ?_⟩) hHeld ?_
        rotate_left
        · intro w hSw; obtain ⟨s1, s2⟩ := hSw; go_simp; with_reducible rfl
        simp only [Act.put, List.setIfInBounds_toArray, List.set_cons_zero, List.set_cons_succ]
        refine take_at 4 28 (v := ?_) rfl rfl (by kernel_rfl) (by kernel_rfl) (by kernel_rfl) (Or.inl ⟨by rfl, ?_⟩) hHeld ?_
        rotate_left
        · intro w hSw; go_simp; with_reducible rfl
        simp only [Act.put, List.setIfInBounds_toArray, List.set_cons_zero, List.set_cons_succ]
        refine take_at 5 29 (v := ?_) rfl rfl (by kernel_rfl) (by kernel_rfl) (by kernel_rfl) (Or.inl ⟨by rfl, ?_⟩) hHeld ?_
        rotate_left
        · intro w hSw; go_simp; with_reducible rfl
        simp only [Act.put, List.setIfInBounds_toArray, List.set_cons_zero, List.set_cons_succ]
        refine take_at 6 30 (v := ?_) rfl rfl (by kernel_rfl) (by kernel_rfl) (by kernel_rfl) (Or.inl ⟨by rfl, ?_⟩) hHeld ?_
        rotate_left
        · intro w hSw; go_simp; with_reducible rfl
        simp only [Act.put, List.setIfInBounds_toArray, List.set_cons_zero, List.set_cons_succ]
        refine take_at 7 31 (v := ?_) rfl rfl (by kernel_rfl) (by kernel_rfl) (by kernel_rfl) (Or.inl ⟨by rfl, ?_⟩) hHeld ?_
        rotate_left
        · intro w hSw; go_simp; with_reducible rfl
        simp only [Act.put, List.setIfInBounds_toArray, List.set_cons_zero, List.set_cons_succ]
        refine take_at 8 32 (v := ?_) rfl rfl (by kernel_rfl) (by kernel_rfl) (by kernel_rfl) (Or.inl ⟨by rfl, ?_⟩) hHeld ?_
        rotate_left
        · intro w hSw; obtain ⟨s1, s2⟩ := hSw; go_simp; with_reducible rfl
        simp only [Act.put, List.setIfInBounds_toArray, List.set_cons_zero, List.set_cons_succ]
        refine wpAnyH_ready (rs := [9]) (by kernel_rfl) (by simp) ?_
        refine AllReadyH.cons rfl (fun K2 hK => ?_) AllReadyH.nil
        go_simp
        have CS := hide ((unhide O2).st.store M (unhide HOj) V j lj)
        rw [← (unhide HSj).1, ← (unhide HSj).2] at CS
        refine (unhide CS).mono ?_
        rintro e w2 ⟨rfl, h1, h2⟩
        have O3 := hide ((unhide O2).call (St' := YHas W z y f g St S.took K (PM (j + 1)).1) h1 h2)
        go_wp2_with fail
        clear hHeld
        refine hK.out _ _ (unhide SC _ _ (unhide O3)) (fun hNew => ?_)
        have hHeld := hNew
        clear hK K2 hNew h1 h2 O2 CS SC
        refine take_at 10 7 (v := ?_) rfl rfl (by kernel_rfl) (by kernel_rfl) (by kernel_rfl) (Or.inl ⟨by rfl, ?_⟩) hHeld ?_
        rotate_left
        · intro w hSw; go_simp; with_reducible rfl
        simp only [Act.put, List.setIfInBounds_toArray, List.set_cons_zero, List.set_cons_succ]
        refine wpAnyH_done (by kernel_rfl) ?_ _
        refine NoPanic.normal ?_
        clear hHeld
        by_cases hq : (PM (j + 1)).2 = 0
        · have HQ := hide hq
          rw [hq]
          clear hq
          go_wp2_with fail
          go_roundw
          case rel => exact ⟨j + 1, by omega, by go_num, unhide HQ, unhide O3⟩
          case measure => simp [intOf]; omega
        · have e8 := hide (unhide H8 (j + 1) (by omega) hq)
          have EQ : Hid (S.layE A l = (PM (j + 1)).2) := (unhide EE).trans (by rw [unhide e8])
          have HV : Hid (S.layV A l = 0) := unhide EN (by rw [unhide EQ]; exact hq)
          have HM : Hid (S.layM A l = (PM (j + 1)).1) := (unhide EM).trans (by rw [unhide e8])
          have hqb2 : ((PM (j + 1)).2 != 0) = true := by simpa using hq
          clear hq
          generalize (PM (j + 1)).2 = E at *
          go_wp2_with fail
          go_ret2
          rw [unhide EQ, unhide HV, unhide HM]
          exact (unhide O3).done (YHas.stay M y f g _ _ _) _
      · obtain rfl : j = 8 := by omega
        have HE : Hid (S.layE A l = 0) := (unhide EE).trans (unhide HZ)
        go_wp2_with fail
        go_ret2
        rw [unhide HE, unhide EV (unhide HE), unhide EM]
        exact (unhide HH).done (YHas.stay M y f g _ _ _) _
  · have EM : Hid (S.layM A l = A) := by show _ = _; unfold Sto.layM; rw [if_neg he]
    have EE : Hid (S.layE A l = S.F.allocE) := by show _ = _; unfold Sto.layE; rw [if_neg he]
    have EV : Hid (S.layV A l = 0) := by show _ = _; unfold Sto.layV; rw [if_neg (by rw [unhide EE]; exact he)]
    rw [unhide EM, unhide EE, unhide EV]
    have heb : (S.F.allocE != 0) = true := by simpa using he
    clear he h hl hA EM EE EV
    generalize S.F.allocE = E at *
    generalize S.F.allocV = V at *
    generalize lnV l = LV at *
    go_enter Tryz.func79, Tryz.ntmps79
    go_upto_region 1 with fail
    have c1 := (unhide O0).st.rep.c1
    go_wp2_with fail
    refine (unhide CA _ (unhide O0).st.fr).mono ?_
    intro e w1 hw
    obtain ⟨rfl, h1, h2⟩ := (unhide O0).st.went M hw
    have O1 : Hid (Held W (YHas W z y f g St S.took K A) w w1 G [(w.heap.size, .cells LV 83)]) := (unhide O0).call (St' := YHas W z y f g St S.took K A) h1 h2
    clear hw h1 h2 O0 CA T0 c1
    go_wp2_with fail
    go_ret2
    exact (unhide O1).done (YHas.stay M y f g _ _ _) _

end Go.Proofs.YtinhnnnehhlceaaGreat
