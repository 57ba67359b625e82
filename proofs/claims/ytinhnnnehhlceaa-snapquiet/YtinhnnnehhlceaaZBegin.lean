
/-
  Begin.
-/
import Derived.Test.YtinhnnnehhlceaaZCalls
import Derived.Test.YtinhnnnehhlceaaZSteps
import Derived.Test.YtinhnnnehhlceaaZSet
import Derived.Test.YtinhnnnehhlceaaZCommit
namespace Go.Proofs.Ytinhnnnehhlceaa
open Go.ChangeShapes Go.WideShapes Go.ChangeAt Go.RowKit Go.Joins
set_option maxRecDepth 100000
set_option linter.unusedVariables false
set_option linter.unusedSimpArgs false

theorem zero_dirz : (Try.prog.info? 43).map (·.zero) = some (some (.agg (dirV fun _ => 0))) := by kernel_rfl
theorem mark_fields {S : Sto} (h : S.is = false) : S.markE = 0 ∧ S.markS.k = S.w ∧ S.markS.b = S.b ∧ S.markS.d = S.d := by
  unfold Sto.markE Sto.markS
  rw [h]; exact ⟨rfl, rfl, rfl, rfl⟩

set_option maxHeartbeats 8000000 in
theorem wbegin_any {W w : World} {m b x : Nat} {St : Mm → World → (Nat → Prop) → Prop} {S : Sto} {A : Mm} {K : Wk} {G : Nat → Prop} (M : MemX W m St) (h0 : WHas W m b x St S A K w G) (z : Int) :
    Calls Try.prog 13 #[.pointer (some ⟨x, 0, none⟩), .int .i64 z] w (Done (WHas W m b x St (K.beginS S z) A (K.beginK S z)) w G (.int .i64 (K.beginE S z))) := by
  obtain ⟨sl, h⟩ := h0
  by_cases hl : K.l = []
  · skip
    have T0 := hide (WH.stay M.toMemL b x S A K sl)
    have O0 := hide (Held.start (unhide T0) h)
    have CL := hide (wleft_any h)
    have pb := h.rep.pb
    have hlen : K.l.length = 0 := by rw [hl]; rfl
    rw [hlen] at CL
    have cg := h.rep.cg
    by_cases ha : K.argB z = true
    · obtain ⟨a1, a2, a3⟩ : 0 ≤ z ∧ z ≤ two40 ∧ K.gen ≠ two40 := by unfold Wk.argB at ha; exact of_decide_eq_true ha
      have b1 : (K.gen == 1099511627776) = false := by unfold two40 at a3; simpa using a3
      have hz1 : ¬ z < 0 := by omega
      have hz2 : ¬ z > 1099511627776 := by unfold two40 at a2; omega
      cases hi : S.is with
      | true =>
        have e0 : S.markE = 3 := by unfold Sto.markE; rw [hi]; rfl
        have e00 : S.markS = S := by unfold Sto.markS; rw [hi]; rfl
        have e1 : K.beginE S z = 3 := by unfold Wk.beginE; rw [if_neg (by simpa using hl), if_pos ha, e0]
        have e2 : K.beginS S z = S := by unfold Wk.beginS; rw [if_pos ⟨hl, ha⟩, e00]
        have e3 : K.beginK S z = K := by unfold Wk.beginK; rw [if_neg (by simp [hi])]
        rw [e1, e2, e3]
        have CM := hide (mark_obj M.toMemL h.st)
        rw [e0, e00] at CM
        have HW := hide h
        clear e0 e00 e1 e2 e3 ha hi a1 a2 a3 hl hlen O0 h
        generalize K.gen = gen at *
        go_enter Try.func13, Try.ntmps13
        go_wp2_with fail
        refine (unhide CL).mono ?_
        rintro e w ⟨rfl, rfl⟩
        clear CL
        go_wp2_with fail
        refine (unhide CM).mono ?_
        intro e w1 hd
        have hd2 := (unhide HW).lift hd
        obtain ⟨rfl, -, -⟩ := hd
        have HR := hide hd2.2
        clear hd2 CM HW cg pb T0
        go_wp2_with fail
        go_ret
        exact ⟨rfl, ⟨sl, (unhide HR).1⟩, (unhide HR).2⟩
      | false =>
        obtain ⟨e0, f1, f2, f3⟩ := mark_fields hi
        have e1 : K.beginE S z = 0 := by unfold Wk.beginE; rw [if_neg (by simpa using hl), if_pos ha, e0]
        have e2 : K.beginS S z = S.markS := by unfold Wk.beginS; rw [if_pos ⟨hl, ha⟩]
        have e3 : K.beginK S z = ⟨K.b, K.sl, z, S.w, S.d, stepsOf S.w S.b⟩ := by unfold Wk.beginK; rw [if_pos ⟨hl, ha, hi⟩]
        rw [e1, e2, e3]
        have CM := hide (mark_obj M.toMemL h.st)
        rw [e0] at CM
        have T1 := hide (WH.stay M.toMemL b x S.markS A K sl)
        have CK := hide (fun (w' : World) (r : SRep m S.markS w' b) => marked_obj r)
        have CB := hide (fun (w' : World) (r : SRep m S.markS w' b) => base_obj r)
        rw [f1] at CK
        rw [f2, f3] at CB
        have CS := hide (fun w' => steps_any S.w S.b w')
        have sk := s147_tab S.w
        have sb := s147_tab S.b
        have sd := s8_dir S.d
        have Xk := hide (tabV_one S.w)
        have Xb := hide (tabV_one S.b)
        have Xd := hide (dirV_one S.d)
        have ZT := hide zero_tab
        have ZD := hide zero_dirz
        have SZk : Hid ((tabV fun _ => ze).size = (tabV S.w).size) := by show _ = _; rw [tabV_size, tabV_size]
        have SZb : Hid ((tabV fun _ => ze).size = (tabV S.b).size) := by show _ = _; rw [tabV_size, tabV_size]
        have SZd : Hid ((dirV fun _ => 0).size = (dirV S.d).size) := by show _ = _; rw [dirV_size, dirV_size]
        have BC := hide (fun a n c => built_ck z S.w S.d a n c)
        have HW := hide h
        clear e0 e1 e2 e3 f1 f2 f3 ha hi a1 a2 a3 hl hlen h O0
        generalize S.markS = S1 at *
        generalize hTK : tabV S.w = TK at *
        generalize hTB : tabV S.b = TB at *
        generalize hDV : dirV S.d = DV at *
        generalize (tabV fun _ => ze) = ZTV at *
        generalize (dirV fun _ => 0) = ZDV at *
        generalize K.gen = gen at *
        go_enter Try.func13, Try.ntmps13
        go_wp2_with fail
        refine (unhide CL).mono ?_
        rintro e w ⟨rfl, rfl⟩
        clear CL
        go_wp2_with fail
        refine (unhide CM).mono ?_
        intro e w1 hd
        have hd2 := (unhide HW).lift hd
        obtain ⟨rfl, -, -⟩ := hd
        have O1 : Hid (Held W (WH W m b x St S1 A K sl) w w1 G []) := (Held.start (WH.stay M.toMemL b x S A K sl) (unhide HW)).call ((WH.stay M.toMemL b x S1 A K sl).ls _ _ _ hd2.2.1 (by simp)) (fun k hk => hd2.2.2 k (by simpa using hk))
        clear hd2 CM HW cg pb T0
        have pb := (unhide O1).st.rep.pb
        go_wp2_with fail
        refine (unhide CK _ (unhide O1).st.st.rep).mono ?_
        rintro e w2 ⟨rfl, hb⟩
        have O2 := hide (((unhide O1).below (unhide T1) hb).alloc (unhide T1) (.cells TK 41))
        clear hb O1 CK pb
        go_upto_region 9 with (first | (with_reducible refine wpList_allocZ (by with_unfolding_all rfl) 41 (by with_unfolding_all rfl) ZTV (unhide ZT) ?_) | (with_reducible refine wpList_store_row (by with_unfolding_all rfl) 41 _ _ (by with_unfolding_all rfl) w2.heap.size TK (by with_unfolding_all rfl) (by with_unfolding_all rfl) 41 ZTV (heap_new w2 _) sk (unhide SZk) (unhide Xk) ?_; rw [setRow_alloc]))
        obtain ⟨g6, hg6⟩ : ∃ g, g = w2.heap.size := ⟨_, rfl⟩
        rw [← hg6] at O2 ⊢
        clear hg6
        generalize w2.alloc (.cells TK 41) = w3 at *
        have pb := (unhide O2).st.rep.pb
        go_wp2_with fail
        refine (unhide CB _ (unhide O2).st.st.rep).mono ?_
        rintro e w4 ⟨rfl, hb⟩
        have O3 := hide ((unhide O2).below (unhide T1) hb)
        clear hb O2 CB pb
        have h6 : g6 < w4.heap.size := (unhide O3).lt (g6, _) List.mem_cons_self
        have e9 : (w4.alloc (.cells ZTV 41)).heap.size = w4.heap.size + 1 := by simp
        have O4 := hide (((unhide O3).alloc (unhide T1) (.cells ZTV 41)).alloc (unhide T1) (.cells ZDV 43))
        rw [e9] at O4
        have H8 := hide ((unhide O4).at w4.heap.size (.cells ZTV 41) (by simp))
        have O5 := hide ((unhide O4).row (unhide T1) w4.heap.size ZTV 41 (0, 0) (by simp) TB)
        have M9 : ((w4.heap.size + 1, Obj.cells ZDV 43 (0, 0)) : Nat × Obj) ∈ (w4.heap.size, Obj.cells TB 41 (0, 0)) :: [(w4.heap.size + 1, Obj.cells ZDV 43 (0, 0)), (w4.heap.size, Obj.cells ZTV 41 (0, 0)), (g6, Obj.cells TK 41 (0, 0))].filter (fun p => p.1 != w4.heap.size) := List.mem_cons_of_mem _ (List.mem_filter.2 ⟨by simp, by simp⟩)
        have H9 := hide ((unhide O5).at (w4.heap.size + 1) (.cells ZDV 43) M9)
        have O6 := hide ((unhide O5).row (unhide T1) (w4.heap.size + 1) ZDV 43 (0, 0) M9 DV)
        have O7 := hide ((unhide O6).less (unhide T1) (L' := [(w4.heap.size + 1, .cells DV 43), (w4.heap.size, .cells TB 41), (g6, .cells TK 41)]) (fun p hp => by
          rcases List.mem_cons.1 hp with rfl | hp
          · exact List.mem_cons_self
          · rcases List.mem_cons.1 hp with rfl | hp
            · exact List.mem_cons_of_mem _ (List.mem_filter.2 ⟨List.mem_cons_self, by simp⟩)
            · rcases List.mem_cons.1 hp with rfl | hp
              · refine List.mem_cons_of_mem _ (List.mem_filter.2 ⟨List.mem_cons_of_mem _ (List.mem_filter.2 ⟨by simp, ?_⟩), ?_⟩)
                · simp; omega
                · simp; omega
              · cases hp))
        have H9' : Hid ((((w4.alloc (.cells ZTV 41)).alloc (.cells ZDV 43)).setRow w4.heap.size TB).heap[(w4.alloc (.cells ZTV 41)).heap.size]? = some (.cells ZDV 43 (0, 0))) := by show _ = _; rw [e9]; exact unhide H9
        have E9 := hide e9
        clear O3 O4 O5 O6 M9 e9
        go_upto_region 10 with (first | (with_reducible refine wpList_allocZ (by with_unfolding_all rfl) 41 (by with_unfolding_all rfl) ZTV (unhide ZT) ?_) | (with_reducible refine wpList_allocZ (by with_unfolding_all rfl) 43 (by with_unfolding_all rfl) ZDV (unhide ZD) ?_) | (with_reducible refine wpList_store_row (by with_unfolding_all rfl) 41 _ _ (by with_unfolding_all rfl) w4.heap.size TB (by with_unfolding_all rfl) (by with_unfolding_all rfl) 41 ZTV (unhide H8) sb (unhide SZb) (unhide Xb) ?_) | (with_reducible refine wpList_store_row (by with_unfolding_all rfl) 43 _ _ (by with_unfolding_all rfl) (w4.heap.size + 1) DV (by with_unfolding_all rfl) (by with_unfolding_all rfl) 43 ZDV (unhide H9) sd (unhide SZd) (unhide Xd) ?_) | (with_reducible refine wpList_store_row (by with_unfolding_all rfl) 43 _ _ (by with_unfolding_all rfl) (w4.alloc (.cells ZTV 41)).heap.size DV (by with_unfolding_all rfl) (by with_unfolding_all rfl) 43 ZDV (unhide H9') sd (unhide SZd) (unhide Xd) ?_))
        try rw [unhide E9]
        clear H8 H9 H9' E9 ZT ZD SZk SZb SZd Xk Xb Xd
        obtain ⟨g8, hg8⟩ : ∃ g, g = w4.heap.size := ⟨_, rfl⟩
        rw [← hg8] at O7 h6 ⊢
        clear hg8
        generalize (((w4.alloc (.cells ZTV 41)).alloc (.cells ZDV 43)).setRow g8 TB).setRow (g8 + 1) DV = w5 at *
        have O8 := hide ((unhide O7).drew (unhide T1))
        have RG : Hid (∀ (S' : World → (Nat → Prop) → Prop) (wx : World) (L : List (Nat × Obj)) (g : Nat) (V : Array Value) (t : TypeId), Held W S' w wx G L → (g, .cells V t) ∈ L → wx.rangeAt g 0 V.toList) := fun S' wx L g V t O hm j v hv => by
          rw [cell_of_block (O.at g (.cells V t) hm), Nat.zero_add, ← Array.getElem?_toList]; exact hv
        have skl : (Try.prog.info? 41).map (·.size) = some TK.toList.length := by rw [Array.length_toList]; exact sk
        have sbl : (Try.prog.info? 41).map (·.size) = some TB.toList.length := by rw [Array.length_toList]; exact sb
        have sdl : (Try.prog.info? 43).map (·.size) = some DV.toList.length := by rw [Array.length_toList]; exact sd
        refine wp_region_noPanic ?_
        refine wp_region_held_drew (S := fun w' => w'.rangeAt g6 0 TK.toList ∧ w'.rangeAt (g8 + 1) 0 DV.toList ∧ w'.rangeAt g8 0 TB.toList) (by kernel_rfl) ⟨unhide RG _ _ _ g6 TK 41 (unhide O8) (by simp), unhide RG _ _ _ (g8 + 1) DV 43 (unhide O8) (by simp), unhide RG _ _ _ g8 TB 41 (unhide O8) (by simp)⟩ (fun hHeld => ?_)
        clear O7
        generalize w5.drew = w6 at *
        refine take_at 0 58 (v := ?_) rfl rfl (by kernel_rfl) (by kernel_rfl) (by kernel_rfl) (Or.inl ⟨by rfl, ?_⟩) hHeld ?_
        rotate_left
        · intro w hSw; go_simp; with_reducible rfl
        simp only [Act.put, List.setIfInBounds_toArray, List.set_cons_zero, List.set_cons_succ]
        refine take_at 1 59 (v := ?_) rfl rfl (by kernel_rfl) (by kernel_rfl) (by kernel_rfl) (Or.inl ⟨by rfl, ?_⟩) hHeld ?_
        rotate_left
        · intro w hSw; go_simp; with_reducible rfl
        simp only [Act.put, List.setIfInBounds_toArray, List.set_cons_zero, List.set_cons_succ]
        refine take_at 2 60 rfl rfl (by kernel_rfl) (by kernel_rfl) (by kernel_rfl) (yieldsIf_load_mid (by rfl) 41 _ rfl g6 0 rfl TK.toList _ (fun w' h => h.1) Try.underlying41 rfl skl) hHeld ?_
        simp only [Act.put, List.setIfInBounds_toArray, List.set_cons_zero, List.set_cons_succ]
        refine take_at 3 61 rfl rfl (by kernel_rfl) (by kernel_rfl) (by kernel_rfl) (yieldsIf_load_mid (by rfl) 43 _ rfl (g8 + 1) 0 rfl DV.toList _ (fun w' h => h.2.1) Try.underlying43 rfl sdl) hHeld ?_
        simp only [Act.put, List.setIfInBounds_toArray, List.set_cons_zero, List.set_cons_succ]
        refine take_at 4 62 rfl rfl (by kernel_rfl) (by kernel_rfl) (by kernel_rfl) (yieldsIf_load_mid (by rfl) 41 _ rfl g6 0 rfl TK.toList _ (fun w' h => h.1) Try.underlying41 rfl skl) hHeld ?_
        simp only [Act.put, List.setIfInBounds_toArray, List.set_cons_zero, List.set_cons_succ]
        refine take_at 5 63 rfl rfl (by kernel_rfl) (by kernel_rfl) (by kernel_rfl) (yieldsIf_load_mid (by rfl) 41 _ rfl g8 0 rfl TB.toList _ (fun w' h => h.2.2) Try.underlying41 rfl sbl) hHeld ?_
        simp only [Act.put, List.setIfInBounds_toArray, List.set_cons_zero, List.set_cons_succ]
        refine wpAnyH_ready (rs := [6]) (by kernel_rfl) (by simp) ?_
        refine AllReadyH.cons rfl (fun K2 hK => ?_) AllReadyH.nil
        go_simp
        refine (unhide CS _).mono ?_
        rintro e w7 ⟨v, rfl, hk, hr⟩
        have O9 := hide ((unhide O8).keeps (unhide T1) hk)
        have HRow := hide hr.row
        obtain ⟨g, c, hv, hg5⟩ : ∃ g c, v = .slice (some ⟨g, 0, none⟩) (stepsOf S.w S.b).length c ∧ w6.heap.size ≤ g := by
          rcases hr.2 with ⟨_, h0⟩ | ⟨g, cap, cur, rfl, h1, -⟩
          · have : 3 ≤ (stepsOf S.w S.b).length := by unfold stepsOf lastSteps; simp; omega
            omega
          · exact ⟨g, cap, rfl, h1⟩
        have hglt : g < w7.heap.size := (hr.lt g (by rw [hv]; rfl)).2
        obtain ⟨o, ho⟩ : ∃ o, w7.heap[g]? = some o := ⟨w7.heap[g], Array.getElem?_eq_getElem hglt⟩
        have O10 := hide (((unhide O8).joinsZ (unhide T1) hk g o hg5 ho).less (unhide T1) (L' := [(g, o)]) (by simp))
        clear hk hr O8 CS hglt
        subst hv
        go_wp2_with fail
        refine hK.out _ _ ⟨unhide RG _ _ _ g6 TK 41 (unhide O9) (by simp), unhide RG _ _ _ (g8 + 1) DV 43 (unhide O9) (by simp), unhide RG _ _ _ g8 TB 41 (unhide O9) (by simp)⟩ (fun hNew => ?_)
        clear hK K2 hHeld
        have hHeld := hNew
        clear hNew
        refine take_at 7 65 rfl rfl (by kernel_rfl) (by kernel_rfl) (by kernel_rfl) (yieldsIf_build4 (by rfl) 83 (.tmp 59) (.tmp 60) (.tmp 61) (.tmp 64) rfl (.int .i64 z) (.agg TK) (.agg DV) (.slice (some ⟨g, 0, none⟩) (stepsOf S.w S.b).length c) rfl rfl rfl rfl _ (unhide BC _ _ _)) hHeld ?_
        simp only [Act.put, List.setIfInBounds_toArray, List.set_cons_zero, List.set_cons_succ]
        refine take_at 8 66 (v := ?_) rfl rfl (by kernel_rfl) (by kernel_rfl) (by kernel_rfl) (Or.inl ⟨by rfl, ?_⟩) hHeld ?_
        rotate_left
        · intro w hSw; go_simp; with_reducible rfl
        simp only [Act.put, List.setIfInBounds_toArray, List.set_cons_zero, List.set_cons_succ]
        refine take_at 9 67 (v := ?_) rfl rfl (by kernel_rfl) (by kernel_rfl) (by kernel_rfl) (Or.inl ⟨by rfl, ?_⟩) hHeld ?_
        rotate_left
        · intro w hSw; go_simp; with_reducible rfl
        simp only [Act.put, List.setIfInBounds_toArray, List.set_cons_zero, List.set_cons_succ]
        refine wpAnyH_ready (rs := [10]) (by kernel_rfl) (by simp) ?_
        refine AllReadyH.cons rfl (fun K2 hK => ?_) AllReadyH.nil
        refine (if_pos (by rfl)).mpr ?_
        have TBx : w7.there x 7 (ckV z S.w S.d (.slice (some ⟨g, 0, none⟩) (stepsOf S.w S.b).length c)).size := by rw [ckV_size]; exact Blk.there (unhide O10).st.rep _ _ (by decide)
        refine wp_store_mid 83 (.tmp 67) (.tmp 65) rfl x 7 (ckV z S.w S.d (.slice (some ⟨g, 0, none⟩) (stepsOf S.w S.b).length c)) rfl rfl TBx (s157 _ _ _ _) (ckV_one _ _ _ _ _ _) ?_
        have hgp := (unhide O10).2.1 (g, o) List.mem_cons_self
        have FIN := (unhide O10).st.setC M.toMemL (G := G) (fun k hk => Or.inl hk) z S.w S.d (.slice (some ⟨g, 0, none⟩) (stepsOf S.w S.b).length c) (stepsOf S.w S.b) (unhide HRow) (fun g' e => by
          have : g = g' := by simpa [Value.ownBlock] using e
          subst this
          exact ⟨Or.inr ⟨o, List.mem_cons_self⟩, hgp.2.2, hgp.2.1⟩)
        have F1 := hide FIN.1
        have F2 : Hid (Same G w (w7.setCells x 7 (ckV z S.w S.d (.slice (some ⟨g, 0, none⟩) (stepsOf S.w S.b).length c)).toList)) := (unhide O10).2.2.trans fun k hk => FIN.2 k (Or.inl hk)
        have KX := keeps_cells x (ckV z S.w S.d (.slice (some ⟨g, 0, none⟩) (stepsOf S.w S.b).length c)).toList w7 7
        have hnx := (unhide O9).st.nx
        have O11 : ∀ g' V t, (g', Obj.cells V t (0, 0)) ∈ [(g8 + 1, Obj.cells DV 43 (0, 0)), (g8, Obj.cells TB 41 (0, 0)), (g6, Obj.cells TK 41 (0, 0))] → (w7.setCells x 7 (ckV z S.w S.d (.slice (some ⟨g, 0, none⟩) (stepsOf S.w S.b).length c)).toList).rangeAt g' 0 V.toList := fun g' V t hm j v hv => by
          have hb := (unhide O9).at g' (.cells V t) hm
          have hb2 := (KX.block g' ((unhide O9).lt _ hm) (fun e => hnx (Or.inr ⟨_, e ▸ hm⟩))).trans hb
          rw [cell_of_block hb2, Nat.zero_add, ← Array.getElem?_toList]; exact hv
        refine hK.out _ _ ⟨O11 g6 TK 41 (by simp), O11 (g8 + 1) DV 43 (by simp), O11 g8 TB 41 (by simp)⟩ (fun hNew => ?_)
        clear hK K2 hHeld hNew O9 O10 FIN O11 KX TBx
        refine wpAnyH_done (by kernel_rfl) ?_ _
        refine NoPanic.normal ?_
        generalize w7.setCells x 7 _ = w8 at *
        go_wp2_with fail
        go_ret
        exact ⟨rfl, ⟨_, unhide F1⟩, unhide F2⟩
    · have ha : K.argB z = false := by simpa using ha
      have hc : z < 0 ∨ (0 ≤ z ∧ z > 1099511627776) ∨ (0 ≤ z ∧ z ≤ 1099511627776 ∧ K.gen = 1099511627776) := by
        unfold Wk.argB two40 at ha
        have := of_decide_eq_false ha
        by_cases q1 : z < 0
        · exact Or.inl q1
        · by_cases q2 : z > 1099511627776
          · exact Or.inr (Or.inl ⟨by omega, q2⟩)
          · refine Or.inr (Or.inr ⟨by omega, by omega, ?_⟩)
            by_cases q3 : K.gen = 1099511627776
            · exact q3
            · exact absurd ⟨by omega, by omega, q3⟩ this
      have e1 : K.beginE S z = 1 := by unfold Wk.beginE; rw [if_neg (by simpa using hl), if_neg (by simp [ha])]
      have e2 : K.beginS S z = S := by unfold Wk.beginS; rw [if_neg (by simp [ha])]
      have e3 : K.beginK S z = K := by unfold Wk.beginK; rw [if_neg (by simp [ha])]
      rw [e1, e2, e3]
      have HH : Hid (WHas W m b x St S A K w G) := ⟨sl, h⟩
      clear e1 e2 e3 ha h O0 T0
      clear hl hlen
      generalize K.gen = gen at *
      rcases hc with hc | ⟨hc0, hc⟩ | ⟨hc0, hc1, hc⟩
      · go_enter Try.func13, Try.ntmps13
        go_wp2_with fail
        refine (unhide CL).mono ?_
        rintro e w ⟨rfl, rfl⟩
        go_wp2_with fail
        go_ret
        exact ⟨rfl, unhide HH, fun _ _ => rfl⟩
      · go_enter Try.func13, Try.ntmps13
        go_wp2_with fail
        refine (unhide CL).mono ?_
        rintro e w ⟨rfl, rfl⟩
        go_wp2_with fail
        go_ret
        exact ⟨rfl, unhide HH, fun _ _ => rfl⟩
      · subst hc
        go_enter Try.func13, Try.ntmps13
        go_wp2_with fail
        refine (unhide CL).mono ?_
        rintro e w ⟨rfl, rfl⟩
        go_wp2_with fail
        go_ret
        exact ⟨rfl, unhide HH, fun _ _ => rfl⟩
  · skip
    have T0 := hide (WH.stay M.toMemL b x S A K sl)
    have O0 := hide (Held.start (unhide T0) h)
    have CL := hide (wleft_any h)
    have pb := h.rep.pb
    have hpos : (K.l.length : Int) > 0 := by
      have := List.length_pos_iff.2 hl
      omega
    have e1 : K.beginE S z = 3 := by unfold Wk.beginE; rw [if_pos hl]
    have e2 : K.beginS S z = S := by unfold Wk.beginS; rw [if_neg (fun c => hl c.1)]
    have e3 : K.beginK S z = K := by unfold Wk.beginK; rw [if_neg (fun c => hl c.1)]
    rw [e1, e2, e3]
    have HH : Hid (WHas W m b x St S A K w G) := ⟨sl, h⟩
    clear e1 e2 e3 hl h O0 T0 pb
    generalize K.l.length = n at *
    go_enter Try.func13, Try.ntmps13
    go_wp2_with fail
    refine (unhide CL).mono ?_
    rintro e w ⟨rfl, rfl⟩
    go_wp2_with fail
    go_ret
    exact ⟨rfl, unhide HH, fun _ _ => rfl⟩

end Go.Proofs.Ytinhnnnehhlceaa
